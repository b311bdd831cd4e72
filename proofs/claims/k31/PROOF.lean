import PyProof.Rows.All
import Wide.All
import OpenK.AllK
import Wide.FinOn
import Lean
import PyProof.EqAt
import PyProof.EqKinds
import PyProof.TupleCall
import PyProof.NeData
import PyProof.P3Eq
import KE.KTryMore
import PyProof.ExcArgs
import PyProof.Rows.CountFlat
import PyProof.ExcBaseAll.ValueError
import PyProof.Conv_int_bool
import PyProof.IsiPairs
import PyProof.IsiNone
import PyProof.IsiStr
import PyProof.IsiBool
import PyProof.IsiHeapPairs
import PySem.Challenge.RW_everyplace_k31_numbers_and_signs
set_option Elab.async false
set_option linter.all false
set_option maxRecDepth 100000
namespace L2
open PySem PySem.Spec PyProof.Rows

abbrev Key := Sum Int Str
def keyIs : Key → Value → Bool
  | .inl k, v => Value.isInt k v
  | .inr x, v => Value.isStrOf x v
def keyH (w : World) : Key → Int
  | .inl k => hashInt k
  | .inr x => hashStr w x
theorem keyIs_shape : ∀ {k : Key} {v : Value}, keyIs k v = true → (∃ i t, k = Sum.inl i ∧ v = Value.int i t) ∨ (∃ x t, k = Sum.inr x ∧ v = Value.str x t)
  | .inl i, v, h => by
    obtain ⟨t, e⟩ := Value.isInt_shape (k := i) (v := v) h
    exact .inl ⟨i, t, rfl, e⟩
  | .inr x, v, h => by
    obtain ⟨t, e⟩ := Value.isStrOf_shape (x := x) (v := v) h
    exact .inr ⟨x, t, rfl, e⟩
theorem keyIs_int (i : Int) (t : Tok) : keyIs (.inl i) (.int i t) = true := by simp [keyIs, Value.isInt]
theorem keyIs_str (x : Str) (t : Tok) : keyIs (.inr x) (.str x t) = true := by simp [keyIs, Value.isStrOf]
theorem key_ll (a b : Int) : decide ((Sum.inl a : Key) = Sum.inl b) = (a == b) := by
  by_cases e : a = b
  · subst e; simp
  · have h : ¬ (Sum.inl a : Key) = Sum.inl b := fun q => e (Sum.inl.inj q)
    rw [decide_eq_false h]
    exact (beq_eq_false_iff_ne.mpr e).symm
theorem key_rr (a b : Str) : decide ((Sum.inr a : Key) = Sum.inr b) = decide (a = b) := by
  by_cases e : a = b
  · subst e; simp
  · have h : ¬ (Sum.inr a : Key) = Sum.inr b := fun q => e (Sum.inr.inj q)
    rw [decide_eq_false h, decide_eq_false e]
theorem key_lr (a : Int) (b : Str) : decide ((Sum.inl a : Key) = Sum.inr b) = false := decide_eq_false (fun q => nomatch q)
theorem key_rl (a : Str) (b : Int) : decide ((Sum.inr a : Key) = Sum.inl b) = false := decide_eq_false (fun q => nomatch q)

def mixKind (prog : Program) (w : World) : PySem.KeyKind prog w Key where
  is := keyIs
  hash := keyH w
  inj := fun v a b ha hb => by
    rcases keyIs_shape ha with ⟨i, t, rfl, rfl⟩ | ⟨x, t, rfl, rfl⟩
    · rcases keyIs_shape hb with ⟨j, u, rfl, e⟩ | ⟨y, u, rfl, e⟩
      · injection e with e1 _; rw [e1]
      · exact nomatch e
    · rcases keyIs_shape hb with ⟨j, u, rfl, e⟩ | ⟨y, u, rfl, e⟩
      · exact nomatch e
      · injection e with e1 _; rw [e1]
  byValue := fun k v h => by
    rcases keyIs_shape h with ⟨i, t, rfl, rfl⟩ | ⟨x, t, rfl, rfl⟩ <;> rfl
  pyHash := fun hv h => by
    rcases keyIs_shape hv with ⟨i, t, rfl, rfl⟩ | ⟨x, t, rfl, rfl⟩
    · exact wpAny_pyHash_int h
    · exact wpAny_pyHash_str h
  eqBool := fun hu hv h => by
    rcases keyIs_shape hu with ⟨i, t, rfl, rfl⟩ | ⟨x, t, rfl, rfl⟩
    · rcases keyIs_shape hv with ⟨j, u, rfl, rfl⟩ | ⟨y, u, rfl, rfl⟩
      · rw [key_ll] at h; exact wpAny_eqBool_int h
      · rw [key_lr] at h; exact SeqAt.EqAt.int_str i t y u _ _ _ _ h
    · rcases keyIs_shape hv with ⟨j, u, rfl, rfl⟩ | ⟨y, u, rfl, rfl⟩
      · rw [key_rl] at h; exact SeqAt.EqAt.str_int x t j u _ _ _ _ h
      · rw [key_rr] at h; exact wpAny_eqBool_str h
  «strs» := fun k x t v h => by
    rcases keyIs_shape h with ⟨i, u, rfl, e⟩ | ⟨y, u, rfl, e⟩
    · exact nomatch e
    · injection e with e1 _
      subst e1
      cases v <;> rfl

theorem mixKind_int (prog : Program) (w : World) (i : Int) (t : Tok) : (mixKind prog w).is (.inl i) (.int i t) = true := keyIs_int i t
theorem mixKind_str (prog : Program) (w : World) (x : Str) (t : Tok) : (mixKind prog w).is (.inr x) (.str x t) = true := keyIs_str x t
end L2

namespace L2
open PySem PySem.Spec PyProof.Rows

inductive V where
  | non | bl (b : Bool) | int (i : Int) | str (x : Str) | byt (b : Array UInt8) | flt (b : UInt64) | ref (a : Addr) | ty (n : String)
  deriving DecidableEq

def RelV : V → Value → Prop
  | .non, u => u = Value.none
  | .bl b, u => u = Value.bool b
  | .int i, u => ∃ t, u = Value.int i t
  | .str x, u => ∃ t, u = Value.str x t
  | .byt b, u => ∃ t, u = Value.bytes b t
  | .flt b, u => ∃ t, u = Value.float b t
  | .ref a, u => u = Value.ref a
  | .ty n, u => u = Value.type n

abbrev Vals : List V → List Value → Prop := Paired RelV
theorem Vals.length {xs : List V} {us : List Value} (r : Vals xs us) : xs.length = us.length := Paired.length r
theorem Vals.get : ∀ {xs : List V} {us : List Value} {i : Nat} {x : V}, Vals xs us → xs[i]? = some x → ∃ u, us[i]? = some u ∧ RelV x u
  | _, _, _, _, .nil, e => by simp at e
  | _, _, 0, _, .cons r _, e => by simp at e; subst e; exact ⟨_, rfl, r⟩
  | _, _, i + 1, x, .cons _ t, e => by
    obtain ⟨u, h1, h2⟩ := Vals.get (i := i) (x := x) t (by simpa using e)
    exact ⟨u, by simpa using h1, h2⟩
theorem Vals.set {x : V} {u : Value} (r : RelV x u) : ∀ {xs : List V} {us : List Value} (i : Nat), Vals xs us → Vals (xs.set i x) (us.set i u)
  | _, _, _, .nil => .nil
  | _, _, 0, .cons _ t => .cons r t
  | _, _, i + 1, .cons q t => .cons q (Vals.set r i t)
theorem Vals.append : ∀ {xs ys : List V} {us ws : List Value}, Vals xs us → Vals ys ws → Vals (xs ++ ys) (us ++ ws)
  | _, _, _, _, .nil, s => s
  | _, _, _, _, .cons r t, s => .cons r (Vals.append t s)
theorem Vals.take : ∀ {xs : List V} {us : List Value} (n : Nat), Vals xs us → Vals (xs.take n) (us.take n)
  | _, _, 0, _ => .nil
  | _, _, _ + 1, .nil => .nil
  | _, _, n + 1, .cons r t => .cons r (Vals.take n t)
theorem Vals.drop : ∀ {xs : List V} {us : List Value} (n : Nat), Vals xs us → Vals (xs.drop n) (us.drop n)
  | _, _, 0, r => r
  | _, _, _ + 1, .nil => .nil
  | _, _, n + 1, .cons _ t => Vals.drop n t

def RelO : Option V → Option Value → Prop
  | some v, some u => RelV v u
  | none, none => True
  | _, _ => False
def KV {κ : Type} : List (κ × V) → List (κ × Value) → Prop := Paired fun (p : κ × V) (q : κ × Value) => p.1 = q.1 ∧ RelV p.2 q.2

def kV : Key → V
  | .inl i => .int i
  | .inr x => .str x

inductive HO where
  | lst (xs : List V)
  | tup (xs : List V)
  | dK (kvs : List (Key × V)) | dT (kvs : List (List Key × V))
  | set (S : Int → Bool) (n : Nat)
  | ins (C dx : Addr) (fs : List (Str × V))
  | own (x : Addr)
  | xd (fs : List (Str × V))
  | met (f x : Addr)
  | rng (lo hi : Int)
  | frz (o : Obj) (u : HO)
  | tbl (ps : Array Value)
  | ext (φ : Heap → Prop)

abbrev Hp := Addr → Option HO
def upd (H : Hp) (a : Addr) (o : HO) : Hp := fun b => if b = a then some o else H b
theorem upd_same {H : Hp} {a : Addr} {o : HO} : upd H a o a = some o := by unfold upd; rw [if_pos rfl]
theorem upd_ne {H : Hp} {a b : Addr} {o : HO} (h : b ≠ a) : upd H a o b = H b := by unfold upd; rw [if_neg h]
theorem ne_of {H : Hp} {a b : Addr} {o u : HO} (h : H a = some o) (h' : H b = some u) (d : o ≠ u) : a ≠ b := by
  intro e; subst e; rw [h] at h'; exact d (Option.some.inj h')
theorem ne_of_none {H : Hp} {a b : Addr} {o : HO} (h : H a = some o) (h' : H b = none) : a ≠ b := by
  intro e; subst e; rw [h] at h'; cases h'

section
variable (P : Program) (w : World)
def ObjOk (H : Hp) (h : Heap) (a : Addr) : HO → Prop
  | .lst xs => xs.length ≤ sizeLine ∧ ∃ (its : List Value) (n : Nat), Vals xs its ∧ h.get? a = some { cls := .type "list", data := .seq its.toArray n }
  | .tup xs => xs.length ≤ sizeLine ∧ ∃ its : List Value, Vals xs its ∧ IsTup h a its.toArray
  | .dK kvs => kvs.length ≤ sizeLine ∧ (a == sysModules) = false ∧ ∃ vs, KV kvs vs ∧ h.DictOf (mixKind P w) a vs
  | .dT kvs => kvs.length ≤ sizeLine ∧ (a == sysModules) = false ∧ ∃ xs : List (List Key × Addr × Value),
      Paired (fun (p : List Key × V) (q : List Key × Addr × Value) => p.1 = q.1 ∧ H q.2.1 = some (.tup (p.1.map kV)) ∧ RelV p.2 q.2.2) kvs xs ∧
      ∃ o es ep, h.get? a = some o ∧ o.ExactDict ∧ o.data = .dict es ep ∧ es.toList = xs.map (entryOfKey (tupleKind (mixKind P w))) ∧ (xs.map (·.1)).Nodup
  | .set S n => h.SetOf (intKind P w) a S n
  | .ins C dx fs => H dx = some (.own a) ∧ fs.length ≤ 1000 ∧ dx ≠ a ∧ h.get? a = some (PySem.W.instObj C dx) ∧
      ∃ mA, h.Ns1 dx mA ∧ (∀ f, RelO (fs.lookup f) (mA f)) ∧ PySem.Within mA (fs.map (·.1))
  | .own _ => ∃ o, h.get? a = some o
  | .xd fs => ∃ mA, h.Ns1 a mA ∧ ∀ f, RelO (fs.lookup f) (mA f)
  | .rng lo hi => ∃ t u v, h.get? a = some { cls := .type "range", data := .fields #[.int lo t, .int hi u, .int 1 v] }
  | .frz o u => h.get? a = some o ∧ ObjOk H h a u
  | .tbl ps => h.get? a = some { cls := .none, data := .fields ps }
  | .met f x => h.get? a = some (PySem.W.methodObj (.ref f) (.ref x))
  | .ext φ => φ h ∧ (∃ o, h.get? a = some o) ∧ ∀ h1 h2 : Heap, φ h1 → (∀ o, h1.get? a = some o → h2.get? a = some o) → φ h2
def HOk (H : Hp) (h : Heap) : Prop := ∀ a o, H a = some o → ObjOk P w H h a o
end

section
variable {P : Program} {w : World} {H H' : Hp} {h h' : Heap} {a : Addr} {o : HO}
theorem ObjOk.lt (x : ObjOk P w H h a o) : a < h.objs.size := by
  cases o with
  | lst xs => obtain ⟨_, _, _, _, e⟩ := x; exact Heap.lt_size e
  | tup xs => obtain ⟨_, _, _, p⟩ := x; exact p.lt
  | dK kvs => obtain ⟨_, _, _, _, o, _, _, e, _⟩ := x; exact Heap.lt_size e
  | dT kvs => obtain ⟨_, _, _, _, o, _, _, e, _⟩ := x; exact Heap.lt_size e
  | set S n => obtain ⟨o, _, _, _, e, _⟩ := x; exact Heap.lt_size e
  | ins C dx fs => obtain ⟨_, _, _, e, _⟩ := x; exact Heap.lt_size e
  | own y => obtain ⟨_, e⟩ := x; exact Heap.lt_size e
  | xd fs => obtain ⟨_, ⟨_, _, _, e, _⟩, _⟩ := x; exact Heap.lt_size e
  | rng lo hi => obtain ⟨_, _, _, e⟩ := x; exact Heap.lt_size e
  | frz ob u => obtain ⟨e, _⟩ := x; exact Heap.lt_size e
  | tbl ps => exact Heap.lt_size (show h.get? a = some _ from x)
  | met f y => exact Heap.lt_size (show h.get? a = some _ from x)
  | ext φ => obtain ⟨_, ⟨_, e⟩, _⟩ := x; exact Heap.lt_size e
theorem Paired.mapP {α β : Type} {F G : α → β → Prop} : ∀ {l₁ : List α} {l₂ : List β}, Paired F l₁ l₂ → (∀ a b, F a b → G a b) → Paired G l₁ l₂
  | _, _, .nil, _ => .nil
  | _, _, .cons r t, f => .cons (f _ _ r) (Paired.mapP t f)
theorem ObjOk.stay (x : ObjOk P w H h a o) (k : ∀ b u, (b = a ∨ H b = some (.own a)) → h.get? b = some u → h'.get? b = some u)
    (ho : ∀ b, H b = some (.own a) → H' b = some (.own a)) (ht : ∀ b xs, H b = some (.tup xs) → H' b = some (.tup xs)) : ObjOk P w H' h' a o := by
  induction o with
  | lst xs => obtain ⟨z, its, n, r, e⟩ := x; exact ⟨z, its, n, r, k _ _ (.inl rfl) e⟩
  | tup xs => obtain ⟨z, its, r, ob, e, c⟩ := x; exact ⟨z, its, r, ob, k _ _ (.inl rfl) e, c⟩
  | dK kvs => obtain ⟨z, y, vs, r, ob, es, ep, e, c⟩ := x; exact ⟨z, y, vs, r, ob, es, ep, k _ _ (.inl rfl) e, c⟩
  | dT kvs =>
    obtain ⟨z, y, xs, r, ob, es, ep, e, c⟩ := x
    exact ⟨z, y, xs, Paired.mapP r fun p q z => ⟨z.1, ht _ _ z.2.1, z.2.2⟩, ob, es, ep, k _ _ (.inl rfl) e, c⟩
  | set S n => obtain ⟨ob, es, ep, t, e, c⟩ := x; exact ⟨ob, es, ep, t, k _ _ (.inl rfl) e, c⟩
  | ins C dx fs =>
    obtain ⟨d, z, ne, e, mA, ⟨od, es, ep, e2, c⟩, r⟩ := x
    exact ⟨ho _ d, z, ne, k _ _ (.inl rfl) e, mA, ⟨od, es, ep, k _ _ (.inr d) e2, c⟩, r⟩
  | own y => obtain ⟨ob, e⟩ := x; exact ⟨ob, k _ _ (.inl rfl) e⟩
  | xd fs => obtain ⟨mA, ⟨od, es, ep, e, c⟩, r⟩ := x; exact ⟨mA, ⟨od, es, ep, k _ _ (.inl rfl) e, c⟩, r⟩
  | rng lo hi => obtain ⟨t, u, v, e⟩ := x; exact ⟨t, u, v, k _ _ (.inl rfl) e⟩
  | frz ob u ih => obtain ⟨e, q⟩ := x; exact ⟨k _ _ (.inl rfl) e, ih q⟩
  | tbl ps =>
    have e : h.get? a = some { cls := .none, data := .fields ps } := x
    show h'.get? a = some { cls := .none, data := .fields ps }
    exact k a _ (.inl rfl) e
  | met f y =>
    have e : h.get? a = some (PySem.W.methodObj (.ref f) (.ref y)) := x
    show h'.get? a = some (PySem.W.methodObj (.ref f) (.ref y))
    exact k a _ (.inl rfl) e
  | ext φ => obtain ⟨p, ⟨o, e⟩, st⟩ := x; exact ⟨st _ _ p fun o q => k _ _ (.inl rfl) q, ⟨o, k _ _ (.inl rfl) e⟩, st⟩
theorem HOk.lt (x : HOk P w H h) (e : H a = some o) : a < h.objs.size := (x a o e).lt
theorem HOk.fresh (x : HOk P w H h) (e : h.objs.size ≤ a) : H a = none := by
  cases q : H a with
  | none => rfl
  | some u => exact absurd (Nat.lt_of_lt_of_le (x.lt q) e) (Nat.lt_irrefl _)
theorem HOk.kept (x : HOk P w H h) (k : ∀ b u, h.get? b = some u → h'.get? b = some u) : HOk P w H h' := fun a o e =>
  (x a o e).stay (fun b u _ q => k b u q) (fun _ q => q) fun _ _ q => q
theorem HOk.laid (x : HOk P w H h) (k : ∀ b u, h.get? b = some u → h'.get? b = some u) (hp : h.objs.size ≤ a) (new : ObjOk P w (upd H a o) h' a o) : HOk P w (upd H a o) h' := fun b u e => by
  have hn := x.fresh hp
  by_cases hb : b = a
  · subst hb; rw [upd_same] at e; cases e; exact new
  · rw [upd_ne hb] at e
    exact (x b u e).stay (fun c v _ q => k c v q) (fun c q => by rw [upd_ne (ne_of_none q hn)]; exact q) fun c xs q => by rw [upd_ne (ne_of_none q hn)]; exact q
end

def Rd (H : Hp) (a : Addr) (u : HO) : Prop := H a = some u ∨ ∃ o, H a = some (.frz o u)
theorem Rd.of {H : Hp} {a : Addr} {u : HO} (h : H a = some u) : Rd H a u := .inl h
theorem Rd.ok {P : Program} {w : World} {H : Hp} {h : Heap} {a : Addr} {u : HO} (r : Rd H a u) (x : HOk P w H h) : ObjOk P w H h a u := by
  rcases r with r | ⟨o, r⟩
  · exact x a u r
  · obtain ⟨_, q⟩ := x a _ r
    exact q
def Mut : Option HO → Prop
  | some (.lst _) => True
  | some (.dK _) => True
  | some (.dT _) => True
  | some (.set _ _) => True
  | some (.ins _ _ _) => True
  | some (.ext _) => True
  | _ => False
section
variable {P : Program} {w : World} {H : Hp} {h h' : Heap} {x e : Addr} {o' : HO}
theorem HOk.write (ok : HOk P w H h) (mu : Mut (H x)) (he : e = x ∨ H e = some (.own x)) (k : ∀ b u, b ≠ e → h.get? b = some u → h'.get? b = some u) (heo : ∃ u, h'.get? e = some u)
    (new : ObjOk P w (upd H x o') h' x o') : HOk P w (upd H x o') h' := fun b u q => by
  have nown : ∀ c y, H c = some (.own y) → c ≠ x := fun c y r z => by subst z; rw [r] at mu; exact mu
  have ntup : ∀ c xs, H c = some (.tup xs) → c ≠ x := fun c xs r z => by subst z; rw [r] at mu; exact mu
  by_cases hb : b = x
  · subst hb; rw [upd_same] at q; cases q; exact new
  · rw [upd_ne hb] at q
    by_cases hbe : b = e
    · have q' : H b = some (.own x) := by
        rcases he with z | z
        · exact absurd (hbe.trans z) hb
        · rw [hbe]; exact z
      rw [q] at q'; cases q'
      obtain ⟨v, hv⟩ := heo
      exact ⟨v, by rw [hbe]; exact hv⟩
    · refine (ok b u q).stay (fun c v hc r => k c v ?_ r) (fun c r => by rw [upd_ne (nown c b r)]; exact r) fun c xs r => by rw [upd_ne (ntup c xs r)]; exact r
      rcases hc with rfl | hc
      · exact hbe
      · rintro rfl
        rcases he with z | z
        · exact nown c b hc z
        · rw [hc] at z; cases z; exact hb rfl
end

structure Un (fs ex : List Addr) (H H' : Hp) (h h' : Heap) : Prop where
  keep : ∀ b o, h.get? b = some o → H b = none → b ∉ fs → b ∉ ex → h'.get? b = some o
  slot : ∀ b o, h.get? b = some o → H b = none → b ∈ fs → b ∉ ex → ∃ sl, h'.get? b = some { o with slots := sl }
  free : ∀ b o, h.get? b = some o → H b = none → b ∉ ex → H' b = none
  there : ∀ b o, h.get? b = some o → b ∉ ex → ∃ o', h'.get? b = some o'
  tups : ∀ b xs, H b = some (.tup xs) → H' b = some (.tup xs)
  frzs : ∀ b o u, H b = some (.frz o u) → H' b = some (.frz o u)
  tbls : ∀ b ps, H b = some (.tbl ps) → ∃ more, H' b = some (.tbl (ps ++ more))
section
variable {fs fs' ex ex' : List Addr} {H H1 H2 : Hp} {h h1 h2 h' : Heap} {a x e : Addr} {o : HO}
theorem Un.any (u : Un fs ex H H1 h h1) {b : Addr} {ob : Obj} (q : h.get? b = some ob) (n : H b = none) (hx : b ∉ ex) : ∃ sl, h1.get? b = some { ob with slots := sl } := by
  by_cases hb : b ∈ fs
  · exact u.slot b ob q n hb hx
  · exact ⟨ob.slots, u.keep b ob q n hb hx⟩
theorem Un.trans (a : Un fs ex H H1 h h1) (b : Un fs ex H1 H2 h1 h2) : Un fs ex H H2 h h2 where
  keep := fun c ob q n hc hx => b.keep c ob (a.keep c ob q n hc hx) (a.free c ob q n hx) hc hx
  slot := fun c ob q n hc hx => by
    obtain ⟨sl, e1⟩ := a.slot c ob q n hc hx
    obtain ⟨sl', e2⟩ := b.slot c _ e1 (a.free c ob q n hx) hc hx
    exact ⟨sl', e2⟩
  free := fun c ob q n hx => by
    obtain ⟨o', e1⟩ := a.there c ob q hx
    exact b.free c o' e1 (a.free c ob q n hx) hx
  there := fun c ob q hx => by
    obtain ⟨o', e1⟩ := a.there c ob q hx
    exact b.there c o' e1 hx
  tups := fun c xs q => b.tups c xs (a.tups c xs q)
  frzs := fun c ob xs q => b.frzs c ob xs (a.frzs c ob xs q)
  tbls := fun c ps q => by
    obtain ⟨m1, e1⟩ := a.tbls c ps q
    obtain ⟨m2, e2⟩ := b.tbls c _ e1
    exact ⟨m1 ++ m2, by rw [e2, Array.append_assoc]⟩
theorem Un.kept (k : ∀ b u, h.get? b = some u → h'.get? b = some u) : Un fs ex H H h h' :=
  ⟨fun b ob q _ _ _ => k b ob q, fun b ob q _ _ _ => ⟨ob.slots, k b ob q⟩, fun _ _ _ n _ => n, fun b ob q _ => ⟨ob, k b ob q⟩, fun _ _ q => q, fun _ _ _ q => q, fun _ ps q => ⟨#[], by rw [q]; simp⟩⟩
theorem Un.refl : Un fs ex H H h h := Un.kept fun _ _ q => q
theorem Un.laid (k : ∀ b u, h.get? b = some u → h'.get? b = some u) (hp : h.objs.size ≤ a) (hn : H a = none) : Un fs ex H (upd H a o) h h' where
  keep := fun b u q _ _ _ => k b u q
  slot := fun b u q _ _ _ => ⟨u.slots, k b u q⟩
  free := fun b u q n _ => by rw [upd_ne (Nat.ne_of_lt (Nat.lt_of_lt_of_le (Heap.lt_size q) hp))]; exact n
  there := fun b u q _ => ⟨u, k b u q⟩
  tups := fun b xs q => by rw [upd_ne (ne_of_none q hn)]; exact q
  frzs := fun b u xs q => by rw [upd_ne (ne_of_none q hn)]; exact q
  tbls := fun b ps q => ⟨#[], by rw [upd_ne (ne_of_none q hn), q]; simp⟩
theorem Un.write (mu : Mut (H x)) (he : e = x ∨ H e = some (.own x)) (k : ∀ b u, b ≠ e → h.get? b = some u → h'.get? b = some u) (heo : ∃ u, h'.get? e = some u) : Un fs ex H (upd H x o) h h' := by
  have hx : ∀ b, H b = none → b ≠ x := fun b n z => by subst z; rw [n] at mu; exact mu
  have hb : ∀ b, H b = none → b ≠ e := fun b n z => by
    subst z
    rcases he with r | r
    · exact hx b n r
    · rw [n] at r; cases r
  have hm : ∀ b u, H b = some u → ¬ Mut (some u) → b ≠ x := fun b u q nm z => by subst z; rw [q] at mu; exact nm mu
  refine ⟨fun b u q n _ _ => k b u (hb b n) q, fun b u q n _ _ => ⟨u.slots, k b u (hb b n) q⟩, fun b u q n _ => by rw [upd_ne (hx b n)]; exact n, fun b u q _ => ?_,
    fun b xs q => by rw [upd_ne (hm b _ q fun z => z)]; exact q, fun b u xs q => by rw [upd_ne (hm b _ q fun z => z)]; exact q, fun b ps q => ⟨#[], by rw [upd_ne (hm b _ q fun z => z), q]; simp⟩⟩
  by_cases hbe : b = e
  · subst hbe; exact heo
  · exact ⟨u, k b u hbe q⟩
theorem Un.mono (u : Un fs ex H H1 h h1) (hs : ∀ b ∈ fs, b ∈ fs') (hx : ∀ b ∈ ex, b ∈ ex') : Un fs' ex' H H1 h h1 :=
  ⟨fun b ob q n hb he => u.keep b ob q n (fun z => hb (hs b z)) fun z => he (hx b z), fun _ _ q n _ he => u.any q n fun z => he (hx _ z), fun b ob q n he => u.free b ob q n fun z => he (hx b z), fun b ob q he => u.there b ob q fun z => he (hx b z), u.tups, u.frzs, u.tbls⟩
end

def trk (h : Heap) (H : Hp) : List Addr := (List.range h.objs.size).filter fun a => (H a).isSome
def hidT (h : Heap) (H : Hp) : Heap := PySem.W.hideAll h (trk h H)
theorem hidT_size (h : Heap) (H : Hp) : (hidT h H).objs.size = h.objs.size := PySem.W.hideAll_size _ _
theorem hidT_get {h : Heap} {H : Hp} {b : Addr} {o : Obj} (e : h.get? b = some o) (n : H b = none) : (hidT h H).get? b = some o :=
  PySem.W.hideAll_get _ e fun hm => by
    have q : (H b).isSome = true := (List.mem_filter.mp hm).2
    rw [n] at q; simp at q
theorem of_hidT {h : Heap} {H : Hp} {b : Addr} {o : Obj} (e : (hidT h H).get? b = some o) : h.get? b = some o ∧ H b = none := by
  have e' : h.get? b = some o := PySem.W.of_hideAll (trk h H) e
  refine ⟨e', ?_⟩
  cases q : H b with
  | none => rfl
  | some x =>
    have hm : b ∈ trk h H := List.mem_filter.mpr ⟨List.mem_range.mpr (Heap.lt_size e'), by simp [q]⟩
    have z : (hidT h H).get? b = none := PySem.W.hideAll_none (trk h H) hm
    rw [z] at e; cases e

def allNews (g h : Heap) (L : Addr) : List (Addr × Obj) := (List.range h.objs.size).filterMap fun a => if a = L ∨ (g.get? a).isSome = true then none else (h.get? a).map fun o => (a, o)
def rest (g h : Heap) (L d : Addr) : List (Addr × Obj) := (allNews g h L).filter fun p => decide (p.1 ≠ d)
end L2

namespace L2
open PySem PySem.Spec PyProof.Rows

structure Mod (K : PySem.W.Frag) (mg : Str → Option Value) (base : Heap) : Prop where
  kin : K.In base
  glob : base.Ns mainGlobals mg
  blt : ∃ mb, base.Ns builtinsNs mb ∧ ∀ x : Str, x ≠ "__name__" → mb x = bootBuiltins x
  nolimit : base.NoLimit

/-- the context: a def's body (or a comprehension's block) running. base: fixed through the whole law; s₀, H₀: the entry; outer: the frames whose slots others may change (a def's callers); stack: all frames that run;
   ex: iterators that were made ahead of the entry and are walked here (a comprehension's); fn: the names whose cells were made at the entry (a def: all; a comprehension's block: its own); calm: not within an except suite; pn: pins that every state bears; xe: what is wanted of an exception that leaves the code -/
structure Cx where
  prog : Program
  w : World
  K : PySem.W.Frag
  mg : Str → Option Value
  base : Heap
  A : Around
  N : List Str
  s₀ : Shared
  H₀ : Hp
  env : Env
  outer : List Env
  stack : List Env
  ex : List Addr
  fn : Str → Bool
  calm : Bool
  pn : List (Addr × Obj)
  xe : Value → Shared → Prop
def frs (l : List Env) : List Addr := l.filterMap (·.frame)
abbrev Cx.fs (X : Cx) : List Addr := frs X.outer

def Vis (sc : Scope) (x : Str) : Prop := sc.names.lookup x = some .local ∨ sc.names.lookup x = some .cell ∨ sc.names.lookup x = some .free
def Loc (sc : Scope) (x : Str) : Prop := sc.names.lookup x = some .local ∨ sc.names.lookup x = some .cell
def Look (env : Env) (h : Heap) (m : Str → Option Value) (x : Str) (u : Value) : Prop :=
  (env.kindOf x = some .local ∧ m x = some u) ∨ ((env.kindOf x = some .cell ∨ env.kindOf x = some .free) ∧ ∃ c, env.cells.lookup x = some c ∧ h.IsCell c (some u))

structure Cx.Ok (X : Cx) : Prop where
  mod : Mod X.K X.mg X.base
  kind : X.env.scope.kind = .function
  glob : X.env.globals = mainGlobals
  blt : X.env.builtins = builtinsNs
  above : X.s₀.heap.objs.size ≤ X.env.locals
  inj : ∀ x y c, X.env.cells.lookup x = some c → X.env.cells.lookup y = some c → x = y
  has : ∀ x, (X.env.kindOf x = some .cell ∨ X.env.kindOf x = some .free) → ∃ c, X.env.cells.lookup x = some c
  cab : ∀ x c, X.fn x = true → X.env.cells.lookup x = some c → X.s₀.heap.objs.size ≤ c
  hd : X.calm = true → X.A.handled = none
  frames : X.A.frames = some X.stack
  stk : X.stack = X.outer ∨ (X.stack = X.env :: X.outer ∧ X.env.frame = some X.env.locals)
  exf : ∀ b ∈ X.ex, b ≠ X.env.locals ∧ ∀ x c, X.env.cells.lookup x = some c → c ≠ b
  bs : ∀ b o, X.base.get? b = some o → X.s₀.heap.get? b = some o ∧ X.H₀ b = none
  bsz : X.base.objs.size ≤ X.s₀.heap.objs.size
  noex : ∀ b o, X.base.get? b = some o → b ∉ X.ex
  exfs : ∀ b ∈ X.ex, b ∉ X.fs
  funs : X.s₀.heap.FunFrames X.base X.outer
  frf : ∀ b ∈ X.fs, X.H₀ b = none

structure Inv (X : Cx) (pins : List (Addr × Obj)) (σ : List (Option V)) (H : Hp) (s : Shared) : Prop where
  ok : X.Ok
  os : s.os = X.s₀.os
  bare : AllBare s.gens
  base : Un X.fs X.ex X.H₀ H X.s₀.heap s.heap
  loc : ∃ m, s.heap.Ns X.env.locals m ∧ ∀ (i : Nat) (x : Str) (v : V), X.N[i]? = some x → σ[i]? = some (some v) → Vis X.env.scope x → ∃ u, RelV v u ∧ Look X.env s.heap m x u
  cell : ∀ x c, X.env.cells.lookup x = some c → ∃ v, s.heap.IsCell c v
  free : H X.env.locals = none
  freeC : ∀ x c, X.env.cells.lookup x = some c → H c = none
  pin : ∀ p ∈ X.pn ++ pins, s.heap.get? p.1 = some p.2 ∧ H p.1 = none ∧ p.1 ≠ X.env.locals ∧ p.1 ∉ X.fs ∧ ∀ v, p.2.data ≠ .cell v
  hok : HOk X.prog X.w H s.heap
  len : σ.length = X.N.length

section
variable {X : Cx} {pins : List (Addr × Obj)} {σ : List (Option V)} {H H' : Hp} {s : Shared} {h' : Heap}

theorem Cx.Ok.nofr (ok : X.Ok) {b : Addr} {o : Obj} (e : X.base.get? b = some o) : b ∉ X.fs := fun hb => by
  have := (ok.funs.mem hb).1
  rw [e] at this; cases this
theorem Inv.bs (I : Inv X pins σ H s) : ∀ b o, X.base.get? b = some o → s.heap.get? b = some o ∧ H b = none := fun b o e =>
  ⟨I.base.keep b o (I.ok.bs b o e).1 (I.ok.bs b o e).2 (I.ok.nofr e) (I.ok.noex b o e), I.base.free b o (I.ok.bs b o e).1 (I.ok.bs b o e).2 (I.ok.noex b o e)⟩
theorem Inv.bk (I : Inv X pins σ H s) : ∀ b o, X.base.get? b = some o → s.heap.get? b = some o := fun b o e => (I.bs b o e).1
theorem Inv.mod (I : Inv X pins σ H s) : Mod X.K X.mg X.base := I.ok.mod
theorem Inv.kIn (I : Inv X pins σ H s) : X.K.In s.heap := I.ok.mod.kin.keeps I.bk
theorem Inv.nolimit (I : Inv X pins σ H s) : s.heap.NoLimit := I.ok.mod.nolimit.keeps I.bk
theorem Inv.lt (I : Inv X pins σ H s) : X.env.locals < s.heap.objs.size := let ⟨_, hn, _⟩ := I.loc; hn.lt
theorem Inv.sz (I : Inv X pins σ H s) : X.s₀.heap.objs.size ≤ s.heap.objs.size := Nat.le_trans I.ok.above (Nat.le_of_lt I.lt)
theorem Inv.nofs (I : Inv X pins σ H s) {a : Addr} (h : s.heap.objs.size ≤ a) : a ∉ X.fs := fun hb => by
  obtain ⟨_, o, ho, _⟩ := I.ok.funs.mem hb
  exact absurd (Nat.lt_of_lt_of_le (Heap.lt_size ho) (Nat.le_trans I.sz h)) (Nat.lt_irrefl _)
theorem Inv.cne (I : Inv X pins σ H s) : ∀ x c, X.env.cells.lookup x = some c → c ≠ X.env.locals := fun x c e z => by
  obtain ⟨v, o, ho, hd⟩ := I.cell x c e
  obtain ⟨m, ⟨o', es, ep, ho', hd', _⟩, _⟩ := I.loc
  rw [z, ho'] at ho; cases ho; rw [hd'] at hd; cases hd
theorem Inv.funs (I : Inv X pins σ H s) : s.heap.FunFrames X.base X.outer := by
  have all : ∀ (l : List Env), (∀ b ∈ frs l, b ∈ X.fs) → X.s₀.heap.FunFrames X.base l → s.heap.FunFrames X.base l := by
    intro l
    induction l with
    | nil => intro _ _; trivial
    | cons env r ih =>
      intro hs hl
      obtain ⟨hk, ⟨L, o, hf, hn, ho, hd⟩, hr⟩ := hl
      have hL : L ∈ X.fs := hs L (by unfold frs; rw [List.filterMap_cons, hf]; exact List.mem_cons_self)
      obtain ⟨sl, e⟩ := I.base.slot L o ho (I.ok.frf L hL) hL fun z => I.ok.exfs L z hL
      exact ⟨hk, ⟨L, _, hf, hn, e, hd⟩, ih (fun b hb => hs b (by unfold frs; rw [List.filterMap_cons, hf]; exact List.mem_cons_of_mem _ hb)) hr⟩
  exact all X.outer (fun _ hb => hb) I.ok.funs

theorem Inv.stack (I : Inv X pins σ H s) : s.heap.FunFrames X.base X.stack := by
  rcases I.ok.stk with e | ⟨e, hf⟩
  · rw [e]; exact I.funs
  · rw [e]
    obtain ⟨m, hn, _⟩ := I.loc
    refine .cons (by rw [I.ok.kind]; decide) hf hn ?_ I.funs
    exact Heap.get?_none_of_le (Nat.le_trans I.ok.bsz I.ok.above)
theorem Inv.stkSub (I : Inv X pins σ H s) : ∀ b ∈ frs X.stack, b ∈ X.env.locals :: X.fs := fun b hb => by
  rcases I.ok.stk with e | ⟨e, hf⟩
  · rw [e] at hb; exact List.mem_cons_of_mem _ hb
  · rw [e] at hb
    unfold frs at hb
    rw [List.filterMap_cons, hf] at hb
    exact hb
theorem Inv.stkFree (I : Inv X pins σ H s) : ∀ b ∈ frs X.stack, H b = none := fun b hb => by
  rcases List.mem_cons.mp (I.stkSub b hb) with e | hb
  · rw [e]; exact I.free
  · obtain ⟨_, o, ho, _⟩ := I.ok.funs.mem hb
    exact I.base.free b o ho (I.ok.frf b hb) fun z => I.ok.exfs b z hb

theorem Inv.step {g' : Array GenState} {t' : Nat} {d' : Drawn} {ch : List Addr} (I : Inv X pins σ H s)
    (hch : ∀ b ∈ ch, (b ∈ X.ex ∨ X.s₀.heap.objs.size ≤ b) ∧ b ≠ X.env.locals ∧ (∀ x c, X.env.cells.lookup x = some c → c ≠ b) ∧ ∀ p ∈ X.pn ++ pins, p.1 ≠ b)
    (keep : ∀ b o, b ≠ X.env.locals → b ∉ X.fs → b ∉ ch → s.heap.get? b = some o → H b = none → h'.get? b = some o)
    (slot : ∀ b o, b ≠ X.env.locals → b ∈ X.fs → b ∉ ch → s.heap.get? b = some o → H b = none → ∃ sl, h'.get? b = some { o with slots := sl }) (free : ∀ b o, b ∉ ch → s.heap.get? b = some o → H b = none → H' b = none)
    (there : ∀ b o, b ∉ ch → s.heap.get? b = some o → ∃ o', h'.get? b = some o')
    (tups : ∀ b xs, H b = some (.tup xs) → H' b = some (.tup xs)) (frzs : ∀ b o u, H b = some (.frz o u) → H' b = some (.frz o u)) (tbls : ∀ b ps, H b = some (.tbl ps) → ∃ more, H' b = some (.tbl (ps ++ more)))
    (ns : ∀ m, s.heap.Ns X.env.locals m → h'.Ns X.env.locals m) (hok : HOk X.prog X.w H' h') (hg : AllBare g') :
    Inv X pins σ H' { s with heap := h', gens := g', drawn := d', toks := t' } := by
  have neL : ∀ b o, X.s₀.heap.get? b = some o → b ≠ X.env.locals := fun b o e => Nat.ne_of_lt (Nat.lt_of_lt_of_le (Heap.lt_size e) I.ok.above)
  have neC : ∀ b o, X.s₀.heap.get? b = some o → b ∉ X.ex → b ∉ ch := fun b o e hx hb => by
    rcases (hch b hb).1 with z | z
    · exact hx z
    · exact absurd (Nat.lt_of_lt_of_le (Heap.lt_size e) z) (Nat.lt_irrefl _)
  have cellK : ∀ x c, X.env.cells.lookup x = some c → ∀ v, s.heap.IsCell c v → h'.IsCell c v := fun x c e v ⟨o, ho, hd⟩ => by
    have nch : c ∉ ch := fun z => (hch c z).2.2.1 x c e rfl
    by_cases hc : c ∈ X.fs
    · obtain ⟨sl, q⟩ := slot c o (I.cne x c e) hc nch ho (I.freeC x c e)
      exact ⟨_, q, hd⟩
    · exact ⟨o, keep c o (I.cne x c e) hc nch ho (I.freeC x c e), hd⟩
  refine ⟨I.ok, I.os, hg, ⟨fun b o e n hb hx => ?_, fun b o e n hb hx => ?_, fun b o e n hx => ?_, fun b o e hx => ?_, fun b xs e => tups b xs (I.base.tups b xs e), fun b o xs e => frzs b o xs (I.base.frzs b o xs e), fun b ps e => ?_⟩, ?_, fun x c e => ?_, ?_, fun x c e => ?_, fun p hp => ?_, hok, I.len⟩
  · exact keep b o (neL b o e) hb (neC b o e hx) (I.base.keep b o e n hb hx) (I.base.free b o e n hx)
  · obtain ⟨sl, e1⟩ := I.base.slot b o e n hb hx
    obtain ⟨sl', e2⟩ := slot b _ (neL b o e) hb (neC b o e hx) e1 (I.base.free b o e n hx)
    exact ⟨sl', e2⟩
  · obtain ⟨o', e1⟩ := I.base.there b o e hx
    exact free b o' (neC b o e hx) e1 (I.base.free b o e n hx)
  · obtain ⟨o', e1⟩ := I.base.there b o e hx
    exact there b o' (neC b o e hx) e1
  · obtain ⟨m1, e1⟩ := I.base.tbls b ps e
    obtain ⟨m2, e2⟩ := tbls b _ e1
    exact ⟨m1 ++ m2, by rw [e2, Array.append_assoc]⟩
  · obtain ⟨m, hn, hl⟩ := I.loc
    refine ⟨m, ns m hn, fun i x v e1 e2 e3 => ?_⟩
    obtain ⟨u, r, l⟩ := hl i x v e1 e2 e3
    refine ⟨u, r, ?_⟩
    rcases l with l | ⟨k, c, e, z⟩
    · exact .inl l
    · exact .inr ⟨k, c, e, cellK x c e _ z⟩
  · obtain ⟨v, z⟩ := I.cell x c e
    exact ⟨v, cellK x c e v z⟩
  · obtain ⟨m, ⟨o, _, _, ho, _⟩, _⟩ := I.loc
    exact free _ o (fun z => (hch _ z).2.1 rfl) ho I.free
  · obtain ⟨v, o, ho, hd⟩ := I.cell x c e
    exact free c o (fun z => (hch c z).2.2.1 x c e rfl) ho (I.freeC x c e)
  · obtain ⟨e, n, ne, nf, d⟩ := I.pin p hp
    have nch : p.1 ∉ ch := fun z => (hch p.1 z).2.2.2 p hp rfl
    exact ⟨keep p.1 p.2 ne nf nch e n, free p.1 p.2 nch e n, ne, nf, d⟩
theorem Inv.un {t' : Nat} (I : Inv X pins σ H s) (u : Un X.fs [] H H' s.heap h') (hok : HOk X.prog X.w H' h') : Inv X pins σ H' { s with heap := h', toks := t' } := by
  obtain ⟨m, ⟨o, es, ep, ho, r⟩, _⟩ := id I.loc
  obtain ⟨sl, hL⟩ := u.any ho I.free (by simp)
  exact I.step (g' := s.gens) (d' := s.drawn) (ch := []) (fun _ z => nomatch z) (fun b o _ hb _ e n => u.keep b o e n hb (by simp)) (fun b o _ hb _ e n => u.slot b o e n hb (by simp)) (fun b o _ e n => u.free b o e n (by simp)) (fun b o _ e => u.there b o e (by simp)) u.tups u.frzs u.tbls (fun m' hm => by
    obtain ⟨o', es', ep', ho', r'⟩ := hm
    rw [ho] at ho'; cases ho'
    exact ⟨_, es', ep', hL, r'⟩) hok I.bare
theorem Inv.call {g' : Array GenState} {t' : Nat} {d' : Drawn} {ch : List Addr} (I : Inv X pins σ H s) (u : Un (frs X.stack) ch H H' s.heap h') (hok : HOk X.prog X.w H' h') (hg : AllBare g')
    (hch : ∀ b ∈ ch, (b ∈ X.ex ∨ X.s₀.heap.objs.size ≤ b) ∧ b ≠ X.env.locals ∧ (∀ x c, X.env.cells.lookup x = some c → c ≠ b) ∧ ∀ p ∈ X.pn ++ pins, p.1 ≠ b) :
    Inv X pins σ H' { s with heap := h', gens := g', drawn := d', toks := t' } := by
  obtain ⟨m, ⟨o, es, ep, ho, r⟩, _⟩ := id I.loc
  obtain ⟨sl, hL⟩ := u.any ho I.free fun z => (hch _ z).2.1 rfl
  exact I.step (ch := ch) hch (fun b o hL hb hc e n => u.keep b o e n (fun z => (List.mem_cons.mp (I.stkSub b z)).elim hL hb) hc) (fun b o _ _ hc e n => u.any e n hc) (fun b o hc e n => u.free b o e n hc) (fun b o hc e => u.there b o e hc) u.tups u.frzs u.tbls (fun m' hm => by
    obtain ⟨o', es', ep', ho', r'⟩ := hm
    rw [ho] at ho'; cases ho'
    exact ⟨_, es', ep', hL, r'⟩) hok hg
theorem Inv.turned {t' : Nat} {it : Addr} (I : Inv X pins σ H s) (k : ∀ b o, b ≠ it → s.heap.get? b = some o → h'.get? b = some o) (hn : H it = none) (hL : it ≠ X.env.locals)
    (h1 : it ∈ X.ex ∨ X.s₀.heap.objs.size ≤ it) (h2 : ∀ x c, X.env.cells.lookup x = some c → c ≠ it) (h3 : ∀ p ∈ X.pn ++ pins, p.1 ≠ it) : Inv X pins σ H { s with heap := h', toks := t' } := by
  have nit : ∀ b u, H b = some u → b ≠ it := fun b u e z => by rw [z, hn] at e; cases e
  refine I.step (g' := s.gens) (d' := s.drawn) (ch := [it]) (fun b hb => ?_) (fun b o _ _ hc e _ => k b o (fun z => hc (by simp [z])) e) (fun b o _ _ hc e _ => ⟨o.slots, k b o (fun z => hc (by simp [z])) e⟩) (fun _ _ _ _ n => n)
    (fun b o hc e => ⟨o, k b o (fun z => hc (by simp [z])) e⟩) (fun _ _ e => e) (fun _ _ _ e => e) (fun b ps e => ⟨#[], by rw [e]; simp⟩) (fun m hm => ?_) (fun b u e => ?_) I.bare
  · have e : b = it := by simpa using hb
    subst e
    exact ⟨h1, hL, h2, h3⟩
  · obtain ⟨o, es, ep, ho, r⟩ := hm
    exact ⟨o, es, ep, k _ o (Ne.symm hL) ho, r⟩
  · refine (I.hok b u e).stay (fun c v hc q => k c v ?_ q) (fun _ q => q) fun _ _ q => q
    rcases hc with z | z
    · rw [z]; exact nit b u e
    · exact nit c _ z
theorem Inv.tok (I : Inv X pins σ H s) (t : Nat) : Inv X pins σ H { s with toks := t } := I.un (h' := s.heap) (t' := t) Un.refl I.hok
theorem Inv.kept {t' : Nat} (I : Inv X pins σ H s) (k : ∀ b u, s.heap.get? b = some u → h'.get? b = some u) : Inv X pins σ H { s with heap := h', toks := t' } := I.un (Un.kept k) (I.hok.kept k)
theorem Inv.laid {a : Addr} {o : HO} {t' : Nat} (I : Inv X pins σ H s) (k : ∀ b u, s.heap.get? b = some u → h'.get? b = some u) (hp : s.heap.objs.size ≤ a) (new : ObjOk X.prog X.w (upd H a o) h' a o) :
    Inv X pins σ (upd H a o) { s with heap := h', toks := t' } := I.un (Un.laid k hp (I.hok.fresh hp)) (I.hok.laid k hp new)
theorem Inv.write {x e : Addr} {o : HO} {t' : Nat} (I : Inv X pins σ H s) (mu : Mut (H x)) (he : e = x ∨ H e = some (.own x)) (k : ∀ b u, b ≠ e → s.heap.get? b = some u → h'.get? b = some u) (heo : ∃ u, h'.get? e = some u)
    (new : ObjOk X.prog X.w (upd H x o) h' x o) : Inv X pins σ (upd H x o) { s with heap := h', toks := t' } := I.un (Un.write mu he k heo) (I.hok.write mu he k heo new)
theorem Inv.weak {σ' : List (Option V)} (I : Inv X pins σ H s) (hl : σ'.length = σ.length) (w : ∀ (i : Nat) v, σ'[i]? = some (some v) → σ[i]? = some (some v)) : Inv X pins σ' H s :=
  ⟨I.ok, I.os, I.bare, I.base, let ⟨m, hn, hl'⟩ := I.loc; ⟨m, hn, fun i x v e1 e2 e3 => hl' i x v e1 (w i v e2) e3⟩, I.cell, I.free, I.freeC, I.pin, I.hok, hl.trans I.len⟩
theorem Inv.pins_of {pins' : List (Addr × Obj)} (I : Inv X pins σ H s) (h : ∀ p ∈ pins', s.heap.get? p.1 = some p.2 ∧ H p.1 = none ∧ p.1 ≠ X.env.locals ∧ p.1 ∉ X.fs ∧ ∀ v, p.2.data ≠ .cell v) : Inv X pins' σ H s :=
  ⟨I.ok, I.os, I.bare, I.base, I.loc, I.cell, I.free, I.freeC, fun p hp => (List.mem_append.mp hp).elim (fun z => I.pin p (List.mem_append_left _ z)) (h p), I.hok, I.len⟩

theorem nodup_ix {N : List Str} (hN : N.Nodup) {i j : Nat} {x : Str} (a : N[i]? = some x) (b : N[j]? = some x) : i = j := by
  obtain ⟨h1, e1⟩ := List.getElem?_eq_some_iff.mp a
  obtain ⟨h2, e2⟩ := List.getElem?_eq_some_iff.mp b
  exact (List.getElem_inj hN).mp (e1.trans e2.symm)

theorem store_ok2 {M : Model} {A : Around} {E : Value → Shared → Prop} {i : Nat} {x : Str} {v : V} {u : Value} {Q : Unit → Shared → Prop} (I : Inv X pins σ H s) (hN : X.N.Nodup) (hi : X.N[i]? = some x) (hx : Loc X.env.scope x) (r : RelV v u)
    (h : ∀ s', Inv X pins (σ.set i (some v)) H s' → (∃ a, Heap.SameBut a s.heap s'.heap ∧ (a = X.env.locals ∨ X.env.cells.lookup x = some a)) → Q () s') (hf : X.fn x = true ∨ X.env.scope.names.lookup x = some .local := by first | exact .inl rfl | exact .inr rfl | assumption) : wpAny M A (storeName X.env x u) Q E s := by
  obtain ⟨m, hn, hl⟩ := id I.loc
  have hcls : (X.env.scope.kind == .class || (X.env.scope.kind == .module && X.env.locals != X.env.globals)) = false := by rw [I.ok.kind]; rfl
  have hiσ : i < σ.length := by rw [I.len]; exact (List.getElem?_eq_some_iff.mp hi).1
  have cne := I.cne
  have tracked : ∀ {a : Addr} {h' : Heap}, (∃ o, s.heap.get? a = some o ∧ H a = none) → Heap.SameBut a s.heap h' → HOk X.prog X.w H h' := fun {a h'} ha hs b ob e => by
    obtain ⟨_, _, hfree⟩ := ha
    refine (I.hok b ob e).stay (fun c w' hc q => (hs.2 c ?_).trans q) (fun _ q => q) fun _ _ q => q
    rintro rfl
    rcases hc with rfl | hc
    · rw [hfree] at e; cases e
    · rw [hfree] at hc; cases hc
  rcases hx with hk | hk
  · refine wpAny_storeName_local hk hn (fun h' hn' hs => ?_) hcls
    obtain ⟨oL, _, _, hoL, _⟩ := id hn
    refine h _ ⟨I.ok, I.os, I.bare, ⟨fun b o e n hb hx => ?_, fun b o e n hb hx => ?_, I.base.free, fun b o e hx => ?_, I.base.tups, I.base.frzs, I.base.tbls⟩, ⟨_, hn', fun j y v' e1 e2 e3 => ?_⟩, fun y c e => ?_, I.free, I.freeC, fun p hp => ?_, tracked ⟨oL, hoL, I.free⟩ hs, by simpa using I.len⟩ ⟨_, hs, .inl rfl⟩
    · exact (hs.2 b (Nat.ne_of_lt (Nat.lt_of_lt_of_le (Heap.lt_size e) I.ok.above))).trans (I.base.keep b o e n hb hx)
    · obtain ⟨sl, e1⟩ := I.base.slot b o e n hb hx
      exact ⟨sl, (hs.2 b (Nat.ne_of_lt (Nat.lt_of_lt_of_le (Heap.lt_size e) I.ok.above))).trans e1⟩
    · obtain ⟨o', e1⟩ := I.base.there b o e hx
      exact ⟨o', (hs.2 b (Nat.ne_of_lt (Nat.lt_of_lt_of_le (Heap.lt_size e) I.ok.above))).trans e1⟩
    · by_cases hj : j = i
      · subst hj
        rw [hi] at e1; cases e1
        rw [List.getElem?_set_self hiσ] at e2
        cases e2
        exact ⟨u, r, .inl ⟨hk, by simp⟩⟩
      · rw [List.getElem?_set_ne (Ne.symm hj)] at e2
        obtain ⟨u', r', q⟩ := hl j y v' e1 e2 e3
        refine ⟨u', r', ?_⟩
        rcases q with ⟨k, e⟩ | ⟨k, c, e, z⟩
        · refine .inl ⟨k, ?_⟩
          have : y ≠ x := fun e => hj (nodup_ix hN e1 (e ▸ hi))
          simp [this, e]
        · exact .inr ⟨k, c, e, z.sameBut hs (cne y c e)⟩
    · obtain ⟨w', z⟩ := I.cell y c e
      exact ⟨w', z.sameBut hs (cne y c e)⟩
    · obtain ⟨e, n, ne, nf, d⟩ := I.pin p hp
      exact ⟨(hs.2 p.1 ne).trans e, n, ne, nf, d⟩
  · have hfn : X.fn x = true := by
      rcases hf with z | z
      · exact z
      · rw [z] at hk; cases hk
    obtain ⟨c, hc⟩ := I.ok.has x (.inl hk)
    obtain ⟨w', z⟩ := I.cell x c hc
    refine wpAny_storeName_cell I.ok.kind hk hc z (fun h' hc' hs => ?_)
    obtain ⟨oc, hoc, hocd⟩ := id z
    refine h { s with heap := h' } ⟨I.ok, I.os, I.bare, ⟨fun b o e n hb hx => ?_, fun b o e n hb hx => ?_, I.base.free, fun b o e hx => ?_, I.base.tups, I.base.frzs, I.base.tbls⟩, ⟨m, hn.sameBut hs (Ne.symm (cne x c hc)), fun j y v' e1 e2 e3 => ?_⟩, fun y c' e => ?_, I.free, I.freeC, fun p hp => ?_, tracked ⟨oc, hoc, I.freeC x c hc⟩ hs, by simpa using I.len⟩ ⟨c, hs, .inr hc⟩
    · exact (hs.2 b (Nat.ne_of_lt (Nat.lt_of_lt_of_le (Heap.lt_size e) (I.ok.cab x c hfn hc)))).trans (I.base.keep b o e n hb hx)
    · obtain ⟨sl, e1⟩ := I.base.slot b o e n hb hx
      exact ⟨sl, (hs.2 b (Nat.ne_of_lt (Nat.lt_of_lt_of_le (Heap.lt_size e) (I.ok.cab x c hfn hc)))).trans e1⟩
    · obtain ⟨o', e1⟩ := I.base.there b o e hx
      exact ⟨o', (hs.2 b (Nat.ne_of_lt (Nat.lt_of_lt_of_le (Heap.lt_size e) (I.ok.cab x c hfn hc)))).trans e1⟩
    · by_cases hj : j = i
      · subst hj
        rw [hi] at e1; cases e1
        rw [List.getElem?_set_self hiσ] at e2
        cases e2
        exact ⟨u, r, .inr ⟨.inl hk, c, hc, hc'⟩⟩
      · rw [List.getElem?_set_ne (Ne.symm hj)] at e2
        obtain ⟨u', r', q⟩ := hl j y v' e1 e2 e3
        refine ⟨u', r', ?_⟩
        rcases q with q | ⟨k, c', e, z'⟩
        · exact .inl q
        · refine .inr ⟨k, c', e, z'.sameBut hs ?_⟩
          rintro rfl
          exact hj (nodup_ix hN e1 (I.ok.inj _ _ _ e hc ▸ hi))
    · by_cases hcc : c' = c
      · subst hcc; exact ⟨_, hc'⟩
      · obtain ⟨w2, z2⟩ := I.cell y c' e
        exact ⟨w2, z2.sameBut hs hcc⟩
    · obtain ⟨e, n, ne, nf, d⟩ := I.pin p hp
      refine ⟨(hs.2 p.1 ?_).trans e, n, ne, nf, d⟩
      intro q
      rw [q, hoc] at e
      have q' : oc = p.2 := Option.some.inj e
      exact d w' (by rw [← q']; exact hocd)
theorem store_ok {M : Model} {A : Around} {E : Value → Shared → Prop} {i : Nat} {x : Str} {v : V} {u : Value} {Q : Unit → Shared → Prop} (I : Inv X pins σ H s) (hN : X.N.Nodup) (hi : X.N[i]? = some x) (hx : Loc X.env.scope x) (r : RelV v u)
    (h : ∀ s', Inv X pins (σ.set i (some v)) H s' → Q () s') (hf : X.fn x = true ∨ X.env.scope.names.lookup x = some .local := by first | exact .inl rfl | exact .inr rfl | assumption) : wpAny M A (storeName X.env x u) Q E s :=
  store_ok2 I hN hi hx r (fun s' I' _ => h s' I') hf
theorem Inv.call' {s' : Shared} {ch : List Addr} (I : Inv X pins σ H s) (ho : s'.os = s.os) (u : Un (frs X.stack) ch H H' s.heap s'.heap) (hok : HOk X.prog X.w H' s'.heap) (hg : AllBare s'.gens)
    (hch : ∀ b ∈ ch, (b ∈ X.ex ∨ X.s₀.heap.objs.size ≤ b) ∧ b ≠ X.env.locals ∧ (∀ x c, X.env.cells.lookup x = some c → c ≠ b) ∧ ∀ p ∈ X.pn ++ pins, p.1 ≠ b) : Inv X pins σ H' s' := by
  obtain ⟨h', g', d', t', o'⟩ := s'
  have e : o' = s.os := ho
  subst e
  exact I.call (g' := g') (t' := t') (d' := d') u hok hg hch
end

abbrev XK := Value → Option Addr → Hp → Prop
abbrev St := List (Option V)
abbrev VK := V → Hp → Prop
abbrev TE := St → Hp → VK → Prop
abbrev TT := St → Hp → (Bool → Hp → Prop) → Prop
abbrev TA := St → Hp → (List V → Hp → Prop) → Prop
structure Ends where
  nx : St → Hp → Prop
  rt : VK
  bk : St → Hp → Prop := fun _ _ => False
  ct : St → Hp → Prop := fun _ _ => False
abbrev TS := Ends → St → Hp → Prop

def EP (X : Cx) (pins : List (Addr × Obj)) (σ : St) (Q : VK) (u : Value) (s' : Shared) : Prop := ∃ v H', Inv X pins σ H' s' ∧ RelV v u ∧ Q v H'
def TP (X : Cx) (pins : List (Addr × Obj)) (σ : St) (Q : Bool → Hp → Prop) (b : Bool) (s' : Shared) : Prop := ∃ H', Inv X pins σ H' s' ∧ Q b H'
def AP (X : Cx) (pins : List (Addr × Obj)) (σ : St) (Q : List V → Hp → Prop) (us : List Value) (s' : Shared) : Prop := ∃ vs H', Inv X pins σ H' s' ∧ Vals vs us ∧ Q vs H'
def SP (X : Cx) (pins : List (Addr × Obj)) (D : Ends) (f : Flow) (s' : Shared) : Prop :=
  match f with
  | .next => ∃ σ' H', Inv X pins σ' H' s' ∧ D.nx σ' H'
  | .brk => ∃ σ' H', Inv X pins σ' H' s' ∧ D.bk σ' H'
  | .cont => ∃ σ' H', Inv X pins σ' H' s' ∧ D.ct σ' H'
  | .ret u => ∃ v σ' H', Inv X pins σ' H' s' ∧ RelV v u ∧ D.rt v H'

def PE (X : Cx) (e : Expr) (t : TE) : Prop :=
  ∀ (pins : List (Addr × Obj)) (s : Shared) (σ : St) (H : Hp) (Q : VK), Inv X pins σ H s → t σ H Q → wpAny (model X.prog X.w) X.A (eval e X.env) (EP X pins σ Q) X.xe s
def PT (X : Cx) (e : Expr) (t : TT) : Prop :=
  ∀ (pins : List (Addr × Obj)) (s : Shared) (σ : St) (H : Hp) (Q : Bool → Hp → Prop), Inv X pins σ H s → t σ H Q → wpAny (model X.prog X.w) X.A (isTrue e X.env (eval e X.env)) (TP X pins σ Q) X.xe s
def PW (X : Cx) (e : Expr) (t : TT) : Prop :=
  ∀ (whole : Sem Value) (pins : List (Addr × Obj)) (s : Shared) (σ : St) (H : Hp) (Q : Bool → Hp → Prop), Inv X pins σ H s → t σ H Q → wpAny (model X.prog X.w) X.A (isTrue e X.env whole) (TP X pins σ Q) X.xe s
theorem PW.pt {X : Cx} {e : Expr} {t : TT} (h : PW X e t) : PT X e t := h _
def PA (X : Cx) (es : List Expr) (t : TA) : Prop :=
  ∀ (pos : Pos) (pins : List (Addr × Obj)) (s : Shared) (σ : St) (H : Hp) (Q : List V → Hp → Prop), Inv X pins σ H s → t σ H Q → wpAny (model X.prog X.w) X.A (spliced (backTo pos (starEach es X.env))) (AP X pins σ Q) X.xe s
def PS (X : Cx) (st : Stmt) (t : TS) : Prop :=
  ∀ (pins : List (Addr × Obj)) (s : Shared) (σ : St) (H : Hp) (D : Ends), Inv X pins σ H s → t D σ H → wpAny (model X.prog X.w) X.A (exec st X.env) (SP X pins D) X.xe s
def PSs (X : Cx) (st : List Stmt) (t : TS) : Prop :=
  ∀ (pins : List (Addr × Obj)) (s : Shared) (σ : St) (H : Hp) (D : Ends), Inv X pins σ H s → t D σ H → wpAny (model X.prog X.w) X.A (execs st X.env) (SP X pins D) X.xe s
theorem thn {α : Type} {t : Sem α} {Q Q' : α → Shared → Prop} {M : Model} {A : Around} {E : Value → Shared → Prop} {s : Shared} (h : wpAny M A t Q E s) (hQ : ∀ a s, Q a s → Q' a s) : wpAny M A t Q' E s := wpAny_mono h hQ fun _ _ x => x
end L2

namespace L2
open PySem PySem.Spec PyProof.Rows
section
variable {X : Cx}


def tVar (i : Nat) : TE := fun σ H Q => ∃ v, σ[i]? = some (some v) ∧ Q v H
def tC (v : V) : TE := fun _ H Q => Q v H
theorem pe_var {i : Nat} {x : Str} {pos : Pos} (hN : X.N[i]? = some x) (hv : Vis X.env.scope x) (hd : (x == ("__debug__" : Str)) = false := by decide) (hcd : (x == ("__classdict__" : Str)) = false := by decide) : PE X (.Name x pos) (tVar i) := by
  intro pins s σ H Q I h
  obtain ⟨v, e, h⟩ := h
  obtain ⟨m, hn, hl⟩ := I.loc
  obtain ⟨u, r, l⟩ := hl i x v hN e hv
  have fin : EP X pins σ Q u s := ⟨v, H, I, r, h⟩
  rcases l with ⟨hk, hm⟩ | ⟨hk, c, hc, hcell⟩
  · exact wpAny_Name (wpAny_loadName_local I.ok.kind hk hn hm fin) hd
  · rcases hk with hk | hk
    · exact wpAny_Name (wpAny_loadName_cell I.ok.kind hk hc hcell fin) hd
    · exact wpAny_Name (wpAny_loadName_free I.ok.kind hk hc hcell fin hcd) hd
theorem pe_int {i j pos} : PE X (.Constant (.int i) j pos) (tC (.int i)) := fun _ _ _ H _ I h => wpAny_Constant_int ⟨.int i, H, I.tok _, ⟨_, rfl⟩, h⟩
theorem pe_bl {b j pos} : PE X (.Constant (.bool b) j pos) (tC (.bl b)) := fun _ _ _ H _ I h => Constant_bool ⟨.bl b, H, I, rfl, h⟩
theorem pe_non {j pos} : PE X (.Constant .none j pos) (tC .non) := fun _ _ _ H _ I h => Constant_none ⟨.non, H, I, rfl, h⟩
theorem pe_str {x j pos} : PE X (.Constant (.str x) j pos) (tC (.str x)) := fun _ _ _ H _ I h => Calls.Constant_str ⟨.str x, H, I.tok _, ⟨_, rfl⟩, h⟩

def Gl (X : Cx) (x : Str) : Prop := X.env.kindOf x = some .globalImplicit
theorem ld_glob {E : Value → Shared → Prop} {pins : List (Addr × Obj)} {s : Shared} {σ : St} {H : Hp} {x : Str} {u : Value} {pos : Pos} {Q : Value → Shared → Prop} (I : Inv X pins σ H s) (hg : Gl X x) (hm : X.mg x = some u) (h : Q u s)
    (hd : (x == ("__debug__" : Str)) = false := by decide) : wpAny (model X.prog X.w) X.A (eval (.Name x pos) X.env) Q E s :=
  Calls.Name_function_global I.ok.kind hg (Calls.loadGlobal_global (by rw [I.ok.glob]; exact I.mod.glob.keeps I.bk) hm h) hd
theorem ld_blt {E : Value → Shared → Prop} {pins : List (Addr × Obj)} {s : Shared} {σ : St} {H : Hp} {x : Str} {u : Value} {pos : Pos} {Q : Value → Shared → Prop} (I : Inv X pins σ H s) (hg : Gl X x) (hm : X.mg x = none) (hv : bootBuiltins x = some u) (h : Q u s)
    (hn : x ≠ "__name__" := by decide) (hd : (x == ("__debug__" : Str)) = false := by decide) : wpAny (model X.prog X.w) X.A (eval (.Name x pos) X.env) Q E s := by
  obtain ⟨mb, h1, h2⟩ := I.mod.blt
  exact Calls.Name_function_global I.ok.kind hg (Calls.loadGlobal_builtin (by rw [I.ok.glob]; exact I.mod.glob.keeps I.bk) hm (by rw [I.ok.blt]; exact h1.keeps I.bk) ((h2 x hn).trans hv) h) hd
theorem pe_glob {x : Str} {v : V} {u : Value} {pos : Pos} (hg : Gl X x) (hm : X.mg x = some u) (r : RelV v u) (hd : (x == ("__debug__" : Str)) = false := by decide) : PE X (.Name x pos) (tC v) :=
  fun _ _ _ H _ I h => ld_glob I hg hm ⟨v, H, I, r, h⟩ hd
theorem pe_bltn {x : Str} {v : V} {u : Value} {pos : Pos} (hg : Gl X x) (hm : X.mg x = none) (hv : bootBuiltins x = some u) (r : RelV v u) (hn : x ≠ "__name__" := by decide) (hd : (x == ("__debug__" : Str)) = false := by decide) : PE X (.Name x pos) (tC v) :=
  fun _ _ _ H _ I h => ld_blt I hg hm hv ⟨v, H, I, r, h⟩ hn hd

def t2I (ta tb : TE) (k : Int → Int → Hp → Prop) : St → Hp → Prop := fun σ H => ta σ H fun x H1 => tb σ H1 fun y H2 => ∃ i j, x = .int i ∧ y = .int j ∧ k i j H2
def tAdd (ta tb : TE) : TE := fun σ H Q => t2I ta tb (fun i j H2 => Q (.int (i + j)) H2) σ H
def tSub (ta tb : TE) : TE := fun σ H Q => t2I ta tb (fun i j H2 => Q (.int (i - j)) H2) σ H
def tMul (ta tb : TE) : TE := fun σ H Q => t2I ta tb (fun i j H2 => (-(2 ^ 64) < i ∧ i < 2 ^ 64) ∧ Q (.int (i * j)) H2) σ H
variable {a b : Expr} {ta tb : TE} {pos : Pos}

def PC (X : Cx) (op : CmpOp) (a b : Expr) (t : TE) : Prop :=
  ∀ (pins : List (Addr × Obj)) (s : Shared) (σ : St) (H : Hp) (Q : VK), Inv X pins σ H s → t σ H Q →
    wpAny (model X.prog X.w) X.A (eval a X.env) (fun v s₁ => wpAny (model X.prog X.w) X.A (eval b X.env) (fun u s₂ => wpAny (model X.prog X.w) X.A (compareOp op v u) (EP X pins σ Q) X.xe s₂) X.xe s₁) X.xe s
theorem nobehind (b : Expr) {op : CmpOp} (h : op ≠ .In) (h2 : op ≠ .NotIn) : behindInMarks op b = false := by
  have e1 : (op == CmpOp.In) = false := by cases op <;> first | rfl | exact absurd rfl h
  have e2 : (op == CmpOp.NotIn) = false := by cases op <;> first | rfl | exact absurd rfl h2
  cases b <;> simp [behindInMarks, e1, e2]
def tCmp (p : Int → Int → Bool) (ta tb : TE) : TE := fun σ H Q => t2I ta tb (fun i j H2 => Q (.bl (p i j)) H2) σ H
abbrev tLt : TE → TE → TE := tCmp fun i j => decide (i < j)
abbrev tLe : TE → TE → TE := tCmp fun i j => decide (i ≤ j)
abbrev tGt : TE → TE → TE := tCmp fun i j => decide (j < i)
abbrev tGe : TE → TE → TE := tCmp fun i j => decide (j ≤ i)
abbrev tEqI : TE → TE → TE := tCmp fun i j => decide (i = j)
abbrev tNeI : TE → TE → TE := tCmp fun i j => !decide (i = j)
def tIsN (ta : TE) : TE := fun σ H Q => ta σ H fun x H1 => Q (.bl (decide (x = .non))) H1
def tNotN (ta : TE) : TE := fun σ H Q => ta σ H fun x H1 => Q (.bl (!decide (x = .non))) H1
theorem RelV.none_iff {x : V} {v : Value} (r : RelV x v) : (v == Value.none) = decide (x = .non) := by
  cases x with
  | non => cases r; rfl
  | bl _ => cases r; rfl
  | int _ => obtain ⟨t, rfl⟩ := r; rfl
  | str _ => obtain ⟨t, rfl⟩ := r; rfl
  | byt _ => obtain ⟨t, rfl⟩ := r; rfl
  | flt _ => obtain ⟨t, rfl⟩ := r; rfl
  | ref _ => cases r; rfl
  | ty _ => cases r; rfl
theorem pc_isN {j pos'} (ha : PE X a ta) : PC X .Is a (.Constant .none j pos') (tIsN ta) := by
  intro pins s σ H Q I h
  refine thn (ha pins s σ H _ I h) fun v s1 ⟨x, H1, I1, r1, q1⟩ => ?_
  exact Constant_none (is_none_gen ⟨.bl _, H1, I1, by rw [r1.none_iff]; rfl, q1⟩)
theorem pc_notN {j pos'} (ha : PE X a ta) : PC X .IsNot a (.Constant .none j pos') (tNotN ta) := by
  intro pins s σ H Q I h
  refine thn (ha pins s σ H _ I h) fun v s1 ⟨x, H1, I1, r1, q1⟩ => ?_
  exact Constant_none (isnot_none_gen ⟨.bl _, H1, I1, by rw [r1.none_iff]; rfl, q1⟩)
def tB (t : TE) : TT := fun σ H Q => t σ H fun x H1 => ∃ c, x = .bl c ∧ Q c H1
theorem pt_cmp {op : CmpOp} {t : TE} (h : PC X op a b t) (h1 : behindInMarks op b = false := by first | exact nobehind _ (by decide) (by decide) | rfl) : PT X (.Compare a [op] [b] pos) (tB t) := by
  intro pins s σ H Q I hw
  refine wpAny_isTrue_Compare1 (thn (h pins s σ H _ I hw) fun v s1 h1 => thn h1 fun u s2 h2 => thn h2 fun c s3 ⟨x, H1, I1, r1, q1⟩ => ?_) h1
  obtain ⟨d, rfl, q⟩ := q1
  cases r1
  exact wpAny_truthy_bool ⟨H1, I1, q⟩
theorem pt_val {e : Expr} {t : TE} (h : PE X e t) (he : ∀ whole, isTrue e X.env whole = (do let v ← whole; standAt e.pos; holding [v] (truthy v)) := by intro _; rfl) : PT X e (tB t) := by
  intro pins s σ H Q I hw
  refine isTrue_plain (thn (h pins s σ H _ I hw) fun v s1 ⟨x, H1, I1, r1, q1⟩ => ?_) (he _)
  obtain ⟨d, rfl, q⟩ := q1
  cases r1
  exact wpAny_truthy_bool ⟨H1, I1, q⟩

variable {tA tB' : TT} {rest : List Expr}
def tAnd (t u : TT) : TT := fun σ H Q => t σ H fun c H1 => if c = true then u σ H1 Q else Q false H1
def tOr (t u : TT) : TT := fun σ H Q => t σ H fun c H1 => if c = true then Q true H1 else u σ H1 Q
def tNot (t : TT) : TT := fun σ H Q => t σ H fun c H1 => Q (!c) H1
theorem pw_and1 (ha : PT X a tA) : PW X (.BoolOp .And [a] pos) tA := by
  intro wh pins s σ H Q I h
  refine isTrue_and (thn (ha pins s σ H Q I h) fun c s1 e => ?_)
  cases c with
  | true => exact isTrue_and_nil e
  | false => exact e
theorem pw_or1 (ha : PT X a tA) : PW X (.BoolOp .Or [a] pos) tA := by
  intro wh pins s σ H Q I h
  refine isTrue_or (thn (ha pins s σ H Q I h) fun c s1 e => ?_)
  cases c with
  | false => exact isTrue_or_nil e
  | true => exact e
theorem pw_and (ha : PT X a tA) (hb : PW X (.BoolOp .And (b :: rest) pos) tB') : PW X (.BoolOp .And (a :: b :: rest) pos) (tAnd tA tB') := by
  intro wh pins s σ H Q I h
  refine isTrue_and (thn (ha pins s σ H _ I h) fun c s1 ⟨H1, I1, q1⟩ => ?_)
  cases c with
  | true => exact hb wh pins s1 σ H1 Q I1 q1
  | false => exact ⟨H1, I1, q1⟩
theorem pw_or (ha : PT X a tA) (hb : PW X (.BoolOp .Or (b :: rest) pos) tB') : PW X (.BoolOp .Or (a :: b :: rest) pos) (tOr tA tB') := by
  intro wh pins s σ H Q I h
  refine isTrue_or (thn (ha pins s σ H _ I h) fun c s1 ⟨H1, I1, q1⟩ => ?_)
  cases c with
  | true => exact ⟨H1, I1, q1⟩
  | false => exact hb wh pins s1 σ H1 Q I1 q1
theorem pt_not (ha : PT X a tA) : PT X (.UnaryOp .Not a pos) (tNot tA) := by
  intro pins s σ H Q I h
  exact isTrue_not (ha pins s σ H (fun c H1 => Q (!c) H1) I h)
def tAndV (ta tb : TE) : TE := fun σ H Q => ta σ H fun x H1 => ∃ c, x = .bl c ∧ if c = true then tb σ H1 Q else Q (.bl false) H1
def tOrV (ta tb : TE) : TE := fun σ H Q => ta σ H fun x H1 => ∃ c, x = .bl c ∧ if c = true then Q (.bl true) H1 else tb σ H1 Q
def tNotV (ta : TE) : TE := fun σ H Q => ta σ H fun x H1 => ∃ c, x = .bl c ∧ Q (.bl (!c)) H1
theorem pe_one {op} {t : TE} (h : PE X a t) : PE X (.BoolOp op [a] pos) t := fun pins s σ H Q I hw => BoolOp_one (h pins s σ H Q I hw)
theorem pe_and (ha : PE X a ta) (hb : PE X (.BoolOp .And (b :: rest) pos) tb) : PE X (.BoolOp .And (a :: b :: rest) pos) (tAndV ta tb) := by
  intro pins s σ H Q I h
  refine BoolOp_and (thn (ha pins s σ H _ I h) fun v s1 ⟨x, H1, I1, r1, q1⟩ => ?_)
  obtain ⟨c, rfl, q1⟩ := q1
  cases r1
  refine wpAny_truthy_bool ?_
  cases c with
  | true => exact hb pins s1 σ H1 Q I1 q1
  | false => exact ⟨.bl false, H1, I1, rfl, q1⟩
theorem pe_not (ha : PE X a ta) : PE X (.UnaryOp .Not a pos) (tNotV ta) := by
  intro pins s σ H Q I h
  refine UnaryOp_ (thn (ha pins s σ H _ I h) fun v s1 ⟨x, H1, I1, r1, q1⟩ => ?_)
  obtain ⟨c, rfl, q1⟩ := q1
  cases r1
  exact not_of (wpAny_truthy_bool ⟨.bl (!c), H1, I1, rfl, q1⟩)
def tIf (t : TT) (ta tb : TE) : TE := fun σ H Q => t σ H fun c H1 => if c = true then ta σ H1 Q else tb σ H1 Q
theorem pe_ifExp {c : Expr} (hc : PT X c tA) (ha : PE X a ta) (hb : PE X b tb) : PE X (.IfExp c a b pos) (tIf tA ta tb) := by
  intro pins s σ H Q I h
  refine wpAny_IfExp (thn (hc pins s σ H _ I h) fun d s1 ⟨H1, I1, q1⟩ => ?_)
  cases d with
  | true => exact ha pins s1 σ H1 Q I1 q1
  | false => exact hb pins s1 σ H1 Q I1 q1
end
end L2

namespace L2
open PySem PySem.Spec PyProof.Rows

def SqL (K : PySem.W.Frag) (H : Hp) (a : Addr) (xs : List V) : Prop :=
  Rd H a (.lst xs) ∨
    ∃ (o : Obj) (its : Array Value) (n : Nat), K.lookup a = some o ∧ o.cls = .type "list" ∧ o.dict = none ∧ o.data = .seq its n ∧ its.size ≤ sizeLine ∧ Vals xs its.toList
def SqT (K : PySem.W.Frag) (H : Hp) (a : Addr) (xs : List V) : Prop :=
  Rd H a (.tup xs) ∨
    ∃ (o : Obj) (its : Array Value) (n : Nat), K.lookup a = some o ∧ o.cls = .type "tuple" ∧ o.data = .seq its n ∧ its.size ≤ sizeLine ∧ Vals xs its.toList
def absV : Value → Option V
  | .none => some .non
  | .bool b => some (.bl b)
  | .int i _ => some (.int i)
  | .str x _ => some (.str x)
  | .bytes b _ => some (.byt b)
  | .float b _ => some (.flt b)
  | .ref a => some (.ref a)
  | .type n => some (.ty n)
  | _ => none
theorem RelV.abs {x : V} {u : Value} (r : RelV x u) : absV u = some x := by
  cases x with
  | non => cases r; rfl
  | bl _ => cases r; rfl
  | int _ => obtain ⟨t, rfl⟩ := r; rfl
  | str _ => obtain ⟨t, rfl⟩ := r; rfl
  | byt _ => obtain ⟨t, rfl⟩ := r; rfl
  | flt _ => obtain ⟨t, rfl⟩ := r; rfl
  | ref _ => cases r; rfl
  | ty _ => cases r; rfl
theorem RelV.inj {x y : V} {u : Value} (r : RelV x u) (q : RelV y u) : x = y := Option.some.inj (r.abs.symm.trans q.abs)
theorem Vals.inj : ∀ {xs ys : List V} {us : List Value}, Vals xs us → Vals ys us → xs = ys
  | _, _, _, .nil, .nil => rfl
  | _, _, _, .cons r t, .cons r' t' => by rw [r.inj r', Vals.inj t t']
section
variable {X : Cx} {pins : List (Addr × Obj)} {σ : St} {H : Hp} {s : Shared} {a : Addr} {xs ys : List V}
theorem SqL.of {K : PySem.W.Frag} (h : H a = some (.lst xs)) : SqL K H a xs := .inl (.inl h)
theorem SqT.of {K : PySem.W.Frag} (h : H a = some (.tup xs)) : SqT K H a xs := .inl (.inl h)
theorem Inv.list (I : Inv X pins σ H s) (h : SqL X.K H a xs) : ∃ its : List Value, Vals xs its ∧ PlainL s.heap a its.toArray ∧ xs.length ≤ sizeLine := by
  rcases h with h | ⟨o, its, n, hk, hc, hd, hs, hz, r⟩
  · obtain ⟨z, its, n, r, e⟩ := h.ok I.hok
    exact ⟨its, r, ⟨_, n, e, rfl, rfl, rfl⟩, z⟩
  · refine ⟨its.toList, r, ⟨o, n, I.kIn a o hk, hc, hd, by simpa using hs⟩, ?_⟩
    have e := r.length
    simp only [Array.length_toList] at e
    omega
theorem Inv.tuple (I : Inv X pins σ H s) (h : SqT X.K H a xs) : ∃ its : List Value, Vals xs its ∧ IsTup s.heap a its.toArray ∧ xs.length ≤ sizeLine := by
  rcases h with h | ⟨o, its, n, hk, hc, hs, hz, r⟩
  · obtain ⟨z, its, r, p⟩ := h.ok I.hok
    exact ⟨its, r, p, z⟩
  · refine ⟨its.toList, r, ⟨o, I.kIn a o hk, hc, n, by simpa using hs⟩, ?_⟩
    have e := r.length
    simp only [Array.length_toList] at e
    omega
theorem Inv.list_inj (I : Inv X pins σ H s) (h : SqL X.K H a xs) (h' : SqL X.K H a ys) : xs = ys := by
  obtain ⟨its, r, ⟨o, n, e, _, _, d⟩, _⟩ := I.list h
  obtain ⟨its', r', ⟨o', n', e', _, _, d'⟩, _⟩ := I.list h'
  rw [e] at e'; cases e'
  rw [d] at d'
  injection d' with d1 _
  have : its = its' := by simpa using congrArg Array.toList d1
  subst this
  exact r.inj r'
end

abbrev Cx.wish (X : Cx) (E : Value → Shared → Prop) : Cx := { X with xe := E }
abbrev Cx.nox (X : Cx) : Cx := X.wish fun _ _ => False
theorem Cx.Ok.wish {X : Cx} (ok : X.Ok) (E : Value → Shared → Prop) : (X.wish E).Ok :=
  ⟨ok.mod, ok.kind, ok.glob, ok.blt, ok.above, ok.inj, ok.has, ok.cab, ok.hd, ok.frames, ok.stk, ok.exf, ok.bs, ok.bsz, ok.noex, ok.exfs, ok.funs, ok.frf⟩
theorem Cx.Ok.unwish {X : Cx} {E : Value → Shared → Prop} (ok : (X.wish E).Ok) : X.Ok :=
  ⟨ok.mod, ok.kind, ok.glob, ok.blt, ok.above, ok.inj, ok.has, ok.cab, ok.hd, ok.frames, ok.stk, ok.exf, ok.bs, ok.bsz, ok.noex, ok.exfs, ok.funs, ok.frf⟩
section
variable {X : Cx} {pins : List (Addr × Obj)} {σ : St} {H : Hp} {s : Shared} {E : Value → Shared → Prop}
theorem Inv.wish (I : Inv X pins σ H s) (E : Value → Shared → Prop) : Inv (X.wish E) pins σ H s := ⟨I.ok.wish E, I.os, I.bare, I.base, I.loc, I.cell, I.free, I.freeC, I.pin, I.hok, I.len⟩
theorem Inv.unwish (I : Inv (X.wish E) pins σ H s) : Inv X pins σ H s := ⟨I.ok.unwish, I.os, I.bare, I.base, I.loc, I.cell, I.free, I.freeC, I.pin, I.hok, I.len⟩
theorem SP.unwish {D : Ends} {f : Flow} {s' : Shared} (h : SP (X.wish E) pins D f s') : SP X pins D f s' := by
  cases f with
  | next => obtain ⟨σ', H', I, q⟩ := h; exact ⟨σ', H', I.unwish, q⟩
  | brk => obtain ⟨σ', H', I, q⟩ := h; exact ⟨σ', H', I.unwish, q⟩
  | cont => obtain ⟨σ', H', I, q⟩ := h; exact ⟨σ', H', I.unwish, q⟩
  | ret u => obtain ⟨v, σ', H', I, r, q⟩ := h; exact ⟨v, σ', H', I.unwish, r, q⟩
theorem PE.nox {e : Expr} {t : TE} (h : PE X.nox e t) : PE X e t := fun pins s σ H Q I hw =>
  wpAny_mono (h pins s σ H Q (I.wish _) hw) (fun _ _ ⟨v, H', I', r, q⟩ => ⟨v, H', I'.unwish, r, q⟩) fun _ _ z => False.elim z
theorem PT.nox {e : Expr} {t : TT} (h : PT X.nox e t) : PT X e t := fun pins s σ H Q I hw =>
  wpAny_mono (h pins s σ H Q (I.wish _) hw) (fun _ _ ⟨H', I', q⟩ => ⟨H', I'.unwish, q⟩) fun _ _ z => False.elim z
theorem PSs.nox {st : List Stmt} {t : TS} (h : PSs X.nox st t) : PSs X st t := fun pins s σ H D I hw =>
  wpAny_mono (h pins s σ H D (I.wish _) hw) (fun _ _ q => q.unwish) fun _ _ z => False.elim z
end

section
variable {X : Cx} {st : Stmt} {rest : List Stmt} {t u : TS} {e : Expr} {te : TE} {pos : Pos}
def tNext : TS := fun D σ H => D.nx σ H
def tSeq (t u : TS) : TS := fun D σ H => t { D with nx := u D } σ H
theorem pss_nil : PSs X [] tNext := fun _ _ σ H _ I h => wpAny_execs_nil ⟨σ, H, I, h⟩
theorem pss_cons (h1 : PS X st t) (h2 : PSs X rest u) : PSs X (st :: rest) (tSeq t u) := by
  intro pins s σ H D I h
  refine wpAny_execs_cons (thn (h1 pins s σ H { D with nx := u D } I h) fun f s1 q => ?_)
  cases f with
  | next =>
    obtain ⟨σ', H', I', q⟩ := q
    exact h2 pins s1 σ' H' D I' q
  | ret v => exact q
  | brk => exact q
  | cont => exact q
def tBreak : TS := fun D σ H => D.bk σ H
def tCont : TS := fun D σ H => D.ct σ H
theorem Inv.quiet {pins : List (Addr × Obj)} {σ : St} {H : Hp} {s : Shared} (I : Inv X pins σ H s) : interactive X.env = false := by simp [interactive, I.ok.kind]
def tDrop (te : TE) : TS := fun D σ H => te σ H fun _ H1 => D.nx σ H1
theorem ps_expr (he : PE X e te) (hs : swapsWith e none pos.line X.env = pure false := by rfl) : PS X (.Expr e pos) (tDrop te) := by
  intro pins s σ H D I h
  exact wpAny_Expr_any (thn (he pins s σ H _ I h) fun v s1 ⟨x, H1, I1, r1, q1⟩ => ⟨σ, H1, I1, q1⟩) I.quiet hs
def tRet (te : TE) : TS := fun D σ H => te σ H D.rt
theorem ps_ret (he : PE X e te) : PS X (.Return (some e) pos) (tRet te) := by
  intro pins s σ H D I h
  exact wpAny_Return_some (thn (he pins s σ H _ I h) fun v s1 ⟨x, H1, I1, r1, q1⟩ => ⟨x, σ, H1, I1, r1, q1⟩)
def tRetN : TS := fun D _ H => D.rt .non H
def tIfS (c : TT) (t u : TS) : TS := fun D σ H => c σ H fun b H1 => if b = true then t D σ H1 else u D σ H1
theorem ps_if {c : Expr} {a b : List Stmt} {tc : TT} (hc : PT X c tc) (ha : PSs X a t) (hb : PSs X b u) : PS X (.If c a b pos) (tIfS tc t u) := by
  intro pins s σ H D I h
  refine wpAny_If (thn (hc pins s σ H _ I h) fun d s1 ⟨H1, I1, q1⟩ => ?_)
  cases d with
  | true => exact ha pins s1 σ H1 D I1 q1
  | false => exact hb pins s1 σ H1 D I1 q1
def tNever : TS := fun _ _ _ => False
theorem pss_never {sts : List Stmt} : PSs X sts tNever := fun _ _ _ _ _ _ h => h.elim
end

abbrev TG := V → St → Hp → (St → Hp → Prop) → Prop
abbrev TGs := List V → St → Hp → (St → Hp → Prop) → Prop
def PG (X : Cx) (target : Expr) (t : TG) : Prop :=
  ∀ (pins : List (Addr × Obj)) (s : Shared) (σ : St) (H : Hp) (v : V) (u : Value) (Q : St → Hp → Prop), Inv X pins σ H s → RelV v u → t v σ H Q →
    wpAny (model X.prog X.w) X.A (assign target X.env u) (fun _ s' => ∃ σ' H', Inv X pins σ' H' s' ∧ Q σ' H') X.xe s
def PGs (X : Cx) (ts : List Expr) (t : TGs) : Prop :=
  ∀ (pins : List (Addr × Obj)) (s : Shared) (σ : St) (H : Hp) (vs : List V) (us : List Value) (Q : St → Hp → Prop), Inv X pins σ H s → Vals vs us → t vs σ H Q →
    wpAny (model X.prog X.w) X.A (assignInOrder ((assignEach ts X.env).map (·.2)) us) (fun _ s' => ∃ σ' H', Inv X pins σ' H' s' ∧ Q σ' H') X.xe s
abbrev TSet := V → V → V → Hp → (Hp → Prop) → Prop
def PSet (X : Cx) (t : TSet) : Prop :=
  ∀ (pins : List (Addr × Obj)) (s : Shared) (σ : St) (H : Hp) (o i v : V) (ov iv u : Value) (Q : Hp → Prop), Inv X pins σ H s → RelV o ov → RelV i iv → RelV v u → t o i v H Q →
    wpAny (model X.prog X.w) X.A (setItem ov iv u) (fun _ s' => ∃ H', Inv X pins σ H' s' ∧ Q H') X.xe s
abbrev TIp := V → V → Hp → VK → Prop
def PIp (X : Cx) (op : Operator) (t : TIp) : Prop :=
  ∀ (pins : List (Addr × Obj)) (s : Shared) (σ : St) (H : Hp) (x y : V) (v u : Value) (Q : VK), Inv X pins σ H s → RelV x v → RelV y u → t x y H Q →
    wpAny (model X.prog X.w) X.A (inplaceOp op v u) (EP X pins σ Q) X.xe s
section
variable {X : Cx} {pos : Pos}
def gName (i : Nat) : TG := fun v σ H Q => Q (σ.set i (some v)) H
theorem pg_name {i : Nat} {x : Str} (hN : X.N.Nodup) (hi : X.N[i]? = some x) (hx : Loc X.env.scope x) (hf : X.fn x = true ∨ X.env.scope.names.lookup x = some .local := by first | exact .inl rfl | exact .inr rfl | assumption) : PG X (.Name x pos) (gName i) := by
  intro pins s σ H v u Q I r h
  exact wpAny_assign_Name (store_ok I hN hi hx r (fun s' I' => ⟨_, H, I', h⟩) hf)
def gNil : TGs := fun vs σ H Q => vs = [] ∧ Q σ H
def gCons (t : TG) (u : TGs) : TGs := fun vs σ H Q => ∃ v r, vs = v :: r ∧ t v σ H fun σ' H' => u r σ' H' Q
theorem pgs_nil : PGs X [] gNil := by
  intro pins s σ H vs us Q I r h
  obtain ⟨e, h⟩ := h
  subst e
  cases r
  exact assignInOrder_nil ⟨σ, H, I, h⟩
theorem pgs_cons {e : Expr} {es : List Expr} {t : TG} {u : TGs} (h1 : PG X e t) (h2 : PGs X es u)
    (hs : (assignEach (e :: es) X.env).map (·.2) = assign e X.env :: (assignEach es X.env).map (·.2) := by rfl) : PGs X (e :: es) (gCons t u) := by
  intro pins s σ H vs us Q I r h
  obtain ⟨v, vr, e1, h⟩ := h
  subst e1
  cases r with
  | cons r rr =>
    rw [hs]
    refine assignInOrder_cons (thn (h1 pins s σ H _ _ _ I r h) fun _ s1 ⟨σ1, H1, I1, q1⟩ => ?_)
    exact h2 pins s1 σ1 H1 _ _ Q I1 rr q1
def gTup (K : PySem.W.Frag) (n : Nat) (t : TGs) : TG := fun v σ H Q => ∃ a xs, v = .ref a ∧ SqT K H a xs ∧ xs.length = n ∧ t xs σ H Q
theorem pg_tup {es : List Expr} {k : Nat} {t : TGs} {n : Nat} (hc : X.calm = true) (h : PGs X es t)
    (hn : (assignEach es X.env).length = n := by rfl) (hst : (assignEach es X.env).findIdx? (·.1) = none := by rfl) : PG X (.Tuple es k pos) (gTup X.K n t) := by
  intro pins s σ H v u Q I r hw
  obtain ⟨a, xs, e1, hq, hl, hw⟩ := hw
  subst e1
  cases r
  obtain ⟨its, rv, ht, hz⟩ := I.tuple hq
  refine assign_Tuple_tuple (I.ok.hd hc) ht (by simp [hn, ← hl, rv.length]) hst fun h' hx => ?_
  have I1 : Inv X pins σ H { s with heap := h' } := I.kept (t' := s.toks) fun b o e => hx b o (Nat.ne_of_lt (Heap.lt_size e)) e
  exact h pins _ σ H xs _ Q I1 (by simpa using rv) hw
def gSub (to ti : TE) (t : TSet) : TG := fun v σ H Q => to σ H fun o H1 => ti σ H1 fun i H2 => t o i v H2 fun H3 => Q σ H3
theorem pg_sub {o i : Expr} {to ti : TE} {t : TSet} (ho : PE X o to) (hi : PE X i ti) (hs : PSet X t)
    (ha : ∀ v, assign (.Subscript o i pos) X.env v = (do
      let ov ← holding [v] (eval o X.env)
      let iv ← holding [v, ov] (eval i X.env)
      standAt pos
      holding [v, ov, iv] (setItem ov iv v)
      release [v, ov, iv] []) := by intro _; rfl) : PG X (.Subscript o i pos) (gSub to ti t) := by
  intro pins s σ H v u Q I r h
  rw [ha]
  refine wpAny_bind (wpAny_holding (thn (ho pins s σ H _ I h) fun ov s1 ⟨x, H1, I1, r1, q1⟩ => ?_))
  refine wpAny_bind (wpAny_holding (thn (hi pins s1 σ H1 _ I1 q1) fun iv s2 ⟨y, H2, I2, r2, q2⟩ => ?_))
  refine wpAny_bind (wpAny_standAt (wpAny_bind (wpAny_holding (thn (hs pins s2 σ H2 x y v ov iv u _ I2 r1 r2 r q2) fun _ s3 ⟨H3, I3, q3⟩ => ?_))))
  exact wpAny_release ⟨σ, H3, I3, q3⟩
def tAsg (te : TE) (g : TG) : TS := fun D σ H => te σ H fun x H1 => g x σ H1 D.nx
theorem ps_asg {tg e : Expr} {te : TE} {g : TG} (he : PE X e te) (hg : PG X tg g) (hs : swapsWithSole [tg] e pos.line X.env = pure false := by rfl) (hw : swappedStores [tg] e X.env = pure none := by rfl)
    (h1 : (assignEach [tg] X.env).map (·.2) = [assign tg X.env] := by rfl) : PS X (.Assign [tg] e pos) (tAsg te g) := by
  intro pins s σ H D I h
  refine wpAny_Assign_stores (thn (he pins s σ H _ I h) fun v s1 ⟨x, H1, I1, r1, q1⟩ => ?_) hs hw
  rw [h1]
  exact thn (hg pins s1 σ H1 x v _ I1 r1 q1) fun _ s2 q => q
theorem ps_set {i : Nat} {x : Str} {e : Expr} {te : TE} {pos' : Pos} (hN : X.N.Nodup) (hi : X.N[i]? = some x) (hx : Loc X.env.scope x) (he : PE X e te) (hs : swapsWith e (some (.Name x pos')) pos.line X.env = pure false := by rfl) (hf : X.fn x = true ∨ X.env.scope.names.lookup x = some .local := by first | exact .inl rfl | exact .inr rfl | assumption) :
    PS X (.Assign [.Name x pos'] e pos) (tAsg te (gName i)) := by
  intro pins s σ H D I h
  refine wpAny_Assign_Name (thn (he pins s σ H _ I h) fun v s1 ⟨y, H1, I1, r1, q1⟩ => ?_) hs
  exact store_ok I1 hN hi hx r1 (fun s2 I2 => ⟨_, H1, I2, q1⟩) hf
def tPar (i j : Nat) (ta : TA) : TS := fun D σ H => ta σ H fun vs H1 => ∃ v w, vs = [v, w] ∧ D.nx ((σ.set i (some v)).set j (some w)) H1
def tAug (i : Nat) (te : TE) (ti : TIp) : TS := fun D σ H => ∃ x, σ[i]? = some (some x) ∧ te σ H fun y H1 => ti x y H1 fun z H2 => D.nx (σ.set i (some z)) H2
def tAugS (to ti te : TE) (tget : V → V → Hp → VK → Prop) (tip : TIp) (tset : TSet) : TS := fun D σ H => to σ H fun o H1 => ti σ H1 fun i H2 => tget o i H2 fun x H3 => te σ H3 fun y H4 => tip x y H4 fun z H5 => tset o i z H5 fun H6 => D.nx σ H6
def PGet (X : Cx) (t : V → V → Hp → VK → Prop) : Prop :=
  ∀ (pins : List (Addr × Obj)) (s : Shared) (σ : St) (H : Hp) (o i : V) (ov iv : Value) (Q : VK), Inv X pins σ H s → RelV o ov → RelV i iv → t o i H Q →
    wpAny (model X.prog X.w) X.A (getItem ov iv) (EP X pins σ Q) X.xe s
def ipI (f : Int → Int → Int) : TIp := fun x y H Q => ∃ i j, x = .int i ∧ y = .int j ∧ Q (.int (f i j)) H
end

section
variable {X : Cx} {pos : Pos}
def tWhile (c : TT) (tb : TS) : TS := fun D σ H => ∃ W : Nat → St → Hp → Prop, (∃ m, W m σ H) ∧ ∀ m σ H, W m σ H →
  c σ H fun b H1 => if b = true then ∃ N : St → Hp → Prop, (∀ σ' H', N σ' H' → ∃ m', m' < m ∧ W m' σ' H') ∧ tb { D with nx := N, ct := N, bk := D.nx } σ H1 else D.nx σ H1
theorem ps_while {c : Expr} {body : List Stmt} {tc : TT} {tb : TS} (hp : PassesOwn (model X.prog X.w) X.A X.env X.xe) (hc : PT X c tc) (hb : PSs X body tb) : PS X (.While c body [] pos) (tWhile tc tb) := by
  intro pins s σ H D I h
  obtain ⟨W, ⟨m0, w0⟩, turn⟩ := h
  refine wpAny_While (codeAny_whileLoop (fun n s' => ∃ σ' H', Inv X pins σ' H' s' ∧ W n σ' H') ?_ m0 ⟨σ, H, I, w0⟩)
  rintro n s1 ⟨σ1, H1, I1, w1⟩
  refine wpAny_passesOwn hp (thn (hc pins s1 σ1 H1 _ I1 (turn n σ1 H1 w1)) fun b s2 ⟨H2, I2, q2⟩ => ?_)
  cases b with
  | true =>
    obtain ⟨N, hN, q2⟩ := q2
    rw [if_pos rfl]
    refine wpAny_passesOwn hp (thn (hb pins s2 σ1 H2 _ I2 q2) fun f s3 q3 => ?_)
    cases f with
    | next =>
      obtain ⟨σ3, H3, I3, n3⟩ := q3
      obtain ⟨m', hm, w3⟩ := hN σ3 H3 n3
      exact ⟨m', hm, σ3, H3, I3, w3⟩
    | cont =>
      obtain ⟨σ3, H3, I3, n3⟩ := q3
      obtain ⟨m', hm, w3⟩ := hN σ3 H3 n3
      exact ⟨m', hm, σ3, H3, I3, w3⟩
    | brk => exact q3
    | ret v => exact q3
  | false =>
    rw [if_neg Bool.false_ne_true]
    exact wpAny_execs_nil ⟨σ1, H2, I2, q2⟩
end

structure It where
  go : Nat → Hp → Prop
  yld : Nat → Hp → V → Hp → Prop
  stop : Nat → Hp → Prop
def FpOk (X : Cx) (pins : List (Addr × Obj)) (H : Hp) (b : Addr) : Prop :=
  H b = none ∧ b ≠ X.env.locals ∧ b ∉ X.fs ∧ (b ∈ X.ex ∨ X.s₀.heap.objs.size ≤ b) ∧ (∀ x c, X.env.cells.lookup x = some c → c ≠ b) ∧ ∀ p ∈ X.pn ++ pins, p.1 ≠ b
theorem Inv.fpOk {X : Cx} {pins : List (Addr × Obj)} {σ : St} {H H' : Hp} {s : Shared} {b : Addr} (I : Inv X pins σ H s) (hb : s.heap.objs.size ≤ b) (hn : H' b = none) : FpOk X pins H' b := by
  refine ⟨hn, Nat.ne_of_gt (Nat.lt_of_lt_of_le I.lt hb), I.nofs hb, .inr (Nat.le_trans I.sz hb), fun x c e z => ?_, fun p hp z => ?_⟩
  · obtain ⟨v, q⟩ := I.cell x c e
    exact absurd (Nat.lt_of_lt_of_le q.lt (by rw [z]; exact hb)) (Nat.lt_irrefl _)
  · exact absurd (Nat.lt_of_lt_of_le (Heap.lt_size (I.pin p hp).1) (by rw [z]; exact hb)) (Nat.lt_irrefl _)
structure Turn (P : Program) (w : World) (K : PySem.W.Frag) (tg : Expr) (J : It) (fp : List Addr) (it : Addr) (tn : Nat → Heap → Prop) : Prop where
  mem : it ∈ fp
  obj : ∀ i h, tn i h → ∀ b ∈ fp, ∃ o, h.get? b = some o ∧ ∀ v, o.data ≠ .cell v
  keep : ∀ i h h', tn i h → (∀ b ∈ fp, ∀ o, h.get? b = some o → h'.get? b = some o) → tn i h'
  item : ∀ (X : Cx), X.prog = P → X.w = w → X.K = K → X.calm = true → ∀ (i : Nat) (pins : List (Addr × Obj)) (s : Shared) (σ : St) (H : Hp) (E : Value → Shared → Prop), Inv X pins σ H s → (∀ b ∈ fp, FpOk X pins H b) → tn i s.heap → J.go i H →
    wpAny (model P w) X.A (pyNext (.ref it)) (fun r s1 => ∃ u, r = some u ∧
      wpAny (model P w) X.A (letOwnedTupleGo tg (.ref it) u) (fun _ s2 => ∃ x H', Inv X pins σ H' s2 ∧ RelV x u ∧ J.yld i H x H' ∧ tn (i + 1) s2.heap ∧ ∀ b ∈ fp, H' b = none) E s1) E s
  done : ∀ (X : Cx), X.prog = P → X.w = w → X.K = K → X.calm = true → ∀ (i : Nat) (pins : List (Addr × Obj)) (s : Shared) (σ : St) (H : Hp) (E : Value → Shared → Prop), Inv X pins σ H s → (∀ b ∈ fp, FpOk X pins H b) → tn i s.heap → J.stop i H →
    wpAny (model P w) X.A (pyNext (.ref it)) (fun r s1 => r = none ∧ Inv X pins σ H s1) E s
  self : ∀ (A : Around) (i : Nat) (s : Shared) (Q : Value → Shared → Prop) (E : Value → Shared → Prop), tn i s.heap → Q (.ref it) s → wpAny (model P w) A (pyIter (.ref it)) Q E s
abbrev TI := St → Hp → (It → Hp → Prop) → Prop
def PIE (X : Cx) (pins : List (Addr × Obj)) (σ : St) (tg : Expr) (R : It → Hp → Prop) (itv : Value) (s2 : Shared) : Prop :=
  ∃ (it : Addr) (fp : List Addr) (tn : Nat → Heap → Prop) (J : It) (H' : Hp), itv = .ref it ∧ Inv X pins σ H' s2 ∧ Turn X.prog X.w X.K tg J fp it tn ∧ tn 0 s2.heap ∧ (∀ b ∈ fp, FpOk X pins H' b) ∧ R J H'
def PI (X : Cx) (tg iter : Expr) (wi : TI) : Prop :=
  ∀ (pins : List (Addr × Obj)) (s : Shared) (σ : St) (H : Hp) (R : It → Hp → Prop), Inv X pins σ H s → wi σ H R →
    wpAny (model X.prog X.w) X.A (eval iter X.env) (fun v s1 => wpAny (model X.prog X.w) X.A (pyIter v) (PIE X pins σ tg R) X.xe s1) X.xe s

theorem go_of {M : Model} {A : Around} {E : Value → Shared → Prop} {s : Shared} {tg : Expr} {it : Addr} {u : Value} {o : Obj} {n : String} {vs : Array Value} {Q : Unit → Shared → Prop} (ho : s.heap.get? it = some o) (hc : o.cls = .type n) (hd : o.data = .fields vs)
    (hn : ["enumerate", "zip", "dict_itemiterator", "dict_reverseitemiterator", "odict_iterator", "itertools.zip_longest", "itertools.pairwise"].contains n = false) (hQ : Q () s) : wpAny M A (letOwnedTupleGo tg (.ref it) u) Q E s := by
  unfold letOwnedTupleGo
  cases tg <;> first
    | exact wpAny_pure hQ
    | (cases u <;> first
        | exact wpAny_pure hQ
        | (refine wpAny_bind (wpAny_load ho ?_)
           rw [hc, hd]
           show wpAny M A (if (["enumerate", "zip", "dict_itemiterator", "dict_reverseitemiterator", "odict_iterator", "itertools.zip_longest", "itertools.pairwise"].contains n && vs[0]? == some (rawInt _)) = true then _ else _) Q E s
           rw [if_neg (by intro h; rw [hn, Bool.false_and] at h; cases h)]
           exact wpAny_pure hQ))

def Itl (K : PySem.W.Frag) (a : Addr) : It :=
  ⟨fun i H => ∃ xs x, SqL K H a xs ∧ xs[i]? = some x, fun i H x H' => H' = H ∧ ∀ xs, SqL K H a xs → xs[i]? = some x, fun i H => ∃ xs, SqL K H a xs ∧ xs.length ≤ i⟩
def Itt (K : PySem.W.Frag) (a : Addr) : It :=
  ⟨fun i H => ∃ xs x, SqT K H a xs ∧ xs[i]? = some x, fun i H x H' => H' = H ∧ ∀ xs, SqT K H a xs → xs[i]? = some x, fun i H => ∃ xs, SqT K H a xs ∧ xs.length ≤ i⟩
def Itr (lo : Int) (n : Nat) : It := ⟨fun i _ => i < n, fun i H x H' => H' = H ∧ x = .int (lo + i), fun i _ => n ≤ i⟩
theorem turn_list {P : Program} {w : World} {K : PySem.W.Frag} {tg : Expr} (a it : Addr) : Turn P w K tg (Itl K a) [it] it (fun i h => h.IsListIter it a i) where
  mem := by simp
  obj := fun i h st b hb => by
    have e : b = it := by simpa using hb
    subst e
    obtain ⟨o, e, c, d⟩ := st
    exact ⟨o, e, fun v z => by rw [d] at z; cases z⟩
  keep := fun i h h' st k => st.at fun o e => k it (by simp) o e
  item := by
    intro X hP hw hK hc i pins s σ H E I hf st hg
    subst hP hw hK
    obtain ⟨xs, x, hq, hx⟩ := hg
    obtain ⟨its, rv, p, hz⟩ := I.list hq
    obtain ⟨u, hu, ru⟩ := rv.get hx
    obtain ⟨f0, f1, f2, f3, f4, f5⟩ := hf it (by simp)
    refine wpAny_pyNext_list_item st p.isList (x := u) (by simpa using hu) fun h' st' sb => ?_
    have I1 : Inv X pins σ H { s with heap := h' } := I.turned (t' := s.toks) (fun b o hb e => (sb.2 b hb).trans e) f0 f1 f3 f4 f5
    obtain ⟨o, e, c, d⟩ := id st'
    exact ⟨u, rfl, go_of (s := { s with heap := h' }) e c d (by decide) ⟨x, H, I1, ru, ⟨rfl, fun ys hy => by rw [I.list_inj hy hq]; exact hx⟩, st', fun b hb => (hf b hb).1⟩⟩
  done := by
    intro X hP hw hK hc i pins s σ H E I hf st hg
    subst hP hw hK
    obtain ⟨xs, hq, hx⟩ := hg
    obtain ⟨its, rv, p, hz⟩ := I.list hq
    obtain ⟨f0, f1, f2, f3, f4, f5⟩ := hf it (by simp)
    have hl := rv.length
    exact wpAny_pyNext_list_end (I.ok.hd hc) st p.isList (by simp; omega) fun h' eb => ⟨rfl, I.turned (t' := s.toks) (fun b o hb e => eb b o hb e) f0 f1 f3 f4 f5⟩
  self := fun _ _ _ _ _ st h => wpAny_pyIter_listiter st h
theorem turn_range {P : Program} {w : World} {K : PySem.W.Frag} {tg : Expr} (it : Addr) (lo : Int) (n : Nat) : Turn P w K tg (Itr lo n) [it] it (fun i h => IsRangeIter h it (lo + (i : Nat) * 1) ((n : Int) - (i : Nat)) 1) where
  mem := by simp
  obj := fun i h st b hb => by
    have e : b = it := by simpa using hb
    subst e
    exact ⟨_, st, fun v z => by
      have z' : Data.fields _ = Data.cell v := z
      cases z'⟩
  keep := fun i h h' st k => k it (by simp) _ st
  item := by
    intro X hP hw hK hc i pins s σ H E I hf st hg
    subst hP hw hK
    obtain ⟨f0, f1, f2, f3, f4, f5⟩ := hf it (by simp)
    have W := Walks.range (prog := X.prog) (w := X.w) (I.ok.hd hc) it lo 1 n
    refine W.item i s _ _ hg st fun v h' tk hv st' kk => ?_
    obtain ⟨t, rfl⟩ := hv
    have I1 : Inv X pins σ H { s with heap := h', toks := tk } := I.turned (fun b o hb e => kk b o (by simpa using hb) e) f0 f1 f3 f4 f5
    refine ⟨_, rfl, go_of (s := { s with heap := h', toks := tk }) (n := "range_iterator") st' rfl rfl (by decide) ⟨.int (lo + i), H, I1, ⟨t, ?_⟩, ⟨rfl, rfl⟩, st', fun b hb => (hf b hb).1⟩⟩
    rw [Int.mul_one]
  done := by
    intro X hP hw hK hc i pins s σ H E I hf st hg
    subst hP hw hK
    obtain ⟨f0, f1, f2, f3, f4, f5⟩ := hf it (by simp)
    exact wpAny_pyNext_range_end (I.ok.hd hc) st (by have : n ≤ i := hg; omega) fun h' eb => ⟨rfl, I.turned (t' := s.toks) (fun b o hb e => eb b o hb e) f0 f1 f3 f4 f5⟩
  self := fun _ _ _ _ _ st h => wpAny_pyIter_rangeiter st h
end L2

namespace L2
open PySem PySem.Spec PyProof.Rows
section
variable {X : Cx} {tg : Expr}
def iList (K : PySem.W.Frag) (tl : TE) : TI := fun σ H R => tl σ H fun x H1 => ∃ a, x = .ref a ∧ (∃ xs, SqL K H1 a xs) ∧ R (Itl K a) H1
def iTup (K : PySem.W.Frag) (tl : TE) : TI := fun σ H R => tl σ H fun x H1 => ∃ a, x = .ref a ∧ (∃ xs, SqT K H1 a xs) ∧ R (Itt K a) H1
theorem pi_list {l : Expr} {tl : TE} (hl : PE X l tl) : PI X tg l (iList X.K tl) := by
  intro pins s σ H R I h
  refine thn (hl pins s σ H _ I h) fun v s1 ⟨x, H1, I1, r1, q1⟩ => ?_
  obtain ⟨a, e, ⟨xs, hq⟩, q⟩ := q1
  subst e
  cases r1
  obtain ⟨its, rv, p, hz⟩ := I1.list hq
  refine wpAny_pyIter_list p.isList ?_
  refine ⟨s1.heap.objs.size, [s1.heap.objs.size], _, _, H1, rfl, I1.kept (t' := s1.toks) fun b o e => Heap.get?_push_of_some _ e, turn_list a _, ⟨_, Heap.get?_push_size _ rfl, rfl, rfl⟩, fun b hb => ?_, q⟩
  have e : b = s1.heap.objs.size := by simpa using hb
  subst e
  exact I1.fpOk (Nat.le_refl _) (I1.hok.fresh (Nat.le_refl _))
theorem range_it {pins : List (Addr × Obj)} {σ : St} {H : Hp} {s : Shared} {R : It → Hp → Prop} {E : Value → Shared → Prop} {lo hi : Int} {t u v : Tok} {tk : Nat} (I : Inv X pins σ H s) (h1 : -(2 ^ 62) ≤ lo) (h2 : lo < 2 ^ 62) (h3 : -(2 ^ 62) ≤ hi) (h4 : hi < 2 ^ 62)
    (q : R (Itr lo (hi - lo).toNat) H) : wpAny (model X.prog X.w) X.A (pyIter (.ref s.heap.objs.size)) (PIE X pins σ tg R) E { s with heap := s.heap.push { cls := .type "range", data := .fields #[.int lo t, .int hi u, .int 1 v] }, toks := tk } := by
  refine wpAny_pyIter_range (IsRange.new ..) (small_one h1 h2 h3 h4) ?_
  have I1 : Inv X pins σ H { s with heap := s.heap.push { cls := .type "range", data := .fields #[.int lo t, .int hi u, .int 1 v] }, toks := tk } := I.kept fun b o e => Heap.get?_push_of_some _ e
  refine ⟨(s.heap.push { cls := .type "range", data := .fields #[.int lo t, .int hi u, .int 1 v] }).objs.size, [(s.heap.push { cls := .type "range", data := .fields #[.int lo t, .int hi u, .int 1 v] }).objs.size], _, _, H, rfl,
    I1.kept (t' := tk) fun b o e => Heap.get?_push_of_some _ e, turn_range _ lo (hi - lo).toNat, ?_, fun b hb => ?_, q⟩
  · have e1 : lo + ((0 : Nat) : Int) * 1 = lo := by simp
    have e2 : (((hi - lo).toNat : Nat) : Int) - ((0 : Nat) : Int) = Builtin.Range.rangeSize lo hi 1 := by rw [rangeSize_one]; split <;> omega
    show IsRangeIter _ _ (lo + ((0 : Nat) : Int) * 1) ((((hi - lo).toNat : Nat) : Int) - ((0 : Nat) : Int)) 1
    rw [e1, e2]
    exact Heap.get?_push_size _ rfl
  · have e : b = (s.heap.push { cls := .type "range", data := .fields #[.int lo t, .int hi u, .int 1 v] }).objs.size := by simpa using hb
    subst e
    exact I1.fpOk (Nat.le_refl _) (I1.hok.fresh (Nat.le_refl _))
def iRng1 (ta : TA) : TI := fun σ H R => ta σ H fun vs H1 => ∃ j : Int, vs = [.int j] ∧ -(2 ^ 62) ≤ j ∧ j < 2 ^ 62 ∧ R (Itr 0 j.toNat) H1
def iRng2 (ta : TA) : TI := fun σ H R => ta σ H fun vs H1 => ∃ i j : Int, vs = [.int i, .int j] ∧ (-(2 ^ 62) ≤ i ∧ i < 2 ^ 62 ∧ -(2 ^ 62) ≤ j ∧ j < 2 ^ 62) ∧ R (Itr i (j - i).toNat) H1
theorem pi_range1 {a : Expr} {ta : TA} {p pos : Pos} (hg : Gl X "range") (hm : X.mg "range" = none) (ha : PA X [a] ta) (hs : starEach [a] X.env = [(false, eval a X.env)] := by rfl) : PI X tg (.Call (.Name "range" p) [a] [] pos) (iRng1 ta) := by
  intro pins s σ H R I h
  refine Call_ (ld_blt I hg hm boot_range (PyProof.Rows.callWith_type1 (thn (ha pos pins s σ H _ I h) fun us s1 ⟨vs, H1, I1, r1, q1⟩ => ?_) hs rfl))
  obtain ⟨j, e, q1, q2, q⟩ := q1
  subst e
  cases r1 with
  | cons r rr =>
    cases rr
    obtain ⟨t, rfl⟩ := r
    exact call_range_1 (range_it I1 (by omega) (by omega) q1 q2 (by simpa using q))

def tFor (wi : TI) (g : TG) (tb : TS) : TS := fun D σ H => wi σ H fun J H1 => ∃ W : Nat → Nat → St → Hp → Prop, (∃ m, W 0 m σ H1) ∧ ∀ i m σ H, W i m σ H →
  (J.stop i H ∧ D.nx σ H) ∨ (J.go i H ∧ ∃ N : St → Hp → Prop, (∀ σ' H', N σ' H' → ∃ m', m' < m ∧ W (i + 1) m' σ' H') ∧ ∀ x H', J.yld i H x H' → g x σ H' fun σ2 H2 => tb { D with nx := N, ct := N, bk := D.nx } σ2 H2)
def pinsAt (fp : List Addr) (h : Heap) : List (Addr × Obj) := fp.filterMap fun b => (h.get? b).map fun o => (b, o)
theorem mem_pinsAt {fp : List Addr} {h : Heap} {b : Addr} {o : Obj} (hb : b ∈ fp) (e : h.get? b = some o) : (b, o) ∈ pinsAt fp h := List.mem_filterMap.mpr ⟨b, hb, by rw [e]; rfl⟩
theorem of_pinsAt {fp : List Addr} {h : Heap} {p : Addr × Obj} (hp : p ∈ pinsAt fp h) : p.1 ∈ fp ∧ h.get? p.1 = some p.2 := by
  obtain ⟨b, hb, e⟩ := List.mem_filterMap.mp hp
  cases q : h.get? b with
  | none => rw [q] at e; cases e
  | some o =>
    rw [q] at e
    have e' : (b, o) = p := Option.some.inj e
    subst e'
    exact ⟨hb, q⟩
theorem Inv.pinned {pins : List (Addr × Obj)} {σ : St} {H : Hp} {s : Shared} {fp : List Addr} (I : Inv X pins σ H s) (hf : ∀ b ∈ fp, FpOk X pins H b) (ho : ∀ b ∈ fp, ∃ o, s.heap.get? b = some o ∧ ∀ v, o.data ≠ .cell v) : Inv X (pins ++ pinsAt fp s.heap) σ H s :=
  I.pins_of fun p hp => (List.mem_append.mp hp).elim (fun z => I.pin p (List.mem_append_right _ z)) fun z => by
    obtain ⟨hb, e⟩ := of_pinsAt z
    obtain ⟨f0, f1, f2, _⟩ := hf p.1 hb
    obtain ⟨o, e', d⟩ := ho p.1 hb
    rw [e] at e'; cases e'
    exact ⟨e, f0, f1, f2, d⟩
theorem Inv.unpinned {pins pl : List (Addr × Obj)} {σ : St} {H : Hp} {s : Shared} (I : Inv X (pins ++ pl) σ H s) : Inv X pins σ H s := I.pins_of fun p hp => I.pin p (List.mem_append_right _ (List.mem_append_left _ hp))
theorem ps_for {iter : Expr} {body : List Stmt} {wi : TI} {g : TG} {tb : TS} {pos : Pos} (hp : PassesOwn (model X.prog X.w) X.A X.env X.xe) (hc : X.calm = true) (hi : PI X tg iter wi) (hg : PG X tg g) (hb : PSs X body tb)
    (hs : ∀ x, foldedSetIterable iter X.env x = pure x := by intro _; rfl) : PS X (.For tg iter body [] pos) (tFor wi g tb) := by
  intro pins s σ H D I h
  refine wpAny_For (thn (hi pins s σ H _ I h) fun v s1 h1 => thn h1 fun itv s2 h2 => ?_) hs
  obtain ⟨it, fp, tn, J, H2, e, I2, T, st2, f2, W, ⟨m0, w0⟩, turn⟩ := h2
  subst e
  -- what stays true of the iterator's objects through the loop
  have stat : ∀ {H' : Hp}, (∀ b ∈ fp, H' b = none) → ∀ b ∈ fp, FpOk X pins H' b := fun hn b hb => ⟨hn b hb, (f2 b hb).2⟩
  refine codeAny_forLoop_any (fun n s' => ∃ i σ' H', Inv X pins σ' H' s' ∧ tn i s'.heap ∧ (∀ b ∈ fp, H' b = none) ∧ W i n σ' H') ?_ m0 ⟨0, σ, H2, I2, st2, fun b hb => (f2 b hb).1, w0⟩
  rintro n s3 ⟨i, σ3, H3, I3, st3, fr3, w3⟩
  rcases turn i n σ3 H3 w3 with ⟨stop, qn⟩ | ⟨go, N, hN, step⟩
  · refine wpAny_passesOwn hp (thn (T.done X rfl rfl rfl hc i pins s3 σ3 H3 X.xe I3 (stat fr3) st3 stop) fun r s4 ⟨hr, I4⟩ => ?_)
    subst hr
    exact wpAny_execs_nil ⟨σ3, H3, I4, qn⟩
  · refine wpAny_passesOwn hp (thn (T.item X rfl rfl rfl hc i pins s3 σ3 H3 X.xe I3 (stat fr3) st3 go) fun r s4 ⟨u, hr, h4⟩ => ?_)
    subst hr
    refine wpAny_passesOwn hp (thn h4 fun _ s5 ⟨x, H5, I5, r5, y5, st5, fr5⟩ => ?_)
    have I5' := I5.pinned (stat fr5) (T.obj _ _ st5)
    refine wpAny_passesOwn hp (thn (hg _ s5 σ3 H5 x u _ I5' r5 (step x H5 y5)) fun _ s6 ⟨σ6, H6, I6, q6⟩ => ?_)
    refine wpAny_passesOwn hp (thn (hb _ s6 σ6 H6 _ I6 q6) fun f s7 q7 => ?_)
    have again : ∀ {σ7 : St} {H7 : Hp}, Inv X (pins ++ pinsAt fp s5.heap) σ7 H7 s7 → N σ7 H7 → ∃ m, m < n ∧ ∃ i σ' H', Inv X pins σ' H' s7 ∧ tn i s7.heap ∧ (∀ b ∈ fp, H' b = none) ∧ W i m σ' H' := fun {σ7 H7} I7 n7 => by
      obtain ⟨m', hm, w7⟩ := hN σ7 H7 n7
      refine ⟨m', hm, i + 1, σ7, H7, I7.unpinned, T.keep _ _ _ st5 fun b hb o e => (I7.pin (b, o) (List.mem_append_right _ (List.mem_append_right _ (mem_pinsAt hb e)))).1, fun b hb => ?_, w7⟩
      obtain ⟨o, e, d⟩ := T.obj _ _ st5 b hb
      exact (I7.pin (b, o) (List.mem_append_right _ (List.mem_append_right _ (mem_pinsAt hb e)))).2.1
    cases f with
    | next => obtain ⟨σ7, H7, I7, n7⟩ := q7; exact again I7 n7
    | cont => obtain ⟨σ7, H7, I7, n7⟩ := q7; exact again I7 n7
    | brk => obtain ⟨σ7, H7, I7, q7⟩ := q7; exact ⟨σ7, H7, I7.unpinned, q7⟩
    | ret v => obtain ⟨x7, σ7, H7, I7, r7, q7⟩ := q7; exact ⟨x7, σ7, H7, I7.unpinned, r7, q7⟩
end

theorem for_list {K : PySem.W.Frag} {a : Addr} {xs : List V} {g : TG} {tb : TS} {D : Ends} {σ : St} {H : Hp} (Pv : Nat → St → Hp → Prop) (h0 : Pv 0 σ H) (hl : ∀ i σ H, i ≤ xs.length → Pv i σ H → SqL K H a xs)
    (hs : ∀ i x σ H, xs[i]? = some x → Pv i σ H → g x σ H fun σ2 H2 => tb { D with nx := Pv (i + 1), ct := Pv (i + 1), bk := D.nx } σ2 H2) (hd : ∀ σ H, Pv xs.length σ H → D.nx σ H) :
    ∃ W : Nat → Nat → St → Hp → Prop, (∃ m, W 0 m σ H) ∧ ∀ i m σ H, W i m σ H →
      ((Itl K a).stop i H ∧ D.nx σ H) ∨ ((Itl K a).go i H ∧ ∃ N : St → Hp → Prop, (∀ σ' H', N σ' H' → ∃ m', m' < m ∧ W (i + 1) m' σ' H') ∧ ∀ x H', (Itl K a).yld i H x H' → g x σ H' fun σ2 H2 => tb { D with nx := N, ct := N, bk := D.nx } σ2 H2) := by
  refine ⟨fun i m σ H => m = xs.length - i ∧ i ≤ xs.length ∧ Pv i σ H, ⟨xs.length, by simp, Nat.zero_le _, h0⟩, ?_⟩
  rintro i m σ H ⟨rfl, hi, p⟩
  have q := hl i σ H hi p
  by_cases hlt : i < xs.length
  · refine .inr ⟨⟨xs, xs[i], q, by simp [hlt]⟩, Pv (i + 1), fun σ' H' p' => ⟨xs.length - (i + 1), by omega, rfl, hlt, p'⟩, fun x H' y => ?_⟩
    obtain ⟨e, y⟩ := y
    subst e
    exact hs i x σ _ (y xs q) p
  · have e : i = xs.length := by omega
    subst e
    exact .inl ⟨⟨xs, q, Nat.le_refl _⟩, hd σ H p⟩
theorem for_range {lo : Int} {n : Nat} {g : TG} {tb : TS} {D : Ends} {σ : St} {H : Hp} (Pv : Nat → St → Hp → Prop) (h0 : Pv 0 σ H)
    (hs : ∀ i σ H, i < n → Pv i σ H → g (.int (lo + i)) σ H fun σ2 H2 => tb { D with nx := Pv (i + 1), ct := Pv (i + 1), bk := D.nx } σ2 H2) (hd : ∀ σ H, Pv n σ H → D.nx σ H) :
    ∃ W : Nat → Nat → St → Hp → Prop, (∃ m, W 0 m σ H) ∧ ∀ i m σ H, W i m σ H →
      ((Itr lo n).stop i H ∧ D.nx σ H) ∨ ((Itr lo n).go i H ∧ ∃ N : St → Hp → Prop, (∀ σ' H', N σ' H' → ∃ m', m' < m ∧ W (i + 1) m' σ' H') ∧ ∀ x H', (Itr lo n).yld i H x H' → g x σ H' fun σ2 H2 => tb { D with nx := N, ct := N, bk := D.nx } σ2 H2) := by
  refine ⟨fun i m σ H => m = n - i ∧ i ≤ n ∧ Pv i σ H, ⟨n, by simp, Nat.zero_le _, h0⟩, ?_⟩
  rintro i m σ H ⟨rfl, hi, p⟩
  by_cases hlt : i < n
  · refine .inr ⟨hlt, Pv (i + 1), fun σ' H' p' => ⟨n - (i + 1), by omega, rfl, hlt, p'⟩, fun x H' y => ?_⟩
    obtain ⟨e, y⟩ := y
    subst e y
    exact hs i σ _ hlt p
  · have e : i = n := by omega
    subst e
    exact .inl ⟨Nat.le_refl _, hd σ H p⟩
end L2

namespace L2
open PySem PySem.Spec PyProof.Rows

abbrev R2 := V → V → Hp → VK → Prop
def OpR (X : Cx) (f : Value → Value → Sem Value) (r : R2) : Prop :=
  ∀ (pins : List (Addr × Obj)) (s : Shared) (σ : St) (H : Hp) (x y : V) (v u : Value) (Q : VK), Inv X pins σ H s → RelV x v → RelV y u → r x y H Q →
    wpAny (model X.prog X.w) X.A (f v u) (EP X pins σ Q) X.xe s
def UnR (X : Cx) (f : Value → Sem Value) (r : V → Hp → VK → Prop) : Prop :=
  ∀ (pins : List (Addr × Obj)) (s : Shared) (σ : St) (H : Hp) (x : V) (v : Value) (Q : VK), Inv X pins σ H s → RelV x v → r x H Q →
    wpAny (model X.prog X.w) X.A (f v) (EP X pins σ Q) X.xe s
def CallR (X : Cx) (f : Value) (r : List V → Hp → VK → Prop) : Prop :=
  ∀ (pins : List (Addr × Obj)) (s : Shared) (σ : St) (H : Hp) (xs : List V) (us : List Value) (Q : VK), Inv X pins σ H s → Vals xs us → r xs H Q →
    wpAny (model X.prog X.w) X.A (call f us) (EP X pins σ Q) X.xe s
def TruR (X : Cx) (r : V → Hp → (Bool → Hp → Prop) → Prop) : Prop :=
  ∀ (pins : List (Addr × Obj)) (s : Shared) (σ : St) (H : Hp) (x : V) (v : Value) (Q : Bool → Hp → Prop), Inv X pins σ H s → RelV x v → r x H Q →
    wpAny (model X.prog X.w) X.A (truthy v) (TP X pins σ Q) X.xe s

def tOp (r : R2) (ta tb : TE) : TE := fun σ H Q => ta σ H fun x H1 => tb σ H1 fun y H2 => r x y H2 Q
def tUn (r : V → Hp → VK → Prop) (ta : TE) : TE := fun σ H Q => ta σ H fun x H1 => r x H1 Q
def rI (C : Int → Int → Prop) (g : Int → Int → V) : R2 := fun x y H Q => ∃ i j, x = .int i ∧ y = .int j ∧ C i j ∧ Q (g i j) H
def rI0 (g : Int → Int → V) : R2 := fun x y H Q => ∃ i j, x = .int i ∧ y = .int j ∧ Q (g i j) H
def rU (g : Int → V) : V → Hp → VK → Prop := fun x H Q => ∃ i, x = .int i ∧ Q (g i) H

section
variable {X : Cx} {a b c : Expr} {ta tb tc : TE} {pos : Pos}

theorem binT (ha : PE X a ta) (hb : PE X b tb) {pins : List (Addr × Obj)} {s : Shared} {σ : St} {H : Hp} {R : V → V → Hp → Prop} (I : Inv X pins σ H s)
    (h : ta σ H fun x H1 => tb σ H1 fun y H2 => R x y H2) {Q : Value → Shared → Prop} {f : Value → Value → Sem Value}
    (hf : ∀ v u s2 x y H2, Inv X pins σ H2 s2 → RelV x v → RelV y u → R x y H2 → wpAny (model X.prog X.w) X.A (f v u) Q X.xe s2) :
    wpAny (model X.prog X.w) X.A (eval a X.env) (fun v s₁ => wpAny (model X.prog X.w) X.A (eval b X.env) (fun u s₂ => wpAny (model X.prog X.w) X.A (f v u) Q X.xe s₂) X.xe s₁) X.xe s := by
  refine thn (ha pins s σ H _ I h) fun v s1 ⟨x, H1, I1, r1, q1⟩ => ?_
  refine thn (hb pins s1 σ H1 _ I1 q1) fun u s2 ⟨y, H2, I2, r2, q2⟩ => ?_
  exact hf v u s2 x y H2 I2 r1 r2 q2

theorem pe_op {op : Operator} {r : R2} (ho : OpR X (binaryOp op) r) (ha : PE X a ta) (hb : PE X b tb) : PE X (.BinOp a op b pos) (tOp r ta tb) := by
  intro pins s σ H Q I h
  exact wpAny_BinOp (binT ha hb I h fun v u s2 x y H2 I2 rx ry q => ho pins s2 σ H2 x y v u Q I2 rx ry q)
theorem pe_un {op : UnaryOp} {r : V → Hp → VK → Prop} (ho : UnR X (unaryOp op) r) (ha : PE X a ta) : PE X (.UnaryOp op a pos) (tUn r ta) := by
  intro pins s σ H Q I h
  exact UnaryOp_ (thn (ha pins s σ H _ I h) fun v s1 ⟨x, H1, I1, r1, q1⟩ => ho pins s1 σ H1 x v Q I1 r1 q1)

theorem opI {f : Value → Value → Sem Value} {C : Int → Int → Prop} {g : Int → Int → Int}
    (rule : ∀ (i j : Int) (t u : Tok) (s : Shared) (Q : Value → Shared → Prop) (E : Value → Shared → Prop), C i j → Q (.int (g i j) s.toks) { s with toks := s.toks + 1 } → wpAny (model X.prog X.w) X.A (f (.int i t) (.int j u)) Q E s) :
    OpR X f (rI C fun i j => .int (g i j)) := by
  intro pins s σ H x y v u Q I rx ry h
  obtain ⟨i, j, rfl, rfl, hc, q⟩ := h
  obtain ⟨t, rfl⟩ := rx
  obtain ⟨t', rfl⟩ := ry
  exact rule i j t t' s _ _ hc ⟨.int (g i j), H, I.tok _, ⟨_, rfl⟩, q⟩
theorem opI0 {f : Value → Value → Sem Value} {g : Int → Int → Int}
    (rule : ∀ (i j : Int) (t u : Tok) (s : Shared) (Q : Value → Shared → Prop) (E : Value → Shared → Prop), Q (.int (g i j) s.toks) { s with toks := s.toks + 1 } → wpAny (model X.prog X.w) X.A (f (.int i t) (.int j u)) Q E s) :
    OpR X f (rI0 fun i j => .int (g i j)) := by
  intro pins s σ H x y v u Q I rx ry h
  obtain ⟨i, j, rfl, rfl, q⟩ := h
  obtain ⟨t, rfl⟩ := rx
  obtain ⟨t', rfl⟩ := ry
  exact rule i j t t' s _ _ ⟨.int (g i j), H, I.tok _, ⟨_, rfl⟩, q⟩
theorem opB0 {f : Value → Value → Sem Value} {g : Int → Int → Bool}
    (rule : ∀ (i j : Int) (t u : Tok) (s : Shared) (Q : Value → Shared → Prop) (E : Value → Shared → Prop), Q (.bool (g i j)) s → wpAny (model X.prog X.w) X.A (f (.int i t) (.int j u)) Q E s) :
    OpR X f (rI0 fun i j => .bl (g i j)) := by
  intro pins s σ H x y v u Q I rx ry h
  obtain ⟨i, j, rfl, rfl, q⟩ := h
  obtain ⟨t, rfl⟩ := rx
  obtain ⟨t', rfl⟩ := ry
  exact rule i j t t' s _ _ ⟨.bl (g i j), H, I, rfl, q⟩

def CDiv (i j : Int) : Prop := 0 < j ∧ j < 1073741824
def CDivN (i j : Int) : Prop := j ≠ 0 ∧ j.natAbs < 1073741824
def CPow (i j : Int) : Prop := 0 ≤ j ∧ j ≤ 1000000 ∧ i.natAbs < 2 ^ 64
def CMul (i j : Int) : Prop := (-(2 ^ 64) < i ∧ i < 2 ^ 64) ∨ (-(2 ^ 64) < j ∧ j < 2 ^ 64)
theorem CMul.ok {i j : Int} (h : CMul i j) : IntMulOk i j := by
  rcases h with ⟨h1, h2⟩ | ⟨h1, h2⟩
  · exact .of_left (intBits_le_64 h1 h2)
  · exact .of_right (intBits_le_64 h1 h2)

theorem op_add : OpR X (binaryOp .Add) (rI0 fun i j => .int (i + j)) := opI0 fun _ _ _ _ _ _ _ q => add_int q
theorem op_sub : OpR X (binaryOp .Sub) (rI0 fun i j => .int (i - j)) := opI0 fun _ _ _ _ _ _ _ q => sub_int q
theorem op_modN : OpR X (binaryOp .Mod) (rI (fun _ j => j ≠ 0) fun i j => .int (i.fmod j)) := opI fun _ _ _ _ _ _ _ hc q => mod_int' hc q
theorem op_pow : OpR X (binaryOp .Pow) (rI CPow fun i j => .int (i ^ j.toNat)) := opI fun _ _ _ _ _ _ _ hc q => pow_int_small hc.1 hc.2.1 hc.2.2 q
theorem op_shl : OpR X (binaryOp .LShift) (rI CPow fun i j => .int (i * 2 ^ j.toNat)) := opI fun _ _ _ _ _ _ _ hc q => lshift_int_small hc.1 hc.2.1 hc.2.2 q


theorem unI {f : Value → Sem Value} {g : Int → Int}
    (rule : ∀ (i : Int) (t : Tok) (s : Shared) (Q : Value → Shared → Prop) (E : Value → Shared → Prop), Q (.int (g i) s.toks) { s with toks := s.toks + 1 } → wpAny (model X.prog X.w) X.A (f (.int i t)) Q E s) :
    UnR X f (rU fun i => .int (g i)) := by
  intro pins s σ H x v Q I rx h
  obtain ⟨i, rfl, q⟩ := h
  obtain ⟨t, rfl⟩ := rx
  exact rule i t s _ _ ⟨.int (g i), H, I.tok _, ⟨_, rfl⟩, q⟩
theorem un_neg : UnR X (unaryOp .USub) (rU fun i => .int (-i)) := unI fun _ _ _ _ _ q => neg_int q

end

def scal : V → V → Bool
  | .non, .non => true | .non, .int _ => true | .int _, .non => true | .non, .bl _ => true | .bl _, .non => true | .non, .str _ => true | .str _, .non => true
  | .int _, .int _ => true | .bl _, .bl _ => true | .str _, .str _ => true | .byt _, .byt _ => true
  | .int _, .str _ => true | .str _, .int _ => true | .bl _, .str _ => true | .str _, .bl _ => true
  | _, _ => false
def rEq : R2 := fun x y H Q => scal x y = true ∧ Q (.bl (decide (x = y))) H
def rNe : R2 := fun x y H Q => scal x y = true ∧ Q (.bl (!decide (x = y))) H

theorem dec_int {i j : Int} : decide (V.int i = V.int j) = (i == j) := by
  rw [Bool.eq_iff_iff]
  simp
theorem dec_bl {i j : Bool} : decide (V.bl i = V.bl j) = (i == j) := by
  rw [Bool.eq_iff_iff]
  simp
theorem dec_str {i j : Str} : decide (V.str i = V.str j) = (i == j) := by
  rw [Bool.eq_iff_iff]
  simp
theorem dec_byt {i j : Array UInt8} : decide (V.byt i = V.byt j) = (i.toList == j.toList) := by
  rw [Bool.eq_iff_iff]
  cases i
  cases j
  simp

section
variable {X : Cx} {a b c : Expr} {ta tb tc : TE} {pos : Pos}
theorem fin_bl {pins : List (Addr × Obj)} {σ : St} {H : Hp} {s : Shared} {Q : VK} {k k' : Bool} (I : Inv X pins σ H s) (q : Q (.bl k) H) (e : k = k') : EP X pins σ Q (.bool k') s := by
  subst e
  exact ⟨.bl k, H, I, rfl, q⟩
theorem op_eq : OpR X (compareOp .Eq) rEq := by
  intro pins s σ H x y v u Q I rx ry h
  obtain ⟨hs, q⟩ := h
  cases x with
  | non =>
    cases rx
    cases y with
    | non => cases ry; exact PySem.EqNone.eq_none_none (fin_bl I q (by simp))
    | bl j => cases ry; exact PySem.EqNone.eq_none_bool (fin_bl I q (by simp))
    | int j => obtain ⟨t', rfl⟩ := ry; exact PySem.EqNone.eq_none_int (fin_bl I q (by simp))
    | str j => obtain ⟨t', rfl⟩ := ry; exact PySem.EqNone.eq_none_str (fin_bl I q (by simp))
    | _ => exact absurd (show false = true from hs) Bool.false_ne_true
  | bl i =>
    cases rx
    cases y with
    | non => cases ry; exact PySem.EqNone.eq_bool_none (fin_bl I q (by simp))
    | bl j => cases ry; exact eq_bool (fin_bl I q dec_bl)
    | str j => obtain ⟨t', rfl⟩ := ry; exact PySem.EqMixed.eq_bool_str (fin_bl I q (by simp))
    | _ => exact absurd (show false = true from hs) Bool.false_ne_true
  | int i =>
    obtain ⟨t, rfl⟩ := rx
    cases y with
    | non => cases ry; exact PySem.EqNone.eq_int_none (fin_bl I q (by simp))
    | int j => obtain ⟨t', rfl⟩ := ry; exact eq_int (fin_bl I q dec_int)
    | str j => obtain ⟨t', rfl⟩ := ry; exact PySem.EqMixed.eq_int_str (fin_bl I q (by simp))
    | _ => exact absurd (show false = true from hs) Bool.false_ne_true
  | str i =>
    obtain ⟨t, rfl⟩ := rx
    cases y with
    | non => cases ry; exact PySem.EqNone.eq_str_none (fin_bl I q (by simp))
    | bl j => cases ry; exact PySem.EqMixed.eq_str_bool (fin_bl I q (by simp))
    | int j => obtain ⟨t', rfl⟩ := ry; exact PySem.EqMixed.eq_str_int (fin_bl I q (by simp))
    | str j => obtain ⟨t', rfl⟩ := ry; exact eq_str (fin_bl I q dec_str)
    | _ => exact absurd (show false = true from hs) Bool.false_ne_true
  | byt i =>
    obtain ⟨t, rfl⟩ := rx
    cases y with
    | byt j => obtain ⟨t', rfl⟩ := ry; exact PySem.W.eq_bytes (fin_bl I q dec_byt)
    | _ => exact absurd (show false = true from hs) Bool.false_ne_true
  | _ => cases y <;> exact absurd (show false = true from hs) Bool.false_ne_true
theorem op_ne : OpR X (compareOp .NotEq) rNe := by
  intro pins s σ H x y v u Q I rx ry h
  obtain ⟨hs, q⟩ := h
  cases x with
  | non =>
    cases rx
    cases y with
    | non => cases ry; exact PySem.EqNone.ne_none_none (fin_bl I q (by simp))
    | bl j => cases ry; exact PySem.EqNone.ne_none_bool (fin_bl I q (by simp))
    | int j => obtain ⟨t', rfl⟩ := ry; exact PySem.EqNone.ne_none_int (fin_bl I q (by simp))
    | str j => obtain ⟨t', rfl⟩ := ry; exact PySem.EqNone.ne_none_str (fin_bl I q (by simp))
    | _ => exact absurd (show false = true from hs) Bool.false_ne_true
  | bl i =>
    cases rx
    cases y with
    | non => cases ry; exact PySem.EqNone.ne_bool_none (fin_bl I q (by simp))
    | bl j => cases ry; exact ne_bool (fin_bl I q (congrArg not dec_bl))
    | str j => obtain ⟨t', rfl⟩ := ry; exact PySem.EqMixed.ne_bool_str (fin_bl I q (by simp))
    | _ => exact absurd (show false = true from hs) Bool.false_ne_true
  | int i =>
    obtain ⟨t, rfl⟩ := rx
    cases y with
    | non => cases ry; exact PySem.EqNone.ne_int_none (fin_bl I q (by simp))
    | int j => obtain ⟨t', rfl⟩ := ry; exact ne_int (fin_bl I q (congrArg not dec_int))
    | str j => obtain ⟨t', rfl⟩ := ry; exact PySem.EqMixed.ne_int_str (fin_bl I q (by simp))
    | _ => exact absurd (show false = true from hs) Bool.false_ne_true
  | str i =>
    obtain ⟨t, rfl⟩ := rx
    cases y with
    | non => cases ry; exact PySem.EqNone.ne_str_none (fin_bl I q (by simp))
    | bl j => cases ry; exact PySem.EqMixed.ne_str_bool (fin_bl I q (by simp))
    | int j => obtain ⟨t', rfl⟩ := ry; exact PySem.EqMixed.ne_str_int (fin_bl I q (by simp))
    | str j => obtain ⟨t', rfl⟩ := ry; exact ne_str (fin_bl I q (congrArg not dec_str))
    | _ => exact absurd (show false = true from hs) Bool.false_ne_true
  | byt i =>
    obtain ⟨t, rfl⟩ := rx
    cases y with
    | byt j => obtain ⟨t', rfl⟩ := ry; exact PySem.W.ne_bytes (fin_bl I q (congrArg not dec_byt))
    | _ => exact absurd (show false = true from hs) Bool.false_ne_true
  | _ => cases y <;> exact absurd (show false = true from hs) Bool.false_ne_true

theorem op_lt : OpR X (compareOp .Lt) (rI0 fun i j => .bl (decide (i < j))) := opB0 fun _ _ _ _ _ _ _ q => lt_int q
theorem op_le : OpR X (compareOp .LtE) (rI0 fun i j => .bl (decide (i ≤ j))) := opB0 fun _ _ _ _ _ _ _ q => le_int q
theorem op_gt : OpR X (compareOp .Gt) (rI0 fun i j => .bl (decide (j < i))) := opB0 fun _ _ _ _ _ _ _ q => gt_int q
theorem op_ge : OpR X (compareOp .GtE) (rI0 fun i j => .bl (decide (j ≤ i))) := opB0 fun _ _ _ _ _ _ _ q => ge_int q


def isObj : HO → Bool
  | .lst _ => true
  | .ins _ _ _ => true
  | _ => false


theorem nomark (b : Expr) {op : CmpOp} (h : op ≠ .In := by decide) (h2 : op ≠ .NotIn := by decide) : behindInMarks op b = false := by
  have e1 : (op == CmpOp.In) = false := by cases op <;> first | rfl | exact absurd rfl h
  have e2 : (op == CmpOp.NotIn) = false := by cases op <;> first | rfl | exact absurd rfl h2
  cases b <;> simp [behindInMarks, e1, e2]
theorem pe_cmpR {op : CmpOp} {r : R2} (ho : OpR X (compareOp op) r) (ha : PE X a ta) (hb : PE X b tb) (hm : behindInMarks op b = false) : PE X (.Compare a [op] [b] pos) (tOp r ta tb) := by
  intro pins s σ H Q I h
  exact wpAny_Compare1 (binT ha hb I h fun v u s2 x y H2 I2 rx ry q => ho pins s2 σ H2 x y v u Q I2 rx ry q) hm
def tTest (t : TE) : TT := fun σ H Q => t σ H fun x H' => ∃ k, x = .bl k ∧ Q k H'
theorem pt_cmpR {op : CmpOp} {r : R2} (ho : OpR X (compareOp op) r) (ha : PE X a ta) (hb : PE X b tb) (hm : behindInMarks op b = false) : PT X (.Compare a [op] [b] pos) (tTest (tOp r ta tb)) := by
  intro pins s σ H Q I h
  refine wpAny_isTrue_Compare1 (thn (ha pins s σ H _ I h) fun v s1 ⟨x, H1, I1, r1, q1⟩ => thn (hb pins s1 σ H1 _ I1 q1) fun u s2 ⟨y, H2, I2, r2, q2⟩ =>
    thn (ho pins s2 σ H2 x y v u _ I2 r1 r2 q2) fun c s3 ⟨z, H3, I3, r3, k, e, q3⟩ => ?_) hm
  subst e
  cases r3
  exact wpAny_truthy_bool ⟨H3, I3, q3⟩
def tChain (r r' : R2) (ta tb tc : TE) : TE := fun σ H Q => ta σ H fun x H1 => tb σ H1 fun y H2 => r x y H2 fun z H3 => ∃ k, z = .bl k ∧
  (if k = true then tc σ H3 fun w' H4 => r' y w' H4 Q else Q (.bl false) H3)
theorem pt_chain {op op' : CmpOp} {r r' : R2} (ho : OpR X (compareOp op) r) (ho' : OpR X (compareOp op') r') (ha : PE X a ta) (hb : PE X b tb) (hc : PE X c tc)
    (hm : lastMarks [op, op'] [b, c] = false := by with_unfolding_all rfl) : PT X (.Compare a [op, op'] [b, c] pos) (tTest (tChain r r' ta tb tc)) := by
  intro pins s σ H Q I h
  refine isTrue_chain (thn (ha pins s σ H _ I h) fun v s1 ⟨x, H1, I1, r1, q1⟩ => test_link (thn (hb pins s1 σ H1 _ I1 q1) fun u s2 ⟨y, H2, I2, r2, q2⟩ =>
    thn (ho pins s2 σ H2 x y v u _ I2 r1 r2 q2) fun d s3 ⟨z, H3, I3, r3, k, e, q3⟩ => ?_)) hm
  subst e
  cases r3
  refine wpAny_truthy_bool ?_
  cases k with
  | false =>
    obtain ⟨k', e', q'⟩ := q3
    cases e'
    exact ite_ff ⟨H3, I3, q'⟩
  | true =>
    refine ite_tt (test_last (thn (hc pins s3 σ H3 _ I3 q3) fun w' s4 ⟨z', H4, I4, r4, q4⟩ => thn (ho' pins s4 σ H4 y z' u w' _ I4 r2 r4 q4) fun d' s5 ⟨z2, H5, I5, r5, k2, e2, q5⟩ => ?_))
    subst e2
    cases r5
    exact wpAny_truthy_bool ⟨H5, I5, q5⟩

def TruV (K : PySem.W.Frag) (x : V) (H : Hp) (k : Bool) : Prop :=
  match x with
  | .non => k = false
  | .bl b => k = b
  | .int i => k = (i != 0)
  | .str y => y.length ≤ sizeLine ∧ k = ((y.length : Int) != 0)
  | .byt y => y.size ≤ sizeLine ∧ k = ((y.size : Int) != 0)
  | .ref p => (∃ xs, SqL K H p xs ∧ k = !xs.isEmpty) ∨ (∃ xs, SqT K H p xs ∧ k = !xs.isEmpty) ∨ ∃ kvs, H p = some (.dK kvs) ∧ k = !kvs.isEmpty
  | _ => False
theorem line63 : (sizeLine : Nat) < 2 ^ 63 := by rw [sizeLine_eq]; decide


def PlainIxT (b : Expr) : Prop := ∀ o i, subscripted b false o i = operate [o, i] (getItem o i)

theorem vals1 {x : V} {us : List Value} (r : Vals [x] us) : ∃ u, us = [u] ∧ RelV x u := by
  cases r with
  | cons r1 r2 => cases r2; exact ⟨_, rfl, r1⟩
theorem vals2 {x y : V} {us : List Value} (r : Vals [x, y] us) : ∃ u w', us = [u, w'] ∧ RelV x u ∧ RelV y w' := by
  cases r with
  | cons r1 r2 =>
    cases r2 with
    | cons r3 r4 => cases r4; exact ⟨_, _, rfl, r1, r3⟩
theorem call_abs : CallR X (.builtin "abs") (fun xs H Q => ∃ i, xs = [.int i] ∧ Q (.int (if i < 0 then -i else i)) H) := by
  intro pins s σ H xs us Q I r h
  obtain ⟨i, rfl, q⟩ := h
  obtain ⟨u, rfl, t, rfl⟩ := vals1 r
  exact call_abs_int fun u tk => ⟨.int (if i < 0 then -i else i), H, I.tok _, ⟨_, rfl⟩, q⟩
theorem call_min2 (hc : X.calm = true) : CallR X (.builtin "min") (fun xs H Q => ∃ i j, xs = [.int i, .int j] ∧ Q (.int (if j < i then j else i)) H) := by
  intro pins s σ H xs us Q I r h
  obtain ⟨i, j, rfl, q⟩ := h
  obtain ⟨u, w', rfl, ⟨t, rfl⟩, ⟨t', rfl⟩⟩ := vals2 r
  refine min_two_ints (I.ok.hd hc) fun h' tk k => ⟨_, H, I.kept k, ?_, q⟩
  by_cases hj : j < i
  · rw [if_pos hj, if_pos hj]; exact ⟨_, rfl⟩
  · rw [if_neg hj, if_neg hj]; exact ⟨_, rfl⟩
def LenV (K : PySem.W.Frag) (x : V) (H : Hp) (n : Nat) : Prop :=
  match x with
  | .str y => y.length ≤ sizeLine ∧ n = y.length
  | .byt y => y.size ≤ sizeLine ∧ n = y.size
  | .ref p => (∃ xs, SqL K H p xs ∧ n = xs.length) ∨ ∃ xs, SqT K H p xs ∧ n = xs.length
  | _ => False
end
end L2

namespace L2
open PySem PySem.Spec PyProof.Rows

structure ObjM (h : Heap) (x dx C : Addr) (mA : Str → Option Value) : Prop where
  obj : h.get? x = some (PySem.W.instObj C dx)
  ns : h.Ns1 dx mA
  ne : dx ≠ x



section
variable {prog : Program} {w : World} {A : Around} {E : Value → Shared → Prop} {s : Shared} {K : PySem.W.Frag} {x dx C f : Addr} {mA : Str → Option Value} {name : Str} {v : Value}





end

def putF (f : Str) (v : V) : List (Str × V) → List (Str × V)
  | [] => [(f, v)]
  | (g, x) :: r => if g = f then (g, v) :: r else (g, x) :: putF f v r

theorem RelO.some_of {v : V} {o : Option Value} (r : RelO (some v) o) : ∃ u, o = some u ∧ RelV v u := by
  cases o with
  | none => exact (show False from r).elim
  | some u => exact ⟨u, rfl, r⟩

section
variable {P : Program} {w : World} {H H' : Hp} {h h' : Heap} {a C dx : Addr} {fs fs' : List (Str × V)}
end

structure Cls (K : PySem.W.Frag) (C : Addr) : Prop where
  pg : PySem.W.plainGet K C Str.empty = true
  hd : PySem.W.hasDictIn K C = true
  po : PySem.W.plainOver K C = true
  sa : PySem.W.findIn K (.ref C) "__setattr__" = some (some (.builtin "object.__setattr__"))
theorem Cls.get {K : PySem.W.Frag} {C : Addr} (c : Cls K C) (f : Str) : PySem.W.plainGet K C f = true := c.pg
def NoAttr (K : PySem.W.Frag) (C : Addr) (f : Str) : Prop := PySem.W.findIn K (.ref C) f = some none
structure Con (K : PySem.W.Frag) (C : Addr) (f : Str) (v : V) (u : Value) : Prop where
  at_ : PySem.W.findIn K (.ref C) f = some (some u)
  rel : RelV v u
  get : PySem.W.specialIn K u "__get__" = some none
  cp : PySem.W.copiedNames.contains f = false
structure Meth (K : PySem.W.Frag) (C : Addr) (m : Str) (f : Addr) : Prop where
  at_ : PySem.W.findIn K (.ref C) m = some (some (.ref f))
  fn : PySem.W.isFn K (.ref f) = true
  kp : PySem.W.keepIn K (.ref f) = true

section
variable {X : Cx} {pins : List (Addr × Obj)} {σ : St} {H : Hp} {s : Shared} {a C dx : Addr} {fs : List (Str × V)} {f : Str} {v : V} {A : Around} {E : Value → Shared → Prop}






end

def tFld (K : PySem.W.Frag) (ta : TE) (f : Str) : TE := fun σ H Q => ta σ H fun x H1 => ∃ a C dx fs v, x = .ref a ∧ H1 a = some (.ins C dx fs) ∧ Cls K C ∧ NoAttr K C f ∧ fs.lookup f = some v ∧ Q v H1
def tCon (K : PySem.W.Frag) (ta : TE) (f : Str) : TE := fun σ H Q => ta σ H fun x H1 => ∃ a C dx fs v u, x = .ref a ∧ H1 a = some (.ins C dx fs) ∧ Cls K C ∧ Con K C f v u ∧ fs.lookup f = none ∧ Q v H1
def sFld (K : PySem.W.Frag) (ta tv : TE) (f : Str) : TS := fun D σ H => tv σ H fun y H1 => ta σ H1 fun x H2 => ∃ a C dx fs, x = .ref a ∧ H2 a = some (.ins C dx fs) ∧ Cls K C ∧ NoAttr K C f ∧ fs.length < 1000 ∧
  D.nx σ (upd H2 a (.ins C dx (putF f y fs)))
def InOp (X : Cx) (op : Operator) (rd : V → V → Hp → VK → Prop) : Prop :=
  ∀ (pins : List (Addr × Obj)) (s : Shared) (σ : St) (H : Hp) (x y : V) (u v : Value) (Q : VK), Inv X pins σ H s → RelV x u → RelV y v → rd x y H Q → wpAny (model X.prog X.w) X.A (inplaceOp op u v) (EP X pins σ Q) X.xe s
def sFldAug (K : PySem.W.Frag) (ta tv : TE) (rd : V → V → Hp → VK → Prop) (f : Str) : TS := fun D σ H => ta σ H fun x H1 => ∃ a C dx fs v, x = .ref a ∧ H1 a = some (.ins C dx fs) ∧ Cls K C ∧ NoAttr K C f ∧ fs.lookup f = some v ∧
  tv σ H1 fun y H2 => rd v y H2 fun z H3 => ∃ dx' fs', H3 a = some (.ins C dx' fs') ∧ fs'.length < 1000 ∧ D.nx σ (upd H3 a (.ins C dx' (putF f z fs')))

section
variable {X : Cx} {o e value : Expr} {f : Str} {pos pos' tpos : Pos} {ta tv : TE}
def rAdd : V → V → Hp → VK → Prop := fun x y H Q => ∃ i j, x = .int i ∧ y = .int j ∧ Q (.int (i + j)) H
def rSub : V → V → Hp → VK → Prop := fun x y H Q => ∃ i j, x = .int i ∧ y = .int j ∧ Q (.int (i - j)) H

end

section
variable {X : Cx} {pins : List (Addr × Obj)} {σ : St} {H : Hp} {s : Shared} {A : Around} {E : Value → Shared → Prop} {Q : Value → Shared → Prop} {c : Value} {b : Bool}
inductive TyOf (K : PySem.W.Frag) (H : Hp) : V → Value → Prop where
  | non : TyOf K H .non (.type "NoneType")
  | bl (x : Bool) : TyOf K H (.bl x) (.type "bool")
  | int (i : Int) : TyOf K H (.int i) (.type "int")
  | str (x : Str) : TyOf K H (.str x) (.type "str")
  | flt (x : UInt64) : TyOf K H (.flt x) (.type "float")
  | lst {a : Addr} {xs : List V} (e : H a = some (.lst xs)) : TyOf K H (.ref a) (.type "list")
  | frz {a : Addr} {o : Obj} {xs : List V} (e : H a = some (.frz o (.lst xs))) : TyOf K H (.ref a) (.type "list")
  | tup {a : Addr} {xs : List V} (e : H a = some (.tup xs)) : TyOf K H (.ref a) (.type "tuple")
  | dK {a : Addr} {kvs : List (Key × V)} (e : H a = some (.dK kvs)) : TyOf K H (.ref a) (.type "dict")
  | dT {a : Addr} {kvs : List (List Key × V)} (e : H a = some (.dT kvs)) : TyOf K H (.ref a) (.type "dict")
  | ins {a C dx : Addr} {fs : List (Str × V)} (e : H a = some (.ins C dx fs)) (cl : Cls K C) (ha : PySem.W.findIn K (.ref C) "__class__" = some (some (.builtin "object.__class__")))
      (hn : PySem.W.specialIn K (.builtin "object.__class__") "__get__" = some (some (.builtin "getset_descriptor.__get__"))) (htk : PySem.W.takesIn K (.builtin "object.__class__") = some true)
      (hm : PySem.W.mroIn K C (.type "object") = some true) : TyOf K H (.ref a) (.ref C)
end
end L2

namespace L2
open PySem PySem.Spec PyProof.Rows

structure Room (k : Nat) (A : Around) : Prop where
  hd : A.handled = none
  dp : A.depth + 3 * k + 5 < recursionLimit
  un : A.units + 16 * k + 200 < cLine
theorem Room.mono {j k : Nat} {A : Around} (r : Room k A) (h : j ≤ k) : Room j A := ⟨r.hd, by have := r.dp; omega, by have := r.un; omega⟩
theorem Room.deeper {k : Nat} {A : Around} (r : Room (k + 1) A) (env : Env) : Room k (A.deeper env) :=
  ⟨r.hd, by have := r.dp; show A.depth + 1 + 3 * k + 5 < _; omega, by have := r.un; show A.units + 3 + 16 * k + 200 < _; omega⟩
theorem Room.in1 {k : Nat} {A : Around} (r : Room (k + 1) A) : Room k A.in1 :=
  ⟨r.hd, by have := r.dp; show A.depth + 3 * k + 5 < _; omega, by have := r.un; show A.units + 1 + 16 * k + 200 < _; omega⟩
theorem Room.depth {k : Nat} {A : Around} (r : Room k A) : A.depth < recursionLimit := by have := r.dp; omega
theorem Room.units {k : Nat} {A : Around} (r : Room k A) : A.units + 64 < cLine := by have := r.un; omega

def tNil : TA := fun _ H Q => Q [] H
def tCons (ta : TE) (tr : TA) : TA := fun σ H Q => ta σ H fun x H1 => tr σ H1 fun xs H2 => Q (x :: xs) H2
section
variable {X : Cx} {e : Expr} {es : List Expr} {te : TE} {t : TA} {pos : Pos}
theorem pa_nil : PA X [] tNil := fun _ _ _ _ H Q I h => Calls.spliced_nil ⟨[], H, I, .nil, h⟩
theorem pa_cons (ha : PE X e te) (hr : PA X es t) (hs : starEach (e :: es) X.env = (false, eval e X.env) :: starEach es X.env := by rfl) : PA X (e :: es) (tCons te t) := by
  intro pos pins s σ H Q I h
  rw [hs]
  show wpAny _ _ (spliced ((false, eval e X.env) :: backTo pos (starEach es X.env))) _ _ s
  refine Calls.spliced_cons (thn (ha pins s σ H _ I h) fun u s1 ⟨x, H1, I1, r1, q1⟩ => ?_)
  exact thn (hr pos pins s1 σ H1 _ I1 q1) fun us s2 ⟨xs, H2, I2, r2, q2⟩ => ⟨x :: xs, H2, I2, .cons r1 r2, q2⟩

def tTup (t : TA) : TE := fun σ H Q => t σ H fun xs H1 => xs.length ≤ sizeLine ∧ ∀ p, H1 p = none → Q (.ref p) (upd H1 p (.tup xs))
def tLst (t : TA) : TE := fun σ H Q => t σ H fun xs H1 => xs.length ≤ sizeLine ∧ ∀ p, H1 p = none → Q (.ref p) (upd H1 p (.lst xs))
theorem pe_tup {x1} (h : PA X es t) : PE X (.Tuple es x1 pos) (tTup t) := by
  intro pins s σ H Q I hq
  refine wpAny_Tuple_spliced (thn (h pos pins s σ H _ I hq) fun us s1 ⟨xs, H1, I1, r, z, q⟩ => ⟨by rw [← r.length]; exact z, ?_⟩)
  have hf : H1 s1.heap.objs.size = none := I1.hok.fresh (Nat.le_refl _)
  refine ⟨.ref s1.heap.objs.size, upd H1 s1.heap.objs.size (.tup xs), I1.laid (t' := s1.toks) (fun b u e => Heap.get?_push_of_some _ e) (Nat.le_refl _) ?_, rfl, q _ hf⟩
  exact ⟨z, us, r, ⟨_, Heap.get?_push_size _ rfl, rfl, _, rfl⟩⟩
theorem pe_lst (h : PA X es t) : PE X (.List es pos) (tLst t) := by
  intro pins s σ H Q I hq
  refine wpAny_List_spliced (thn (h pos pins s σ H _ I hq) fun us s1 ⟨xs, H1, I1, r, z, q⟩ => ⟨by rw [← r.length]; exact z, ?_⟩)
  have hf : H1 s1.heap.objs.size = none := I1.hok.fresh (Nat.le_refl _)
  refine ⟨.ref s1.heap.objs.size, upd H1 s1.heap.objs.size (.lst xs), I1.laid (t' := s1.toks) (fun b u e => Heap.get?_push_of_some _ e) (Nat.le_refl _) ?_, rfl, q _ hf⟩
  exact ⟨z, us, 0, r, Heap.get?_push_size _ rfl⟩
end

abbrev Sp := List V → Hp → VK → XK → Prop
abbrev CXT := List Env → Hp → Shared → XK → Value → Shared → Prop

structure Env0 (P : Program) (w : World) (K : PySem.W.Frag) (mg : Str → Option Value) (base : Heap) (A : Around) (outer : List Env) (s : Shared) (H : Hp) : Prop where
  frames : A.frames = some outer
  mod : Mod K mg base
  bs : ∀ b o, base.get? b = some o → s.heap.get? b = some o ∧ H b = none
  bsz : base.objs.size ≤ s.heap.objs.size
  funs : s.heap.FunFrames base outer
  frf : ∀ b ∈ frs outer, H b = none
  hok : HOk P w H s.heap
  bare : AllBare s.gens
def CE (outer : List Env) (P : Program) (w : World) (H : Hp) (s : Shared) (Q : VK) (u : Value) (s' : Shared) : Prop :=
  ∃ v H', s'.os = s.os ∧ AllBare s'.gens ∧ Un (frs outer) [] H H' s.heap s'.heap ∧ HOk P w H' s'.heap ∧ RelV v u ∧ Q v H'
def CR (CX : CXT) (outer : List Env) (P : Program) (w : World) (H : Hp) (s : Shared) (Q : VK) (E : XK) (r : Result) (s' : Shared) : Prop :=
  match r with
  | .ok (.ret u) => CE outer P w H s Q u s'
  | .ok _ => False
  | .error e => CX outer H s E e s'
structure FnOk (P : Program) (w : World) (K : PySem.W.Frag) (mg : Str → Option Value) (base : Heap) (CX : CXT) (k : Nat) (f : Addr) (fd : FuncData) (ps : List Str) (sp : Sp) : Prop where
  len : ∀ vs H Q E, sp vs H Q E → vs.length = ps.length
  run : ∀ (A : Around) (outer : List Env) (s : Shared) (H : Hp) (args : Args) (us : List Value) (vs : List V) (Q : VK) (E : XK), Room k A → Env0 P w K mg base A outer s H → BindsTo s fd args (ps.zip us) → Vals vs us → sp vs H Q E →
    codeAny (model P w) A (.call (.ref f) args) (CR CX outer P w H s Q E) s
theorem FnOk.mono {P : Program} {w : World} {K : PySem.W.Frag} {mg : Str → Option Value} {base : Heap} {CX : CXT} {j k : Nat} {f : Addr} {fd : FuncData} {ps : List Str} {sp : Sp} (F : FnOk P w K mg base CX j f fd ps sp) (h : j ≤ k) :
    FnOk P w K mg base CX k f fd ps sp := ⟨F.len, fun A outer s H args us vs Q E hr => F.run A outer s H args us vs Q E (hr.mono h)⟩
theorem FnOk.imp {P : Program} {w : World} {K : PySem.W.Frag} {mg : Str → Option Value} {base : Heap} {CX : CXT} {k : Nat} {f : Addr} {fd : FuncData} {ps : List Str} {sp sp' : Sp} (F : FnOk P w K mg base CX k f fd ps sp)
    (h : ∀ vs H Q E, sp' vs H Q E → sp vs H Q E) : FnOk P w K mg base CX k f fd ps sp' :=
  ⟨fun vs H Q E q => F.len vs H Q E (h _ _ _ _ q), fun A outer s H args us vs Q E hr he hb hv hs => F.run A outer s H args us vs Q E hr he hb hv (h _ _ _ _ hs)⟩

theorem Env0.in1 {P : Program} {w : World} {K : PySem.W.Frag} {mg : Str → Option Value} {base : Heap} {A : Around} {outer : List Env} {s : Shared} {H : Hp} (e : Env0 P w K mg base A outer s H) :
    Env0 P w K mg base A.in1 outer s H := ⟨e.frames, e.mod, e.bs, e.bsz, e.funs, e.frf, e.hok, e.bare⟩

section
variable {X : Cx} {pins : List (Addr × Obj)} {σ : St} {H : Hp} {s s' : Shared}
theorem Inv.env0 (I : Inv X pins σ H s) : Env0 X.prog X.w X.K X.mg X.base X.A X.stack s H :=
  ⟨I.ok.frames, I.ok.mod, I.bs, Nat.le_trans I.ok.bsz I.sz, I.stack, I.stkFree, I.hok, I.bare⟩
theorem Inv.after {Q : VK} {u : Value} (I : Inv X pins σ H s) (h : CE X.stack X.prog X.w H s Q u s') : EP X pins σ Q u s' := by
  obtain ⟨v, H', os, bare, un, hok, r, q⟩ := h
  obtain ⟨hh, g, d, t, os'⟩ := s'
  obtain rfl : os' = s.os := os
  exact ⟨v, H', I.call (h' := hh) (g' := g) (d' := d) (t' := t) (ch := []) un hok bare (fun b z => absurd z (by simp)), r, q⟩
end

def tCall (sp : Sp) (dvs : List V) (E : XK) (t : TA) : TE := fun σ H Q => t σ H fun vs H1 => sp (vs ++ dvs) H1 Q E
def tMeth (C : Addr) (m : Str) (sp : Sp) (dvs : List V) (E : XK) (ta : TE) (t : TA) : TE := fun σ H Q => ta σ H fun x H1 => ∃ a dx fs, x = .ref a ∧ H1 a = some (.ins C dx fs) ∧ fs.lookup m = none ∧
  t σ H1 fun vs H2 => sp (x :: (vs ++ dvs)) H2 Q E
def tMake (C : Addr) (sp : Sp) (dvs : List V) (E : XK) (t : TA) : TE := fun σ H Q => t σ H fun vs H1 => ∀ x dx, H1 x = none → H1 dx = none → dx ≠ x →
  sp (.ref x :: (vs ++ dvs)) (upd (upd H1 dx (.own x)) x (.ins C dx [])) (fun v H2 => v = .non ∧ Q (.ref x) H2) E

def Binds (K : PySem.W.Frag) (fd : FuncData) (ps : List Str) (ds : List Value) : Prop :=
  ∀ (s : Shared) (us : List Value), K.In s.heap → (us ++ ds).length = ps.length → BindsTo s fd ⟨us, []⟩ (ps.zip (us ++ ds))
theorem Binds.all {K : PySem.W.Frag} {fd : FuncData} {ps : List Str} (h : ∀ us : List Value, us.length = ps.length → bindArgs fd ⟨us, []⟩ = pure (ps.zip us)) : Binds K fd ps [] := fun s us _ hl => by
  rw [List.append_nil] at hl ⊢
  exact .of_eq (h us hl)

def Passes (CX : CXT) (X : Cx) (E : XK) : Prop := ∀ (pins : List (Addr × Obj)) (σ : St) (H : Hp) (s : Shared) (e : Value) (s' : Shared), Inv X pins σ H s → CX X.stack H s E e s' → X.xe e s'

section
variable {X : Cx} {CX : CXT} {k : Nat} {f C : Addr} {fd : FuncData} {ps : List Str} {sp : Sp} {dvs : List V} {ds : List Value} {E : XK} {x m : Str} {p pos apos : Pos} {e o : Expr} {es : List Expr} {ta : TE} {t : TA}

theorem run_fn {pins : List (Addr × Obj)} {σ : St} {H : Hp} {s : Shared} {Q : VK} {us : List Value} {vs : List V} (F : FnOk X.prog X.w X.K X.mg X.base CX k f fd ps sp) (hr : Room k X.A) (hb : Binds X.K fd ps ds) (hd : Vals dvs ds) (hx : Passes CX X E)
    (I : Inv X pins σ H s) (r : Vals vs us) (h : sp (vs ++ dvs) H Q E) : wpAny (model X.prog X.w) X.A (call (.ref f) us) (EP X pins σ Q) X.xe s := by
  have r2 : Vals (vs ++ dvs) (us ++ ds) := r.append hd
  have hl : (us ++ ds).length = ps.length := by rw [← r2.length]; exact F.len _ _ _ _ h
  refine wpAny_call (codeAny_mono (F.run X.A X.stack s H ⟨us, []⟩ (us ++ ds) (vs ++ dvs) Q E hr I.env0 (hb s us I.kIn hl) r2 h) fun r s' hq => ?_)
  cases r with
  | error e => exact hx pins σ H s e s' I hq
  | ok fl =>
    cases fl with
    | ret u => exact I.after hq
    | next => exact False.elim hq
    | brk => exact False.elim hq
    | cont => exact False.elim hq

theorem pe_call (F : FnOk X.prog X.w X.K X.mg X.base CX k f fd ps sp) (hr : Room k X.A) (hg : Gl X x) (hm : X.mg x = some (.ref f)) (hk : PySem.W.keepIn X.K (.ref f) = true) (hb : Binds X.K fd ps ds) (hd : Vals dvs ds) (hx : Passes CX X E)
    (ha : PA X (e :: es) t) (hdb : (x == ("__debug__" : Str)) = false := by decide) (he : starEach (e :: es) X.env = (false, eval e X.env) :: starEach es X.env := by rfl) (hpl : (backTo pos (starEach es X.env)).any (·.1) = false := by rfl) :
    PE X (.Call (.Name x p) (e :: es) [] pos) (tCall sp dvs E t) := by
  intro pins s σ H Q I h
  refine wpAny_Call_Name_kw (ld_glob I hg hm ?_ hdb)
  refine PySem.W.callWith_K (h₀ := X.base) I.ok.mod.kin hk (thn (ha pos pins s σ H _ I h) fun us s1 ⟨vs, H1, I1, r, q⟩ => ⟨I1.kIn, ?_⟩) he hpl
  exact run_fn F hr hb hd hx I1 r q


structure Mk (K : PySem.W.Frag) (C f : Addr) : Prop where
  makes : PySem.W.makesIn K C = true
  init : PySem.W.findIn K (.ref C) "__init__" = some (some (.ref f))
  fn : PySem.W.isFn K (.ref f) = true
  kp : PySem.W.keepIn K (.ref C) = true

end

def PK (X : Cx) (kws : List Keyword) (t : TA) : Prop :=
  ∀ (pos : Pos) (pins : List (Addr × Obj)) (s : Shared) (σ : St) (H : Hp) (Q : List V → Hp → Prop), Inv X pins σ H s → t σ H Q → wpAny (model X.prog X.w) X.A (evalAll ((backToKw pos (keywordEach kws X.env)).map (·.2))) (AP X pins σ Q) X.xe s
section
variable {X : Cx} {CX : CXT} {k : Nat} {f C : Addr} {fd : FuncData} {ps ks : List Str} {sp : Sp} {E : XK} {x m : Str} {p pos apos kpos : Pos} {e o : Expr} {es : List Expr} {kws : List Keyword} {te ta : TE} {t tk : TA} {nm : Option Str}

structure KBinds (K : PySem.W.Frag) (fd : FuncData) (ps ks : List Str) (g : List Value → List Value → List Value) (gV : List V → List V → List V) : Prop where
  to : ∀ (s : Shared) (us ws : List Value), K.In s.heap → (g us ws).length = ps.length → BindsTo s fd ⟨us, ks.zip ws⟩ (ps.zip (g us ws))
  rel : ∀ {vs : List V} {us : List Value} {zs : List V} {ws : List Value}, Vals vs us → Vals zs ws → Vals (gV vs zs) (g us ws)
def tCallK (sp : Sp) (gV : List V → List V → List V) (E : XK) (t tk : TA) : TE := fun σ H Q => t σ H fun vs H1 => tk σ H1 fun zs H2 => sp (gV vs zs) H2 Q E
variable {g : List Value → List Value → List Value} {gV : List V → List V → List V}
end

structure FnScope (N P : List Str) (sc : Scope) : Prop where
  kind : sc.kind = .function
  co : sc.isCoroutine = false
  gen : sc.isGenerator = false
  nd : N.Nodup
  pre : N.take P.length = P
  par : ∀ x ∈ P, sc.names.lookup x = some .local ∨ sc.names.lookup x = some .cell
  nofree : ∀ y ∈ sc.names, y.2 ≠ .free

theorem bindL_out {kindOf : Str → Option NameKind} {x : Str} : ∀ {binds : List (Str × Value)} {m : Str → Option Value}, (∀ v, (x, v) ∉ binds) → bindL kindOf binds m x = m x
  | [], _, _ => rfl
  | (n, v) :: r, m, h => by
    unfold bindL
    rw [bindL_out fun w hw => h w (List.mem_cons_of_mem _ hw)]
    split
    · have : x ≠ n := by rintro rfl; exact h v List.mem_cons_self
      simp [this]
    · rfl
theorem bindC_out {kindOf : Str → Option NameKind} {x : Str} : ∀ {binds : List (Str × Value)} {m : Str → Option Value}, (∀ v, (x, v) ∉ binds) → bindC kindOf binds m x = m x
  | [], _, _ => rfl
  | (n, v) :: r, m, h => by
    unfold bindC
    rw [bindC_out fun w hw => h w (List.mem_cons_of_mem _ hw)]
    split
    · rfl
    · have : x ≠ n := by rintro rfl; exact h v List.mem_cons_self
      simp [this]
theorem bindL_get {kindOf : Str → Option NameKind} {x : Str} {v : Value} : ∀ {P : List Str} {vs : List Value} {i : Nat} {m : Str → Option Value}, P.Nodup → P[i]? = some x → vs[i]? = some v → kindOf x = some .local →
    bindL kindOf (P.zip vs) m x = some v
  | [], _, _, _, _, h, _, _ => by simp at h
  | _ :: _, [], _, _, _, _, h, _ => by simp at h
  | p :: P, w :: vs, 0, m, nd, h1, h2, hk => by
    simp at h1 h2; subst h1; subst h2
    show bindL kindOf ((p, w) :: P.zip vs) m p = _
    unfold bindL
    rw [bindL_out fun v hv => (List.nodup_cons.mp nd).1 (List.of_mem_zip hv).1, if_pos hk]
    simp
  | p :: P, w :: vs, i + 1, m, nd, h1, h2, hk => by
    show bindL kindOf ((p, w) :: P.zip vs) m x = _
    unfold bindL
    exact bindL_get (i := i) (List.nodup_cons.mp nd).2 (by simpa using h1) (by simpa using h2) hk
theorem bindC_get {kindOf : Str → Option NameKind} {x : Str} {v : Value} : ∀ {P : List Str} {vs : List Value} {i : Nat} {m : Str → Option Value}, P.Nodup → P[i]? = some x → vs[i]? = some v → kindOf x ≠ some .local →
    bindC kindOf (P.zip vs) m x = some v
  | [], _, _, _, _, h, _, _ => by simp at h
  | _ :: _, [], _, _, _, _, h, _ => by simp at h
  | p :: P, w :: vs, 0, m, nd, h1, h2, hk => by
    simp at h1 h2; subst h1; subst h2
    show bindC kindOf ((p, w) :: P.zip vs) m p = _
    unfold bindC
    rw [bindC_out fun v hv => (List.nodup_cons.mp nd).1 (List.of_mem_zip hv).1, if_neg hk]
    simp
  | p :: P, w :: vs, i + 1, m, nd, h1, h2, hk => by
    show bindC kindOf ((p, w) :: P.zip vs) m x = _
    unfold bindC
    exact bindC_get (i := i) (List.nodup_cons.mp nd).2 (by simpa using h1) (by simpa using h2) hk

def start (N : List Str) (vs : List V) : St := vs.map some ++ List.replicate (N.length - vs.length) none

def cxOf (CX : CXT) (P : Program) (w : World) (K : PySem.W.Frag) (mg : Str → Option Value) (base : Heap) (N : List Str) (qual : Str) (scope : Scope) (f : Addr) (cd : Value) (A : Around) (outer : List Env) (s : Shared) (H : Hp) (E : XK) : Cx where
  prog := P
  w := w
  K := K
  mg := mg
  base := base
  A := A.deeper (envOfC qual scope s.heap.objs.size f cd)
  N := N
  s₀ := s
  H₀ := H
  env := envOfC qual scope s.heap.objs.size f cd
  outer := outer
  stack := envOfC qual scope s.heap.objs.size f cd :: outer
  ex := []
  calm := true
  fn := fun _ => true
  pn := []
  xe := fun e s' => wpAny (model P w) (A.deeper (envOfC qual scope s.heap.objs.size f cd)) (leaving (envOfC qual scope s.heap.objs.size f cd) e) (fun _ s'' => CX outer H s E e s'') (fun e' s'' => CX outer H s E e' s'') s'

theorem cell_has {sc : Scope} {n : Nat} {x : Str} (h : sc.names.lookup x = some .cell) : ∃ c, (cellsFrom n sc.names []).lookup x = some c := by
  have q := PySem.W.cellsFrom_some sc.names n [] (.inl h)
  exact Option.isSome_iff_exists.mp q

theorem inv_start {CX : CXT} {P : Program} {w : World} {K : PySem.W.Frag} {mg : Str → Option Value} {base : Heap} {N ps : List Str} {qual : Str} {scope : Scope} {f : Addr} {cd : Value} {A : Around} {outer : List Env} {s s1 : Shared} {H : Hp} {E : XK} {us : List Value} {vs : List V}
    (S : FnScope N ps scope) (hd : A.handled = none) (e0 : Env0 P w K mg base A outer s H) (hl : vs.length = ps.length) (r : Vals vs us)
    (x : InCallC s s.heap.objs.size (bindL (envOfC qual scope s.heap.objs.size f cd).kindOf (ps.zip us) fun _ => none) (cellsFrom (s.heap.objs.size + 1) scope.names []) (bindC (envOfC qual scope s.heap.objs.size f cd).kindOf (ps.zip us) fun _ => none) s1) :
    Inv (cxOf CX P w K mg base N qual scope f cd A outer s H E) [] (start N vs) H s1 := by
  have hpl : ps.length ≤ N.length := by have := congrArg List.length S.pre; rw [List.length_take] at this; omega
  obtain ⟨h1, tk, rfl, hk⟩ := x.done
  have noA : ∀ b : Addr, b ∉ (cxOf CX P w K mg base N qual scope f cd A outer s H E).ex := fun b z => absurd (show b ∈ ([] : List Addr) from z) (by simp)
  refine ⟨⟨e0.mod, S.kind, rfl, rfl, Nat.le_refl _, fun y z c h1 h2 => ?_, fun y hy => ?_, fun y c _ h => ?_, fun _ => hd, Around.frames_deeper e0.frames, .inr ⟨rfl, rfl⟩, fun b z => absurd z (noA b), e0.bs, e0.bsz, fun b _ _ => noA b, fun b z => absurd z (noA b), e0.funs, e0.frf⟩,
    rfl, e0.bare, Un.kept hk, ⟨_, x.toInCall.ns, fun i y v h1 h2 h3 => ?_⟩, fun y c h => ⟨_, x.cell y c h⟩, e0.hok.fresh (Nat.le_refl _), fun y c h => ?_, fun p hp => absurd (show p ∈ ([] : List (Addr × Obj)) from hp) (by simp), e0.hok.kept hk, ?_⟩
  · exact name_of_addr x.apart (PySem.mem_of_lookup h1) (PySem.mem_of_lookup h2)
  · have hy : scope.names.lookup y = some .cell ∨ scope.names.lookup y = some .free := hy
    rcases hy with hy | hy
    · exact cell_has hy
    · exact absurd rfl (S.nofree _ (PySem.mem_of_lookup hy))
  · exact Nat.le_of_lt (x.above y c (PySem.mem_of_lookup h))
  · have hi : i < vs.length := by
      unfold start at h2
      by_cases hi : i < vs.length
      · exact hi
      · rw [List.getElem?_append_right (by simpa using hi)] at h2
        rw [List.getElem?_replicate] at h2
        split at h2 <;> cases h2
    have ha : vs[i]? = some v := by
      unfold start at h2
      rw [List.getElem?_append_left (by simpa using hi), List.getElem?_map] at h2
      cases e : vs[i]? with
      | none => rw [e] at h2; cases h2
      | some a => rw [e] at h2; cases h2; rfl
    obtain ⟨u, hu, rv⟩ := r.get ha
    have hp : ps[i]? = some y := by
      rw [← S.pre, List.getElem?_take_of_lt (by omega)]; exact h1
    have ndP : ps.Nodup := by rw [← S.pre]; exact S.nd.sublist (List.take_sublist _ _)
    refine ⟨u, rv, ?_⟩
    rcases S.par y (List.mem_of_getElem? hp) with k | k
    · exact .inl ⟨k, bindL_get ndP hp hu k⟩
    · obtain ⟨c, e⟩ := cell_has (n := s.heap.objs.size + 1) k
      refine .inr ⟨.inl k, c, e, ?_⟩
      have q := x.cell y c e
      rw [bindC_get ndP hp hu (by show scope.names.lookup y ≠ _; rw [k]; decide)] at q
      exact q
  · exact e0.hok.fresh (Nat.le_of_lt (x.above y c (PySem.mem_of_lookup h)))
  · unfold start
    show _ = N.length
    rw [List.length_append, List.length_map, List.length_replicate]
    omega

theorem fn_of {CX : CXT} {P : Program} {w : World} {K : PySem.W.Frag} {mg : Str → Option Value} {base : Heap} {k : Nat} {f : Addr} {name qual : Str} {params : Arguments} {body : List Stmt} {scope : Scope} {dV kV doc pm cdv ct oc : Value} {an od : Option Addr}
    {osl : Array (Option Value)} {N ps : List Str} {sp : Sp} (lk : K.lookup f = some ⟨oc, od, .func (PySem.W.fnOf name qual params body scope dV kV doc pm an cdv ct), osl⟩) (hcd : PySem.W.codeIn K cdv qual = true) (S : FnScope N ps scope)
    (len : ∀ vs H Q E, sp vs H Q E → vs.length = ps.length)
    (hbody : ∀ (A : Around) (outer : List Env) (s : Shared) (H : Hp) (vs : List V) (Q : VK) (E : XK), Room k (A.deeper (envOfC qual scope s.heap.objs.size f cdv)) → sp vs H Q E →
      ∃ t, PSs (cxOf CX P w K mg base N qual scope f cdv A outer s H E) body t ∧ t { nx := fun _ H' => Q .non H', rt := Q } (start N vs) H) :
    FnOk P w K mg base CX (k + 1) f (PySem.W.fnOf name qual params body scope dV kV doc pm an cdv ct) ps sp := by
  refine ⟨len, fun A outer s H args us vs Q E hr e0 hb r hsp => ?_⟩
  have hl := len _ _ _ _ hsp
  have KX : K.In s.heap := e0.mod.kin.keeps fun b o e => (e0.bs b o e).1
  have lim : s.heap.NoLimit := e0.mod.nolimit.keeps fun b o e => (e0.bs b o e).1
  have hkind : ∀ y ∈ ps.zip us, scope.names.lookup y.1 = some .local ∨ (scope.names.lookup y.1 = some .cell ∧ ((cellsFrom (s.heap.objs.size + 1) scope.names []).lookup y.1).isSome = true) := fun ⟨n, v⟩ hy => by
    rcases S.par n (List.of_mem_zip hy).1 with q | q
    · exact .inl q
    · exact .inr ⟨q, PySem.W.cellsFrom_some _ _ _ (.inl q)⟩
  refine codeAny_call_function hr.depth (KX _ _ lk) rfl S.co S.gen rfl (PySem.W.codeRec_of KX hcd) (hb _ _ _ _ ?_)
  refine wpAny_newFunctionEnv_cells S.kind hkind fun env he s1 x => ?_
  subst he
  refine ⟨lim.keeps x.toInCall.keep, codeAny_func ?_⟩
  obtain ⟨t, ht, hq⟩ := hbody A outer s H vs Q E (hr.deeper _) hsp
  have I : Inv (cxOf CX P w K mg base N qual scope f cdv A outer s H E) [] (start N vs) H s1 := inv_start S hr.hd e0 hl r x
  refine wpAny_mono (ht [] s1 (start N vs) H _ I hq) (fun fl s' hs => ?_) fun e s' hs => hs
  have fin : ∀ {σ' : St} {H' : Hp} {v : V} {u : Value}, Inv (cxOf CX P w K mg base N qual scope f cdv A outer s H E) [] σ' H' s' → RelV v u → Q v H' → CE outer P w H s Q u s' :=
    fun {σ' H' v u} J rv q => ⟨v, H', J.os, J.bare, J.base, J.hok, rv, q⟩
  cases fl with
  | ret u =>
    obtain ⟨v, σ', H', J, rv, q⟩ := hs
    exact fin J rv q
  | next =>
    obtain ⟨σ', H', J, q⟩ := hs
    exact fin (v := V.non) (u := Value.none) J rfl q
  | brk =>
    obtain ⟨_, _, _, q⟩ := hs
    exact False.elim q
  | cont =>
    obtain ⟨_, _, _, q⟩ := hs
    exact False.elim q
end L2

namespace L2
open PySem PySem.Spec PyProof.Rows
section
variable {X : Cx} {x : Str} {p pos : Pos} {e : Expr} {es : List Expr} {t : TA} {id T : String} {r : List V → Hp → VK → Prop}

def tCB (r : List V → Hp → VK → Prop) (t : TA) : TE := fun σ H Q => t σ H fun vs H1 => r vs H1 Q
theorem pe_callB (hc : CallR X (.builtin id) r) (hg : Gl X x) (hm : X.mg x = none) (hv : bootBuiltins x = some (.builtin id)) (ha : PA X (e :: es) t) (hn : x ≠ "__name__" := by decide) (hdb : (x == ("__debug__" : Str)) = false := by decide)
    (he : starEach (e :: es) X.env = (false, eval e X.env) :: starEach es X.env := by rfl) (hpl : (backTo pos (starEach es X.env)).any (·.1) = false := by rfl) : PE X (.Call (.Name x p) (e :: es) [] pos) (tCB r t) := by
  intro pins s σ H Q I h
  refine wpAny_Call_Name_kw (ld_blt I hg hm hv ?_ hn hdb)
  exact PyProof.Rows.callWith_builtin1 (thn (ha pos pins s σ H _ I h) fun us s1 ⟨vs, H1, I1, r1, q1⟩ => hc pins s1 σ H1 vs us Q I1 r1 q1) he hpl
theorem pe_callTy (hc : CallR X (.type T) r) (hg : Gl X x) (hm : X.mg x = none) (hv : bootBuiltins x = some (.type T)) (ha : PA X (e :: es) t) (hn : x ≠ "__name__" := by decide) (hdb : (x == ("__debug__" : Str)) = false := by decide)
    (he : starEach (e :: es) X.env = (false, eval e X.env) :: starEach es X.env := by rfl) (hpl : (backTo pos (starEach es X.env)).any (·.1) = false := by rfl) : PE X (.Call (.Name x p) (e :: es) [] pos) (tCB r t) := by
  intro pins s σ H Q I h
  refine wpAny_Call_Name_kw (ld_blt I hg hm hv ?_ hn hdb)
  exact PyProof.Rows.callWith_type1 (thn (ha pos pins s σ H _ I h) fun us s1 ⟨vs, H1, I1, r1, q1⟩ => hc pins s1 σ H1 vs us Q I1 r1 q1) he hpl
end
end L2

namespace HT
open PySem PyProof.Rows

def lexLt : List Int → List Int → Bool
  | [], [] => false
  | [], _ :: _ => true
  | _ :: _, [] => false
  | x :: xs, y :: ys => if x = y then lexLt xs ys else decide (x < y)


section
open PySem.SeqAt
open PySem.AutoSeq1 (wpAny_loadPart')
open PySem.MeetsSeq PySem.MeetsSeq2 PySem.MeetsSeq3

end

section
variable {prog : Program} {w : World} {A : Around} {E : Value → Shared → Prop} {s : Shared}



def sIx (n d : Nat) : Option Int → Nat
  | none => d
  | some v => if v < 0 then (v + (n : Int)).toNat else min v.toNat n
theorem sIx_none (n d : Nat) : sIx n d none = d := rfl
theorem sIx_nat (n d k : Nat) : sIx n d (some (k : Int)) = min k n := by
  show (if (k : Int) < 0 then ((k : Int) + (n : Int)).toNat else min (k : Int).toNat n) = min k n
  rw [if_neg (by omega), Int.toNat_natCast]

end
end HT

namespace L2
open PySem PySem.Spec PyProof.Rows

abbrev TO := St → Hp → (Option Int → Hp → Prop) → Prop
def PO (X : Cx) (e : Option Expr) (t : TO) : Prop :=
  ∀ (pins : List (Addr × Obj)) (s : Shared) (σ : St) (H : Hp) (Q : Option Int → Hp → Prop), Inv X pins σ H s → t σ H Q →
    wpAny (model X.prog X.w) X.A (evalPart e X.env) (fun u s' => ∃ o H', Inv X pins σ H' s' ∧ IsPart u o ∧ Q o H') X.xe s
def tNoPart : TO := fun _ H Q => Q none H
def tPart (t : TE) : TO := fun σ H Q => t σ H fun x H1 => ∃ i, x = .int i ∧ Q (some i) H1


section
variable {X : Cx} {e : Expr} {te : TE} {lo hi : Option Expr} {tl th : TO} {pos p2 : Pos}

theorem po_none : PO X none tNoPart := by
  intro pins s σ H Q I h
  rw [evalPart_none]
  exact wpAny_pure ⟨none, H, I, .none, h⟩
theorem po_some (h : PE X e te) : PO X (some e) (tPart te) := by
  intro pins s σ H Q I hw
  rw [evalPart_some]
  refine thn (h pins s σ H _ I hw) fun u s1 ⟨x, H1, I1, r1, q1⟩ => ?_
  obtain ⟨i, rfl, q⟩ := q1
  obtain ⟨t, rfl⟩ := r1
  exact ⟨some i, H1, I1, .int i t, q⟩

def SlR (X : Cx) (r : V → Option Int → Option Int → Hp → VK → Prop) : Prop :=
  ∀ (pins : List (Addr × Obj)) (s : Shared) (σ : St) (H : Hp) (x : V) (v vl vu : Value) (lo hi : Option Int) (sl : Addr) (Q : VK), Inv X pins σ H s → RelV x v → s.heap.IsSliceOf sl vl vu .none → IsPart vl lo → IsPart vu hi → r x lo hi H Q →
    ∃ T id, typeLookup (.type T) "__getitem__" = pure (some (.builtin id)) ∧ s.TypeIs v T ∧ wpAny (model X.prog X.w) X.A (getItem v (.ref sl)) (EP X pins σ Q) X.xe s
def tSl (r : V → Option Int → Option Int → Hp → VK → Prop) (te : TE) (tl th : TO) : TE := fun σ H Q => te σ H fun x H1 => tl σ H1 fun l H2 => th σ H2 fun u H3 => r x l u H3 Q
theorem pe_slice {r : V → Option Int → Option Int → Hp → VK → Prop} (hr : SlR X r) (he : PE X e te) (hl : PO X lo tl) (hu : PO X hi th) : PE X (.Subscript e (.Slice lo hi none p2) pos) (tSl r te tl th) := by
  intro pins s σ H Q I h
  refine Subscript_ (thn (he pins s σ H _ I h) fun v s1 ⟨x, H1, I1, r1, q1⟩ => ?_)
  refine wpAny_Slice (thn (hl pins s1 σ H1 _ I1 q1) fun vl s2 ⟨l, H2, I2, pl, q2⟩ => thn (hu pins s2 σ H2 _ I2 q2) fun vu s3 ⟨u, H3, I3, pu, q3⟩ => ?_)
  rw [evalPart_none]
  refine wpAny_pure ?_
  have I4 : Inv X pins σ H3 { s3 with heap := s3.heap.push { cls := .type "slice", data := .fields #[vl, vu, .none] } } := I3.kept (t' := s3.toks) fun b ob q => Heap.get?_push_of_some _ q
  obtain ⟨T, id, hT, ht, hg⟩ := hr pins { s3 with heap := s3.heap.push { cls := .type "slice", data := .fields #[vl, vu, .none] } } σ H3 x v vl vu l u s3.heap.objs.size Q I4 r1 (Heap.IsSliceOf.new ..) pl pu q3
  show wpAny (model X.prog X.w) X.A (subscriptTail e (.Slice lo hi none p2) v (.ref s3.heap.objs.size)) (EP X pins σ Q) X.xe { s3 with heap := s3.heap.push { cls := .type "slice", data := .fields #[vl, vu, .none] } }
  exact tail_any (ops := [.ref s3.heap.objs.size, v]) ht hT hg (by with_unfolding_all rfl)

def cutV (xs : List V) (lo hi : Option Int) : List V := (xs.drop (HT.sIx xs.length 0 lo)).take (HT.sIx xs.length xs.length hi - HT.sIx xs.length 0 lo)
theorem cutV_length (xs : List V) (lo hi : Option Int) : (cutV xs lo hi).length ≤ xs.length := by
  unfold cutV
  rw [List.length_take, List.length_drop]
  omega
def rSlT (K : PySem.W.Frag) : V → Option Int → Option Int → Hp → VK → Prop := fun x lo hi H Q => ∃ a xs, x = .ref a ∧ SqT K H a xs ∧
  ¬ (HT.sIx xs.length 0 lo = 0 ∧ HT.sIx xs.length xs.length hi = xs.length) ∧ ∀ p, H p = none → Q (.ref p) (upd H p (.tup (cutV xs lo hi)))

def rLtT (K : PySem.W.Frag) : R2 := fun x y H Q => ∃ a b ns ms, x = .ref a ∧ y = .ref b ∧ SqT K H a (ns.map V.int) ∧ SqT K H b (ms.map V.int) ∧ Q (.bl (HT.lexLt ns ms)) H
def rCatT (K : PySem.W.Frag) : R2 := fun x y H Q => ∃ a b xs ys, x = .ref a ∧ y = .ref b ∧ SqT K H a xs ∧ SqT K H b ys ∧ xs ≠ [] ∧ xs.length + ys.length ≤ sizeLine ∧
  (ys = [] → Q (.ref a) H) ∧ (ys ≠ [] → ∀ p, H p = none → Q (.ref p) (upd H p (.tup (xs ++ ys))))
end
end L2

namespace L2
open PySem PySem.Spec PyProof.Rows

def ixN (n : Nat) (i : Int) : Option Nat := if 0 ≤ i then (if i < n then some i.toNat else none) else if -(n : Int) ≤ i then some (i + n).toNat else none
def atI {α : Type} (xs : List α) (i : Int) : Option α := (ixN xs.length i).bind fun j => xs[j]?
theorem ixN_seq {n : Nat} {i : Int} {j : Nat} (h : ixN n i = some j) : seqIndex? i n = some j ∧ j < n ∧ -(n : Int) ≤ i ∧ i < n := by
  unfold ixN at h
  by_cases h0 : 0 ≤ i
  · rw [if_pos h0] at h
    by_cases h1 : i < n
    · rw [if_pos h1] at h
      have e : i.toNat = j := Option.some.inj h
      exact ⟨by rw [seqIndex_of h0 h1, e], by omega, by omega, h1⟩
    · rw [if_neg h1] at h; cases h
  · rw [if_neg h0] at h
    by_cases h1 : -(n : Int) ≤ i
    · rw [if_pos h1] at h
      have e : (i + n).toNat = j := Option.some.inj h
      exact ⟨by rw [seqIndex_neg (by omega) h1, e], by omega, h1, by omega⟩
    · rw [if_neg h1] at h; cases h
theorem atI_get {α : Type} {xs : List α} {i : Int} {v : α} (h : atI xs i = some v) : ∃ j, seqIndex? i xs.length = some j ∧ xs[j]? = some v ∧ j < xs.length ∧ -(xs.length : Int) ≤ i ∧ i < xs.length := by
  unfold atI at h
  cases e : ixN xs.length i with
  | none => rw [e] at h; cases h
  | some j =>
    rw [e] at h
    obtain ⟨h1, h2, h3, h4⟩ := ixN_seq e
    exact ⟨j, h1, h, h2, h3, h4⟩
theorem atI_nat {α : Type} {xs : List α} {j : Nat} {v : α} (h : xs[j]? = some v) : atI xs (j : Int) = some v := by
  have hj : j < xs.length := (List.getElem?_eq_some_iff.mp h).1
  have e : ixN xs.length (j : Int) = some j := by
    unfold ixN
    rw [if_pos (by omega), if_pos (by omega)]; simp
  unfold atI; rw [e]; exact h

def PlainIx (b : Expr) : Prop := ∀ o i, subscripted b false o i = operate [o, i] (getItem o i)
def IxR (X : Cx) (r : R2) : Prop :=
  ∀ (value slice : Expr) (pins : List (Addr × Obj)) (s : Shared) (σ : St) (H : Hp) (x y : V) (v u : Value) (Q : VK), Inv X pins σ H s → RelV x v → RelV y u → r x y H Q →
    subscripted slice false v u = operate [v, u] (getItem v u) → wpAny (model X.prog X.w) X.A (subscriptTail value slice v u) (EP X pins σ Q) X.xe s
def MtR (X : Cx) (id : String) (r : V → List V → Hp → VK → Prop) : Prop :=
  ∀ (pins : List (Addr × Obj)) (s : Shared) (σ : St) (H : Hp) (x : V) (xs : List V) (v : Value) (us : List Value) (Q : VK), Inv X pins σ H s → RelV x v → Vals xs us → r x xs H Q →
    wpAny (model X.prog X.w) X.A (call (.builtin id) (v :: us)) (EP X pins σ Q) X.xe s
section
variable {X : Cx} {a b : Expr} {ta tb : TE} {pos : Pos}
theorem pe_ix {r : R2} (hr : IxR X r) (ha : PE X a ta) (hb : PE X b tb) (hs : PlainIx b) : PE X (.Subscript a b pos) (tOp r ta tb) := by
  intro pins s σ H Q I h
  exact Subscript_ (binT ha hb I h fun v u s2 x y H2 I2 rx ry q => hr a b pins s2 σ H2 x y v u Q I2 rx ry q (hs _ _))

def rIxL (K : PySem.W.Frag) : R2 := fun x y H Q => ∃ p xs i v, x = .ref p ∧ y = .int i ∧ SqL K H p xs ∧ atI xs i = some v ∧ Q v H
def rIxT (K : PySem.W.Frag) : R2 := fun x y H Q => ∃ p xs i v, x = .ref p ∧ y = .int i ∧ SqT K H p xs ∧ atI xs i = some v ∧ Q v H
def rIxS : R2 := fun x y H Q => ∃ z i c, x = .str z ∧ y = .int i ∧ z.length ≤ sizeLine ∧ atI z.cps.toList i = some c ∧ Q (.str ⟨#[c]⟩) H
theorem ix_list : IxR X (rIxL X.K) := by
  intro value slice pins s σ H x y v u Q I rx ry h hs
  obtain ⟨p, xs, i, z, rfl, rfl, hq, he, q⟩ := h
  cases rx
  obtain ⟨t, rfl⟩ := ry
  obtain ⟨its, r, pl, hz⟩ := I.list hq
  obtain ⟨j, h1, h2, h3, h4, h5⟩ := atI_get he
  obtain ⟨w, ew, rw'⟩ := r.get h2
  have hl := r.length
  have hn := line63
  have fin : EP X pins σ Q w s := ⟨z, H, I, rw', q⟩
  by_cases h0 : 0 ≤ i
  · have hj : i.toNat = j := by
      rw [seqIndex_of h0 h5] at h1
      exact Option.some.inj h1
    exact item_listR pl.isList h0 (by omega) (by rw [hj]; simpa using ew) fin hs
  · have hj : (i + (its.toArray.size : Int)).toNat = j := by
      rw [seqIndex_neg (by omega) h4] at h1
      rw [List.size_toArray, ← hl]
      exact Option.some.inj h1
    exact subscriptTail_builtinR (x := w) pl.isList.typeIs slot_list_getitem.lookup
      (wpAny_getItem_list_neg (Q := fun r s' => r = w ∧ EP X pins σ Q r s') pl.isList (by omega) (by rw [List.size_toArray] <;> omega) (by omega) (by rw [hj]; simpa using ew) ⟨rfl, fin⟩) hs
theorem ix_tup : IxR X (rIxT X.K) := by
  intro value slice pins s σ H x y v u Q I rx ry h hs
  obtain ⟨p, xs, i, z, rfl, rfl, hq, he, q⟩ := h
  cases rx
  obtain ⟨t, rfl⟩ := ry
  obtain ⟨its, r, pl, hz⟩ := I.tuple hq
  obtain ⟨j, h1, h2, h3, h4, h5⟩ := atI_get he
  obtain ⟨w, ew, rw'⟩ := r.get h2
  have hl := r.length
  have hn := line63
  have fin : EP X pins σ Q w s := ⟨z, H, I, rw', q⟩
  exact subscriptTail_builtinR (x := w) pl.typeIs slot_tuple_getitem.lookup
    (getItem_tuple (j := j) (Q := fun r s' => r = w ∧ EP X pins σ Q r s') pl (by omega) (by omega) (by rw [List.size_toArray, ← hl]; exact h1) (by simpa using ew) ⟨rfl, fin⟩) hs
def rIx (K : PySem.W.Frag) : R2 := fun x y H Q => rIxL K x y H Q ∨ rIxT K x y H Q ∨ rIxS x y H Q

theorem mapSeq_set (its : List Value) (n j : Nat) (u : Value) : Obj.mapSeq (·.setIfInBounds j u) { cls := .type "list", data := .seq its.toArray n } = { cls := .type "list", data := .seq (its.set j u).toArray n } := by
  simp [Obj.mapSeq]
theorem Inv.lst {pins : List (Addr × Obj)} {σ : St} {H : Hp} {s : Shared} {p : Addr} {xs : List V} (I : Inv X pins σ H s) (h : H p = some (.lst xs)) :
    ∃ (its : List Value) (n : Nat), Vals xs its ∧ s.heap.get? p = some { cls := .type "list", data := .seq its.toArray n } ∧ xs.length ≤ sizeLine := by
  obtain ⟨z, its, n, r, e⟩ := I.hok p _ h
  exact ⟨its, n, r, e, z⟩
theorem Inv.lstUpd {pins : List (Addr × Obj)} {σ : St} {H : Hp} {s : Shared} {p : Addr} {xs ys : List V} {its its' : List Value} {n n' : Nat} {f : Obj → Obj} (I : Inv X pins σ H s) (h : H p = some (.lst xs))
    (ho : s.heap.get? p = some { cls := .type "list", data := .seq its.toArray n }) (hf : f { cls := .type "list", data := .seq its.toArray n } = { cls := .type "list", data := .seq its'.toArray n' }) (r : Vals ys its') (hz : ys.length ≤ sizeLine) (t : Nat) :
    Inv X pins σ (upd H p (.lst ys)) { s with heap := s.heap.update p f, toks := t } := by
  have e : (s.heap.update p f).get? p = some { cls := .type "list", data := .seq its'.toArray n' } := by
    rw [Heap.get?_update_self f ho (by rw [hf] <;> rfl), hf]
  refine I.write (x := p) (e := p) (by rw [h]; trivial) (.inl rfl) (fun b u hb q => (Heap.get?_update_other _ _ (Ne.symm hb)).trans q) ⟨_, e⟩ ?_
  exact ⟨hz, its', n', r, e⟩
def rSetL : V → V → V → Hp → (Hp → Prop) → Prop := fun o i v H Q => ∃ p xs k j, o = .ref p ∧ i = .int k ∧ H p = some (.lst xs) ∧ ixN xs.length k = some j ∧ Q (upd H p (.lst (xs.set j v)))
theorem set_list : PSet X rSetL := by
  intro pins s σ H o i v ov iv u Q I ro ri rv h
  obtain ⟨p, xs, k, j, rfl, rfl, hp, hj, q⟩ := h
  cases ro
  obtain ⟨t, rfl⟩ := ri
  obtain ⟨its, n, r, ho, hz⟩ := I.lst hp
  obtain ⟨h1, h2, h3, h4⟩ := ixN_seq hj
  have hl := r.length
  have hn := line63
  have I' : Inv X pins σ (upd H p (.lst (xs.set j v))) { s with heap := s.heap.update p (Obj.mapSeq (·.setIfInBounds j u)) } :=
    I.lstUpd hp ho (mapSeq_set its n j u) (r.set rv j) (by rw [List.length_set]; exact hz) s.toks
  by_cases h0 : 0 ≤ k
  · have hk : k.toNat = j := by
      rw [seqIndex_of h0 h4] at h1
      exact Option.some.inj h1
    exact PySem.W.ki_setAt ho h0 (by omega) (by rw [List.size_toArray, ← hl]; exact h4) (by rw [hk]; exact ⟨_, I', q⟩)
  · have hk : (k + (its.toArray.size : Int)).toNat = j := by
      rw [seqIndex_neg (by omega) h3] at h1
      rw [List.size_toArray, ← hl]
      exact Option.some.inj h1
    exact PySem.W.ki_setBack ho (by omega) (by rw [List.size_toArray, ← hl]; exact h3) (by omega) (by rw [hk]; exact ⟨_, I', q⟩)

theorem slice_bounds (lo hi : Option Int) (n : Nat) : (sliceBounds lo hi none n).1 = ((HT.sIx n 0 lo : Nat) : Int) ∧ (sliceBounds lo hi none n).2.1 = ((HT.sIx n n hi : Nat) : Int) ∧ (sliceBounds lo hi none n).2.2 = 1 := by
  refine ⟨?_, ?_, rfl⟩
  · cases lo with
    | none => simp [sliceBounds, HT.sIx]
    | some i =>
      simp only [sliceBounds, HT.sIx, Option.getD_none, show (1 : Int) > 0 by decide, if_true]
      by_cases h : i < 0
      · simp only [h, if_true] <;> omega
      · simp only [h, if_false] <;> omega
  · cases hi with
    | none => simp [sliceBounds, HT.sIx]
    | some i =>
      simp only [sliceBounds, HT.sIx, Option.getD_none, show (1 : Int) > 0 by decide, if_true]
      by_cases h : i < 0
      · simp only [h, if_true] <;> omega
      · simp only [h, if_false] <;> omega
theorem slicePick_cut (its : List Value) (lo hi : Option Int) : slicePick its.toArray lo hi none = ((its.drop (HT.sIx its.length 0 lo)).take (HT.sIx its.length its.length hi - HT.sIx its.length 0 lo)).toArray := by
  obtain ⟨h1, h2, h3⟩ := slice_bounds lo hi its.toArray.size
  unfold slicePick
  rw [h1, h2, h3]
  simp only [sliceRange_one, pick_run, List.size_toArray] <;> rfl
def rSlL (K : PySem.W.Frag) : V → Option Int → Option Int → Hp → VK → Prop := fun x lo hi H Q => ∃ a xs, x = .ref a ∧ SqL K H a xs ∧ ∀ p, H p = none → Q (.ref p) (upd H p (.lst (cutV xs lo hi)))
theorem sl_list : SlR X (rSlL X.K) := by
  intro pins s σ H x v vl vu lo hi sl Q I rx hs pl pu h
  obtain ⟨a, xs, rfl, hx, q⟩ := h
  cases rx
  obtain ⟨its, r, ht, hz⟩ := I.list hx
  have hlen := r.length
  refine ⟨"list", _, slot_list_getitem.lookup, ht.isList.typeIs, ?_⟩
  refine wpAny_getItem_list_slice ht.isList hs pl pu .none (by simp) ?_ (by rw [List.size_toArray] <;> omega)
  rw [slicePick_cut, ← hlen]
  refine ⟨.ref s.heap.objs.size, _, I.laid (t' := s.toks) (o := .lst (cutV xs lo hi)) (fun b ob q => Heap.get?_push_of_some _ q) (Nat.le_refl _) ?_, rfl, q _ (I.hok.fresh (Nat.le_refl _))⟩
  exact ⟨Nat.le_trans (cutV_length xs lo hi) hz, _, 0, (r.drop (HT.sIx xs.length 0 lo)).take (HT.sIx xs.length xs.length hi - HT.sIx xs.length 0 lo), Heap.get?_push_size _ rfl⟩

def flatV : V → Bool
  | .non => true
  | .bl _ => true
  | .int _ => true
  | .str _ => true
  | _ => false
def eqV : V → V → Bool
  | .non, .non => true
  | .bl a, .bl b => a == b
  | .bl a, .int b => (if a then 1 else 0) == b
  | .int a, .bl b => a == (if b then 1 else 0)
  | .int a, .int b => a == b
  | .str a, .str b => a == b
  | _, _ => false
def eqU (x : V) (u : Value) : Bool := match u with
  | .none => eqV .non x
  | .bool b => eqV (.bl b) x
  | .int i _ => eqV (.int i) x
  | .str z _ => eqV (.str z) x
  | _ => false
def inV (x : V) (xs : List V) : Bool := xs.any fun y => eqV y x
def rIn (K : PySem.W.Frag) (neg : Bool) : R2 := fun x y H Q => ∃ p xs, y = .ref p ∧ (SqL K H p xs ∨ SqT K H p xs) ∧ flatV x = true ∧ xs.all flatV = true ∧ Q (.bl (if neg then !inV x xs else inV x xs)) H

theorem call_len_seq : CallR X (.builtin "len") (fun xs H Q => ∃ p ys, xs = [.ref p] ∧ (SqL X.K H p ys ∨ SqT X.K H p ys) ∧ Q (.int ys.length) H) := by
  intro pins s σ H xs us Q I r h
  obtain ⟨p, ys, rfl, hq, q⟩ := h
  obtain ⟨u, rfl, rx⟩ := vals1 r
  cases rx
  have hn := line63
  rcases hq with hq | hq
  · obtain ⟨its, r', pl, hz⟩ := I.list hq
    have hlen := r'.length
    exact Calls.call_len_list pl.isList (by simp only [List.size_toArray] <;> omega) ⟨.int ys.length, H, I.tok _, ⟨s.toks + 1, by rw [List.size_toArray, hlen]⟩, q⟩
  · obtain ⟨its, r', pl, hz⟩ := I.tuple hq
    have hlen := r'.length
    exact len_tuple pl (by simp only [List.size_toArray] <;> omega) ⟨.int ys.length, H, I.tok _, ⟨s.toks + 1, by rw [List.size_toArray, hlen]⟩, q⟩
theorem call_list_of : CallR X (.type "list") (fun xs H Q => ∃ p ys, xs = [.ref p] ∧ (SqL X.K H p ys ∨ SqT X.K H p ys) ∧ ∀ l, H l = none → Q (.ref l) (upd H l (.lst ys))) := by
  intro pins s σ H xs us Q I r h
  obtain ⟨p, ys, rfl, hq, q⟩ := h
  obtain ⟨u, rfl, rx⟩ := vals1 r
  cases rx
  have fin : ∀ (its : List Value), Vals ys its → ys.length ≤ sizeLine → ∀ (h' : Heap) (c' : Nat), (∀ b o', s.heap.get? b = some o' → h'.get? b = some o') →
      h'.get? s.heap.objs.size = some { cls := .type "list", dict := none, data := .seq its.toArray c', slots := #[] } → EP X pins σ Q (.ref s.heap.objs.size) { s with heap := h' } := fun its r' hz h' c' kp e =>
    ⟨.ref s.heap.objs.size, _, I.laid (t' := s.toks) kp (Nat.le_refl _) (show ObjOk X.prog X.w _ h' _ (.lst ys) from ⟨hz, its, c', r', e⟩), rfl, q _ (I.hok.fresh (Nat.le_refl _))⟩
  rcases hq with hq | hq
  · obtain ⟨its, r', pl, hz⟩ := I.list hq
    have hlen := r'.length
    obtain ⟨o, ho, hc, n, hd⟩ := pl.isList
    exact call_list_seq p (.inl rfl) ho hc hd (fun h' c' kp e => fin its r' hz h' c' kp e) (by simp only [List.size_toArray] <;> omega)
  · obtain ⟨its, r', pl, hz⟩ := I.tuple hq
    have hlen := r'.length
    obtain ⟨o, ho, hc, n, hd⟩ := pl
    exact call_list_seq p (.inr rfl) ho hc hd (fun h' c' kp e => fin its r' hz h' c' kp e) (by simp only [List.size_toArray] <;> omega)

def tyV (K : PySem.W.Frag) (T : String) (x : V) (H : Hp) : Prop := match x with
  | .str _ => T = "str"
  | .int _ => T = "int"
  | .ref p => (T = "list" ∧ ∃ xs, SqL K H p xs) ∨ (T = "tuple" ∧ ∃ o, K.lookup p = some o ∧ o.cls = .type "tuple" ∧ o.dict = none) ∨
      (T = "dict" ∧ ((∃ kvs, H p = some (.dK kvs)) ∨ ∃ kvs, H p = some (.dT kvs))) ∨ (T = "set" ∧ ∃ S n, H p = some (.set S n))
  | _ => False
theorem tyV_is {pins : List (Addr × Obj)} {σ : St} {H : Hp} {s : Shared} {T : String} {x : V} {v : Value} (I : Inv X pins σ H s) (r : RelV x v) (ty : tyV X.K T x H) :
    s.TypeIs v T ∧ ∀ a, v = .ref a → ∃ ob, s.heap.get? a = some ob ∧ ob.dict = none := by
  cases x with
  | str z =>
    obtain ⟨t, rfl⟩ := r
    cases (show T = "str" from ty)
    exact ⟨typeIs_str s z t, fun _ e => nomatch e⟩
  | int i =>
    obtain ⟨t, rfl⟩ := r
    cases (show T = "int" from ty)
    exact ⟨typeIs_int s i t, fun _ e => nomatch e⟩
  | ref p =>
    cases r
    rcases ty with ⟨rfl, xs, hq⟩ | ⟨rfl, o, hk, hc, hd⟩ | ⟨rfl, hk⟩ | ⟨rfl, S, n, hk⟩
    · obtain ⟨its, _, pl, _⟩ := I.list hq
      refine ⟨pl.isList.typeIs, fun a e => ?_⟩
      cases e
      obtain ⟨o, n, e, c, hd, _⟩ := pl
      exact ⟨o, e, hd⟩
    · refine ⟨⟨o, I.kIn p o hk, hc⟩, fun a e => ?_⟩
      cases e
      exact ⟨o, I.kIn _ o hk, hd⟩
    · have z : ∃ o, s.heap.get? p = some o ∧ o.ExactDict := by
        rcases hk with ⟨kvs, hk⟩ | ⟨kvs, hk⟩
        · obtain ⟨_, _, _, _, o, _, _, e, ex, _⟩ := I.hok p _ hk
          exact ⟨o, e, ex⟩
        · obtain ⟨_, _, _, _, o, _, _, e, ex, _⟩ := I.hok p _ hk
          exact ⟨o, e, ex⟩
      obtain ⟨o, e, ex⟩ := z
      refine ⟨⟨o, e, ex.1⟩, fun a e2 => ?_⟩
      cases e2
      exact ⟨o, e, ex.2.1⟩
    · obtain ⟨o, _, _, _, e, ex, _⟩ := I.hok p _ hk
      refine ⟨⟨o, e, ex.1⟩, fun a e2 => ?_⟩
      cases e2
      exact ⟨o, e, ex.2.1⟩
  | _ => exact False.elim ty
def tBM0 (K : PySem.W.Frag) (T : String) (r : V → List V → Hp → VK → Prop) (to : TE) : TE := fun σ H Q => to σ H fun x H1 => tyV K T x H1 ∧ r x [] H1 Q
def tBM (K : PySem.W.Frag) (T : String) (r : V → List V → Hp → VK → Prop) (to : TE) (t : TA) : TE := fun σ H Q => to σ H fun x H1 => tyV K T x H1 ∧ t σ H1 fun xs H2 => r x xs H2 Q
variable {o e : Expr} {es : List Expr} {to : TE} {t : TA} {name : Str} {apos cpos : Pos} {T id : String} {r : V → List V → Hp → VK → Prop}
theorem pe_bm0 (pa : PlainAttrs T) (slot : Slot T name id) (hty : typeOf (.builtin id) = pure (.type "method_descriptor")) (hm : MtR X id r) (ho : PE X o to)
    (hbase : attributeBase o name X.env (eval o X.env) = eval o X.env := by rfl) (hline : (apos.endLine == cpos.line) = true := by rfl) : PE X (.Call (.Attribute o name apos) [] [] cpos) (tBM0 X.K T r to) := by
  intro pins s σ H Q I h
  refine wpAny_Call_method0_late hbase hline (thn (ho pins s σ H _ I h) fun v s1 ⟨x, H1, I1, r1, ty, q1⟩ => ?_)
  obtain ⟨h1, h2⟩ := tyV_is I1 r1 ty
  exact ⟨T, id, pa, slot, hty, h1, h2, Calls.callWith_builtin rfl (PySem.evalArgs_none (hm pins s1 σ H1 x [] v [] Q I1 r1 .nil q1))⟩
theorem pe_bm (pa : PlainAttrs T) (slot : Slot T name id) (hty : typeOf (.builtin id) = pure (.type "method_descriptor")) (hm : MtR X id r) (ho : PE X o to) (ha : PA X (e :: es) t)
    (hbase : attributeBase o name X.env (eval o X.env) = eval o X.env := by rfl)
    (hfew : ((backTo cpos (starEach (e :: es) X.env)).all (fun x => !x.1) && (backToKw cpos (keywordEach [] X.env)).all (fun x => x.1.isSome)
      && decide ((e :: es).length + ([] : List Keyword).length + (if ([] : List Keyword).isEmpty then 0 else 1) < 30)) = true := by rfl)
    (hline : (apos.endLine == cpos.line) = true := by rfl) (hs : starEach (e :: es) X.env = (false, eval e X.env) :: starEach es X.env := by rfl) (hplain : (backTo cpos (starEach es X.env)).any (·.1) = false := by rfl) :
    PE X (.Call (.Attribute o name apos) (e :: es) [] cpos) (tBM X.K T r to t) := by
  intro pins s σ H Q I h
  refine wpAny_Call_method_late hbase hfew hline rfl (thn (ho pins s σ H _ I h) fun v s1 ⟨x, H1, I1, r1, ty, q1⟩ => ?_)
  obtain ⟨h1, h2⟩ := tyV_is I1 r1 ty
  refine ⟨T, id, pa, slot, hty, h1, h2, ?_⟩
  have hA := ha cpos pins s1 σ H1 _ I1 q1
  rw [hs] at hA ⊢
  refine Calls.callWith_builtin (by show (false || (backTo cpos (starEach es X.env)).any (·.1)) = false; rw [hplain] <;> rfl) (Calls.evalArgs_plain ?_)
  exact thn hA fun us s2 ⟨vs, H2, I2, r2, q2⟩ => hm pins s2 σ H2 x vs v us Q I2 r1 r2 q2
end
end L2

namespace L2
open PySem PySem.Spec PyProof.Rows

def MtM (X : Cx) (id : String) (r : V → List V → Hp → VK → Prop) : Prop :=
  ∀ (pins : List (Addr × Obj)) (s : Shared) (σ : St) (H : Hp) (x : V) (xs : List V) (v : Value) (us : List Value) (Q : VK), Inv X pins σ H s → RelV x v → Vals xs us → r x xs H Q →
    wpAny (model X.prog X.w) X.A (call (.builtin id) (v :: us)) (EP X pins σ Q) X.xe s

theorem Vals.one : ∀ {x : V} {us : List Value}, Vals [x] us → ∃ u, us = [u] ∧ RelV x u
  | _, _, .cons r .nil => ⟨_, rfl, r⟩
theorem Vals.dropLast {xs : List V} {us : List Value} (h : Vals xs us) : Vals xs.dropLast us.dropLast := by
  induction h with
  | nil => exact .nil
  | cons r t ih =>
    cases t with
    | nil => exact .nil
    | cons q t' => exact .cons r ih
theorem Vals.eraseIdx : ∀ {xs : List V} {us : List Value} (i : Nat), Vals xs us → Vals (xs.eraseIdx i) (us.eraseIdx i)
  | _, _, _, .nil => .nil
  | _, _, 0, .cons _ t => t
  | _, _, i + 1, .cons r t => .cons r (Vals.eraseIdx i t)
theorem Vals.reverse {xs : List V} {us : List Value} (h : Vals xs us) : Vals xs.reverse us.reverse := by
  induction h with
  | nil => exact .nil
  | cons r t ih => rw [List.reverse_cons, List.reverse_cons]; exact Vals.append ih (.cons r .nil)

section
variable {X : Cx} {pins : List (Addr × Obj)} {σ : St} {H : Hp} {s : Shared} {l b : Addr} {xs ys zs : List V}

theorem Inv.lset {its its' : List Value} {n : Nat} {f : Array Value → Array Value} {t' : Nat} (I : Inv X pins σ H s) (hH : H l = some (.lst xs))
    (e : s.heap.get? l = some { cls := .type "list", data := .seq its.toArray n }) (hf : f its.toArray = its'.toArray) (hv : Vals ys its') (hz : ys.length ≤ sizeLine) :
    Inv X pins σ (upd H l (.lst ys)) { s with heap := s.heap.update l (Obj.mapSeq f), toks := t' } := by
  have q := PySem.IsL.update e f
  rw [hf] at q
  refine I.write (x := l) (e := l) (by rw [hH]; exact trivial) (.inl rfl) (fun b' u hb hu => (Heap.get?_update_other s.heap (Obj.mapSeq f) (Ne.symm hb)).trans hu) ⟨_, q⟩ ?_
  exact ⟨hz, its', _, hv, q⟩
theorem Inv.lnew {its : List Value} {t' : Nat} (I : Inv X pins σ H s) (hv : Vals ys its) (hz : ys.length ≤ sizeLine) :
    Inv X pins σ (upd H s.heap.objs.size (.lst ys)) { s with heap := s.heap.push { cls := .type "list", data := .seq its.toArray }, toks := t' } :=
  I.laid (fun _ _ q => Heap.get?_push_of_some _ q) (Nat.le_refl _) ⟨hz, its, 0, hv, Heap.get?_push_size _ rfl⟩
theorem Inv.fresh (I : Inv X pins σ H s) : H s.heap.objs.size = none := I.hok.fresh (Nat.le_refl _)
theorem Inv.lstM (I : Inv X pins σ H s) (hH : H l = some (.lst xs)) : xs.length ≤ sizeLine ∧ ∃ (its : List Value) (n : Nat), Vals xs its ∧ xs.length = its.length ∧ s.heap.get? l = some { cls := .type "list", data := .seq its.toArray n } := by
  obtain ⟨z, its, n, r, e⟩ := I.hok l _ hH
  exact ⟨z, its, n, r, r.length, e⟩

end

section
variable {X : Cx}

def rAppend : V → List V → Hp → VK → Prop := fun x vs H Q => ∃ l xs y, x = .ref l ∧ vs = [y] ∧ H l = some (.lst xs) ∧ xs.length < sizeLine ∧ Q .non (upd H l (.lst (xs ++ [y])))
theorem mt_append : MtM X "list.append" rAppend := by
  intro pins s σ H x vs v us Q I rx rv h
  obtain ⟨l, xs, y, rfl, rfl, hH, hz, q⟩ := h
  cases rx
  obtain ⟨u, rfl, ru⟩ := rv.one
  obtain ⟨z, its, n, r, hl, e⟩ := I.lstM hH
  refine call_meets F.slot_list_append ⟨_, e, rfl⟩ F.entry_list_append (F.args_list_append_2 _ _) (PySem.list_append l its.toArray n u (by rw [List.size_toArray]; omega)) ⟨e, ?_⟩
  refine ⟨.non, _, I.lset (its' := its ++ [u]) hH e (by simp) (r.append (.cons ru .nil)) ?_, rfl, q⟩
  rw [List.length_append, List.length_singleton]
  omega

def rExtend : V → List V → Hp → VK → Prop := fun x vs H Q => ∃ l b xs zs, x = .ref l ∧ vs = [.ref b] ∧ H l = some (.lst xs) ∧ H b = some (.lst zs) ∧ xs.length + zs.length ≤ sizeLine ∧ Q .non (upd H l (.lst (xs ++ zs)))

def rPop : V → List V → Hp → VK → Prop := fun x vs H Q => ∃ l xs y, x = .ref l ∧ vs = [] ∧ H l = some (.lst xs) ∧ xs[xs.length - 1]? = some y ∧ Q y (upd H l (.lst xs.dropLast))

def rPopAt : V → List V → Hp → VK → Prop := fun x vs H Q => ∃ l xs i k y, x = .ref l ∧ vs = [.int i] ∧ H l = some (.lst xs) ∧ -(2 ^ 63) ≤ i ∧ i < 2 ^ 63 ∧ seqIndex? i xs.length = some k ∧ xs[k]? = some y ∧ Q y (upd H l (.lst (xs.eraseIdx k)))

def rReverse : V → List V → Hp → VK → Prop := fun x vs H Q => ∃ l xs, x = .ref l ∧ vs = [] ∧ H l = some (.lst xs) ∧ Q .non (upd H l (.lst xs.reverse))

def rClear : V → List V → Hp → VK → Prop := fun x vs H Q => ∃ l xs, x = .ref l ∧ vs = [] ∧ H l = some (.lst xs) ∧ Q .non (upd H l (.lst []))

def rCat : R2 := fun x y H Q => ∃ l b xs zs, x = .ref l ∧ y = .ref b ∧ H l = some (.lst xs) ∧ H b = some (.lst zs) ∧ xs.length + zs.length ≤ sizeLine ∧ ∀ p, H p = none → Q (.ref p) (upd H p (.lst (xs ++ zs)))
theorem op_cat : OpR X (binaryOp .Add) rCat := by
  intro pins s σ H x y v u Q I rx ry h
  obtain ⟨l, b, xs, zs, rfl, rfl, hH, hB, hz, q⟩ := h
  cases rx
  cases ry
  obtain ⟨z, its, n, r, hl, e⟩ := I.lstM hH
  obtain ⟨z2, its2, n2, r2, hl2, e2⟩ := I.lstM hB
  refine PySem.P.add_list e e2 ?_ (by rw [List.size_toArray, List.size_toArray]; omega)
  have ea : its.toArray ++ its2.toArray = (its ++ its2).toArray := by simp
  rw [ea]
  exact ⟨.ref _, _, I.lnew (t' := s.toks) (r.append r2) (by rw [List.length_append]; omega), rfl, q _ I.fresh⟩
def rRep : R2 := fun x y H Q => ∃ l k xs, x = .ref l ∧ y = .int k ∧ H l = some (.lst xs) ∧ -(2 ^ 63) ≤ k ∧ k < 2 ^ 63 ∧ xs.length * k.toNat ≤ sizeLine ∧
  ∀ p, H p = none → Q (.ref p) (upd H p (.lst (List.replicate k.toNat xs).flatten))

end

section
variable {prog : Program} {w : World} {A : Around} {E : Value → Shared → Prop} {s : Shared}
end

section
variable {X : Cx}
end
end L2

namespace Att
open PySem PySem.W PySem.Calls PyProof.Rows

theorem ints_of_wellAll {P : Params} {h : Heap} : ∀ (ns : List Int) (vs : List Value), WellAll P h vs (ns.map WData.int) → IntsAre vs ns := by
  intro ns
  induction ns with
  | nil =>
    intro vs w
    rw [List.map_nil] at w
    cases w
    exact .nil
  | cons n ns ih =>
    intro vs w
    rw [List.map_cons] at w
    cases w with
    | cons a b =>
      cases a
      exact .cons _ _ (ih _ b)

theorem script_of {l : OpenLaw} {n : Nat} (hn : l.most = some n) {P : Params} {h : Heap} {args : List WData} {vals : List Value}
    (hpre : l.row.toRowW.claim.pre args = true) (hwl : WellAll P h vals args) :
    ∃ a vs ns, vals = [Value.ref a] ∧ args = [WData.list (ns.map WData.int)] ∧ h.get? a = some { cls := .type "list", data := .seq vs.toArray } ∧ IntsAre vs ns ∧ ns.length ≤ n := by
  have hsh : WShape.hasAll [] args [.list .int] = true := (pre_splitW hpre).1
  have hc : l.pre.holds [] { args := args } = true := (pre_splitW hpre).2
  obtain ⟨d, r, rfl, h1, h2⟩ := hasAllW_cons hsh
  obtain rfl := hasAllW_nil h2
  obtain ⟨xs, rfl, h3⟩ := hasW_list h1
  obtain ⟨ns, rfl⟩ := items_int h3
  have hlen : ns.length ≤ n := by
    unfold OpenLaw.pre at hc
    have h4 : (WTm.not (.lt (.lit (.int (n : Int))) (.len (.arg 0)))).holds [] { args := [.list (ns.map .int)] } = true := by
      have h4 := (holds_andW hc).1
      rw [hn] at h4
      exact h4
    have h5 := condW_of h4 (w_not (w_lt w_lit (w_len_list (w_arg rfl))))
    rw [List.length_map] at h5
    refine Nat.le_of_not_lt fun q => ?_
    have q' : (n : Int) < ((ns.length : Nat) : Int) := by omega
    first
      | (rw [decide_eq_true q'] at h5; exact absurd h5 (by decide))
      | (simp at h5; omega)
  cases hwl with
  | cons w1 w2 =>
    cases w2
    cases w1 with
    | list ho hall => exact ⟨_, _, ns, rfl, rfl, ho, ints_of_wellAll ns _ hall, hlen⟩

theorem post_true (l : OpenLaw) (args : List WData) : l.row.toRowW.claim.post args (.bool true) args = true :=
  postW_of (r := l.row.toRowW) (X := (true == true))
    (show WShape.has [] (.bool true) .bool = true by first | rfl | decide | simp [WShape.has, WShape.arms, WShape.armsAll])
    (show (WTm.eq .res (.lit (.bool true))).value [] { args := args, res := some (.bool true), after := args } = some (.bool (true == true)) from w_eq_bool (w_res rfl) w_lit) rfl


theorem attach_call {l : OpenLaw} {n : Nat} {q : Program} {loose : List Str} {XP : (Str → Option Value) → Heap → Prop} {YP : World → Heap → Prop} {d : DefRec}
    (hn : l.most = some n) (hdf : d.params.defaults = [])
    (call : ∀ (w : World) (s₀ s₁ : Shared) (mg mb : Str → Option Value) (fa : Addr) (o : Obj) (pm cd doc : Value) (a : Addr) (vs : List Value) (ns : List Int),
      Ground q loose [] XP w s₀ mg mb s₁.heap → YP w s₁.heap →
      s₁.heap.get? fa = some o → o.data = .func (docDef d.name d.params d.body d.scope pm cd doc) → s₁.heap.CodeRec cd d.name → mg d.name = some (.ref fa) →
      s₁.heap.get? a = some { cls := .type "list", data := .seq vs.toArray } → IntsAre vs ns → ns.length ≤ n → s₁.gens = #[] →
      codeAny (model l.prog w) callerA (.call (.ref fa) ⟨[.ref a], []⟩) (fun r s' => r = .ok (.ret (.bool true)) ∧ OldK s₁.heap s'.heap ∧ s'.os = s₁.os ∧ AllBare s'.gens) s₁) :
    WalkO q loose XP YP l.row.toRowW d [] (fun f vs => PySem.call f vs) := by
  intro w s₀ s₁ mg mb G Y fa o pm cd doc dV kV ho hd hcd hD hmg hg args vals as hpre hlay hrd hwl hlo
  obtain rfl : dV = .none := Dflts.none hD hdf
  obtain rfl : kV = .none := Dflts.noKw hD
  obtain ⟨a, vs, ns, rfl, rfl, hobj, hints, hlen⟩ := script_of hn hpre hwl
  refine enter_call (codeAny_mono (call w s₀ s₁ mg mb fa o pm cd doc a vs ns G Y ho (fd_plain hd) hcd hmg hobj hints hlen hg) fun r s' hq => ?_)
  obtain ⟨rfl, h2, h3, h4⟩ := hq
  exact ⟨.inl ⟨.bool true, .bool true, [], rfl, fun _ => rfl, .bool true, post_true l _, fun _ => ⟨List.Pairwise.nil, fun _ hm => (nomatch hm)⟩⟩, h2, h3, h4⟩


section
variable {prog : Program} {w : World} {A : Around} {E : Value → Shared → Prop} {s : Shared} {K : Frag}





def noObjs (h : Heap) : Heap := { h with objs := #[] }
def ledger (h : Heap) (L d : Addr) : List (Addr × Obj) := (List.range h.objs.size).filterMap fun a => if a = L ∨ a = d then none else (h.get? a).map fun o => (a, o)

end
end Att

namespace L2
open PySem PySem.Spec PyProof.Rows

theorem vals_ints : ∀ {vs : List Value} {ns : List Int}, IntsAre vs ns → Vals (ns.map V.int) vs
  | _, _, .nil => .nil
  | _, _, .cons n t h => .cons ⟨t, rfl⟩ (vals_ints h)

def Only (H : Hp) : Prop := ∀ b, H b = none ∨ ∃ o xs, H b = some (.frz o (.lst xs))

theorem law_call {P : Program} {w : World} {K : PySem.W.Frag} {mg mb : Str → Option Value} {CX : CXT} {k : Nat} {fa a : Addr} {fd : FuncData} {x : Str} {sp : Sp} {s₁ : Shared} {vs : List Value} {ns : List Int}
    (KX : K.In s₁.heap) (hns : s₁.heap.Ns mainGlobals mg) (hb : s₁.heap.Ns builtinsNs mb) (hbb : ∀ x : Str, x ≠ "__name__" → mb x = bootBuiltins x) (hlim : s₁.heap.NoLimit) (hg : s₁.gens = #[])
    (ha : s₁.heap.get? a = some { cls := .type "list", data := .seq vs.toArray }) (hi : IntsAre vs ns) (hl : ns.length ≤ sizeLine) (hr : Room k callerA)
    (F : ∀ base : Heap, K.In base → base.Ns mainGlobals mg → FnOk P w K mg base CX k fa fd [x] sp) (hbind : ∀ (s : Shared) (u : Value), BindsTo s fd ⟨[u], []⟩ [(x, u)])
    (hsp : ∀ H : Hp, Only H → SqL K H a (ns.map V.int) → sp [.ref a] H (fun v _ => v = .bl true) fun _ _ _ => False)
    (hCX : ∀ H e s', CX [] H s₁ (fun _ _ _ => False) e s' → False) :
    codeAny (model P w) callerA (.call (.ref fa) ⟨[.ref a], []⟩) (fun r s' => r = .ok (.ret (.bool true)) ∧ OldK s₁.heap s'.heap ∧ s'.os = s₁.os ∧ AllBare s'.gens) s₁ := by
  have rv := vals_ints hi
  have lenV := hi.length
  -- from an abstract heap in which nothing but the script may be tracked
  have core : ∀ H : Hp, Only H → SqL K H a (ns.map V.int) → HOk P w H s₁.heap → (∀ b, H b ≠ none → b = a) → (H a ≠ none → K.lookup a = none) →
      codeAny (model P w) callerA (.call (.ref fa) ⟨[.ref a], []⟩) (fun r s' => r = .ok (.ret (.bool true)) ∧ OldK s₁.heap s'.heap ∧ s'.os = s₁.os ∧ AllBare s'.gens) s₁ := by
    intro H hO hS hok hA hK
    have base_of : ∀ {b : Addr} {o : Obj}, s₁.heap.get? b = some o → H b = none → (hidT s₁.heap H).get? b = some o := fun e n => hidT_get e n
    have noA : ∀ {b : Addr} {o : Obj} {es : Array DictEntry} {ep : Nat}, s₁.heap.get? b = some o → o.data = .dict es ep → H b = none := fun {b o es ep} e d => by
      cases q : H b with
      | none => rfl
      | some u =>
        have e' : b = a := hA b (by rw [q]; simp)
        subst e'
        rw [ha] at e; cases e
        have d' : Data.seq vs.toArray _ = Data.dict es ep := d
        cases d'
    have nsK : ∀ {b : Addr} {m : Str → Option Value}, s₁.heap.Ns b m → (hidT s₁.heap H).Ns b m := fun {b m} ⟨o, es, ep, e, d, r⟩ => ⟨o, es, ep, base_of e (noA e d), d, r⟩
    have hKb : K.In (hidT s₁.heap H) := fun b o e => base_of (KX b o e) (by
      cases q : H b with
      | none => rfl
      | some u =>
        have e' : b = a := hA b (by rw [q]; simp)
        subst e'
        rw [hK (by rw [q]; simp)] at e; cases e)
    have hM : Mod K mg (hidT s₁.heap H) := ⟨hKb, nsK hns, ⟨mb, nsK hb, hbb⟩, let ⟨mc, h1, h2⟩ := hlim; ⟨mc, nsK h1, h2⟩⟩
    have e0 : Env0 P w K mg (hidT s₁.heap H) callerA [] s₁ H := ⟨rfl, hM, fun b o e => of_hidT e, Nat.le_of_eq (hidT_size _ _), trivial, fun b hb => absurd (show b ∈ ([] : List Addr) from hb) (by simp), hok, .of_eq hg⟩
    refine codeAny_mono ((F _ hKb (nsK hns)).run callerA [] s₁ H ⟨[.ref a], []⟩ [.ref a] [.ref a] _ _ hr e0 (hbind s₁ (.ref a)) (.cons rfl .nil) (hsp H hO hS)) fun r s' h => ?_
    cases r with
    | error e => exact (hCX H e s' h).elim
    | ok fl =>
      cases fl with
      | next => exact False.elim h
      | brk => exact False.elim h
      | cont => exact False.elim h
      | ret u =>
        obtain ⟨v, H', os, bare, un, hok', r', q⟩ := h
        have q' : v = .bl true := q
        subst q'
        obtain rfl : u = Value.bool true := r'
        refine ⟨rfl, OldK.of_keep fun b o e => ?_, os, bare⟩
        cases q : H b with
        | none => exact un.keep b o e q (by intro z; exact absurd (show b ∈ ([] : List Addr) from z) (by simp)) (by simp)
        | some u =>
          rcases hO b with z | ⟨ob, xs, z⟩
          · rw [q] at z; cases z
          · have z2 := un.frzs b ob _ z
            obtain ⟨e1, _⟩ := hok b _ z
            obtain ⟨e2, _⟩ := hok' b _ z2
            rw [e] at e1; cases e1
            exact e2
  cases hk : K.lookup a with
  | some o =>
    -- the script is one of the module's own objects
    have e := KX a o hk
    rw [ha] at e
    cases e
    refine core (fun _ => none) (fun _ => .inl rfl) (.inr ⟨_, vs.toArray, _, hk, rfl, rfl, rfl, by rw [List.size_toArray, lenV]; exact hl, by simpa using rv⟩) (fun b u z => by have z' : (none : Option HO) = some u := z; cases z') (fun b z => absurd rfl z) fun z => absurd rfl z
  | none =>
    refine core (fun b => if b = a then some (.frz { cls := .type "list", data := .seq vs.toArray } (.lst (ns.map V.int))) else none) (fun b => ?_) (.inl (.inr ⟨{ cls := .type "list", data := .seq vs.toArray }, if_pos rfl⟩)) (fun b u z => ?_) (fun b z => ?_) fun _ => hk
    · by_cases hb : b = a
      · exact .inr ⟨_, _, if_pos hb⟩
      · exact .inl (if_neg hb)
    · by_cases hb : b = a
      · have z' := (if_pos hb).symm.trans z
        cases z'
        subst hb
        exact ⟨ha, by rw [List.length_map]; exact hl, vs, _, rv, ha⟩
      · have z' := (if_neg hb).symm.trans z
        cases z'
    · by_cases hb : b = a
      · exact hb
      · exact absurd (if_neg hb) z
end L2

namespace L2
open PySem PySem.Spec PyProof.Rows

abbrev KOf {K : PySem.W.Frag} {h : Heap} (_ : K.In h) : PySem.W.Frag := K

theorem walk_of {l : PySem.W.OpenLaw} {n k : Nat} {q : Program} {loose : List Str} {XP : (Str → Option Value) → Heap → Prop} {YP : World → Heap → Prop} {d : DefRec} {K : Params → PySem.W.Frag} {CX : World → CXT} {sp : World → Sp} {x : Str}
    (hn : l.most = some n) (hn2 : n ≤ sizeLine) (hdf : d.params.defaults = []) (hr : Room k callerA)
    (hY : ∀ (w : World) (h : Heap), YP w h → (K w.params).In h)
    (F : ∀ (w : World) (mg : Str → Option Value) (fa : Addr) (h : Heap), (K w.params).In h → h.Ns mainGlobals mg → mg d.name = some (.ref fa) →
      ∃ fd : FuncData, (∀ (s : Shared) (u : Value), BindsTo s fd ⟨[u], []⟩ [(x, u)]) ∧
        ∀ base : Heap, (K w.params).In base → base.Ns mainGlobals mg → FnOk l.prog w (K w.params) mg base (CX w) k fa fd [x] (sp w))
    (hsp : ∀ (w : World) (H : Hp) (a : Addr) (ns : List Int), ns.length ≤ n → Only H → SqL (K w.params) H a (ns.map V.int) → sp w [.ref a] H (fun v _ => v = .bl true) fun _ _ _ => False)
    (hCX : ∀ (w : World) (H : Hp) (s : Shared) (e : Value) (s' : Shared), CX w [] H s (fun _ _ _ => False) e s' → False) :
    PySem.W.WalkO q loose XP YP l.row.toRowW d [] (fun f vs => PySem.call f vs) := by
  refine Att.attach_call hn hdf fun w s₀ s₁ mg mb fa o pm cd doc a vs ns G Y ho hd hcd hmg hobj hints hlen hg => ?_
  have KX := hY w _ Y
  obtain ⟨fd, hb, hF⟩ := F w mg fa _ KX G.T.g hmg
  exact law_call KX G.T.g G.T.b G.T.builtins G.T.nolimit hg hobj hints (Nat.le_trans hlen hn2) hr hF hb (fun H hO hS => hsp w H a ns hlen hO hS) fun H e s' => hCX w H s₁ e s'
theorem walk_ofK {l : PySem.W.OpenLaw} {n k : Nat} {q : Program} {loose : List Str} {XP : (Str → Option Value) → Heap → Prop} {YP : World → Heap → Prop} {d : DefRec} {K : Params → PySem.W.Frag} {CX : CXT} {sp : PySem.W.Frag → Sp} {x : Str}
    (hn : l.most = some n) (hn2 : n ≤ sizeLine) (hdf : d.params.defaults = []) (hr : Room k callerA)
    (hY : ∀ (w : World) (h : Heap), YP w h → (K w.params).In h)
    (F : ∀ (w : World) (mg : Str → Option Value) (fa : Addr) (h : Heap), (K w.params).In h → h.Ns mainGlobals mg → mg d.name = some (.ref fa) →
      ∃ fd : FuncData, (∀ (s : Shared) (u : Value), BindsTo s fd ⟨[u], []⟩ [(x, u)]) ∧
        ∀ base : Heap, (K w.params).In base → base.Ns mainGlobals mg → FnOk l.prog w (K w.params) mg base CX k fa fd [x] (sp (K w.params)))
    (hsp : ∀ (K : PySem.W.Frag) (H : Hp) (a : Addr) (ns : List Int), ns.length ≤ n → Only H → SqL K H a (ns.map V.int) → sp K [.ref a] H (fun v _ => v = .bl true) fun _ _ _ => False)
    (hCX : ∀ (H : Hp) (s : Shared) (e : Value) (s' : Shared), CX [] H s (fun _ _ _ => False) e s' → False) :
    PySem.W.WalkO q loose XP YP l.row.toRowW d [] (fun f vs => PySem.call f vs) :=
  walk_of (K := K) (CX := fun _ => CX) (sp := fun w => sp (K w.params)) hn hn2 hdf hr hY F (fun w H a ns h1 h2 h3 => hsp (K w.params) H a ns h1 h2 h3) fun _ H s e s' => hCX H s e s'
end L2

namespace L2
open PySem PySem.Spec PyProof.Rows

def inClass (s : Stmt) (j : Nat) : Stmt := match s with
  | .ClassDef _ _ _ body _ _ _ _ _ _ _ => body.getD j (.Pass ⟨0, 0, 0, 0⟩)
  | _ => .Pass ⟨0, 0, 0, 0⟩
def defArgs (s : Stmt) : Arguments := match s with
  | .FunctionDef _ a _ _ _ _ _ _ _ _ => a
  | _ => { posonlyargs := [], args := [], vararg := none, kwonlyargs := [], kw_defaults := [], kwarg := none, defaults := [] }
def defBody (s : Stmt) : List Stmt := match s with
  | .FunctionDef _ _ b _ _ _ _ _ _ _ => b
  | _ => []
def defScope (s : Stmt) : Scope := match s with
  | .FunctionDef _ _ _ _ _ _ sc _ _ _ => sc
  | _ => { kind := .function, names := [], isGenerator := false, isCoroutine := false }

abbrev CX0 : CXT := fun _ _ _ _ _ _ => False
abbrev E0 : XK := fun _ _ _ => False
theorem pass0 {X : Cx} : Passes CX0 X E0 := fun _ _ _ _ _ _ _ h => h.elim

structure Fun (K : PySem.W.Frag) (x qual : Str) (st : Stmt) (f : Addr) (fd : FuncData) : Prop where
  ex : ∃ (oc : Value) (od : Option Addr) (kV doc pm : Value) (an : Option Addr) (cdv ct : Value) (osl : Array (Option Value)),
    fd = PySem.W.fnOf x qual (defArgs st) (defBody st) (defScope st) .none kV doc pm an cdv ct ∧ K.lookup f = some ⟨oc, od, .func fd, osl⟩ ∧ PySem.W.codeIn K cdv qual = true
  kp : PySem.W.keepIn K (.ref f) = true
section
variable {P : Program} {w : World} {K : PySem.W.Frag} {mg : Str → Option Value} {base : Heap}
theorem Fun.ok {x qual : Str} {st : Stmt} {f : Addr} {fd : FuncData} {N ps : List Str} {k : Nat} {sp : Sp} (F : Fun K x qual st f fd) (S : FnScope N ps (defScope st)) (len : ∀ vs H Q E, sp vs H Q E → vs.length = ps.length)
    (hbody : ∀ (cdv : Value) (A : Around) (outer : List Env) (s : Shared) (H : Hp) (vs : List V) (Q : VK) (E : XK), Room k (A.deeper (envOfC qual (defScope st) s.heap.objs.size f cdv)) → sp vs H Q E →
      ∃ t, PSs (cxOf CX0 P w K mg base N qual (defScope st) f cdv A outer s H E).nox (defBody st) t ∧ t { nx := fun _ H' => Q .non H', rt := Q } (start N vs) H) : FnOk P w K mg base CX0 (k + 1) f fd ps sp := by
  obtain ⟨oc, od, kV, doc, pm, an, cdv, ct, osl, rfl, lk, hcd⟩ := F.ex
  refine fn_of lk hcd S len fun A outer s H vs Q E hr hsp => ?_
  obtain ⟨t, h, q⟩ := hbody cdv A outer s H vs Q E hr hsp
  exact ⟨t, h.nox, q⟩
theorem Fun.binds {x qual : Str} {st : Stmt} {f : Addr} {fd : FuncData} {ps : List Str} (F : Fun K x qual st f fd)
    (h : ∀ (kV doc pm : Value) (an : Option Addr) (cdv ct : Value) (us : List Value), us.length = ps.length → bindArgs (PySem.W.fnOf x qual (defArgs st) (defBody st) (defScope st) .none kV doc pm an cdv ct) ⟨us, []⟩ = pure (ps.zip us)) : Binds K fd ps [] := by
  obtain ⟨oc, od, kV, doc, pm, an, cdv, ct, osl, rfl, lk, hcd⟩ := F.ex
  exact .all (h kV doc pm an cdv ct)
theorem fun_mk {x qual : Str} {st : Stmt} {f : Addr} {oc : Value} {od an : Option Addr} {osl : Array (Option Value)} {kV doc pm cdv ct : Value} (l : K.lookup f = some ⟨oc, od, .func (PySem.W.fnOf x qual (defArgs st) (defBody st) (defScope st) .none kV doc pm an cdv ct), osl⟩)
    (c : PySem.W.codeIn K cdv qual = true) (k : PySem.W.keepIn K (.ref f) = true) : Fun K x qual st f (PySem.W.fnOf x qual (defArgs st) (defBody st) (defScope st) .none kV doc pm an cdv ct) := ⟨⟨oc, od, kV, doc, pm, an, cdv, ct, osl, rfl, l, c⟩, k⟩
end
theorem small1000 {n : Nat} (h : n ≤ 1000) : n < sizeLine := Nat.lt_of_le_of_lt h (by decide)

section
variable {X : Cx}
theorem pv (i : Nat) {x : Str} {pos : Pos} (hN : X.N[i]? = some x := by rfl) (hv : Vis X.env.scope x := by first | exact Or.inl rfl | exact Or.inr (Or.inl rfl) | exact Or.inr (Or.inr rfl)) (hd : (x == ("__debug__" : Str)) = false := by decide)
    (hcd : (x == ("__classdict__" : Str)) = false := by decide) : PE X (.Name x pos) (tVar i) := pe_var hN hv hd hcd
end

theorem iteF {A B : Prop} (h : B) : if false = true then A else B := by
  rw [if_neg Bool.false_ne_true]
  exact h
theorem iteT {A B : Prop} (h : A) : if true = true then A else B := by
  rw [if_pos rfl]
  exact h

def Same (H H' : Hp) : Prop := ∀ b o, H b = some o → H' b = some o
theorem Same.refl (H : Hp) : Same H H := fun _ _ h => h
theorem Same.trans {H H1 H2 : Hp} (a : Same H H1) (b : Same H1 H2) : Same H H2 := fun c o h => b c o (a c o h)
theorem Same.free {H H' : Hp} (e : Same H H') {l : Addr} (h : H' l = Option.none) : H l = Option.none := by
  cases q : H l with
  | none => rfl
  | some o =>
    rw [e l o q] at h
    cases h
theorem Same.seq {K : PySem.W.Frag} {H H' : Hp} {a : Addr} {xs : List V} (e : Same H H') (h : SqL K H a xs) : SqL K H' a xs := by
  rcases h with (h | ⟨o, h⟩) | h
  · exact .inl (.inl (e _ _ h))
  · exact .inl (.inr ⟨o, e _ _ h⟩)
  · exact .inr h

end L2


namespace L2
open PySem PySem.Spec PyProof.Rows
def CInj (acc : List (Str × Addr)) : Prop := ∀ x y c, acc.lookup x = some c → acc.lookup y = some c → x = y
theorem lookup_cons_some {α : Type} {x n : Str} {a c : α} {r : List (Str × α)} (h : List.lookup x ((n, a) :: r) = some c) : (x = n ∧ a = c) ∨ (x ≠ n ∧ r.lookup x = some c) := by
  rw [List.lookup_cons] at h
  cases hb : x == n with
  | true => rw [hb] at h; cases h; exact .inl ⟨beq_iff_eq.mp hb, rfl⟩
  | false => rw [hb] at h; exact .inr ⟨(fun z => by (rw [z, beq_self_eq_true] at hb; cases hb)), h⟩
theorem cf_ok : ∀ (names : List (Str × NameKind)) (n : Nat) (acc : List (Str × Addr)), CInj acc → (∀ x c, acc.lookup x = some c → c < n) →
    CInj (cellsFrom n names acc) ∧ ∀ x c, (cellsFrom n names acc).lookup x = some c → acc.lookup x = some c ∨ n ≤ c
  | [], _, _, hi, _ => ⟨hi, fun _ _ h => .inl h⟩
  | (y, k) :: r, n, acc, hi, hb => by
    unfold cellsFrom
    by_cases hk : (k == NameKind.cell) = true
    · rw [if_pos hk]
      have h1 : CInj ((y, n) :: acc) := fun a b c e1 e2 => by
        rcases lookup_cons_some e1 with ⟨q1, q2⟩ | ⟨q1, q2⟩ <;> rcases lookup_cons_some e2 with ⟨p1, p2⟩ | ⟨p1, p2⟩
        · rw [q1, p1]
        · exact absurd (hb _ _ p2) (by rw [← q2]; exact Nat.lt_irrefl _)
        · exact absurd (hb _ _ q2) (by rw [← p2]; exact Nat.lt_irrefl _)
        · exact hi a b c q2 p2
      have h2 : ∀ x c, List.lookup x ((y, n) :: acc) = some c → c < n + 1 := fun x c e => by
        rcases lookup_cons_some e with ⟨_, q2⟩ | ⟨_, q2⟩
        · rw [← q2]; exact Nat.lt_succ_self _
        · exact Nat.lt_succ_of_lt (hb _ _ q2)
      obtain ⟨i1, i2⟩ := cf_ok r (n + 1) ((y, n) :: acc) h1 h2
      refine ⟨i1, fun x c e => ?_⟩
      rcases i2 x c e with q | q
      · rcases lookup_cons_some q with ⟨_, q2⟩ | ⟨_, q2⟩
        · exact .inr (Nat.le_of_eq q2)
        · exact .inl q2
      · exact .inr (Nat.le_of_succ_le q)
    · rw [if_neg hk]
      exact cf_ok r n acc hi hb
theorem cf_cell : ∀ (names : List (Str × NameKind)) (h : Heap) (acc : List (Str × Addr)) (x : Str) (c : Addr), (cellsFrom h.objs.size names acc).lookup x = some c → acc.lookup x = some c ∨ (pushCells h names).IsCell c none
  | [], _, _, _, _, e => .inl e
  | (y, k) :: r, h, acc, x, c, e => by
    unfold cellsFrom at e
    unfold pushCells
    by_cases hk : (k == NameKind.cell) = true
    · rw [if_pos hk] at e ⊢
      have e' : (cellsFrom (h.push { cls := .type "cell", data := .cell none }).objs.size r ((y, h.objs.size) :: acc)).lookup x = some c := by rw [Heap.size_push]; exact e
      rcases cf_cell r (h.push { cls := .type "cell", data := .cell none }) ((y, h.objs.size) :: acc) x c e' with q | q
      · rcases lookup_cons_some q with ⟨_, q2⟩ | ⟨_, q2⟩
        · refine .inr ?_
          subst q2
          exact ⟨_, pushCells_keeps _ _ _ _ (Heap.get?_push_size _ rfl), rfl⟩
        · exact .inl q2
      · exact .inr q
    · rw [if_neg hk] at e ⊢
      exact cf_cell r h acc x c e
theorem cf_keep : ∀ (names : List (Str × NameKind)) (n : Nat) (acc : List (Str × Addr)) (x : Str), (∀ y ∈ names, y.1 = x → y.2 ≠ .cell) → (cellsFrom n names acc).lookup x = acc.lookup x
  | [], _, _, _, _ => rfl
  | (y, k) :: r, n, acc, x, h => by
    unfold cellsFrom
    by_cases hk : (k == NameKind.cell) = true
    · rw [if_pos hk, cf_keep r (n + 1) _ x fun z hz => h z (List.mem_cons_of_mem _ hz), List.lookup_cons]
      have hx : (x == y) = false := by
        cases hb : x == y with
        | false => rfl
        | true => exact absurd (by simpa using hk) (h (y, k) List.mem_cons_self (beq_iff_eq.mp hb).symm)
      rw [hx]
    · rw [if_neg hk]
      exact cf_keep r n acc x fun z hz => h z (List.mem_cons_of_mem _ hz)
def clOf (env : Env) : List (Str × NameKind) → List (Str × Addr) → List (Str × Addr)
  | [], acc => acc
  | (n, k) :: r, acc => clOf env r (if k == .free then (n, (env.cells.lookup n).getD 0) :: acc else acc)
theorem clos_go {env : Env} : ∀ (names : List (Str × NameKind)) (acc : List (Str × Addr)), (∀ x ∈ names, x.2 = .free → ∃ c, env.cells.lookup x.1 = some c) →
    (forIn names acc fun x cs => (if (x.2 == NameKind.free) = true then (do let a ← cellOf env x.1; pure (ForInStep.yield ((x.1, a) :: cs))) else pure (ForInStep.yield cs) : Sem (ForInStep (List (Str × Addr))))) = pure (clOf env names acc)
  | [], _, _ => rfl
  | (n, k) :: r, acc, h => by
    rw [List.forIn_cons]
    have hr := fun acc => clos_go r acc fun x hx => h x (List.mem_cons_of_mem _ hx)
    unfold clOf
    by_cases hk : (k == NameKind.free) = true
    · obtain ⟨c, hc⟩ := h (n, k) List.mem_cons_self (by simpa using hk)
      have hc' : env.cells.lookup n = some c := hc
      have e : cellOf env n = pure c := by unfold cellOf; rw [hc']
      simp only [hk, if_true, e, hc', Option.getD_some, pure_bind]
      exact hr _
    · simp only [hk, if_false, pure_bind]
      exact hr _
theorem closureFor_clOf {env : Env} {scope : Scope} (h : ∀ x ∈ scope.names, x.2 = .free → ∃ c, env.cells.lookup x.1 = some c) : closureFor scope env = pure (clOf env scope.names []) := by
  have := clos_go (env := env) scope.names [] h
  unfold closureFor
  simp only [bind_pure_comp]
  first | exact this | simpa using this
theorem clOf_lookup {env : Env} {x : Str} : ∀ (names : List (Str × NameKind)) (acc : List (Str × Addr)) (c : Addr), (∀ y ∈ names, y.2 = .free → ∃ c, env.cells.lookup y.1 = some c) → (clOf env names acc).lookup x = some c → acc.lookup x = some c ∨ env.cells.lookup x = some c
  | [], _, _, _, e => .inl e
  | (n, k) :: r, acc, c, h, e => by
    unfold clOf at e
    have hr := fun acc => clOf_lookup (x := x) r acc c fun y hy => h y (List.mem_cons_of_mem _ hy)
    by_cases hk : (k == NameKind.free) = true
    · rw [if_pos hk] at e
      rcases hr _ e with q | q
      · rcases lookup_cons_some q with ⟨q1, q2⟩ | ⟨_, q2⟩
        · obtain ⟨c', hc'⟩ := h (n, k) List.mem_cons_self (by simpa using hk)
          have hc2 : env.cells.lookup n = some c' := hc'
          rw [hc2] at q2
          right
          rw [q1, hc2]
          exact congrArg some q2
        · exact .inl q2
      · exact .inr q
    · rw [if_neg hk] at e
      exact hr _ e
theorem clOf_has {env : Env} {x : Str} : ∀ (names : List (Str × NameKind)) (acc : List (Str × Addr)), ((x, NameKind.free) ∈ names ∨ ∃ c, acc.lookup x = some c) → ∃ c, (clOf env names acc).lookup x = some c
  | [], _, h => h.elim (fun z => nomatch z) id
  | (n, k) :: r, acc, h => by
    unfold clOf
    refine clOf_has r _ ?_
    rcases h with h | ⟨c, h⟩
    · rcases List.mem_cons.mp h with e | h
      · cases e
        right
        rw [if_pos (by decide)]
        exact ⟨_, by rw [List.lookup_cons, beq_self_eq_true]⟩
      · exact .inl h
    · right
      split
      · rw [List.lookup_cons]
        split
        · exact ⟨_, rfl⟩
        · exact ⟨c, h⟩
      · exact ⟨c, h⟩
end L2
namespace L2
open PySem PySem.Spec PyProof.Rows
def blk (X : Cx) (N : List Str) (scope : Scope) (C : Addr) (s : Shared) (H : Hp) (fp : List Addr) : Cx where
  prog := X.prog
  w := X.w
  K := X.K
  mg := X.mg
  base := X.base
  A := X.A
  N := N
  s₀ := s
  H₀ := H
  env := { scope := relabel scope X.env, locals := C, globals := X.env.globals, cells := cellsFrom (C + 1) scope.names (clOf X.env scope.names []), qual := X.env.qual, func := none, code := X.env.code, frame := X.env.frame, builtins := X.env.builtins }
  outer := X.stack
  stack := X.stack
  ex := fp
  fn := fun x => match scope.names.lookup x with | some .cell => true | _ => false
  calm := X.calm
  pn := []
  xe := fun _ _ => False
theorem relabel_lookup {env : Env} : ∀ {names : List (Str × NameKind)} {x : Str} {k : NameKind}, (names.map fun (n, k) => if (k == NameKind.free && env.scope.kind == .function && env.kindOf n == some .cell) then (n, NameKind.cell) else (n, k)).lookup x = some k →
    ∃ k0, names.lookup x = some k0 ∧ (k = k0 ∨ k0 = .free)
  | [], _, _, h => by simp at h
  | (n, q) :: r, x, k, h => by
    rw [List.map_cons] at h
    have h' : List.lookup x ((if (q == NameKind.free && env.scope.kind == .function && env.kindOf n == some .cell) = true then (n, NameKind.cell) else (n, q)) :: _) = some k := h
    have fstn : ∀ b : Bool, (if b = true then (n, NameKind.cell) else (n, q)) = (n, if b = true then NameKind.cell else q) := fun b => by cases b <;> rfl
    rw [fstn] at h'
    rw [List.lookup_cons]
    rcases lookup_cons_some h' with ⟨e1, e2⟩ | ⟨e1, e2⟩
    · rw [e1, beq_self_eq_true]
      refine ⟨q, rfl, ?_⟩
      rw [← e2]
      by_cases hb : (q == NameKind.free && env.scope.kind == .function && env.kindOf n == some .cell) = true
      · right
        have := (Bool.and_eq_true_iff.mp (Bool.and_eq_true_iff.mp hb).1).1
        simpa using this
      · left; rw [if_neg hb]
    · have hx : (x == n) = false := by
        cases hb : x == n with
        | false => rfl
        | true => exact absurd (beq_iff_eq.mp hb) e1
      rw [hx]
      exact relabel_lookup e2
structure CScope (X : Cx) (scope : Scope) (tn : List Str) (js : List Nat) : Prop where
  kind : scope.kind = .function
  loc : ∀ x ∈ scope.names, x.2 = .local → scope.names.lookup x.1 = some .local
  fre : ∀ x ∈ scope.names, x.2 = .free → scope.names.lookup x.1 = some .free ∧ (X.env.kindOf x.1 = some .cell ∨ X.env.kindOf x.1 = some .free)
  one : ∀ x ∈ scope.names, ∀ y ∈ scope.names, x.1 = y.1 → x.2 = y.2
  js : ∀ j ∈ js, ∃ x, X.N[j]? = some x ∧ scope.names.lookup x = some .free
def cN (X : Cx) (tn : List Str) (js : List Nat) : List Str := tn ++ js.map fun j => (X.N[j]?).getD ("" : Str)
def cσ (σ : St) (tn : List Str) (js : List Nat) : St := tn.map (fun _ => none) ++ js.map fun j => (σ[j]?).getD none
theorem mem_of_lookup_kind {names : List (Str × NameKind)} {x : Str} {k : NameKind} (h : names.lookup x = some k) : (x, k) ∈ names := PySem.mem_of_lookup h
section
variable {X : Cx} {pins : List (Addr × Obj)} {σ : St} {H : Hp} {s : Shared} {scope : Scope} {tn : List Str} {js : List Nat} {fp : List Addr}
theorem has_cell (ok : X.Ok) (S : CScope X scope tn js) : ∀ x ∈ scope.names, x.2 = .free → ∃ c, X.env.cells.lookup x.1 = some c := fun x hx hf => ok.has x.1 (S.fre x hx hf).2
theorem blk_cells (ok : X.Ok) (S : CScope X scope tn js) {n : Nat} (hb : ∀ x c, X.env.cells.lookup x = some c → c < n) :
    CInj (cellsFrom n scope.names (clOf X.env scope.names [])) ∧ ∀ x c, (cellsFrom n scope.names (clOf X.env scope.names [])).lookup x = some c → X.env.cells.lookup x = some c ∨ n ≤ c := by
  have hc : ∀ x c, (clOf X.env scope.names []).lookup x = some c → X.env.cells.lookup x = some c := fun x c e => by
    rcases clOf_lookup scope.names [] c (has_cell ok S) e with q | q
    · cases q
    · exact q
  obtain ⟨h1, h2⟩ := cf_ok scope.names n (clOf X.env scope.names []) (fun x y c e1 e2 => ok.inj x y c (hc x c e1) (hc y c e2)) (fun x c e => hb x c (hc x c e))
  exact ⟨h1, fun x c e => (h2 x c e).imp (hc x c) id⟩
theorem inv_block {h4 : Heap} {m : Str → Option Value} {t' : Nat} (I : Inv X pins σ H s) (S : CScope X scope tn js) (hf : ∀ b ∈ fp, FpOk X pins H b ∧ b < s.heap.objs.size) (hns : h4.Ns s.heap.objs.size m)
    (hk : ∀ b o, s.heap.get? b = some o → h4.get? b = some o) (hcell : ∀ x c, (cellsFrom (s.heap.objs.size + 1) scope.names (clOf X.env scope.names [])).lookup x = some c → X.env.cells.lookup x = some c ∨ h4.IsCell c none) :
    Inv (blk X (cN X tn js) scope s.heap.objs.size s H fp) [] (cσ σ tn js) H { s with heap := h4, toks := t' } := by
  have hlt : ∀ x c, X.env.cells.lookup x = some c → c < s.heap.objs.size + 1 := fun x c e => by
    obtain ⟨v, q⟩ := I.cell x c e
    exact Nat.lt_succ_of_lt q.lt
  obtain ⟨hinj, hcs⟩ := blk_cells I.ok S hlt
  have hC : H s.heap.objs.size = none := I.hok.fresh (Nat.le_refl _)
  refine ⟨⟨I.ok.mod, S.kind, I.ok.glob, I.ok.blt, Nat.le_refl _, hinj, fun x hx => ?_, fun x c hx e => ?_, I.ok.hd, I.ok.frames, .inl rfl, fun b hb => ⟨Nat.ne_of_lt (hf b hb).2, fun x c e z => ?_⟩, I.bs, Nat.le_trans I.ok.bsz I.sz, fun b o e hb => ?_, fun b hb z => ?_, I.stack, I.stkFree⟩,
    rfl, I.bare, Un.kept hk, ⟨m, hns, fun i x v h1 h2 h3 => ?_⟩, fun x c e => ?_, hC, fun x c e => ?_, (fun p hp => nomatch hp), I.hok.kept hk, ?_⟩
  · -- has
    have hx' : (relabel scope X.env).names.lookup x = some .cell ∨ (relabel scope X.env).names.lookup x = some .free := hx
    have own : scope.names.lookup x = some .cell → ∃ c, (cellsFrom (s.heap.objs.size + 1) scope.names (clOf X.env scope.names [])).lookup x = some c := fun q =>
      Option.isSome_iff_exists.mp (PySem.W.cellsFrom_some scope.names _ _ (.inl q))
    have fre : scope.names.lookup x = some .free → ∃ c, (cellsFrom (s.heap.objs.size + 1) scope.names (clOf X.env scope.names [])).lookup x = some c := fun q =>
      Option.isSome_iff_exists.mp (PySem.W.cellsFrom_some scope.names _ _ (.inr (Option.isSome_iff_exists.mpr (clOf_has scope.names [] (.inl (mem_of_lookup_kind q))))))
    rcases hx' with q | q
    · obtain ⟨k0, q1, q2⟩ := relabel_lookup q
      rcases q2 with q2 | q2
      · subst q2; exact own q1
      · subst q2; exact fre q1
    · obtain ⟨k0, q1, q2⟩ := relabel_lookup q
      rcases q2 with q2 | q2
      · subst q2; exact fre q1
      · subst q2; exact fre q1
  · -- cab
    rcases hcs x c e with q | q
    · exfalso
      have hx' : (match scope.names.lookup x with | some .cell => true | _ => false) = true := hx
      split at hx'
      · rename_i hl
        -- an own cell is new
        have hb : ∀ y c', (clOf X.env scope.names []).lookup y = some c' → c' < s.heap.objs.size + 1 := fun y c' e' => by
          rcases clOf_lookup scope.names [] c' (has_cell I.ok S) e' with z | z
          · cases z
          · exact hlt y c' z
        have nof : (clOf X.env scope.names []).lookup x = none := by
          cases z : (clOf X.env scope.names []).lookup x with
          | none => rfl
          | some c' =>
            exfalso
            have mem : ∀ (names : List (Str × NameKind)) (acc : List (Str × Addr)), (∃ c', (clOf X.env names acc).lookup x = some c') → (x, NameKind.free) ∈ names ∨ ∃ c', acc.lookup x = some c' := by
              intro names
              induction names with
              | nil => exact fun acc z => .inr z
              | cons p r ih =>
                obtain ⟨n, k⟩ := p
                intro acc z
                unfold clOf at z
                rcases ih _ z with z | ⟨c', z⟩
                · exact .inl (List.mem_cons_of_mem _ z)
                · split at z
                  · rename_i hk
                    rcases lookup_cons_some z with ⟨e1, _⟩ | ⟨_, e2⟩
                    · left
                      have : k = NameKind.free := by simpa using hk
                      rw [e1, this]; exact List.mem_cons_self
                    · exact .inr ⟨c', e2⟩
                  · exact .inr ⟨c', z⟩
            rcases mem scope.names [] ⟨c', z⟩ with z | ⟨_, z⟩
            · have := S.one _ z _ (mem_of_lookup_kind hl) rfl
              cases this
            · cases z
        have hh := cf_ok scope.names (s.heap.objs.size + 1) (clOf X.env scope.names []) (fun a b c' e1 e2 => by
          rcases clOf_lookup scope.names [] c' (has_cell I.ok S) e1 with z | z
          · cases z
          · rcases clOf_lookup scope.names [] c' (has_cell I.ok S) e2 with z' | z'
            · cases z'
            · exact I.ok.inj a b c' z z') hb
        rcases hh.2 x c e with z | z
        · rw [nof] at z; cases z
        · exact absurd (hlt x c q) (Nat.not_lt.mpr z)
      · cases hx'
    · exact Nat.le_of_succ_le q
  · -- exf
    obtain ⟨⟨f0, f1, f2, f3, f4, f5⟩, hbl⟩ := hf b hb
    rcases hcs x c e with q | q
    · exact f4 x c q z
    · rw [z] at q; exact absurd hbl (Nat.not_lt.mpr (Nat.le_of_succ_le q))
  · -- noex
    obtain ⟨⟨f0, f1, f2, f3, f4, f5⟩, hbl⟩ := hf b hb
    rcases f3 with q | q
    · exact I.ok.noex b o e q
    · exact absurd (Nat.lt_of_lt_of_le (Heap.lt_size e) (Nat.le_trans I.ok.bsz q)) (Nat.lt_irrefl _)
  · -- exfs
    obtain ⟨⟨f0, f1, f2, f3, f4, f5⟩, hbl⟩ := hf b hb
    rcases List.mem_cons.mp (I.stkSub b z) with q | q
    · exact f1 q
    · exact f2 q
  · -- the names
    have h2' : (cσ σ tn js)[i]? = some (some v) := h2
    have h1' : (cN X tn js)[i]? = some x := h1
    unfold cσ at h2'
    unfold cN at h1'
    by_cases hi : i < tn.length
    · rw [List.getElem?_append_left (by simpa using hi), List.getElem?_map] at h2'
      cases q : tn[i]? with
      | none => rw [q] at h2'; cases h2'
      | some y => rw [q] at h2'; cases h2'
    · rw [List.getElem?_append_right (by simpa using hi), List.getElem?_map, List.length_map] at h2'
      rw [List.getElem?_append_right (by simpa using hi), List.getElem?_map] at h1'
      cases q : js[i - tn.length]? with
      | none => rw [q] at h2'; cases h2'
      | some j =>
        rw [q] at h2' h1'
        obtain ⟨y, hy1, hy2⟩ := S.js j (List.mem_of_getElem? q)
        have exy : y = x := by
          have : some ((X.N[j]?).getD ("" : Str)) = some x := h1'
          rw [hy1] at this
          exact Option.some.inj this
        subst exy
        have hv : σ[j]? = some (some v) := by
          have : some ((σ[j]?).getD none) = some (some v) := h2'
          cases z : σ[j]? with
          | none => rw [z] at this; cases this
          | some o => rw [z] at this; exact congrArg some (Option.some.inj this)
        have kfr := (S.fre _ (mem_of_lookup_kind hy2) rfl).2
        have vis : Vis X.env.scope y := kfr.elim (fun z => .inr (.inl z)) fun z => .inr (.inr z)
        obtain ⟨m0, hn0, hl0⟩ := I.loc
        obtain ⟨u, ru, lk⟩ := hl0 j y v hy1 hv vis
        refine ⟨u, ru, .inr ⟨?_, ?_⟩⟩
        · have h3' : (relabel scope X.env).names.lookup y = some .local ∨ (relabel scope X.env).names.lookup y = some .cell ∨ (relabel scope X.env).names.lookup y = some .free := h3
          rcases h3' with z | z | z
          · obtain ⟨k0, z1, z2⟩ := relabel_lookup z
            rw [hy2] at z1; cases z1
            rcases z2 with z2 | z2
            · cases z2
            · exfalso
              -- free is relabelled to cell or stays
              have := z
              have nolocal : ∀ {names : List (Str × NameKind)}, (∀ p ∈ names, p.1 = y → p.2 = .free) → (names.map fun (n, k) => if (k == NameKind.free && X.env.scope.kind == .function && X.env.kindOf n == some .cell) then (n, NameKind.cell) else (n, k)).lookup y ≠ some .local := by
                intro names
                induction names with
                | nil => intro _ w; simp at w
                | cons p r ih =>
                  obtain ⟨n, k⟩ := p
                  intro hp w
                  rw [List.map_cons] at w
                  have w' : List.lookup y ((if (k == NameKind.free && X.env.scope.kind == .function && X.env.kindOf n == some .cell) = true then (n, NameKind.cell) else (n, k)) :: _) = some .local := w
                  have fstn : ∀ b : Bool, (if b = true then (n, NameKind.cell) else (n, k)) = (n, if b = true then NameKind.cell else k) := fun b => by cases b <;> rfl
                  rw [fstn] at w'
                  rcases lookup_cons_some w' with ⟨e1, e2⟩ | ⟨e1, e2⟩
                  · have hk : k = .free := hp (n, k) List.mem_cons_self e1.symm
                    subst hk
                    split at e2 <;> cases e2
                  · exact ih (fun p hp' => hp p (List.mem_cons_of_mem _ hp')) e2
              exact nolocal (fun p hp e => S.one p hp _ (mem_of_lookup_kind hy2) e) z
          · exact .inl z
          · exact .inr z
        · have lk' : ∃ c, X.env.cells.lookup y = some c ∧ s.heap.IsCell c (some u) := by
            rcases lk with ⟨z, _⟩ | ⟨_, z⟩
            · exfalso
              rcases kfr with q | q
              · rw [q] at z; cases z
              · rw [q] at z; cases z
            · exact z
          obtain ⟨c, hc1, hc2⟩ := lk'
          refine ⟨c, ?_, hc2.keeps hk⟩
          show (cellsFrom (s.heap.objs.size + 1) scope.names (clOf X.env scope.names [])).lookup y = some c
          rw [cf_keep scope.names _ _ y fun p hp e => by (rw [S.one p hp _ (mem_of_lookup_kind hy2) e]; intro z; cases z)]
          obtain ⟨c', hc'⟩ := clOf_has (env := X.env) scope.names [] (.inl (mem_of_lookup_kind hy2))
          rcases clOf_lookup scope.names [] c' (has_cell I.ok S) hc' with z | z
          · cases z
          · rw [hc1] at z; cases z; exact hc'
  · -- cells are there
    rcases hcell x c e with q | q
    · obtain ⟨v, z⟩ := I.cell x c q
      exact ⟨v, z.keeps hk⟩
    · exact ⟨none, q⟩
  · -- and free
    rcases hcs x c e with q | q
    · exact I.freeC x c q
    · exact I.hok.fresh (Nat.le_of_succ_le q)
  · show (cσ σ tn js).length = (cN X tn js).length
    unfold cσ cN
    simp
end
end L2
namespace L2
open PySem PySem.Spec PyProof.Rows
section
variable {M : Model} {A : Around} {E : Value → Shared → Prop} {s : Shared}
theorem newEnv_comp {scope : Scope} {globals : Addr} {cl : List (Str × Addr)} {qual : Str} {env : Env} {Q : Env → Shared → Prop}
    (hQ : ∀ h', h'.Ns s.heap.objs.size (fun _ => none) → (∀ b o, s.heap.get? b = some o → h'.get? b = some o) → (∀ x c, (cellsFrom (s.heap.objs.size + 1) scope.names cl).lookup x = some c → cl.lookup x = some c ∨ h'.IsCell c none) →
      Q { scope, locals := s.heap.objs.size, globals, cells := cellsFrom (s.heap.objs.size + 1) scope.names cl, qual, func := none, code := env.code, frame := env.frame, builtins := env.builtins } { s with heap := h' }) :
    wpAny M A (newFunctionEnv scope globals cl [] qual none .none (some env)) Q E s := by
  simp only [newFunctionEnv, Option.isSome_some, if_true]
  refine wpAny_bind (wpAny_alloc ?_)
  refine wpAny_bind (wpAny_layCells _ (fun name kind cells => by cases hkc : kind == NameKind.cell <;> simp [hkc]) _ _ _ _ ?_)
  rw [show ({ s with heap := s.heap.push { cls := .type "dict", data := .dict #[] } } : Shared).heap.objs.size = s.heap.objs.size + 1 from Heap.size_push ..]
  refine wpAny_bind ?_
  rw [List.forIn_nil]
  refine wpAny_pure (wpAny_pure ?_)
  refine hQ _ ((Heap.Ns.new s.heap (.type "dict")).keeps (pushCells_keeps _ _)) (fun b o e => pushCells_keeps _ _ b o (Heap.get?_push_of_some _ e)) fun x c e => ?_
  refine cf_cell scope.names _ cl x c ?_
  rw [Heap.size_push]; exact e
end
section
variable {prog : Program} {w : World} {A : Around} {R : Result → Shared → Prop} {s : Shared}
theorem comp_loop {elt target iter : Expr} {ifs : List Expr} {scope : Scope} {pos : Pos} {it acc : Value} {env : Env} (I : Nat → Shared → Prop)
    (turn : ∀ n s, I n s → wpAny (model prog w) A (pyNext it) (fun r s₁ => match r with
      | none => R (.ok .next) s₁
      | some v => wpAny (model prog w) A (letOwnedTupleGo target it v) (fun _ s₂' => wpAny (model prog w) A (assign target env v) (fun _ s₂ =>
          wpAny (model prog w) A (forIn ifs true fun c r => if r = true then do let ok ← isTrue c env (eval c env); pure (ForInStep.yield ok) else pure (ForInStep.yield r)) (fun ok s₃ =>
            if ok = true then wpAny (model prog w) A (eval elt env) (fun x s₄ =>
              wpAny (model prog w) A (call (.builtin "list.append") [acc, x]) (fun _ s₅ => ∃ m, m < n ∧ I m s₅) (fun _ _ => False) s₄) (fun _ _ => False) s₃
            else ∃ m, m < n ∧ I m s₃) (fun _ _ => False) s₂) (fun _ _ => False) s₂') (fun _ _ => False) s₁) (fun _ _ => False) s)
    (n : Nat) (h : I n s) :
    codeAny (model prog w) A (.compLoop (.ListComp elt [⟨target, iter, ifs, 0⟩] scope pos) 0 it acc env) R s := by
  refine codeAny_loop rfl I (fun n s hI => ?_) n h
  show wpAny _ A ((compTurn (.ListComp elt [⟨target, iter, ifs, 0⟩] scope pos) 0 it acc env).onRaise (fun x => do noteFrame x env; theTreesLotGoes x)) _ _ s
  refine wpAny_noted ?_
  rw [compTurn_list]
  refine wpAny_bind (wpAny_standAt (wpAny_bind (wpAny_mono (turn n s hI) (fun r s₁ h₁ => ?_) fun _ _ z => z.elim)))
  cases r with
  | none => exact wpAny_pure h₁
  | some v =>
    refine wpAny_bind (wpAny_mono h₁ (fun _ s₂' h₂' => ?_) fun _ _ z => z.elim)
    refine wpAny_bind (wpAny_mono h₂' (fun _ s₂ h₂ => wpAny_bind (wpAny_mono h₂ (fun ok s₃ h₃ => ?_) fun _ _ z => z.elim)) fun _ _ z => z.elim)
    cases ok with
    | false => exact wpAny_pure ⟨rfl, h₃⟩
    | true =>
      exact wpAny_bind (wpAny_bind (wpAny_mono h₃ (fun x s₄ h₄ => wpAny_bind (wpAny_mono h₄ (fun _ s₅ h₅ => wpAny_pure (wpAny_pure ⟨rfl, h₅⟩)) fun _ _ z => z.elim)) fun _ _ z => z.elim))
end
def PF (X : Cx) (ifs : List Expr) (t : TT) : Prop :=
  ∀ (pins : List (Addr × Obj)) (s : Shared) (σ : St) (H : Hp) (Q : Bool → Hp → Prop), Inv X pins σ H s → t σ H Q →
    wpAny (model X.prog X.w) X.A (forIn ifs true fun c r => if r = true then do let ok ← isTrue c X.env (eval c X.env); pure (ForInStep.yield ok) else pure (ForInStep.yield r)) (TP X pins σ Q) X.xe s
theorem pf_nil {X : Cx} : PF X [] (fun _ H Q => Q true H) := fun pins s σ H Q I q => wpAny_tests_nil ⟨H, I, q⟩
theorem pf_one {X : Cx} {c : Expr} {t : TT} (h : PT X c t) : PF X [c] t := fun pins s σ H Q I q => wpAny_tests_one (h pins s σ H Q I q)
def KeepC (σ : St) (tn : List Str) (js : List Nat) (σ' : St) : Prop := (∀ (j : Nat) (v : V), tn.length ≤ j → (cσ σ tn js)[j]? = some (some v) → σ'[j]? = some (some v)) ∧ σ'.length = (cσ σ tn js).length
def tLC (wi : TI) (tn : List Str) (js : List Nat) (g : TG) (tt : TT) (te : TE) : TE := fun σ H Q => wi σ H fun J H1 => ∀ D, H1 D = none → ∃ W : Nat → Nat → Hp → List V → Prop, (∃ m, W 0 m (upd H1 D (.lst [])) []) ∧
  ∀ i m H xs, W i m H xs → H D = some (.lst xs) ∧ ((J.stop i H ∧ Q (.ref D) H) ∨ (J.go i H ∧ ∀ x H', J.yld i H x H' → g x (cσ σ tn js) H' fun σ2 H2 => KeepC σ tn js σ2 ∧ tt σ2 H2 fun ok H3 =>
    if ok = true then te σ2 H3 fun y H4 => H4 D = some (.lst xs) ∧ xs.length < sizeLine ∧ ∃ m', m' < m ∧ W (i + 1) m' (upd H4 D (.lst (xs ++ [y]))) (xs ++ [y])
    else ∃ m', m' < m ∧ W (i + 1) m' H3 xs))
section
variable {X : Cx} {pins : List (Addr × Obj)} {σ : St} {H : Hp} {s : Shared} {scope : Scope} {tn : List Str} {js : List Nat} {elt target iter : Expr} {ifs : List Expr} {pos : Pos} {wi : TI} {g : TG} {tt : TT} {te : TE}
theorem comp_core {Q : VK} {RR : Value → Addr → Result → Shared → Prop} (S : CScope X scope tn js) (hc : X.calm = true) (hi : PI X target iter wi)
    (hb : ∀ C s H fp, PG (blk X (cN X tn js) scope C s H fp) target g ∧ PF (blk X (cN X tn js) scope C s H fp) ifs tt ∧ PE (blk X (cN X tn js) scope C s H fp) elt te)
    (I : Inv X pins σ H s) (h : tLC wi tn js g tt te σ H Q)
    (hRR : ∀ D C s' H' oC m, Inv X (pins ++ [(C, oC)]) σ H' s' → s'.heap.get? C = some oC → s'.heap.Ns C m → X.s₀.heap.objs.size ≤ C → C ≠ X.env.locals → (∀ x c, X.env.cells.lookup x = some c → c ≠ C) → (∀ p ∈ X.pn ++ pins, p.1 ≠ C) → Q (.ref D) H' → RR (.ref D) C (.ok .next) s') :
    wpAny (model X.prog X.w) X.A (eval iter X.env) (fun x s₁ => wpAny (model X.prog X.w) X.A (pyIter x) (fun it s₂ => wpAny (model X.prog X.w) X.A (newList []) (fun acc s₃ =>
      wpAny (model X.prog X.w) X.A (newFunctionEnv scope X.env.globals (clOf X.env scope.names []) [] X.env.qual none .none (some X.env)) (fun cenv s₄ =>
        codeAny (model X.prog X.w) X.A (.compStart (.ListComp elt [⟨target, iter, ifs, 0⟩] scope pos) 0 it acc { cenv with scope := relabel scope X.env }) (RR acc cenv.locals) s₄) X.xe s₃) X.xe s₂) X.xe s₁) X.xe s := by
  refine thn (hi pins s σ H _ I h) fun v s1 h1 => thn h1 fun itv s2 h2 => ?_
  obtain ⟨it, fp, tnn, J, H2, e, I2, T, st2, f2, hJ⟩ := h2
  subst e
  refine wpAny_newList ?_
  have D0 : H2 s2.heap.objs.size = none := I2.hok.fresh (Nat.le_refl _)
  obtain ⟨W, ⟨m0, w0⟩, turn⟩ := hJ s2.heap.objs.size D0
  have I3 : Inv X pins σ (upd H2 s2.heap.objs.size (.lst [])) { s2 with heap := s2.heap.push { cls := .type "list", data := .seq ([] : List Value).toArray }, toks := s2.toks } := I2.lnew .nil (Nat.zero_le _)
  generalize hs3 : ({ s2 with heap := s2.heap.push { cls := .type "list", data := .seq ([] : List Value).toArray }, toks := s2.toks } : Shared) = s3 at I3
  have s3s : s3.heap.objs.size = s2.heap.objs.size + 1 := by rw [← hs3]; exact Heap.size_push ..
  have k23 : ∀ b o, s2.heap.get? b = some o → s3.heap.get? b = some o := fun b o e => by rw [← hs3]; exact Heap.get?_push_of_some _ e
  have u23 : Un (frs X.stack) fp H2 (upd H2 s2.heap.objs.size (.lst [])) s2.heap s3.heap := Un.laid k23 (Nat.le_refl _) D0
  generalize hH3 : upd H2 s2.heap.objs.size (.lst []) = H3 at I3 u23 w0
  generalize hD : s2.heap.objs.size = D at *
  have fpl : ∀ b ∈ fp, b < D := fun b hb => by
    obtain ⟨o, e, _⟩ := T.obj 0 _ st2 b hb
    rw [← hD]; exact Heap.lt_size e
  have f3 : ∀ b ∈ fp, FpOk X pins H3 b ∧ b < s3.heap.objs.size := fun b hb => by
    obtain ⟨q0, q⟩ := f2 b hb
    refine ⟨⟨?_, q⟩, by have := fpl b hb; rw [s3s]; exact Nat.lt_succ_of_lt this⟩
    rw [← hH3, upd_ne (Nat.ne_of_lt (fpl b hb))]; exact q0
  refine newEnv_comp fun h4 hns hk hcell => ?_
  have cl0 : ∀ x c, (clOf X.env scope.names []).lookup x = some c → X.env.cells.lookup x = some c := fun x c e => by
    rcases clOf_lookup scope.names [] c (has_cell I.ok S) e with q | q
    · cases q
    · exact q
  have I4 : Inv (blk X (cN X tn js) scope s3.heap.objs.size s3 H3 fp) [] (cσ σ tn js) H3 { s3 with heap := h4, toks := s3.toks } := inv_block I3 S f3 hns hk fun x c e => (hcell x c e).imp (cl0 x c) id
  have st4 : tnn 0 h4 := T.keep 0 _ _ st2 fun b hb o e => hk b o (k23 b o e)
  have fpk : ∀ {H' : Hp}, (∀ b ∈ fp, H' b = none) → ∀ b ∈ fp, FpOk (blk X (cN X tn js) scope s3.heap.objs.size s3 H3 fp) [] H' b := fun hn b hb => by
    obtain ⟨⟨q0, q1, q2, q3, q4, q5⟩, ql⟩ := f3 b hb
    refine ⟨hn b hb, Nat.ne_of_lt ql, fun z => ?_, .inl hb, fun x c e z => ?_, fun p hp => nomatch hp⟩
    · rcases List.mem_cons.mp (I3.stkSub b z) with q | q
      · exact q1 q
      · exact q2 q
    · exact (I4.ok.exf b hb).2 x c e z
  have loop : codeAny (model X.prog X.w) X.A (.compLoop (.ListComp elt [⟨target, iter, ifs, 0⟩] scope pos) 0 (.ref it) (.ref D) (blk X (cN X tn js) scope s3.heap.objs.size s3 H3 fp).env) (RR (.ref D) s3.heap.objs.size) { s3 with heap := h4, toks := s3.toks } := by
    refine comp_loop (fun n s' => ∃ i σ' H' xs, Inv (blk X (cN X tn js) scope s3.heap.objs.size s3 H3 fp) [] σ' H' s' ∧ tnn i s'.heap ∧ (∀ b ∈ fp, H' b = none) ∧ W i n H' xs ∧ KeepC σ tn js σ') ?_ m0
      ⟨0, _, H3, [], I4, st4, fun b hb => (f3 b hb).1.1, w0, fun _ _ _ z => z, rfl⟩
    rintro n s5 ⟨i, σ5, H5, xs, I5, st5, fr5, w5, kσ, lσ⟩
    -- the state with the targets forgotten
    have I5' : Inv (blk X (cN X tn js) scope s3.heap.objs.size s3 H3 fp) [] (cσ σ tn js) H5 s5 := I5.weak lσ.symm fun j v e => by
      by_cases hj : tn.length ≤ j
      · exact kσ j v hj e
      · exfalso
        unfold cσ at e
        rw [List.getElem?_append_left (by simpa using Nat.lt_of_not_le hj), List.getElem?_map] at e
        cases q : tn[j]? with
        | none => rw [q] at e; cases e
        | some y => rw [q] at e; cases e
    obtain ⟨hDx, hturn⟩ := turn i n H5 xs w5
    rcases hturn with ⟨stop, q⟩ | ⟨go, step⟩
    · refine thn (T.done (blk X (cN X tn js) scope s3.heap.objs.size s3 H3 fp) rfl rfl rfl hc i [] s5 _ H5 (fun _ _ => False) I5' (fpk fr5) st5 stop) fun r s6 ⟨hr, I6⟩ => ?_
      subst hr
      -- back to the def's own state
      have u36 : Un (frs X.stack) fp H3 H5 s3.heap s6.heap := I6.base
      have u26 : Un (frs X.stack) fp H2 H5 s2.heap s6.heap := u23.trans u36
      have I6X : Inv X pins σ H5 s6 := I2.call' (I6.os.trans (show s3.os = s2.os by rw [← hs3])) u26 I6.hok I6.bare fun b hb => ⟨(f2 b hb).2.2.2.1, (f2 b hb).2.1, (f2 b hb).2.2.2.2.1, (f2 b hb).2.2.2.2.2⟩
      obtain ⟨mm, hnn, _⟩ := I6.loc
      obtain ⟨oC, es, ep, hoC, rC⟩ := id hnn
      have Cge : D ≤ s3.heap.objs.size := by rw [s3s]; exact Nat.le_succ _
      have lt2 : ∀ {b : Addr} {o : Obj}, s2.heap.get? b = some o → b ≠ s3.heap.objs.size := fun e z => absurd (Heap.lt_size e) (Nat.not_lt.mpr (by rw [hD, z]; exact Cge))
      have cC : ∀ x c, X.env.cells.lookup x = some c → c ≠ s3.heap.objs.size := fun x c e z => by
        obtain ⟨v, o, q1, _⟩ := I2.cell x c e
        exact lt2 q1 z
      have pC : ∀ p ∈ X.pn ++ pins, p.1 ≠ s3.heap.objs.size := fun p hp => lt2 (I2.pin p hp).1
      have lC : s3.heap.objs.size ≠ X.env.locals := fun z => by
        have := I2.lt
        rw [hD, ← z] at this
        exact absurd this (Nat.not_lt.mpr Cge)
      refine hRR D s3.heap.objs.size s6 H5 oC mm (I6X.pins_of fun p hp => ?_) hoC hnn (Nat.le_trans I2.sz (by rw [hD]; exact Cge)) lC cC pC q
      rcases List.mem_append.mp hp with hp | hp
      · exact I6X.pin p (List.mem_append_right _ hp)
      · have : p = (s3.heap.objs.size, oC) := by simpa using hp
        subst this
        refine ⟨hoC, I6.free, lC, fun z => ?_, fun v z => ?_⟩
        · have := I2.ok.funs.mem z
          have hz := I2.funs.mem z
          obtain ⟨_, o, hz, _⟩ := hz
          exact lt2 hz rfl
        · have := rC.1
          rw [z] at this; cases this
    · refine thn (T.item (blk X (cN X tn js) scope s3.heap.objs.size s3 H3 fp) rfl rfl rfl hc i [] s5 _ H5 (fun _ _ => False) I5' (fpk fr5) st5 go) fun r s6 ⟨u, hr, h6⟩ => ?_
      subst hr
      refine thn h6 fun _ s7 ⟨x, H7, I7, r7, y7, st7, fr7⟩ => ?_
      have I7' := I7.pinned (fpk fr7) (T.obj _ _ st7)
      refine thn ((hb s3.heap.objs.size s3 H3 fp).1 _ s7 _ H7 x u _ I7' r7 (step x H7 y7)) fun _ s8 ⟨σ8, H8, I8, kc8, q8⟩ => ?_
      -- what the pins say of the iterator, later
      have again : ∀ {σ' : St} {H' : Hp} {s' : Shared} {xs' : List V} {m' : Nat}, Inv (blk X (cN X tn js) scope s3.heap.objs.size s3 H3 fp) ([] ++ pinsAt fp s7.heap) σ' H' s' → m' < n → W (i + 1) m' H' xs' → KeepC σ tn js σ' →
          ∃ m, m < n ∧ ∃ i σ' H' xs, Inv (blk X (cN X tn js) scope s3.heap.objs.size s3 H3 fp) [] σ' H' s' ∧ tnn i s'.heap ∧ (∀ b ∈ fp, H' b = none) ∧ W i m H' xs ∧ KeepC σ tn js σ' := fun {σ' H' s' xs' m'} I' hm w' k' => by
        refine ⟨m', hm, i + 1, σ', H', xs', I'.unpinned, T.keep _ _ _ st7 fun b hb o e => (I'.pin (b, o) (List.mem_append_right _ (List.mem_append_right _ (mem_pinsAt hb e)))).1, fun b hb => ?_, w', k'⟩
        obtain ⟨o, e, d⟩ := T.obj _ _ st7 b hb
        exact (I'.pin (b, o) (List.mem_append_right _ (List.mem_append_right _ (mem_pinsAt hb e)))).2.1
      refine thn ((hb s3.heap.objs.size s3 H3 fp).2.1 _ s8 σ8 H8 _ I8 q8) fun ok s9 ⟨H9, I9, q9⟩ => ?_
      cases ok with
      | false =>
        have q9' : ∃ m', m' < n ∧ W (i + 1) m' H9 xs := by
          have z := q9
          rw [if_neg Bool.false_ne_true] at z
          exact z
        obtain ⟨m', hm, w9⟩ := q9'
        exact again I9 hm w9 kc8
      | true =>
        rw [if_pos rfl] at q9 ⊢
        refine thn ((hb s3.heap.objs.size s3 H3 fp).2.2 _ s9 σ8 H9 _ I9 q9) fun yv s10 ⟨y, H10, I10, r10, hD10, hz, m', hm, w10⟩ => ?_
        exact thn (mt_append _ s10 σ8 H10 (.ref D) [y] (.ref D) [yv] (fun _ H' => H' = upd H10 D (.lst (xs ++ [y]))) I10 rfl (.cons r10 .nil) ⟨D, xs, y, rfl, rfl, hD10, hz, rfl⟩) fun _ s11 ⟨_, H11, I11, _, e11⟩ => by
          subst e11
          exact again I11 hm w10 kc8
  exact codeAny_compStart_list loop (T.self _ 0 _ _ _ st4 loop)
theorem pe_lc (S : CScope X scope tn js) (hc : X.calm = true) (hi : PI X target iter wi)
    (hb : ∀ C s H fp, PG (blk X (cN X tn js) scope C s H fp) target g ∧ PF (blk X (cN X tn js) scope C s H fp) ifs tt ∧ PE (blk X (cN X tn js) scope C s H fp) elt te)
    (hs : ∀ x, foldedSetIterable iter X.env x = pure x := by intro _; rfl) : PE X (.ListComp elt [⟨target, iter, ifs, 0⟩] scope pos) (tLC wi tn js g tt te) := by
  intro pins s σ H Q I h
  rw [eval_ListComp]
  refine wpAny_comprehension_free (use := none) rfl hs (closureFor_clOf (has_cell I.ok S)) S.kind S.loc ?_
  refine comp_core (RR := fun acc C => compPost (model X.prog X.w) X.A X.xe none (EP X pins σ Q) acc C) S hc hi hb I h ?_
  intro D C s' H' oC m I' hoC hn h1 h2 h3 h4 q
  refine ⟨m, hn, fun h' sb => ⟨.ref D, H', ?_, rfl, q⟩⟩
  have I2 : Inv X pins σ H' s' := I'.pins_of fun p hp => I'.pin p (List.mem_append_right _ (List.mem_append_left _ hp))
  exact I2.turned (t' := s'.toks) (fun b o hb e => sb.extBut b o hb e) (I'.pin (C, oC) (List.mem_append_right _ (List.mem_append_right _ (by simp)))).2.1 (Ne.symm (Ne.symm h2)) (.inr h1) h3 h4
end
end L2
namespace L2
open PySem PySem.Spec PyProof.Rows
section
variable {X : Cx}
theorem op_mulK : OpR X (binaryOp .Mult) (rI IntMulOk fun i j => .int (i * j)) := opI fun _ _ _ _ _ _ _ hc q => mul_int q hc
def CDivK (_ j : Int) : Prop := j ≠ 0 ∧ j.natAbs.log2 < 9000
theorem op_fdivK : OpR X (binaryOp .FloorDiv) (rI CDivK fun i j => .int (i.fdiv j)) := opI fun _ _ _ _ _ _ _ hc q => floordiv_int hc.1 q (.inl (PyProof.noPylong_of_log2 hc.2))

def Itc (lo c : Int) (n : Nat) : It := ⟨fun i _ => i < n, fun i H x H' => H' = H ∧ x = .int (lo + i * c), fun i _ => n ≤ i⟩
theorem turn_rangeC {P : Program} {w : World} {K : PySem.W.Frag} {tg : Expr} (it : Addr) (lo c : Int) (n : Nat) : Turn P w K tg (Itc lo c n) [it] it (fun i h => IsRangeIter h it (lo + (i : Nat) * c) ((n : Int) - (i : Nat)) c) where
  mem := by simp
  obj := fun i h st b hb => by
    have e : b = it := by simpa using hb
    subst e
    exact ⟨_, st, fun v z => by
      have z' : Data.fields _ = Data.cell v := z
      cases z'⟩
  keep := fun i h h' st k => k it (by simp) _ st
  item := by
    intro X hP hw hK hc i pins s σ H E I hf st hg
    subst hP hw hK
    obtain ⟨f0, f1, f2, f3, f4, f5⟩ := hf it (by simp)
    have W := Walks.range (prog := X.prog) (w := X.w) (I.ok.hd hc) it lo c n
    refine W.item i s _ _ hg st fun v h' tk hv st' kk => ?_
    obtain ⟨t, rfl⟩ := hv
    have I1 : Inv X pins σ H { s with heap := h', toks := tk } := I.turned (fun b o hb e => kk b o (by simpa using hb) e) f0 f1 f3 f4 f5
    exact ⟨_, rfl, go_of (s := { s with heap := h', toks := tk }) (n := "range_iterator") st' rfl rfl (by decide) ⟨.int (lo + i * c), H, I1, ⟨t, rfl⟩, ⟨rfl, rfl⟩, st', fun b hb => (hf b hb).1⟩⟩
  done := by
    intro X hP hw hK hc i pins s σ H E I hf st hg
    subst hP hw hK
    obtain ⟨f0, f1, f2, f3, f4, f5⟩ := hf it (by simp)
    exact wpAny_pyNext_range_end (I.ok.hd hc) st (by have : n ≤ i := hg; omega) fun h' eb => ⟨rfl, I.turned (t' := s.toks) (fun b o hb e => eb b o hb e) f0 f1 f3 f4 f5⟩
  self := fun _ _ _ _ _ st h => wpAny_pyIter_rangeiter st h
theorem small_c {a b c : Int} (ha : -(2 ^ 62) ≤ a) (ha' : a < 2 ^ 62) (hb : -(2 ^ 62) ≤ b) (hb' : b < 2 ^ 62) (hc : c ≠ 0) (hc1 : -1000 ≤ c) (hc2 : c ≤ 1000) : Builtin.Range.small a b c = true := by
  have h1 := rangeSize_toNat a b c
  have h2 := rangeSize_toNat_le a b c
  unfold Builtin.Range.small
  generalize Builtin.Range.rangeSize a b c = r at *
  simp only [Builtin.Range.rangeFitsLong, Bool.and_eq_true, Bool.or_eq_true, decide_eq_true_eq, beq_iff_eq]
  refine ⟨⟨⟨⟨⟨by omega, by omega⟩, by omega, by omega⟩, by omega, by omega⟩, by omega, by omega⟩, ?_⟩
  right
  split <;> simp only [Bool.and_eq_true, decide_eq_true_eq] <;> omega
variable {tg : Expr}
theorem range_itC {pins : List (Addr × Obj)} {σ : St} {H : Hp} {s : Shared} {R : It → Hp → Prop} {E : Value → Shared → Prop} {lo hi c : Int} {t u v : Tok} {tk : Nat} (I : Inv X pins σ H s) (h1 : -(2 ^ 62) ≤ lo) (h2 : lo < 2 ^ 62) (h3 : -(2 ^ 62) ≤ hi) (h4 : hi < 2 ^ 62)
    (c0 : c ≠ 0) (c1 : -1000 ≤ c) (c2 : c ≤ 1000)
    (q : R (Itc lo c (Builtin.Range.rangeSize lo hi c).toNat) H) : wpAny (model X.prog X.w) X.A (pyIter (.ref s.heap.objs.size)) (PIE X pins σ tg R) E { s with heap := s.heap.push { cls := .type "range", data := .fields #[.int lo t, .int hi u, .int c v] }, toks := tk } := by
  refine wpAny_pyIter_range (IsRange.new ..) (small_c h1 h2 h3 h4 c0 c1 c2) ?_
  have I1 : Inv X pins σ H { s with heap := s.heap.push { cls := .type "range", data := .fields #[.int lo t, .int hi u, .int c v] }, toks := tk } := I.kept fun b o e => Heap.get?_push_of_some _ e
  refine ⟨(s.heap.push { cls := .type "range", data := .fields #[.int lo t, .int hi u, .int c v] }).objs.size, [(s.heap.push { cls := .type "range", data := .fields #[.int lo t, .int hi u, .int c v] }).objs.size], _, _, H, rfl,
    I1.kept (t' := tk) fun b o e => Heap.get?_push_of_some _ e, turn_rangeC _ lo c (Builtin.Range.rangeSize lo hi c).toNat, ?_, fun b hb => ?_, q⟩
  · have e1 : lo + ((0 : Nat) : Int) * c = lo := by simp
    have e2 : (((Builtin.Range.rangeSize lo hi c).toNat : Nat) : Int) - ((0 : Nat) : Int) = Builtin.Range.rangeSize lo hi c := by have := rangeSize_toNat lo hi c; omega
    show IsRangeIter _ _ (lo + ((0 : Nat) : Int) * c) ((((Builtin.Range.rangeSize lo hi c).toNat : Nat) : Int) - ((0 : Nat) : Int)) c
    rw [e1, e2]
    exact Heap.get?_push_size _ rfl
  · have e : b = (s.heap.push { cls := .type "range", data := .fields #[.int lo t, .int hi u, .int c v] }).objs.size := by simpa using hb
    subst e
    exact I1.fpOk (Nat.le_refl _) (I1.hok.fresh (Nat.le_refl _))
def iRng3 (ta : TA) : TI := fun σ H R => ta σ H fun vs H1 => ∃ i j c : Int, vs = [.int i, .int j, .int c] ∧ (-(2 ^ 62) ≤ i ∧ i < 2 ^ 62 ∧ -(2 ^ 62) ≤ j ∧ j < 2 ^ 62) ∧ (c ≠ 0 ∧ -1000 ≤ c ∧ c ≤ 1000) ∧ R (Itc i c (Builtin.Range.rangeSize i j c).toNat) H1
theorem pi_range3 {a b c : Expr} {ta : TA} {p pos : Pos} (hg : Gl X "range") (hm : X.mg "range" = none) (ha : PA X [a, b, c] ta) (he : starEach [a, b, c] X.env = (false, eval a X.env) :: starEach [b, c] X.env := by rfl)
    (hpl : (backTo pos (starEach [b, c] X.env)).any (·.1) = false := by rfl) : PI X tg (.Call (.Name "range" p) [a, b, c] [] pos) (iRng3 ta) := by
  intro pins s σ H R I h
  refine Call_ (ld_blt I hg hm boot_range (PyProof.Rows.callWith_type1 (thn (ha pos pins s σ H _ I h) fun us s1 ⟨vs, H1, I1, r1, q1⟩ => ?_) he hpl))
  obtain ⟨i, j, c, e, ⟨q1, q2, q3, q4⟩, ⟨c0, c1, c2⟩, q⟩ := q1
  subst e
  cases r1 with
  | cons r rr =>
    cases rr with
    | cons r' rr =>
      cases rr with
      | cons r'' rr =>
        cases rr
        obtain ⟨t, rfl⟩ := r
        obtain ⟨t', rfl⟩ := r'
        obtain ⟨t'', rfl⟩ := r''
        exact call_range_3 c0 (range_itC I1 q1 q2 q3 q4 c0 c1 c2 q) (.inl (PyProof.noPylong_small (by omega)))
theorem for_rangeC {lo c : Int} {n : Nat} {g : TG} {tb : TS} {D : Ends} {σ : St} {H : Hp} (Pv : Nat → St → Hp → Prop) (h0 : Pv 0 σ H)
    (hs : ∀ i σ H, i < n → Pv i σ H → g (.int (lo + i * c)) σ H fun σ2 H2 => tb { D with nx := Pv (i + 1), ct := Pv (i + 1), bk := D.nx } σ2 H2) (hd : ∀ σ H, Pv n σ H → D.nx σ H) :
    ∃ W : Nat → Nat → St → Hp → Prop, (∃ m, W 0 m σ H) ∧ ∀ i m σ H, W i m σ H →
      ((Itc lo c n).stop i H ∧ D.nx σ H) ∨ ((Itc lo c n).go i H ∧ ∃ N : St → Hp → Prop, (∀ σ' H', N σ' H' → ∃ m', m' < m ∧ W (i + 1) m' σ' H') ∧ ∀ x H', (Itc lo c n).yld i H x H' → g x σ H' fun σ2 H2 => tb { D with nx := N, ct := N, bk := D.nx } σ2 H2) := by
  refine ⟨fun i m σ H => m = n - i ∧ i ≤ n ∧ Pv i σ H, ⟨n, by simp, Nat.zero_le _, h0⟩, ?_⟩
  rintro i m σ H ⟨rfl, hi, p⟩
  by_cases hlt : i < n
  · refine .inr ⟨hlt, Pv (i + 1), fun σ' H' p' => ⟨n - (i + 1), by omega, rfl, hlt, p'⟩, fun x H' y => ?_⟩
    obtain ⟨e, y⟩ := y
    subst e y
    exact hs i σ _ hlt p
  · have e : i = n := by omega
    subst e
    exact .inl ⟨Nat.le_refl _, hd σ H p⟩
end

mutual
inductive DR (K : PySem.W.Frag) (H : Hp) : V → PyData → Prop
  | non : DR K H .non .none
  | bl (b : Bool) : DR K H (.bl b) (.bool b)
  | int (i : Int) : DR K H (.int i) (.int i)
  | str (x : Str) : DR K H (.str x) (.str x)
  | lst {a : Addr} {xs : List V} {ds : List PyData} : SqL K H a xs → DRs K H xs ds → DR K H (.ref a) (.list ds)
  | tup {a : Addr} {xs : List V} {ds : List PyData} : SqT K H a xs → DRs K H xs ds → DR K H (.ref a) (.tuple ds)
inductive DRs (K : PySem.W.Frag) (H : Hp) : List V → List PyData → Prop
  | nil : DRs K H [] []
  | cons {x : V} {xs : List V} {d : PyData} {ds : List PyData} : DR K H x d → DRs K H xs ds → DRs K H (x :: xs) (d :: ds)
end
section
variable {X : Cx} {pins : List (Addr × Obj)} {σ : St} {H : Hp} {s : Shared}
mutual
theorem DR.reads (I : Inv X pins σ H s) : ∀ {x : V} {d : PyData} {u : Value}, DR X.K H x d → RelV x u → ∃ as, Reads s.heap u d as
  | _, _, _, .non, r => by cases r; exact ⟨_, .none⟩
  | _, _, _, .bl b, r => by cases r; exact ⟨_, .bool b⟩
  | _, _, _, .int i, r => by obtain ⟨t, rfl⟩ := r; exact ⟨_, .int i t⟩
  | _, _, _, .str x, r => by obtain ⟨t, rfl⟩ := r; exact ⟨_, .str x t⟩
  | _, _, _, .lst h hs, r => by
    cases r
    obtain ⟨its, rv, p, _⟩ := I.list h
    obtain ⟨as, ra⟩ := DRs.reads I hs rv
    obtain ⟨o, e1, e2, n, e3⟩ := p.isList
    exact ⟨_, .list e1 e2 e3 (by simpa using ra)⟩
  | _, _, _, .tup h hs, r => by
    cases r
    obtain ⟨its, rv, p, _⟩ := I.tuple h
    obtain ⟨as, ra⟩ := DRs.reads I hs rv
    obtain ⟨o, e1, e2, n, e3⟩ := p
    exact ⟨_, .tuple e1 e2 e3 (by simpa using ra)⟩
theorem DRs.reads (I : Inv X pins σ H s) : ∀ {xs : List V} {ds : List PyData} {us : List Value}, DRs X.K H xs ds → Vals xs us → ∃ as, ReadsAll s.heap us ds as
  | _, _, _, .nil, r => by cases r; exact ⟨_, .nil⟩
  | _, _, _, .cons h hs, r => by
    cases r with
    | cons r1 r2 =>
      obtain ⟨as, a⟩ := DR.reads I h r1
      obtain ⟨bs, b⟩ := DRs.reads I hs r2
      exact ⟨_, .cons a b⟩
end
end
section
variable {X : Cx}
def rEqD (K : PySem.W.Frag) : R2 := fun x y H Q => ∃ d e, DR K H x d ∧ DR K H y e ∧ d.canLay0 = true ∧ e.canLay0 = true ∧ d.depth ≤ 60 ∧ Q (.bl (PyData.eqv d e)) H
def rNeD (K : PySem.W.Frag) : R2 := fun x y H Q => ∃ d e, DR K H x d ∧ DR K H y e ∧ d.canLay0 = true ∧ e.canLay0 = true ∧ d.depth ≤ 60 ∧ Q (.bl (!PyData.eqv d e)) H
theorem op_neD (hu : X.A.units + 60 < cLine) : OpR X (compareOp .NotEq) (rNeD X.K) := by
  intro pins s σ H x y v u Q I rx ry h
  obtain ⟨d, e, hd, he, c1, c2, dp, q⟩ := h
  obtain ⟨as, ra⟩ := hd.reads I rx
  obtain ⟨bs, rb⟩ := he.reads I ry
  exact SeqAt.compareNe_reads ra rb c1 c2 (by have := Nat.min_le_left d.depth e.depth; omega) ⟨.bl _, H, I, rfl, q⟩
end
end L2
namespace L2.EP
open PySem PySem.Spec PyProof.Rows
open Classical in
noncomputable def off (H : Hp) (O : Addr → Prop) : Hp := fun b => if O b then none else H b
theorem off_get {H : Hp} {O : Addr → Prop} {b : Addr} (h : ¬ O b) : off H O b = H b := by unfold off; rw [if_neg h]
theorem off_own {H : Hp} {O : Addr → Prop} {b : Addr} (h : O b) : off H O b = none := by unfold off; rw [if_pos h]
theorem off_some {H : Hp} {O : Addr → Prop} {b : Addr} {o : HO} (h : off H O b = some o) : ¬ O b ∧ H b = some o := by
  by_cases hb : O b
  · rw [off_own hb] at h; cases h
  · rw [off_get hb] at h; exact ⟨hb, h⟩
theorem off_same (H : Hp) (O : Addr → Prop) : Same (off H O) H := fun _ _ h => (off_some h).2
theorem off_mono {H H' : Hp} {O : Addr → Prop} (s : Same H H') : Same (off H O) (off H' O) := fun b o h => by
  obtain ⟨h1, h2⟩ := off_some h
  rw [off_get h1]; exact s _ _ h2
theorem off_less {H : Hp} {O O' : Addr → Prop} (l : ∀ b, O' b → O b) : Same (off H O) (off H O') := fun b o h => by
  obtain ⟨h1, h2⟩ := off_some h
  rw [off_get fun z => h1 (l _ z)]; exact h2
theorem off_nil (H : Hp) : off H (fun _ => False) = H := funext fun _ => off_get fun z => z
theorem off_upd {H : Hp} {O : Addr → Prop} {p : Addr} {o : HO} (h : O p) : off (upd H p o) O = off H O := funext fun b => by
  by_cases hb : O b
  · rw [off_own hb, off_own hb]
  · rw [off_get hb, off_get hb, upd_ne]; rintro rfl; exact hb h
theorem same_upd {H : Hp} {p : Addr} (h : H p = none) (o : HO) : Same H (upd H p o) := fun b u q => by rw [upd_ne (ne_of_none q h)]; exact q
theorem Same.rd {H H' : Hp} {a : Addr} {u : HO} (e : Same H H') (h : Rd H a u) : Rd H' a u := by
  rcases h with h | ⟨o, h⟩
  · exact .inl (e _ _ h)
  · exact .inr ⟨o, e _ _ h⟩
def Rt (H : Hp) (p : Addr) (xs : List V) : Prop := H p = some (.tup xs) ∨ ∃ _ : Empty, H p = some (.tup xs)
theorem Rt.pl {H : Hp} {p : Addr} {xs : List V} (h : Rt H p xs) : H p = some (.tup xs) := by
  rcases h with h | ⟨o, h⟩
  · exact h
  · exact h
theorem Rt.rd {H : Hp} {p : Addr} {xs : List V} (h : Rt H p xs) : Rd H p (.tup xs) := .inl h.pl
theorem Same.rt {H H' : Hp} {a : Addr} {u : List V} (e : Same H H') (h : Rt H a u) : Rt H' a u := .inl (e _ _ h.pl)

theorem sqT_rd {K : PySem.W.Frag} {H H' : Hp} {p : Addr} {xs : List V} (e : Same H H') (h : Rt H p xs) : SqT K H' p xs := .inl (Same.rt e h).rd
inductive Nn where
  | any
  | new (H0 : Hp)
  | set (D : Addr → Prop)
inductive Mt where
  | inl (xs : List V)
  | inr (kvs : List (Key × V))
  | inT (kvs : List (List Key × V))
def mo : Mt → HO
  | .inl xs => .lst xs
  | .inr kvs => .dK kvs
  | .inT kvs => .dT kvs
def Mo (K : PySem.W.Frag) (H : Hp) (p : Addr) : Mt → Prop
  | .inl xs => SqL K H p xs
  | .inr kvs => Rd H p (.dK kvs)
  | .inT kvs => Rd H p (.dT kvs)
theorem Mo.mono {K : PySem.W.Frag} {H H' : Hp} {p : Addr} {o : Mt} (s : Same H H') (h : Mo K H p o) : Mo K H' p o := by
  cases o with
  | inl xs => exact s.seq h
  | inr kvs => exact Same.rd s h
  | inT kvs => exact Same.rd s h
theorem Mo.of {K : PySem.W.Frag} {H : Hp} {p : Addr} {o : Mt} (h : H p = some (mo o)) : Mo K H p o := by
  cases o with
  | inl xs => exact SqL.of h
  | inr kvs => exact .inl h
  | inT kvs => exact .inl h
def Nn.has : Nn → Hp → Addr → Mt → Prop
  | .any, _, _, _ => True
  | .new H0, H, p, xs => H0 p = none ∧ H p = some (mo xs)
  | .set D, H, p, xs => D p ∧ H p = some (mo xs)
theorem Nn.mono {N : Nn} {H H' : Hp} {p : Addr} {xs : Mt} (s : Same H H') (h : N.has H p xs) : N.has H' p xs := by
  cases N with
  | any => exact True.intro
  | new H0 => exact ⟨h.1, s _ _ h.2⟩
  | set D => exact ⟨h.1, s _ _ h.2⟩
class Py (α : Type) where
  rp : PySem.W.Frag → Nn → Hp → V → α → Prop
  tr : ∀ {K : PySem.W.Frag} {N N' : Nn} {H H' : Hp} {v : V} {a : α}, (∀ p (o : Mt), Mo K H p o → N.has H p o → Mo K H' p o ∧ N'.has H' p o) → (∀ p xs, Rt H p xs → Rt H' p xs) → rp K N H v a → rp K N' H' v a
theorem rp_mono {α : Type} [Py α] {K : PySem.W.Frag} {N : Nn} {H H' : Hp} {v : V} {a : α} (s : Same H H') (h : Py.rp K N H v a) : Py.rp K N H' v a :=
  Py.tr (fun _ _ q n => ⟨Mo.mono s q, Nn.mono s n⟩) (fun _ _ q => Same.rt s q) h
theorem rp_wid {α : Type} [Py α] {K : PySem.W.Frag} {N N' : Nn} {H : Hp} {v : V} {a : α} (w : ∀ p (o : Mt), N.has H p o → N'.has H p o) (h : Py.rp K N H v a) : Py.rp K N' H v a :=
  Py.tr (fun _ _ q n => ⟨q, w _ _ n⟩) (fun _ _ q => q) h
instance : Py Int where
  rp _ _ _ v a := v = .int a
  tr _ _ h := h
instance : Py Bool where
  rp _ _ _ v a := v = .bl a
  tr _ _ h := h
instance : Py Unit where
  rp _ _ _ v _ := v = .non
  tr _ _ h := h
instance : Py Str where
  rp _ _ _ v a := v = .str a
  tr _ _ h := h
structure Any where
instance : Py Any where
  rp _ _ _ _ _ := True
  tr _ _ h := h
instance {α : Type} [Py α] : Py (Option α) where
  rp K N H v a := match a with | none => v = .non | some b => Py.rp K N H v b
  tr {K N N' H H' v a} l t h := by
    cases a with
    | none => exact h
    | some b => exact Py.tr (α := α) l t h
instance {α β : Type} [Py α] [Py β] : Py (α × β) where
  rp K N H v a := ∃ p x y, v = .ref p ∧ Rt H p [x, y] ∧ Py.rp K N H x a.1 ∧ Py.rp K N H y a.2
  tr l t h := by
    obtain ⟨p, x, y, e, s, h1, h2⟩ := h
    exact ⟨p, x, y, e, t _ _ s, Py.tr l t h1, Py.tr l t h2⟩
structure T3 (α β γ : Type) where
  a : α
  b : β
  c : γ
  deriving DecidableEq
instance {α β γ : Type} [Py α] [Py β] [Py γ] : Py (T3 α β γ) where
  rp K N H v a := ∃ p x y z, v = .ref p ∧ Rt H p [x, y, z] ∧ Py.rp K N H x a.a ∧ Py.rp K N H y a.b ∧ Py.rp K N H z a.c
  tr l t h := by
    obtain ⟨p, x, y, z, e, s, h1, h2, h3⟩ := h
    exact ⟨p, x, y, z, e, t _ _ s, Py.tr l t h1, Py.tr l t h2, Py.tr l t h3⟩
theorem pr_imp {α β : Type} {F G : α → β → Prop} (f : ∀ a b, F a b → G a b) : ∀ {l₁ : List α} {l₂ : List β}, Paired F l₁ l₂ → Paired G l₁ l₂
  | _, _, .nil => .nil
  | _, _, .cons h t => .cons (f _ _ h) (pr_imp f t)
theorem pr_len {α β : Type} {F : α → β → Prop} : ∀ {l₁ : List α} {l₂ : List β}, Paired F l₁ l₂ → l₁.length = l₂.length
  | _, _, .nil => rfl
  | _, _, .cons _ t => congrArg (· + 1) (pr_len t)
theorem pr_get {α β : Type} {F : α → β → Prop} : ∀ {l₁ : List α} {l₂ : List β} {i : Nat} {b : β}, Paired F l₁ l₂ → l₂[i]? = some b → ∃ a, l₁[i]? = some a ∧ F a b
  | _, _, _, _, .nil, e => by simp at e
  | _, _, 0, _, .cons h _, e => by simp at e; subst e; exact ⟨_, rfl, h⟩
  | _, _, i + 1, _, .cons _ t, e => by
    obtain ⟨a, h1, h2⟩ := pr_get (i := i) t (by simpa using e)
    exact ⟨a, by simpa using h1, h2⟩
theorem pr_get' {α β : Type} {F : α → β → Prop} : ∀ {l₁ : List α} {l₂ : List β} {i : Nat} {a : α}, Paired F l₁ l₂ → l₁[i]? = some a → ∃ b, l₂[i]? = some b ∧ F a b
  | _, _, _, _, .nil, e => by simp at e
  | _, _, 0, _, .cons h _, e => by simp at e; subst e; exact ⟨_, rfl, h⟩
  | _, _, i + 1, _, .cons _ t, e => by
    obtain ⟨a, h1, h2⟩ := pr_get' (i := i) t (by simpa using e)
    exact ⟨a, by simpa using h1, h2⟩
theorem pr_app {α β : Type} {F : α → β → Prop} : ∀ {l₁ m₁ : List α} {l₂ m₂ : List β}, Paired F l₁ l₂ → Paired F m₁ m₂ → Paired F (l₁ ++ m₁) (l₂ ++ m₂)
  | _, _, _, _, .nil, h => h
  | _, _, _, _, .cons h t, h' => .cons h (pr_app t h')
theorem pr_set {α β : Type} {F : α → β → Prop} {a : α} {b : β} (f : F a b) : ∀ {l₁ : List α} {l₂ : List β} (i : Nat), Paired F l₁ l₂ → Paired F (l₁.set i a) (l₂.set i b)
  | _, _, _, .nil => .nil
  | _, _, 0, .cons _ t => .cons f t
  | _, _, i + 1, .cons h t => .cons h (pr_set f i t)
theorem pr_take {α β : Type} {F : α → β → Prop} : ∀ {l₁ : List α} {l₂ : List β} (n : Nat), Paired F l₁ l₂ → Paired F (l₁.take n) (l₂.take n)
  | _, _, 0, _ => .nil
  | _, _, _ + 1, .nil => .nil
  | _, _, n + 1, .cons h t => .cons h (pr_take n t)
instance {α : Type} [Py α] : Py (List α) where
  rp K N H v a := ∃ p xs, v = .ref p ∧ SqL K H p xs ∧ N.has H p (.inl xs) ∧ Paired (fun x b => Py.rp K N H x b) xs a
  tr l t h := by
    obtain ⟨p, xs, e, s, n, r⟩ := h
    obtain ⟨s', n'⟩ := l _ (.inl xs) s n
    exact ⟨p, xs, e, s', n', pr_imp (fun _ _ q => Py.tr l t q) r⟩

class PyD (α : Type) extends Py α where
  dat : α → PyData
  dr : ∀ {K : PySem.W.Frag} {N : Nn} {H : Hp} {v : V} {a : α}, Py.rp K N H v a → DR K H v (dat a)
  lay : ∀ a, (dat a).canLay0 = true
  dep : Nat
  depth : ∀ a, (dat a).depth ≤ dep
  eqv : ∀ a b, PyData.eqv (dat a) (dat b) = true ↔ a = b
instance : PyD Int where
  dat := .int
  dr h := by cases h; exact .int _
  lay _ := rfl
  dep := 0
  depth _ := Nat.le_refl _
  eqv a b := by simp [PyData.eqv]
instance : PyD Bool where
  dat := .bool
  dr h := by cases h; exact .bl _
  lay _ := rfl
  dep := 0
  depth _ := Nat.le_refl _
  eqv a b := by simp [PyData.eqv]
instance {α β : Type} [PyD α] [PyD β] : PyD (α × β) where
  dat a := .tuple [PyD.dat a.1, PyD.dat a.2]
  dr h := by
    obtain ⟨p, x, y, e, s, h1, h2⟩ := h
    subst e
    exact .tup (.inl s.rd) (.cons (PyD.dr h1) (.cons (PyD.dr h2) .nil))
  lay a := by
    show PyData.canLayAll0 [PyD.dat a.1, PyD.dat a.2] = true
    simp [PyData.canLayAll0, PyD.lay]
  dep := max (PyD.dep α) (PyD.dep β) + 1
  depth a := by
    have h1 := PyD.depth a.1
    have h2 := PyD.depth a.2
    show PyData.depthAll [PyD.dat a.1, PyD.dat a.2] + 1 ≤ _
    simp only [PyData.depthAll]
    omega
  eqv a b := by
    rw [PyData.eqv]
    simp only [PyData.eqvAll, Bool.and_true, Bool.and_eq_true, PyD.eqv]
    exact ⟨fun h => Prod.ext h.1 h.2, fun h => by subst h; exact ⟨rfl, rfl⟩⟩
theorem drs_list {α : Type} [PyD α] {K : PySem.W.Frag} {N : Nn} {H : Hp} : ∀ {xs : List V} {as : List α}, Paired (fun x b => Py.rp K N H x b) xs as → DRs K H xs (as.map PyD.dat)
  | _, _, .nil => .nil
  | _, _, .cons h t => .cons (PyD.dr h) (drs_list t)
theorem lay_list {α : Type} [PyD α] : ∀ as : List α, PyData.canLayAll0 (as.map PyD.dat) = true
  | [] => rfl
  | a :: as => by simp [PyData.canLayAll0, PyD.lay, lay_list as]
theorem dep_list {α : Type} [PyD α] : ∀ as : List α, PyData.depthAll (as.map PyD.dat) ≤ PyD.dep α
  | [] => Nat.zero_le _
  | a :: as => by
    have h1 := PyD.depth a
    have h2 := dep_list as
    simp only [List.map_cons, PyData.depthAll]
    omega
theorem eqv_list {α : Type} [PyD α] : ∀ as bs : List α, PyData.eqvAll (as.map PyD.dat) (bs.map PyD.dat) = true ↔ as = bs
  | [], [] => by simp [PyData.eqvAll]
  | [], _ :: _ => by simp [PyData.eqvAll]
  | _ :: _, [] => by simp [PyData.eqvAll]
  | a :: as, b :: bs => by simp [PyData.eqvAll, PyD.eqv, eqv_list as bs]
instance {α : Type} [PyD α] : PyD (List α) where
  dat a := .list (a.map PyD.dat)
  dr h := by
    obtain ⟨p, xs, e, s, n, r⟩ := h
    subst e
    exact .lst s (drs_list r)
  lay a := lay_list a
  dep := PyD.dep α + 1
  depth a := by
    show PyData.depthAll (a.map PyD.dat) + 1 ≤ _
    have := dep_list a
    omega
  eqv a b := by rw [PyData.eqv]; exact eqv_list a b

inductive Bd : Type 1
  | val {α : Type} [Py α] (b : Bool) (a : α) : Bd
  | own {α : Type} [Py α] (b : Bool) (as : List α) : Bd
  | dpo {α : Type} [Py α] (a : α) : Bd
abbrev GEnv := List (Option Bd)
def Nf (H0 : Hp) : Bool → Nn
  | true => .new H0
  | false => .any
theorem Nf.wk {H0 H : Hp} {b : Bool} {p : Addr} {xs : Mt} (h : H0 p = none) (hx : H p = some (mo xs)) : (Nf H0 b).has H p xs := by cases b; exact True.intro; exact ⟨h, hx⟩
theorem Nf.le {H0 H : Hp} {b b' : Bool} {p : Addr} {xs : Mt} (l : b' = true → b = true) (h : (Nf H0 b).has H p xs) : (Nf H0 b').has H p xs := by
  cases b' with
  | false => exact True.intro
  | true => rw [l rfl] at h; exact h
def Bd.ok (K : PySem.W.Frag) (H0 : Hp) (O : Addr → Prop) (H : Hp) (v : V) : Bd → Prop
  | @Bd.val _ _ b a => Py.rp K (Nf H0 b) (off H O) v a
  | @Bd.own _ _ _ _ => False
  | @Bd.dpo _ _ _ => False
def Bd.okD (K : PySem.W.Frag) (H0 : Hp) (O : Addr → Prop) (H : Hp) (D : Addr → Prop) (v : V) : Bd → Prop
  | @Bd.val _ _ _ _ => False
  | @Bd.own _ _ b as => ∃ p xs, v = .ref p ∧ D p ∧ H p = some (.lst xs) ∧ Paired (fun x a => Py.rp K (Nf H0 b) (off H O) x a) xs as
  | @Bd.dpo _ _ a => Py.rp K (.set D) H v a
def Bd.isOwn : Bd → Prop
  | @Bd.val _ _ _ _ => False
  | @Bd.own _ _ _ _ => True
  | @Bd.dpo _ _ _ => True
structure Sta (K : PySem.W.Frag) (H0 : Hp) (F O : Addr → Prop) (Γ : GEnv) (σ : St) (H : Hp) : Prop where
  same : Same H0 H
  fo : ∀ p, F p → O p
  f0 : ∀ p, F p → ∃ xs : Mt, H0 p = some (mo xs)
  own : ∀ p, O p → ∃ xs : Mt, H p = some (mo xs)
  len : σ.length = Γ.length
  at_ : ∀ (i : Nat) (g : Bd), Γ[i]? = some (some g) → ¬ g.isOwn → ∃ v, σ[i]? = some (some v) ∧ g.ok K H0 O H v
  dis : ∃ D : Nat → Addr → Prop, (∀ i j p, D i p → D j p → i = j) ∧ (∀ i p, D i p → O p ∧ H0 p = none) ∧ ∀ (i : Nat) (g : Bd), Γ[i]? = some (some g) → g.isOwn → ∃ v, σ[i]? = some (some v) ∧ g.okD K H0 O H (D i) v
section
variable {K : PySem.W.Frag} {H0 : Hp} {F O : Addr → Prop} {Γ : GEnv} {σ : St} {H H' : Hp}
theorem Bd.go {v : V} {g : Bd} (s : Same H H') (h : g.ok K H0 O H v) : g.ok K H0 O H' v := by
  cases g with
  | val b a => exact rp_mono (off_mono s) h
  | own b as => exact h
  | dpo a => exact h
theorem Bd.goD {v : V} {g : Bd} {D O' : Addr → Prop} (h : g.okD K H0 O H D v) (hD : ∀ p (xs : Mt), D p → H p = some (mo xs) → H' p = some (mo xs)) (so : Same (off H O) (off H' O')) (hO : ∀ p, D p → O p) (hOl : ∀ p, O p → ∃ xs : Mt, H p = some (mo xs)) : g.okD K H0 O' H' D v := by
  cases g with
  | val b a => exact h
  | own b as =>
    obtain ⟨p, xs, e, o, q, r⟩ := h
    exact ⟨p, xs, e, o, hD p (.inl xs) o q, pr_imp (fun _ _ z => rp_mono so z) r⟩
  | dpo a =>
    have h' : Py.rp K (.set D) H v a := h
    refine Py.tr (α := _) (a := a) (fun p xs q n => ?_) (fun p xs q => ?_) h'
    · obtain ⟨n1, n2⟩ := n
      have h2 := hD p xs n1 n2
      exact ⟨Mo.of h2, n1, h2⟩
    · have hp : ∀ u, (H p = some (.tup u) ∨ ∃ o, H p = some (.frz o (.tup u))) → ¬ O p := fun u z hp => by
        obtain ⟨ys, w⟩ := hOl p hp
        rcases z with z | ⟨o, z⟩
        · rw [z] at w; rcases ys with ys | ys | ys <;> cases w
        · rw [z] at w; rcases ys with ys | ys | ys <;> cases w
      have hp' := hp xs q.rd
      rcases q with q | ⟨o, q⟩
      · exact .inl ((off_same _ _) _ _ (so _ _ (by rw [off_get hp']; exact q)))
      · exact .inr ⟨o, (off_same _ _) _ _ (so _ _ (by rw [off_get hp']; exact q))⟩
theorem Sta.go (S : Sta K H0 F O Γ σ H) (s : Same H H') : Sta K H0 F O Γ σ H' where
  same := S.same.trans s
  fo := S.fo
  f0 := S.f0
  own := fun p h => let ⟨xs, q⟩ := S.own p h; ⟨xs, s _ _ q⟩
  len := S.len
  at_ := fun i g e n => let ⟨v, q, r⟩ := S.at_ i g e n; ⟨v, q, Bd.go s r⟩
  dis := by
    obtain ⟨D, d1, d2, d3⟩ := S.dis
    refine ⟨D, d1, d2, fun i g e o => ?_⟩
    obtain ⟨v, q, r⟩ := d3 i g e o
    exact ⟨v, q, Bd.goD r (fun p xs _ z => s _ _ z) (off_mono s) (fun p z => (d2 i p z).1) S.own⟩
theorem Sta.free0 (S : Sta K H0 F O Γ σ H) {p : Addr} (h : H p = none) : H0 p = none := S.same.free h
theorem Sta.notOwn (S : Sta K H0 F O Γ σ H) {p : Addr} (h : H p = none) : ¬ O p := fun o => by
  obtain ⟨xs, q⟩ := S.own p o
  rw [h] at q; cases q
theorem Sta.back {α : Type} [Py α] {b : Bool} {v : V} {a : α} (S : Sta K H0 F O Γ σ H) (h : Py.rp K (Nf H b) (off H' O) v a) : Py.rp K (Nf H0 b) (off H' O) v a :=
  rp_wid (fun p xs n => by cases b with | true => exact ⟨S.free0 n.1, n.2⟩ | false => exact True.intro) h
end
theorem get_set_ne.{u} {α : Type u} {l : List α} {i j : Nat} {a : α} (h : j ≠ i) : (l.set i a)[j]? = l[j]? := by
  rw [List.getElem?_set_ne (Ne.symm h)]
theorem get_set_eq.{u} {α : Type u} {l : List α} {i : Nat} {a : α} (h : i < l.length) : (l.set i a)[i]? = some a := by
  rw [List.getElem?_set_self h]
theorem get_set_some.{u} {α : Type u} {l : List (Option α)} {i : Nat} {a x : α} (h : (l.set i (some a))[i]? = some (some x)) : i < l.length ∧ a = x := by
  by_cases hl : i < l.length
  · rw [get_set_eq hl] at h
    injection h with h; injection h with h
    exact ⟨hl, h⟩
  · rw [List.getElem?_eq_none (by rw [List.length_set]; omega)] at h; cases h
theorem Sta.set {K : PySem.W.Frag} {H0 : Hp} {F O : Addr → Prop} {Γ : GEnv} {σ : St} {H : Hp} {α : Type} [Py α] {b : Bool} {a : α} {v : V} {i : Nat} (S : Sta K H0 F O Γ σ H) (r : Py.rp K (Nf H0 b) (off H O) v a) :
    Sta K H0 F O (Γ.set i (some (.val b a))) (σ.set i (some v)) H where
  same := S.same
  fo := S.fo
  f0 := S.f0
  own := S.own
  len := by rw [List.length_set, List.length_set]; exact S.len
  at_ := fun j g e n => by
    by_cases hj : j = i
    · subst hj
      obtain ⟨hl, e'⟩ := get_set_some e
      subst e'
      exact ⟨v, get_set_eq (by rw [S.len]; exact hl), r⟩
    · rw [get_set_ne hj] at e
      obtain ⟨w, q, z⟩ := S.at_ j g e n
      exact ⟨w, by rw [get_set_ne hj]; exact q, z⟩
  dis := by
    obtain ⟨D, d1, d2, d3⟩ := S.dis
    refine ⟨D, d1, d2, fun j g e o => ?_⟩
    have hj : j ≠ i := by
      rintro rfl
      obtain ⟨_, e'⟩ := get_set_some e
      subst e'; exact o
    rw [get_set_ne hj] at e
    obtain ⟨w, q, z⟩ := d3 j g e o
    exact ⟨w, by rw [get_set_ne hj]; exact q, z⟩
def tV {α : Type} [Py α] (K : PySem.W.Frag) (Γ : GEnv) (b : Bool) (a : α) : TE := fun σ H Q => ∃ H0 F O, Sta K H0 F O Γ σ H ∧ ∀ v H', Same H H' → Py.rp K (Nf H0 b) (off H' O) v a → Q v H'
@[irreducible] def E {α : Type} [Py α] (X : Cx) (Γ : GEnv) (e : Expr) (b : Bool) (a : α) : Prop := PE X e (tV X.K Γ b a)
def tVT (K : PySem.W.Frag) (Γ : GEnv) (c : Bool) : TT := fun σ H Q => ∃ H0 F O, Sta K H0 F O Γ σ H ∧ ∀ H', Same H H' → Q c H'
@[irreducible] def T (X : Cx) (Γ : GEnv) (e : Expr) (c : Bool) : Prop := PT X e (tVT X.K Γ c)
@[irreducible] def TW (X : Cx) (Γ : GEnv) (e : Expr) (c : Bool) : Prop := PW X e (tVT X.K Γ c)
theorem pe_wk {X : Cx} {e : Expr} {t t' : TE} (h : PE X e t) (w : ∀ σ H Q, t' σ H Q → t σ H Q) : PE X e t' := fun pins s σ H Q I q => h pins s σ H Q I (w _ _ _ q)
theorem pt_wk {X : Cx} {e : Expr} {t t' : TT} (h : PT X e t) (w : ∀ σ H Q, t' σ H Q → t σ H Q) : PT X e t' := fun pins s σ H Q I q => h pins s σ H Q I (w _ _ _ q)
theorem pw_wk {X : Cx} {e : Expr} {t t' : TT} (h : PW X e t) (w : ∀ σ H Q, t' σ H Q → t σ H Q) : PW X e t' := fun wh pins s σ H Q I q => h wh pins s σ H Q I (w _ _ _ q)
section
variable {X : Cx} {Γ : GEnv} {α β γ : Type} [Py α] [Py β] [Py γ] {e e1 e2 e3 : Expr} {b b1 b2 b3 : Bool} {pos : Pos}
theorem E.wk {a : α} (h : E X Γ e b a) (l : b' = true → b = true) : E X Γ e b' a := by
  with_unfolding_all
    exact pe_wk h fun σ H Q ⟨H0, F, O, S, q⟩ => ⟨H0, F, O, S, fun v H' s r => q v H' s (rp_wid (fun _ _ n => Nf.le l n) r)⟩
theorem e_var (i : Nat) {a : α} {x : Str} (h : Γ[i]? = some (some (.val b a)) := by rfl) (hN : X.N[i]? = some x := by rfl) (hv : Vis X.env.scope x := by first | exact Or.inl rfl | exact Or.inr (Or.inl rfl) | exact Or.inr (Or.inr rfl))
    (hd : (x == ("__debug__" : Str)) = false := by decide) (hcd : (x == ("__classdict__" : Str)) = false := by decide) : E X Γ (.Name x pos) b a := by
  with_unfolding_all
    exact pe_wk (pv i hN hv hd hcd) fun σ H Q ⟨H0, F, O, S, q⟩ => by
        obtain ⟨v, h1, h2⟩ := S.at_ i _ h (fun z => z)
        exact ⟨v, h1, q v H (Same.refl _) h2⟩
theorem e_int {i : Int} {j : Nat} : E X Γ (.Constant (.int i) j pos) true i := by
  with_unfolding_all
    exact pe_wk pe_int fun σ H Q ⟨H0, F, O, S, q⟩ => q _ H (Same.refl _) rfl
theorem e_bl {i : Bool} {j : Nat} : E X Γ (.Constant (.bool i) j pos) true i := by
  with_unfolding_all
    exact pe_wk pe_bl fun σ H Q ⟨H0, F, O, S, q⟩ => q _ H (Same.refl _) rfl
theorem e_non {j : Nat} : E X Γ (.Constant .none j pos) true (none : Option α) := by
  with_unfolding_all
    exact pe_wk pe_non fun σ H Q ⟨H0, F, O, S, q⟩ => q _ H (Same.refl _) rfl
theorem E.some {a : α} (h : E X Γ e b a) : E X Γ e b (some a) := by
  with_unfolding_all
    exact pe_wk h fun σ H Q ⟨H0, F, O, S, q⟩ => ⟨H0, F, O, S, fun v H' s r => q v H' s r⟩
theorem e_ii {op : Operator} {C : Int → Int → Prop} {g : Int → Int → Int} {i j : Int} (ho : OpR X (binaryOp op) (rI C fun i j => .int (g i j))) (ha : E X Γ e1 b1 i) (hb : E X Γ e2 b2 j) (hc : C i j) : E X Γ (.BinOp e1 op e2 pos) true (g i j) := by
  with_unfolding_all
    exact pe_wk (pe_op ho ha hb) fun σ H Q ⟨H0, F, O, S, q⟩ => ⟨H0, F, O, S, fun v H1 s1 r1 => ⟨H0, F, O, S.go s1, fun w H2 s2 r2 => ⟨i, j, r1, r2, hc, q _ H2 (s1.trans s2) rfl⟩⟩⟩
theorem e_add {i j : Int} (ha : E X Γ e1 b1 i) (hb : E X Γ e2 b2 j) : E X Γ (.BinOp e1 .Add e2 pos) true (i + j) := by
  with_unfolding_all
    exact e_ii (C := fun _ _ => True) (fun pins s σ H x y v u Q I rx ry ⟨i, j, h1, h2, _, q⟩ => op_add pins s σ H x y v u Q I rx ry ⟨i, j, h1, h2, q⟩) ha hb True.intro
theorem e_sub {i j : Int} (ha : E X Γ e1 b1 i) (hb : E X Γ e2 b2 j) : E X Γ (.BinOp e1 .Sub e2 pos) true (i - j) := by
  with_unfolding_all
    exact e_ii (C := fun _ _ => True) (fun pins s σ H x y v u Q I rx ry ⟨i, j, h1, h2, _, q⟩ => op_sub pins s σ H x y v u Q I rx ry ⟨i, j, h1, h2, q⟩) ha hb True.intro
theorem e_mul {i j : Int} (ha : E X Γ e1 b1 i) (hb : E X Γ e2 b2 j) (hc : IntMulOk i j) : E X Γ (.BinOp e1 .Mult e2 pos) true (i * j) := by
  with_unfolding_all
    exact e_ii op_mulK ha hb hc
theorem e_fdiv {i j : Int} (ha : E X Γ e1 b1 i) (hb : E X Γ e2 b2 j) (hc : CDivK i j) : E X Γ (.BinOp e1 .FloorDiv e2 pos) true (i.fdiv j) := by
  with_unfolding_all
    exact e_ii op_fdivK ha hb hc
theorem e_mod {i j : Int} (ha : E X Γ e1 b1 i) (hb : E X Γ e2 b2 j) (hc : j ≠ 0) : E X Γ (.BinOp e1 .Mod e2 pos) true (i.fmod j) := by
  with_unfolding_all
    exact e_ii op_modN ha hb hc
theorem e_pow {i j : Int} (ha : E X Γ e1 b1 i) (hb : E X Γ e2 b2 j) (hc : CPow i j) : E X Γ (.BinOp e1 .Pow e2 pos) true (i ^ j.toNat) := by
  with_unfolding_all
    exact e_ii op_pow ha hb hc
theorem e_neg {i : Int} (ha : E X Γ e1 b1 i) : E X Γ (.UnaryOp .USub e1 pos) true (-i) := by
  with_unfolding_all
    exact pe_wk (pe_un un_neg ha) fun σ H Q ⟨H0, F, O, S, q⟩ => ⟨H0, F, O, S, fun v H1 s1 r1 => ⟨i, r1, q _ H1 s1 rfl⟩⟩
def CV (X : Cx) (op : CmpOp) (x : α) (y : β) (c : Bool) : Prop := ∃ r, OpR X (compareOp op) r ∧ ∀ (N N' : Nn) (H : Hp) (u v : V) (Q : VK), Py.rp X.K N H u x → Py.rp X.K N' H v y → Q (.bl c) H → r u v H Q
theorem cv_ii {op : CmpOp} {g : Int → Int → Bool} (ho : OpR X (compareOp op) (rI0 fun i j => .bl (g i j))) (i j : Int) : CV X op i j (g i j) := ⟨_, ho, fun N N' H u v Q h1 h2 q => ⟨i, j, h1, h2, q⟩⟩
theorem cv_lt {i j : Int} : CV X .Lt i j (decide (i < j)) := cv_ii op_lt i j
theorem cv_le {i j : Int} : CV X .LtE i j (decide (i ≤ j)) := cv_ii op_le i j
theorem cv_gt {i j : Int} : CV X .Gt i j (decide (j < i)) := cv_ii op_gt i j
theorem cv_ge {i j : Int} : CV X .GtE i j (decide (j ≤ i)) := cv_ii op_ge i j
theorem cv_eqI {i j : Int} : CV X .Eq i j (decide (i = j)) := ⟨_, op_eq, fun N N' H u v Q h1 h2 q => by
  cases h1; cases h2
  refine ⟨rfl, ?_⟩
  rw [dec_int, Bool.beq_eq_decide_eq]; exact q⟩
theorem cv_neI {i j : Int} : CV X .NotEq i j (!decide (i = j)) := ⟨_, op_ne, fun N N' H u v Q h1 h2 q => by
  cases h1; cases h2
  refine ⟨rfl, ?_⟩
  rw [dec_int, Bool.beq_eq_decide_eq]; exact q⟩
theorem cv_ne {α : Type} [PyD α] [DecidableEq α] {x y : α} (hu : X.A.units + 60 < cLine) (hd : PyD.dep α ≤ 60 := by decide) : CV X .NotEq x y (!decide (x = y)) := ⟨_, op_neD hu, fun N N' H u v Q h1 h2 q => by
  refine ⟨_, _, PyD.dr h1, PyD.dr h2, PyD.lay _, PyD.lay _, Nat.le_trans (PyD.depth _) hd, ?_⟩
  have e : PyData.eqv (PyD.dat x) (PyD.dat y) = decide (x = y) := by
    by_cases h : x = y
    · rw [decide_eq_true h]; exact (PyD.eqv x y).mpr h
    · rw [decide_eq_false h]; exact Bool.eq_false_iff.mpr fun z => h ((PyD.eqv x y).mp z)
  rw [e]; exact q⟩
theorem e_cmp {op : CmpOp} {x : α} {y : β} {c : Bool} (hc : CV X op x y c) (ha : E X Γ e1 b1 x) (hb : E X Γ e2 b2 y) (hm : behindInMarks op e2 = false := by first | exact nomark _ | rfl) : E X Γ (.Compare e1 [op] [e2] pos) true c := by
  with_unfolding_all
    obtain ⟨r, ho, hr⟩ := hc
    exact pe_wk (pe_cmpR ho ha hb hm) fun σ H Q ⟨H0, F, O, S, q⟩ => ⟨H0, F, O, S, fun v H1 s1 r1 => ⟨H0, F, O, S.go s1, fun w H2 s2 r2 =>
      hr _ _ H2 v w _ (rp_mono ((off_mono s2).trans (off_same _ _)) r1) (rp_mono (off_same _ _) r2) (q _ H2 (s1.trans s2) rfl)⟩⟩
theorem t_cmp {op : CmpOp} {x : α} {y : β} {c : Bool} (hc : CV X op x y c) (ha : E X Γ e1 b1 x) (hb : E X Γ e2 b2 y) (hm : behindInMarks op e2 = false := by first | exact nomark _ | rfl) : T X Γ (.Compare e1 [op] [e2] pos) c := by
  with_unfolding_all
    obtain ⟨r, ho, hr⟩ := hc
    exact pt_wk (pt_cmpR ho ha hb hm) fun σ H Q ⟨H0, F, O, S, q⟩ => ⟨H0, F, O, S, fun v H1 s1 r1 => ⟨H0, F, O, S.go s1, fun w H2 s2 r2 =>
      hr _ _ H2 v w _ (rp_mono ((off_mono s2).trans (off_same _ _)) r1) (rp_mono (off_same _ _) r2) ⟨c, rfl, q H2 (s1.trans s2)⟩⟩⟩
theorem t_isN {x : Option α} {j : Nat} {p : Pos} (ha : E X Γ e1 b1 x) (hx : ∀ (K : PySem.W.Frag) (N : Nn) (H : Hp) (a : α), ¬ Py.rp K N H .non a) : T X Γ (.Compare e1 [.Is] [.Constant .none j p] pos) x.isNone := by
  with_unfolding_all
    exact pt_wk (pt_cmp (pc_isN ha)) fun σ H Q ⟨H0, F, O, S, q⟩ => ⟨H0, F, O, S, fun v H1 s1 r1 => by
        refine ⟨decide (v = .non), rfl, ?_⟩
        have e : decide (v = .non) = x.isNone := by
          cases x with
          | none => cases r1; rfl
          | some a =>
            have hv : v ≠ .non := by rintro rfl; exact hx _ _ _ a r1
            rw [decide_eq_false hv]; rfl
        rw [e]; exact q H1 s1⟩
theorem t_val {c : Bool} (h : E X Γ e b c) (he : ∀ whole, isTrue e X.env whole = (do let v ← whole; standAt e.pos; holding [v] (truthy v)) := by intro _; rfl) : T X Γ e c := by
  with_unfolding_all
    exact pt_wk (pt_val h he) fun σ H Q ⟨H0, F, O, S, q⟩ => ⟨H0, F, O, S, fun v H1 s1 r1 => ⟨c, r1, q H1 s1⟩⟩
theorem t_not {c : Bool} (h : T X Γ e c) : T X Γ (.UnaryOp .Not e pos) (!c) := by
  with_unfolding_all
    exact pt_wk (pt_not h) fun σ H Q ⟨H0, F, O, S, q⟩ => ⟨H0, F, O, S, fun H1 s1 => q H1 s1⟩
variable {rest : List Expr}
theorem tw_and1 {c : Bool} (h : T X Γ e c) : TW X Γ (.BoolOp .And [e] pos) c := by
  with_unfolding_all
    exact pw_and1 h
theorem tw_or1 {c : Bool} (h : T X Γ e c) : TW X Γ (.BoolOp .Or [e] pos) c := by
  with_unfolding_all
    exact pw_or1 h
theorem pw_no : PW X e (fun _ _ _ => False) := fun _ _ _ _ _ _ _ h => h.elim
theorem pe_no : PE X e (fun _ _ _ => False) := fun _ _ _ _ _ _ h => h.elim
theorem tw_and {c c' : Bool} (h : T X Γ e1 c) (h' : c = true → TW X Γ (.BoolOp .And (e2 :: rest) pos) c') : TW X Γ (.BoolOp .And (e1 :: e2 :: rest) pos) (c && c') := by
  with_unfolding_all
    cases c with
    | true => exact pw_wk (pw_and h (h' rfl)) fun σ H Q ⟨H0, F, O, S, q⟩ => ⟨H0, F, O, S, fun H1 s1 => iteT ⟨H0, F, O, S.go s1, fun H2 s2 => q H2 (s1.trans s2)⟩⟩
    | false => exact pw_wk (pw_and h pw_no) fun σ H Q ⟨H0, F, O, S, q⟩ => ⟨H0, F, O, S, fun H1 s1 => iteF (q H1 s1)⟩
theorem tw_or {c c' : Bool} (h : T X Γ e1 c) (h' : c = false → TW X Γ (.BoolOp .Or (e2 :: rest) pos) c') : TW X Γ (.BoolOp .Or (e1 :: e2 :: rest) pos) (c || c') := by
  with_unfolding_all
    cases c with
    | false => exact pw_wk (pw_or h (h' rfl)) fun σ H Q ⟨H0, F, O, S, q⟩ => ⟨H0, F, O, S, fun H1 s1 => iteF ⟨H0, F, O, S.go s1, fun H2 s2 => q H2 (s1.trans s2)⟩⟩
    | true => exact pw_wk (pw_or h pw_no) fun σ H Q ⟨H0, F, O, S, q⟩ => ⟨H0, F, O, S, fun H1 s1 => iteT (q H1 s1)⟩
theorem TW.t {c : Bool} (h : TW X Γ e c) : T X Γ e c := by
  with_unfolding_all
    exact h.pt
theorem e_one {op : BoolOp} {a : α} (h : E X Γ e b a) : E X Γ (.BoolOp op [e] pos) b a := by
  with_unfolding_all
    exact pe_one h
theorem e_and {c c' : Bool} (h : E X Γ e1 b1 c) (h' : c = true → E X Γ (.BoolOp .And (e2 :: rest) pos) b2 c') : E X Γ (.BoolOp .And (e1 :: e2 :: rest) pos) true (c && c') := by
  with_unfolding_all
    cases c with
    | true => exact pe_wk (pe_and h (h' rfl)) fun σ H Q ⟨H0, F, O, S, q⟩ => ⟨H0, F, O, S, fun v H1 s1 r1 => ⟨true, r1, iteT ⟨H0, F, O, S.go s1, fun w H2 s2 r2 => q w H2 (s1.trans s2) r2⟩⟩⟩
    | false => exact pe_wk (pe_and h pe_no) fun σ H Q ⟨H0, F, O, S, q⟩ => ⟨H0, F, O, S, fun v H1 s1 r1 => ⟨false, r1, iteF (q _ H1 s1 rfl)⟩⟩
theorem e_not {c : Bool} (h : E X Γ e b c) : E X Γ (.UnaryOp .Not e pos) true (!c) := by
  with_unfolding_all
    exact pe_wk (pe_not h) fun σ H Q ⟨H0, F, O, S, q⟩ => ⟨H0, F, O, S, fun v H1 s1 r1 => ⟨c, r1, q _ H1 s1 rfl⟩⟩
theorem e_if {c : Bool} {x y : α} (hc : T X Γ e c) (ha : c = true → E X Γ e1 b x) (hb : c = false → E X Γ e2 b y) : E X Γ (.IfExp e e1 e2 pos) b (if c then x else y) := by
  with_unfolding_all
    cases c with
    | true => exact pe_wk (pe_ifExp hc (ha rfl) pe_no) fun σ H Q ⟨H0, F, O, S, q⟩ => ⟨H0, F, O, S, fun H1 s1 => iteT ⟨H0, F, O, S.go s1, fun w H2 s2 r2 => q w H2 (s1.trans s2) r2⟩⟩
    | false => exact pe_wk (pe_ifExp hc pe_no (hb rfl)) fun σ H Q ⟨H0, F, O, S, q⟩ => ⟨H0, F, O, S, fun H1 s1 => iteF ⟨H0, F, O, S.go s1, fun w H2 s2 r2 => q w H2 (s1.trans s2) r2⟩⟩
theorem nf_and1 {H0 H : Hp} {p : Addr} {xs : Mt} (h : (Nf H0 b1).has H p xs) : (Nf H0 (b1 && b2)).has H p xs := Nf.le (fun z => (Bool.and_eq_true_iff.mp z).1) h
theorem nf_and2 {H0 H : Hp} {p : Addr} {xs : Mt} (h : (Nf H0 b2).has H p xs) : (Nf H0 (b1 && b2)).has H p xs := Nf.le (fun z => (Bool.and_eq_true_iff.mp z).2) h
theorem laid_tup {K : PySem.W.Frag} {H0 H : Hp} {F O : Addr → Prop} {Γ : GEnv} {σ : St} {p : Addr} {xs : List V} (S : Sta K H0 F O Γ σ H) (hp : H p = none) : Same H (upd H p (.tup xs)) ∧ Rt (off (upd H p (.tup xs)) O) p xs := by
  with_unfolding_all
    exact ⟨same_upd hp _, .inl (by rw [off_get (S.notOwn hp)]; exact upd_same)⟩
theorem laid_lst {K : PySem.W.Frag} {H0 H : Hp} {F O : Addr → Prop} {Γ : GEnv} {σ : St} {p : Addr} {xs : List V} (S : Sta K H0 F O Γ σ H) (hp : H p = none) : Same H (upd H p (.lst xs)) ∧ off (upd H p (.lst xs)) O p = some (.lst xs) := by
  with_unfolding_all
    exact ⟨same_upd hp _, by rw [off_get (S.notOwn hp)]; exact upd_same⟩
theorem e_tup2 {x : α} {y : β} {k : Nat} (ha : E X Γ e1 b1 x) (hb : E X Γ e2 b2 y) (hs : starEach [e1, e2] X.env = (false, eval e1 X.env) :: starEach [e2] X.env := by rfl) (hs2 : starEach [e2] X.env = (false, eval e2 X.env) :: starEach [] X.env := by rfl) :
    E X Γ (.Tuple [e1, e2] k pos) (b1 && b2) (x, y) := by
  with_unfolding_all
    exact pe_wk (pe_tup (pa_cons ha (pa_cons hb pa_nil hs2) hs)) fun σ H Q ⟨H0, F, O, S, q⟩ => ⟨H0, F, O, S, fun v H1 s1 r1 => ⟨H0, F, O, S.go s1, fun w H2 s2 r2 => ⟨by show 2 ≤ sizeLine; decide, fun p hp => by
        obtain ⟨z1, z2⟩ := laid_tup (xs := [v, w]) ((S.go s1).go s2) hp
        refine q _ _ (s1.trans (s2.trans z1)) ⟨p, v, w, rfl, z2, ?_, ?_⟩
        · exact rp_wid (fun _ _ n => nf_and1 n) (rp_mono ((off_mono s2).trans (off_mono z1)) r1)
        · exact rp_wid (fun _ _ n => nf_and2 n) (rp_mono (off_mono z1) r2)⟩⟩⟩
@[irreducible] def EA (X : Cx) (Γ : GEnv) (es : List Expr) (b : Bool) (as : List α) : Prop :=
  PA X es fun σ H Q => ∃ H0 F O, Sta X.K H0 F O Γ σ H ∧ ∀ vs H', Same H H' → Paired (fun x a => Py.rp X.K (Nf H0 b) (off H' O) x a) vs as → Q vs H'
theorem pa_wk {X : Cx} {es : List Expr} {t t' : TA} (h : PA X es t) (w : ∀ σ H Q, t' σ H Q → t σ H Q) : PA X es t' := fun p pins s σ H Q I q => h p pins s σ H Q I (w _ _ _ q)
theorem ea_nil : EA X Γ [] b ([] : List α) := by
  with_unfolding_all
    exact pa_wk pa_nil fun σ H Q ⟨H0, F, O, S, q⟩ => q [] H (Same.refl _) .nil
theorem ea_cons {es : List Expr} {a : α} {as : List α} (h : E X Γ e b a) (h' : EA X Γ es b as) (hs : starEach (e :: es) X.env = (false, eval e X.env) :: starEach es X.env := by rfl) : EA X Γ (e :: es) b (a :: as) := by
  with_unfolding_all
    exact pa_wk (pa_cons h h' hs) fun σ H Q ⟨H0, F, O, S, q⟩ => ⟨H0, F, O, S, fun v H1 s1 r1 => ⟨H0, F, O, S.go s1, fun vs H2 s2 r2 => q _ H2 (s1.trans s2) (.cons (rp_mono (off_mono s2) r1) r2)⟩⟩
theorem e_lst {es : List Expr} {as : List α} (h : EA X Γ es b as) (hl : as.length ≤ 1000) : E X Γ (.List es pos) b as := by
  with_unfolding_all
    exact pe_wk (pe_lst h) fun σ H Q ⟨H0, F, O, S, q⟩ => ⟨H0, F, O, S, fun vs H1 s1 r1 => ⟨by rw [pr_len r1]; exact Nat.le_of_lt (small1000 hl), fun p hp => by
        obtain ⟨z1, z2⟩ := laid_lst (xs := vs) (S.go s1) hp
        exact q _ _ (s1.trans z1) ⟨p, vs, rfl, SqL.of z2, Nf.wk ((S.go s1).free0 hp) z2, pr_imp (fun _ _ r => rp_mono (off_mono z1) r) r1⟩⟩⟩
theorem e_ixL {xs : List α} {i : Int} {a : α} (ha : E X Γ e1 b xs) (hb : E X Γ e2 b2 i) (h : atI xs i = some a) (hs : PlainIx e2 := by intro _ _; rfl) : E X Γ (.Subscript e1 e2 pos) b a := by
  with_unfolding_all
    exact pe_wk (pe_ix ix_list ha hb hs) fun σ H Q ⟨H0, F, O, S, q⟩ => ⟨H0, F, O, S, fun v H1 s1 r1 => ⟨H0, F, O, S.go s1, fun w H2 s2 r2 => by
        obtain ⟨p, vs, e, sq, n, r⟩ := r1
        obtain ⟨j, h1, h2, h3, h4, h5⟩ := atI_get h
        obtain ⟨x, g1, g2⟩ := pr_get r h2
        refine ⟨p, vs, i, x, e, r2, (off_same _ _).seq ((off_mono s2).seq sq), ?_, q x H2 (s1.trans s2) (rp_mono (off_mono s2) g2)⟩
        unfold atI at h ⊢
        rw [pr_len r]
        cases hx : ixN xs.length i with
        | none => rw [hx] at h; cases h
        | some k =>
          have hk := (ixN_seq hx).1
          rw [h1] at hk; cases hk
          exact g1⟩⟩
theorem e_fst {u : α × β} {j : Nat} {p' : Pos} (ha : E X Γ e1 b u) : E X Γ (.Subscript e1 (.Constant (.int 0) j p') pos) b u.1 := by
  with_unfolding_all
    exact pe_wk (pe_ix ix_tup ha e_int (fun _ _ => rfl)) fun σ H Q ⟨H0, F, O, S, q⟩ => ⟨H0, F, O, S, fun v H1 s1 r1 => ⟨H0, F, O, S.go s1, fun w H2 s2 r2 => by
        obtain ⟨p, u, w', e, sq, g1, g2⟩ := r1
        exact ⟨p, _, 0, u, e, r2, sqT_rd (off_same _ _) (Same.rt (off_mono s2) sq), rfl, q u H2 (s1.trans s2) (rp_mono (off_mono s2) g1)⟩⟩⟩
theorem e_snd {u : α × β} {j : Nat} {p' : Pos} (ha : E X Γ e1 b u) : E X Γ (.Subscript e1 (.Constant (.int 1) j p') pos) b u.2 := by
  with_unfolding_all
    exact pe_wk (pe_ix ix_tup ha e_int (fun _ _ => rfl)) fun σ H Q ⟨H0, F, O, S, q⟩ => ⟨H0, F, O, S, fun v H1 s1 r1 => ⟨H0, F, O, S.go s1, fun w H2 s2 r2 => by
        obtain ⟨p, u, w', e, sq, g1, g2⟩ := r1
        exact ⟨p, _, 1, w', e, r2, sqT_rd (off_same _ _) (Same.rt (off_mono s2) sq), rfl, q w' H2 (s1.trans s2) (rp_mono (off_mono s2) g2)⟩⟩⟩
theorem e_abs {i : Int} {p : Pos} (hg : Gl X "abs") (hm : X.mg "abs" = none) (ha : E X Γ e b i) (hs : starEach [e] X.env = (false, eval e X.env) :: starEach [] X.env := by rfl) : E X Γ (.Call (.Name "abs" p) [e] [] pos) true (if i < 0 then -i else i) := by
  with_unfolding_all
    exact pe_wk (pe_callB call_abs hg hm boot_abs (pa_cons ha pa_nil hs) (he := hs)) fun σ H Q ⟨H0, F, O, S, q⟩ => ⟨H0, F, O, S, fun v H1 s1 r1 => ⟨i, by cases r1; rfl, q _ H1 s1 rfl⟩⟩
theorem e_min {i j : Int} {p : Pos} (hc : X.calm = true) (hg : Gl X "min") (hm : X.mg "min" = none) (ha : E X Γ e1 b1 i) (hb : E X Γ e2 b2 j) (hs : starEach [e1, e2] X.env = (false, eval e1 X.env) :: starEach [e2] X.env := by rfl) (hs2 : starEach [e2] X.env = (false, eval e2 X.env) :: starEach [] X.env := by rfl) (hpl : (backTo pos (starEach [e2] X.env)).any (·.1) = false := by rfl) :
    E X Γ (.Call (.Name "min" p) [e1, e2] [] pos) true (if j < i then j else i) := by
  with_unfolding_all
    exact pe_wk (pe_callB (call_min2 hc) hg hm boot_min (pa_cons ha (pa_cons hb pa_nil hs2) hs) (he := hs) (hpl := hpl)) fun σ H Q ⟨H0, F, O, S, q⟩ => ⟨H0, F, O, S, fun v H1 s1 r1 => ⟨H0, F, O, S.go s1, fun w H2 s2 r2 => ⟨i, j, by cases r1; cases r2; rfl, q _ H2 (s1.trans s2) rfl⟩⟩⟩
theorem e_lenL {xs : List α} {p : Pos} (hg : Gl X "len") (hm : X.mg "len" = none) (ha : E X Γ e b xs) (hs : starEach [e] X.env = (false, eval e X.env) :: starEach [] X.env := by rfl) : E X Γ (.Call (.Name "len" p) [e] [] pos) true (xs.length : Int) := by
  with_unfolding_all
    exact pe_wk (pe_callB call_len_seq hg hm PySem.boot_len (pa_cons ha pa_nil hs) (he := hs)) fun σ H Q ⟨H0, F, O, S, q⟩ => ⟨H0, F, O, S, fun v H1 s1 r1 => by
        obtain ⟨p, vs, e, sq, n, r⟩ := r1
        refine ⟨p, vs, by rw [e], .inl ((off_same _ _).seq sq), q _ H1 s1 ?_⟩
        show V.int _ = V.int _
        rw [pr_len r]⟩
end
structure GD where
  nx : GEnv → Prop
  rt : Bd → Prop
  bk : GEnv → Prop := fun _ => False
  ct : GEnv → Prop := fun _ => False
def Bd.okR (K : PySem.W.Frag) (H0 : Hp) (F : Addr → Prop) (H : Hp) (v : V) : Bd → Prop
  | @Bd.val _ _ b a => Py.rp K (Nf H0 b) (off H F) v a
  | @Bd.own _ _ _ _ => False
  | @Bd.dpo _ _ _ => False
def tG (K : PySem.W.Frag) (Γ : GEnv) (D : GD) : TS := fun De σ H => ∃ H0 F O, Sta K H0 F O Γ σ H ∧
  (∀ Γ' σ' H' O', Same (off H O) (off H' O') → Sta K H0 F O' Γ' σ' H' → D.nx Γ' → De.nx σ' H') ∧
  (∀ g v H', Same H0 H' → Bd.okR K H0 F H' v g → D.rt g → De.rt v H') ∧
  (∀ Γ' σ' H' O', Same (off H O) (off H' O') → Sta K H0 F O' Γ' σ' H' → D.bk Γ' → De.bk σ' H') ∧
  (∀ Γ' σ' H' O', Same (off H O) (off H' O') → Sta K H0 F O' Γ' σ' H' → D.ct Γ' → De.ct σ' H')
@[irreducible] def S (X : Cx) (Γ : GEnv) (st : List Stmt) (D : GD) : Prop := PSs X st (tG X.K Γ D)
@[irreducible] def S1 (X : Cx) (Γ : GEnv) (st : Stmt) (D : GD) : Prop := PS X st (tG X.K Γ D)
theorem ps_wk {X : Cx} {st : Stmt} {t t' : TS} (h : PS X st t) (w : ∀ D σ H, t' D σ H → t D σ H) : PS X st t' := fun pins s σ H D I q => h pins s σ H D I (w _ _ _ q)
theorem pss_wk {X : Cx} {st : List Stmt} {t t' : TS} (h : PSs X st t) (w : ∀ D σ H, t' D σ H → t D σ H) : PSs X st t' := fun pins s σ H D I q => h pins s σ H D I (w _ _ _ q)
section
variable {X : Cx} {Γ : GEnv} {D : GD} {α β γ : Type} [Py α] [Py β] [Py γ] {e e1 e2 e3 : Expr} {b b1 b2 b3 : Bool} {pos : Pos} {st : Stmt} {rest body orelse : List Stmt}
theorem s_nil (h : D.nx Γ) : S X Γ [] D := by
  with_unfolding_all
    exact pss_wk pss_nil fun De σ H ⟨H0, F, O, Z, n, _⟩ => n Γ σ H O (Same.refl _) Z h
theorem pss_some {X : Cx} {st : List Stmt} {ι : Type 1} {P : ι → Prop} {t : ι → TS} (h : ∀ i, P i → PSs X st (t i)) : PSs X st (fun D σ H => ∃ i, P i ∧ t i D σ H) := fun pins s σ H D I ⟨i, p, q⟩ => h i p pins s σ H D I q
theorem s_seq (h : S1 X Γ st { D with nx := fun Γ' => S X Γ' rest D }) : S X Γ (st :: rest) D := by
  with_unfolding_all
    exact pss_wk (pss_cons h (pss_some (ι := GEnv) (P := fun Γ' => S X Γ' rest D) (t := fun Γ' => tG X.K Γ' D) fun _ q => q)) fun De σ H ⟨H0, F, O, Z, n, r, bk, ct⟩ =>
        ⟨H0, F, O, Z, fun Γ' σ' H' O' sm Z' q => ⟨Γ', q, H0, F, O', Z', fun Γ2 σ2 H2 O2 sm2 Z2 q2 => n Γ2 σ2 H2 O2 (sm.trans sm2) Z2 q2, r, fun Γ2 σ2 H2 O2 sm2 Z2 q2 => bk Γ2 σ2 H2 O2 (sm.trans sm2) Z2 q2,
          fun Γ2 σ2 H2 O2 sm2 Z2 q2 => ct Γ2 σ2 H2 O2 (sm.trans sm2) Z2 q2⟩, r, bk, ct⟩
theorem s_asg (i : Nat) {x : Str} {a : α} {p : Pos} (hN : X.N.Nodup) (he : E X Γ e b a) (h : S X (Γ.set i (some (.val b a))) rest D) (hi : X.N[i]? = some x := by rfl) (hx : Loc X.env.scope x := by first | exact Or.inl rfl | exact Or.inr rfl)
    (hs : swapsWith e (some (.Name x p)) pos.line X.env = pure false := by rfl) (hf : X.fn x = true ∨ X.env.scope.names.lookup x = some .local := by first | exact .inl rfl | exact .inr rfl) : S X Γ (.Assign [.Name x p] e pos :: rest) D := by
  with_unfolding_all
    exact s_seq (ps_wk (ps_set hN hi hx he hs hf) fun De σ H ⟨H0, F, O, Z, n, _⟩ => ⟨H0, F, O, Z, fun v H1 s1 r1 => n _ _ H1 O (off_mono s1) ((Z.go s1).set r1) h⟩)
theorem s_expr {a : α} (he : E X Γ e b a) (h : S X Γ rest D) (hs : swapsWith e none pos.line X.env = pure false := by rfl) : S X Γ (.Expr e pos :: rest) D := by
  with_unfolding_all
    exact s_seq (ps_wk (ps_expr he hs) fun De σ H ⟨H0, F, O, Z, n, _⟩ => ⟨H0, F, O, Z, fun v H1 s1 r1 => n Γ σ H1 O (off_mono s1) (Z.go s1) h⟩)
theorem s_ret {a : α} (he : E X Γ e b a) (h : D.rt (.val b a)) : S X Γ (.Return (some e) pos :: rest) D := by
  with_unfolding_all
    exact s_seq (ps_wk (ps_ret he) fun De σ H ⟨H0, F, O, Z, n, r, _⟩ => ⟨H0, F, O, Z, fun v H1 s1 r1 => r (.val b a) v H1 ((Z.go s1).same) (rp_mono (off_less Z.fo) r1) h⟩)
theorem s_if {c : Bool} (hc : T X Γ e c) (h1 : c = true → S X Γ body { D with nx := fun Γ' => S X Γ' rest D }) (h2 : c = false → S X Γ orelse { D with nx := fun Γ' => S X Γ' rest D }) : S X Γ (.If e body orelse pos :: rest) D := by
  with_unfolding_all
    cases c with
    | true => exact s_seq (ps_wk (ps_if hc (h1 rfl) pss_never) fun De σ H ⟨H0, F, O, Z, n, r, bk, ct⟩ => ⟨H0, F, O, Z, fun H1 s1 => iteT ⟨H0, F, O, Z.go s1, fun Γ2 σ2 H2 O2 sm => n Γ2 σ2 H2 O2 ((off_mono s1).trans sm), r, fun Γ2 σ2 H2 O2 sm => bk Γ2 σ2 H2 O2 ((off_mono s1).trans sm), fun Γ2 σ2 H2 O2 sm => ct Γ2 σ2 H2 O2 ((off_mono s1).trans sm)⟩⟩)
    | false => exact s_seq (ps_wk (ps_if hc pss_never (h2 rfl)) fun De σ H ⟨H0, F, O, Z, n, r, bk, ct⟩ => ⟨H0, F, O, Z, fun H1 s1 => iteF ⟨H0, F, O, Z.go s1, fun Γ2 σ2 H2 O2 sm => n Γ2 σ2 H2 O2 ((off_mono s1).trans sm), r, fun Γ2 σ2 H2 O2 sm => bk Γ2 σ2 H2 O2 ((off_mono s1).trans sm), fun Γ2 σ2 H2 O2 sm => ct Γ2 σ2 H2 O2 ((off_mono s1).trans sm)⟩⟩)
theorem s_if1 {c : Bool} (hc : T X Γ e c) (h1 : c = true → S X Γ body { D with nx := fun Γ' => S X Γ' rest D }) (h2 : c = false → S X Γ rest D) : S X Γ (.If e body [] pos :: rest) D := by
  with_unfolding_all
    exact s_if hc h1 fun z => s_nil (h2 z)

def bodyT (X : Cx) (body : List Stmt) : TS := fun De σ H => ∃ Γ', ∃ D', S X Γ' body D' ∧ tG X.K Γ' D' De σ H
theorem bodyT_ok : PSs X body (bodyT X body) := by
  with_unfolding_all
    exact fun pins s σ H De I ⟨Γ', D', t, q⟩ => (show PSs X body (tG X.K Γ' D') from t) pins s σ H De I q
theorem s_while {ι : Type} (J : ι → GEnv → Prop) (μ : ι → Nat) (i0 : ι) (h0 : J i0 Γ) (ht : ∀ i Γ', J i Γ' → ∃ c, T X Γ' e c ∧ (c = true → S X Γ' body { D with nx := fun Γ2 => ∃ j, J j Γ2 ∧ μ j < μ i, ct := fun Γ2 => ∃ j, J j Γ2 ∧ μ j < μ i, bk := fun Γ2 => S X Γ2 rest D }) ∧ (c = false → S X Γ' rest D))
    (hp : PassesOwn (model X.prog X.w) X.A X.env X.xe := by exact PassesOwn.never) : S X Γ (.While e body [] pos :: rest) D := by
  with_unfolding_all
    refine s_seq (ps_wk (ps_while (tc := fun σ H Q => ∃ Γ', ∃ c, T X Γ' e c ∧ tVT X.K Γ' c σ H Q) (tb := bodyT X body) hp
      (fun pins s σ H Q I ⟨Γ', c, t, q⟩ => (show PT X e (tVT X.K Γ' c) from t) pins s σ H Q I q) bodyT_ok) fun De σ H ⟨H0, F, O, Z, n, r, bk, ct⟩ => ?_)
    refine ⟨fun m σ' H' => ∃ i Γ' O', Same (off H O) (off H' O') ∧ Sta X.K H0 F O' Γ' σ' H' ∧ J i Γ' ∧ m = μ i, ⟨_, i0, Γ, O, Same.refl _, Z, h0, rfl⟩, ?_⟩
    rintro m σ' H' ⟨i, Γ', O', sm, Z', j, rfl⟩
    obtain ⟨c, t, ht1, ht2⟩ := ht i Γ' j
    refine ⟨Γ', c, t, H0, F, O', Z', fun H1 s1 => ?_⟩
    cases c with
    | true =>
      refine iteT ⟨fun σ2 H2 => ∃ i2 Γ2 O2, Same (off H O) (off H2 O2) ∧ Sta X.K H0 F O2 Γ2 σ2 H2 ∧ J i2 Γ2 ∧ μ i2 < μ i, fun σ2 H2 ⟨i2, Γ2, O2, sm2, Z2, j2, l⟩ => ⟨μ i2, l, i2, Γ2, O2, sm2, Z2, j2, rfl⟩, Γ', _, ht1 rfl, H0, F, O', Z'.go s1, ?_, r, ?_, ?_⟩
      · exact fun Γ2 σ2 H2 O2 sm2 Z2 ⟨i2, q1, q2⟩ => ⟨i2, Γ2, O2, sm.trans ((off_mono s1).trans sm2), Z2, q1, q2⟩
      · exact fun Γ2 σ2 H2 O2 sm2 Z2 q => n Γ2 σ2 H2 O2 (sm.trans ((off_mono s1).trans sm2)) Z2 q
      · exact fun Γ2 σ2 H2 O2 sm2 Z2 ⟨i2, q1, q2⟩ => ⟨i2, Γ2, O2, sm.trans ((off_mono s1).trans sm2), Z2, q1, q2⟩
    | false => exact iteF (n Γ' σ' H1 O' (sm.trans (off_mono s1)) (Z'.go s1) (ht2 rfl))
def GP (g : TG) (α : Type) [Py α] (put : Bool → α → GEnv → GEnv) (tc : Nat → Prop) (K : PySem.W.Frag) : Prop :=
  ∀ (b : Bool) (a : α) (H0 : Hp) (F O : Addr → Prop) (Γ : GEnv) (σ : St) (H : Hp) (v : V) (Q : St → Hp → Prop), Sta K H0 F O Γ σ H → Py.rp K (Nf H0 b) (off H O) v a →
    (∀ σ', Sta K H0 F O (put b a Γ) σ' H → σ'.length = σ.length → (∀ j, ¬ tc j → σ'[j]? = σ[j]?) → Q σ' H) → g v σ H Q
def G (X : Cx) (tg : Expr) (g : TG) (α : Type) [Py α] (put : Bool → α → GEnv → GEnv) (tc : Nat → Prop) : Prop := PG X tg g ∧ GP g α put tc X.K
theorem gp_name (i : Nat) {K : PySem.W.Frag} : GP (gName i) α (fun b a Γ => Γ.set i (some (.val b a))) (· = i) K := fun b a H0 F O Γ σ H v Q Z r q => q _ (Z.set r) (List.length_set ..) fun j hj => get_set_ne hj
theorem g_name (i : Nat) {x : Str} (hN : X.N.Nodup) (hi : X.N[i]? = some x := by rfl) (hx : Loc X.env.scope x := by first | exact Or.inl rfl | exact Or.inr rfl) (hf : X.fn x = true ∨ X.env.scope.names.lookup x = some .local := by first | exact .inl rfl | exact .inr rfl) :
    G X (.Name x pos) (gName i) α (fun b a Γ => Γ.set i (some (.val b a))) (· = i) := ⟨pg_name hN hi hx hf, gp_name i⟩
end
section
variable {X : Cx} {Γ : GEnv} {D : GD} {α β γ δ : Type} [Py α] [Py β] [Py γ] [Py δ] {e e1 e2 e3 : Expr} {b b1 b2 b3 : Bool} {pos : Pos} {st : Stmt} {rest body orelse : List Stmt} {tg : Expr} {g : TG} {tc : Nat → Prop}
theorem s_forRange {put : Bool → Int → GEnv → GEnv} {n : Int} {p ps : Pos} (J : Nat → GEnv → Prop) (hg : Gl X "range") (hm : X.mg "range" = none) (hG : G X tg g Int put tc) (he : E X Γ e b n) (h1 : -(2 ^ 62) ≤ n) (h2 : n < 2 ^ 62) (h0 : J 0 Γ)
    (ht : ∀ (i : Nat) Γ', i < n.toNat → J i Γ' → S X (put true (i : Int) Γ') body { D with nx := J (i + 1), ct := J (i + 1), bk := fun Γ2 => S X Γ2 rest D }) (hd : ∀ Γ', J n.toNat Γ' → S X Γ' rest D)
    (hc : X.calm = true := by rfl) (hp : PassesOwn (model X.prog X.w) X.A X.env X.xe := by exact PassesOwn.never) (hs : starEach [e] X.env = [(false, eval e X.env)] := by rfl) (hs1 : starEach [e] X.env = (false, eval e X.env) :: starEach [] X.env := by rfl)
    (hfs : ∀ x, foldedSetIterable (.Call (.Name "range" p) [e] [] ps) X.env x = pure x := by intro _; rfl) : S X Γ (.For tg (.Call (.Name "range" p) [e] [] ps) body [] pos :: rest) D := by
  with_unfolding_all
    refine s_seq (ps_wk (ps_for hp hc (pi_range1 hg hm (pa_cons he pa_nil hs1) hs) hG.1 (tb := bodyT X body) bodyT_ok hfs) fun De σ H ⟨H0, F, O, Z, nx, r, bk, ct⟩ => ?_)
    refine ⟨H0, F, O, Z, fun v H1 s1 r1 => ⟨n, by cases r1; rfl, h1, h2, for_range (lo := 0) (n := n.toNat) (g := g) (tb := bodyT X body) (D := De) (fun i σ' H' => ∃ Γ' O', Same (off H O) (off H' O') ∧ Sta X.K H0 F O' Γ' σ' H' ∧ J i Γ') ⟨Γ, O, off_mono s1, Z.go s1, h0⟩ ?_ ?_⟩⟩
    · rintro i σ' H' hi ⟨Γ', O', sm, Z', j⟩
      refine hG.2 true (i : Int) H0 F O' Γ' σ' H' _ _ Z' (by show V.int _ = V.int _; rw [Int.zero_add]) fun σ2 Z2 _ _ => ?_
      refine ⟨_, _, ht i Γ' hi j, H0, F, O', Z2, ?_, r, ?_, ?_⟩
      · exact fun Γ2 σ2 H2 O2 sm2 Z2 q => ⟨Γ2, O2, sm.trans sm2, Z2, q⟩
      · exact fun Γ2 σ2 H2 O2 sm2 Z2 q => nx Γ2 σ2 H2 O2 (sm.trans sm2) Z2 q
      · exact fun Γ2 σ2 H2 O2 sm2 Z2 q => ⟨Γ2, O2, sm.trans sm2, Z2, q⟩
    · rintro σ' H' ⟨Γ', O', sm, Z', j⟩
      exact nx Γ' σ' H' O' sm Z' (hd Γ' j)
theorem s_forRange3 {put : Bool → Int → GEnv → GEnv} {lo n c : Int} {p ps : Pos} (J : Nat → GEnv → Prop) (hg : Gl X "range") (hm : X.mg "range" = none) (hG : G X tg g Int put tc) (he1 : E X Γ e1 b1 lo) (he2 : E X Γ e2 b2 n) (he3 : E X Γ e3 b3 c) (hb : -(2 ^ 62) ≤ lo ∧ lo < 2 ^ 62 ∧ -(2 ^ 62) ≤ n ∧ n < 2 ^ 62) (hcc : c ≠ 0 ∧ -1000 ≤ c ∧ c ≤ 1000) (h0 : J 0 Γ)
    (ht : ∀ (i : Nat) Γ', i < (Builtin.Range.rangeSize lo n c).toNat → J i Γ' → S X (put true (lo + i * c : Int) Γ') body { D with nx := J (i + 1), ct := J (i + 1), bk := fun Γ2 => S X Γ2 rest D }) (hd : ∀ Γ', J (Builtin.Range.rangeSize lo n c).toNat Γ' → S X Γ' rest D)
    (hc : X.calm = true := by rfl) (hp : PassesOwn (model X.prog X.w) X.A X.env X.xe := by exact PassesOwn.never)
    (hs1 : starEach [e1, e2, e3] X.env = (false, eval e1 X.env) :: starEach [e2, e3] X.env := by rfl) (hs2 : starEach [e2, e3] X.env = (false, eval e2 X.env) :: starEach [e3] X.env := by rfl) (hs3 : starEach [e3] X.env = (false, eval e3 X.env) :: starEach [] X.env := by rfl)
    (hpl : (backTo ps (starEach [e2, e3] X.env)).any (·.1) = false := by rfl) (hfs : ∀ x, foldedSetIterable (.Call (.Name "range" p) [e1, e2, e3] [] ps) X.env x = pure x := by intro _; rfl) : S X Γ (.For tg (.Call (.Name "range" p) [e1, e2, e3] [] ps) body [] pos :: rest) D := by
  with_unfolding_all
    refine s_seq (ps_wk (ps_for hp hc (pi_range3 hg hm (pa_cons he1 (pa_cons he2 (pa_cons he3 pa_nil hs3) hs2) hs1) hs1 hpl) hG.1 (tb := bodyT X body) bodyT_ok hfs) fun De σ H ⟨H0, F, O, Z, nx, r, bk, ct⟩ => ?_)
    refine ⟨H0, F, O, Z, fun v H1 s1 r1 => ⟨H0, F, O, Z.go s1, fun v' H2 s2 r2 => ⟨H0, F, O, Z.go (s1.trans s2), fun v'' H3 s3 r3 => ⟨lo, n, c, by cases r1; cases r2; cases r3; rfl, hb, hcc, for_rangeC (lo := lo) (c := c) (n := (Builtin.Range.rangeSize lo n c).toNat) (g := g) (tb := bodyT X body) (D := De) (fun i σ' H' => ∃ Γ' O', Same (off H O) (off H' O') ∧ Sta X.K H0 F O' Γ' σ' H' ∧ J i Γ') ⟨Γ, O, off_mono (s1.trans (s2.trans s3)), Z.go (s1.trans (s2.trans s3)), h0⟩ ?_ ?_⟩⟩⟩⟩
    · rintro i σ' H' hi ⟨Γ', O', sm, Z', j⟩
      refine hG.2 true (lo + i * c : Int) H0 F O' Γ' σ' H' _ _ Z' rfl fun σ2 Z2 _ _ => ?_
      refine ⟨_, _, ht i Γ' hi j, H0, F, O', Z2, ?_, r, ?_, ?_⟩
      · exact fun Γ2 σ2 H2 O2 sm2 Z2 q => ⟨Γ2, O2, sm.trans sm2, Z2, q⟩
      · exact fun Γ2 σ2 H2 O2 sm2 Z2 q => nx Γ2 σ2 H2 O2 (sm.trans sm2) Z2 q
      · exact fun Γ2 σ2 H2 O2 sm2 Z2 q => ⟨Γ2, O2, sm.trans sm2, Z2, q⟩
    · rintro σ' H' ⟨Γ', O', sm, Z', j⟩
      exact nx Γ' σ' H' O' sm Z' (hd Γ' j)
theorem s_forL {put : Bool → α → GEnv → GEnv} {xs : List α} (J : Nat → GEnv → Prop) (hG : G X tg g α put tc) (he : E X Γ e b xs) (h0 : J 0 Γ)
    (ht : ∀ (i : Nat) (a : α) Γ', xs[i]? = some a → J i Γ' → S X (put b a Γ') body { D with nx := J (i + 1), ct := J (i + 1), bk := fun Γ2 => S X Γ2 rest D }) (hd : ∀ Γ', J xs.length Γ' → S X Γ' rest D)
    (hc : X.calm = true := by rfl) (hp : PassesOwn (model X.prog X.w) X.A X.env X.xe := by exact PassesOwn.never)
    (hfs : ∀ x, foldedSetIterable e X.env x = pure x := by intro _; rfl) : S X Γ (.For tg e body [] pos :: rest) D := by
  with_unfolding_all
    refine s_seq (ps_wk (ps_for hp hc (pi_list he) hG.1 (tb := bodyT X body) bodyT_ok hfs) fun De σ H ⟨H0, F, O, Z, nx, r, bk, ct⟩ => ?_)
    refine ⟨H0, F, O, Z, fun v H1 s1 r1 => ?_⟩
    obtain ⟨p, vs, e, sq, nn, rr⟩ := r1
    refine ⟨p, e, ⟨vs, (off_same _ _).seq sq⟩, for_list (K := X.K) (a := p) (xs := vs) (g := g) (tb := bodyT X body) (D := De) (fun i σ' H' => ∃ Γ' O', Same (off H1 O) (off H' O') ∧ Sta X.K H0 F O' Γ' σ' H' ∧ J i Γ') ⟨Γ, O, Same.refl _, Z.go s1, h0⟩ ?_ ?_ ?_⟩
    · rintro i σ' H' hi ⟨Γ', O', sm, Z', j⟩
      exact (off_same _ _).seq (sm.seq sq)
    · rintro i x σ' H' hi ⟨Γ', O', sm, Z', j⟩
      obtain ⟨a, h1, h2⟩ := pr_get' rr hi
      refine hG.2 b a H0 F O' Γ' σ' H' _ _ Z' (rp_mono sm h2) fun σ2 Z2 _ _ => ?_
      refine ⟨_, _, ht i a Γ' h1 j, H0, F, O', Z2, ?_, r, ?_, ?_⟩
      · exact fun Γ2 σ2 H2 O2 sm2 Z2 q => ⟨Γ2, O2, sm.trans sm2, Z2, q⟩
      · exact fun Γ2 σ2 H2 O2 sm2 Z2 q => nx Γ2 σ2 H2 O2 ((off_mono s1).trans (sm.trans sm2)) Z2 q
      · exact fun Γ2 σ2 H2 O2 sm2 Z2 q => ⟨Γ2, O2, sm.trans sm2, Z2, q⟩
    · rintro σ' H' ⟨Γ', O', sm, Z', j⟩
      rw [pr_len rr] at j
      exact nx Γ' σ' H' O' ((off_mono s1).trans sm) Z' (hd Γ' j)
end

structure Cal (P : Program) (w : World) (K : PySem.W.Frag) (mg : Str → Option Value) (base : Heap) (k : Nat) (name : Str) (ps : List Str) (sp : Sp) : Prop where
  ex : ∃ (f : Addr) (fd : FuncData), FnOk P w K mg base CX0 k f fd ps sp ∧ Binds K fd ps [] ∧ PySem.W.keepIn K (.ref f) = true ∧ mg name = some (.ref f)
def OwnL (H : Hp) (O : Addr → Prop) : Prop := ∀ p, O p → ∃ xs : Mt, H p = some (mo xs)
def sp1 {α β : Type} [Py α] [Py β] (K : PySem.W.Frag) (pre : α → Prop) (b : Bool) (f : α → β) : Sp := fun vs H Q _ => ∃ O v a, OwnL H O ∧ vs = [v] ∧ Py.rp K .any (off H O) v a ∧ pre a ∧ ∀ r H', Same H H' → Py.rp K (Nf H b) (off H' O) r (f a) → Q r H'
def sp2 {α β γ : Type} [Py α] [Py β] [Py γ] (K : PySem.W.Frag) (pre : α → β → Prop) (b : Bool) (f : α → β → γ) : Sp := fun vs H Q _ => ∃ O v w a c, OwnL H O ∧ vs = [v, w] ∧ Py.rp K .any (off H O) v a ∧ Py.rp K .any (off H O) w c ∧ pre a c ∧ ∀ r H', Same H H' → Py.rp K (Nf H b) (off H' O) r (f a c) → Q r H'
def sp3 {α β γ δ : Type} [Py α] [Py β] [Py γ] [Py δ] (K : PySem.W.Frag) (pre : α → β → γ → Prop) (b : Bool) (f : α → β → γ → δ) : Sp := fun vs H Q _ => ∃ O v w x a c d, OwnL H O ∧ vs = [v, w, x] ∧ Py.rp K .any (off H O) v a ∧ Py.rp K .any (off H O) w c ∧ Py.rp K .any (off H O) x d ∧ pre a c d ∧ ∀ r H', Same H H' → Py.rp K (Nf H b) (off H' O) r (f a c d) → Q r H'
def sp4 {α β γ δ ε : Type} [Py α] [Py β] [Py γ] [Py δ] [Py ε] (K : PySem.W.Frag) (pre : α → β → γ → δ → Prop) (b : Bool) (f : α → β → γ → δ → ε) : Sp := fun vs H Q _ => ∃ O v w x y a c d g, OwnL H O ∧ vs = [v, w, x, y] ∧ Py.rp K .any (off H O) v a ∧ Py.rp K .any (off H O) w c ∧ Py.rp K .any (off H O) x d ∧ Py.rp K .any (off H O) y g ∧ pre a c d g ∧ ∀ r H', Same H H' → Py.rp K (Nf H b) (off H' O) r (f a c d g) → Q r H'
theorem nf_true {H0 H : Hp} {b : Bool} : ∀ p xs, (Nf H0 b).has H p xs → Nn.any.has H p xs := fun _ _ _ => True.intro
section
variable {X : Cx} {Γ : GEnv} {D : GD} {α β γ δ ε : Type} [Py α] [Py β] [Py γ] [Py δ] [Py ε] {e e1 e2 e3 e4 : Expr} {b b1 b2 b3 b4 : Bool} {p pos : Pos} {k : Nat} {name : Str} {ps : List Str}
theorem e_call1 {pre : α → Prop} {f : α → β} {a : α} (C : Cal X.prog X.w X.K X.mg X.base k name ps (sp1 X.K pre b f)) (hr : Room k X.A) (hg : Gl X name) (h1 : E X Γ e1 b1 a) (hp : pre a)
    (hs1 : starEach [e1] X.env = (false, eval e1 X.env) :: starEach [] X.env := by rfl) (hdb : (name == ("__debug__" : Str)) = false := by decide) (hpl : (backTo pos (starEach [] X.env)).any (·.1) = false := by rfl) :
    E X Γ (.Call (.Name name p) [e1] [] pos) b (f a) := by
  with_unfolding_all
    obtain ⟨fa, fd, F, B, kp, m⟩ := C.ex
    exact pe_wk (pe_call F hr hg m kp B .nil pass0 (pa_cons h1 pa_nil hs1) hdb hs1 hpl) fun σ H Q ⟨H0, F, O, S, q⟩ => ⟨H0, F, O, S, fun v1 H1 s1 r1 =>
      ⟨O, v1, a, (S.go s1).own, rfl, rp_wid nf_true r1, hp, fun r H' s' z => q r H' (s1.trans s') ((S.go s1).back z)⟩⟩
theorem e_call2 {pre : α → β → Prop} {f : α → β → γ} {a : α} {c : β} (C : Cal X.prog X.w X.K X.mg X.base k name ps (sp2 X.K pre b f)) (hr : Room k X.A) (hg : Gl X name) (h1 : E X Γ e1 b1 a) (h2 : E X Γ e2 b2 c) (hp : pre a c)
    (hs1 : starEach [e1, e2] X.env = (false, eval e1 X.env) :: starEach [e2] X.env := by rfl) (hs2 : starEach [e2] X.env = (false, eval e2 X.env) :: starEach [] X.env := by rfl) (hdb : (name == ("__debug__" : Str)) = false := by decide) (hpl : (backTo pos (starEach [e2] X.env)).any (·.1) = false := by rfl) :
    E X Γ (.Call (.Name name p) [e1, e2] [] pos) b (f a c) := by
  with_unfolding_all
    obtain ⟨fa, fd, F, B, kp, m⟩ := C.ex
    exact pe_wk (pe_call F hr hg m kp B .nil pass0 (pa_cons h1 (pa_cons h2 pa_nil hs2) hs1) hdb hs1 hpl) fun σ H Q ⟨H0, F, O, S, q⟩ => ⟨H0, F, O, S, fun v1 H1 s1 r1 => ⟨H0, F, O, S.go s1, fun v2 H2 s2 r2 =>
      ⟨O, v1, v2, a, c, (S.go (s1.trans s2)).own, rfl, rp_wid nf_true (rp_mono (off_mono s2) r1), rp_wid nf_true r2, hp, fun r H' s' z => q r H' (s1.trans (s2.trans s')) ((S.go (s1.trans s2)).back z)⟩⟩⟩
theorem e_call3 {pre : α → β → γ → Prop} {f : α → β → γ → δ} {a : α} {c : β} {d : γ} (C : Cal X.prog X.w X.K X.mg X.base k name ps (sp3 X.K pre b f)) (hr : Room k X.A) (hg : Gl X name) (h1 : E X Γ e1 b1 a) (h2 : E X Γ e2 b2 c) (h3 : E X Γ e3 b3 d) (hp : pre a c d)
    (hs1 : starEach [e1, e2, e3] X.env = (false, eval e1 X.env) :: starEach [e2, e3] X.env := by rfl) (hs2 : starEach [e2, e3] X.env = (false, eval e2 X.env) :: starEach [e3] X.env := by rfl) (hs3 : starEach [e3] X.env = (false, eval e3 X.env) :: starEach [] X.env := by rfl)
    (hdb : (name == ("__debug__" : Str)) = false := by decide) (hpl : (backTo pos (starEach [e2, e3] X.env)).any (·.1) = false := by rfl) :
    E X Γ (.Call (.Name name p) [e1, e2, e3] [] pos) b (f a c d) := by
  with_unfolding_all
    obtain ⟨fa, fd, F, B, kp, m⟩ := C.ex
    exact pe_wk (pe_call F hr hg m kp B .nil pass0 (pa_cons h1 (pa_cons h2 (pa_cons h3 pa_nil hs3) hs2) hs1) hdb hs1 hpl) fun σ H Q ⟨H0, F, O, S, q⟩ => ⟨H0, F, O, S, fun v1 H1 s1 r1 => ⟨H0, F, O, S.go s1, fun v2 H2 s2 r2 => ⟨H0, F, O, S.go (s1.trans s2), fun v3 H3 s3 r3 =>
      ⟨O, v1, v2, v3, a, c, d, (S.go (s1.trans (s2.trans s3))).own, rfl, rp_wid nf_true (rp_mono ((off_mono s2).trans (off_mono s3)) r1), rp_wid nf_true (rp_mono (off_mono s3) r2), rp_wid nf_true r3, hp, fun r H' s' z => q r H' (s1.trans (s2.trans (s3.trans s'))) ((S.go (s1.trans (s2.trans s3))).back z)⟩⟩⟩⟩
end
def gst (N : List Str) (gs : List Bd) : GEnv := gs.map some ++ List.replicate (N.length - gs.length) none
def RT {α : Type} [Py α] (b : Bool) (a : α) : GD := { nx := fun _ => False, rt := fun g => g = .val b a }
inductive Args (K : PySem.W.Frag) (H : Hp) : List V → List Bd → Prop
  | nil : Args K H [] []
  | cons {α : Type} [Py α] {v : V} {a : α} {vs : List V} {gs : List Bd} : Py.rp K .any H v a → Args K H vs gs → Args K H (v :: vs) (.val false a :: gs)
theorem Args.len {K : PySem.W.Frag} {H : Hp} : ∀ {vs : List V} {gs : List Bd}, Args K H vs gs → vs.length = gs.length
  | _, _, .nil => rfl
  | _, _, @Args.cons _ _ _ _ _ _ _ _ _ t => congrArg (· + 1) t.len
theorem Args.get {K : PySem.W.Frag} {H0 H : Hp} {O : Addr → Prop} : ∀ {vs : List V} {gs : List Bd} {i : Nat} {g : Bd}, Args K (off H O) vs gs → gs[i]? = some g → ∃ v, vs[i]? = some v ∧ g.ok K H0 O H v ∧ ¬ g.isOwn
  | _, _, _, _, .nil, e => by simp at e
  | _, _, 0, _, @Args.cons _ _ _ _ _ _ _ _ h _, e => by simp at e; subst e; exact ⟨_, rfl, h, fun z => z⟩
  | _, _, i + 1, _, @Args.cons _ _ _ _ _ _ _ _ _ t, e => by
    obtain ⟨a, h1, h2⟩ := Args.get (i := i) t (by simpa using e)
    exact ⟨a, by simpa using h1, h2⟩
theorem sta_start {K : PySem.W.Frag} {H : Hp} {O : Addr → Prop} {N : List Str} {vs : List V} {gs : List Bd} (ho : OwnL H O) (h : Args K (off H O) vs gs) : Sta K H O O (gst N gs) (start N vs) H := by
  have hl := h.len
  have hget : ∀ (i : Nat) (g : Bd), (gst N gs)[i]? = some (some g) → gs[i]? = some g := fun i g e => by
    unfold gst at e
    by_cases hi : i < (gs.map some).length
    · rw [List.getElem?_append_left hi, List.getElem?_map] at e
      cases q : gs[i]? with
      | none => rw [q] at e; cases e
      | some g' => rw [q] at e; simpa using e
    · rw [List.getElem?_append_right (by omega)] at e
      have := List.mem_of_getElem? e
      rw [List.mem_replicate] at this
      cases this.2
  refine ⟨Same.refl _, fun _ z => z, ho, ho, by simp [gst, start, hl], fun i g e _ => ?_, ⟨fun _ _ => False, fun _ _ _ z => z.elim, fun _ _ z => z.elim, fun i g e o => ?_⟩⟩
  · obtain ⟨v, h1, h2, _⟩ := Args.get (H0 := H) h (hget i g e)
    refine ⟨v, ?_, h2⟩
    unfold start
    have hi : i < (vs.map some).length := by
      rw [List.length_map]
      exact (List.getElem?_eq_some_iff.mp h1).1
    rw [List.getElem?_append_left hi, List.getElem?_map, h1]; rfl
  · obtain ⟨_, _, _, no⟩ := Args.get (H0 := H) h (hget i g e)
    exact absurd o no
section
variable {P : Program} {w : World} {K : PySem.W.Frag} {mg : Str → Option Value} {base : Heap} {N ps : List Str} {k : Nat} {x qual : Str} {st : Stmt} {f : Addr} {fd : FuncData}
abbrev cx (P : Program) (w : World) (K : PySem.W.Frag) (mg : Str → Option Value) (base : Heap) (N : List Str) (qual : Str) (st : Stmt) (f : Addr) (cdv : Value) (A : Around) (outer : List Env) (s : Shared) (H : Hp) (E : XK) : Cx := (cxOf CX0 P w K mg base N qual (defScope st) f cdv A outer s H E).nox
def Body (P : Program) (w : World) (K : PySem.W.Frag) (mg : Str → Option Value) (base : Heap) (N : List Str) (qual : Str) (st : Stmt) (f : Addr) (k : Nat) (gs : List Bd) (D : GD) : Prop :=
  ∀ (cdv : Value) (A : Around) (outer : List Env) (s : Shared) (H : Hp) (E : XK), Room k (A.deeper (envOfC qual (defScope st) s.heap.objs.size f cdv)) → S (cx P w K mg base N qual st f cdv A outer s H E) (gst N gs) (defBody st) D
theorem body_run {gs : List Bd} {vs : List V} {H : Hp} {O : Addr → Prop} {α : Type} [Py α] {b : Bool} {a : α} {Q : VK} {cdv : Value} {A : Around} {outer : List Env} {s : Shared} {E : XK} (B : Body P w K mg base N qual st f k gs (RT b a)) (hr : Room k (A.deeper (envOfC qual (defScope st) s.heap.objs.size f cdv)))
    (ho : OwnL H O) (h : Args K (off H O) vs gs) (q : ∀ r H', Same H H' → Py.rp K (Nf H b) (off H' O) r a → Q r H') :
    ∃ t, PSs (cxOf CX0 P w K mg base N qual (defScope st) f cdv A outer s H E).nox (defBody st) t ∧ t { nx := fun _ H' => Q .non H', rt := Q } (start N vs) H := by
  with_unfolding_all
    refine ⟨_, B cdv A outer s H E hr, H, O, O, sta_start ho h, fun _ _ _ _ _ _ z => z.elim, fun g v H' sm z e => ?_, fun _ _ _ _ _ _ z => z.elim, fun _ _ _ _ _ _ z => z.elim⟩
    have e' : g = .val b a := e
    subst e'
    exact q v H' sm z
theorem fn1 {α β : Type} [Py α] [Py β] {pre : α → Prop} {b : Bool} {g : α → β} (F : Fun K x qual st f fd) (sc : FnScope N ps (defScope st)) (hl : ps.length = 1) (B : ∀ a, pre a → Body P w K mg base N qual st f k [.val false a] (RT b (g a))) :
    FnOk P w K mg base CX0 (k + 1) f fd ps (sp1 K pre b g) := by
  with_unfolding_all
    refine F.ok sc (fun vs H Q E h => ?_) fun cdv A outer s H vs Q E hr h => ?_
    · obtain ⟨O, v, a, _, rfl, _⟩ := h; rw [hl]; rfl
    · obtain ⟨O, v, a, ho, rfl, r, hp, q⟩ := h
      exact body_run (B a hp) hr ho (.cons r .nil) q
theorem fn2 {α β γ : Type} [Py α] [Py β] [Py γ] {pre : α → β → Prop} {b : Bool} {g : α → β → γ} (F : Fun K x qual st f fd) (sc : FnScope N ps (defScope st)) (hl : ps.length = 2) (B : ∀ a c, pre a c → Body P w K mg base N qual st f k [.val false a, .val false c] (RT b (g a c))) :
    FnOk P w K mg base CX0 (k + 1) f fd ps (sp2 K pre b g) := by
  with_unfolding_all
    refine F.ok sc (fun vs H Q E h => ?_) fun cdv A outer s H vs Q E hr h => ?_
    · obtain ⟨O, v, v2, a, c, _, rfl, _⟩ := h; rw [hl]; rfl
    · obtain ⟨O, v, v2, a, c, ho, rfl, r, r2, hp, q⟩ := h
      exact body_run (B a c hp) hr ho (.cons r (.cons r2 .nil)) q
theorem fn3 {α β γ δ : Type} [Py α] [Py β] [Py γ] [Py δ] {pre : α → β → γ → Prop} {b : Bool} {g : α → β → γ → δ} (F : Fun K x qual st f fd) (sc : FnScope N ps (defScope st)) (hl : ps.length = 3) (B : ∀ a c d, pre a c d → Body P w K mg base N qual st f k [.val false a, .val false c, .val false d] (RT b (g a c d))) :
    FnOk P w K mg base CX0 (k + 1) f fd ps (sp3 K pre b g) := by
  with_unfolding_all
    refine F.ok sc (fun vs H Q E h => ?_) fun cdv A outer s H vs Q E hr h => ?_
    · obtain ⟨O, v, v2, v3, a, c, d, _, rfl, _⟩ := h; rw [hl]; rfl
    · obtain ⟨O, v, v2, v3, a, c, d, ho, rfl, r, r2, r3, hp, q⟩ := h
      exact body_run (B a c d hp) hr ho (.cons r (.cons r2 (.cons r3 .nil))) q
end
end L2.EP
namespace L2.EP
open PySem PySem.Spec PyProof.Rows
section
variable {X : Cx} {Γ : GEnv} {α β : Type} [Py α] [Py β] {e : Expr} {b : Bool} {p p2 pos : Pos}
theorem e_isi {a : α} {T : Str} {T' : String} {c : Bool} (hg : Gl X "isinstance") (hm : X.mg "isinstance" = none) (hg2 : Gl X T) (hm2 : X.mg T = none) (hv : bootBuiltins T = some (.type T')) (ha : E X Γ e b a)
    (hk : ∀ (pins : List (Addr × Obj)) (s : Shared) (σ : St) (H : Hp) (N : Nn) (v : V) (u : Value) (Q : Value → Shared → Prop), Inv X pins σ H s → Py.rp X.K N H v a → RelV v u → (∀ tk, Q (.bool c) { s with toks := tk }) → wpAny (model X.prog X.w) X.A (call (.builtin "isinstance") [u, .type T']) Q X.xe s)
    (hs : starEach [e, .Name T p2] X.env = (false, eval e X.env) :: starEach [.Name T p2] X.env := by rfl) (hs2 : starEach [.Name T p2] X.env = (false, eval (.Name T p2) X.env) :: starEach [] X.env := by rfl) (hpl : (backTo pos (starEach [.Name T p2] X.env)).any (·.1) = false := by rfl)
    (hn : T ≠ "__name__" := by decide) (hd : (T == ("__debug__" : Str)) = false := by decide) :
    E X Γ (.Call (.Name "isinstance" p) [e, .Name T p2] [] pos) true c := by
  with_unfolding_all
    have hc : CallR X (.builtin "isinstance") (fun xs H Q => ∃ N v, xs = [v, .ty T'] ∧ Py.rp X.K N H v a ∧ Q (.bl c) H) := by
      intro pins s σ H xs us Q I r h
      obtain ⟨N, v, rfl, rv, q⟩ := h
      obtain ⟨u, w', rfl, rx, ry⟩ := vals2 r
      cases ry
      exact hk pins s σ H N v u _ I rv rx fun tk => ⟨.bl c, H, I.tok _, rfl, q⟩
    exact pe_wk (pe_callB hc hg hm boot_isinstance (pa_cons ha (pa_cons (pe_bltn (v := .ty T') hg2 hm2 hv rfl hn hd) pa_nil hs2) hs) (he := hs) (hpl := hpl)) fun σ H Q ⟨H0, F, O, S, q⟩ => ⟨H0, F, O, S, fun v H1 s1 r1 => ⟨_, v, rfl, rp_mono (off_same _ _) r1, q _ H1 s1 rfl⟩⟩
theorem e_isII {i : Int} (hg : Gl X "isinstance") (hm : X.mg "isinstance" = none) (hg2 : Gl X "int") (hm2 : X.mg "int" = none) (ha : E X Γ e b i)
    (hs : starEach [e, .Name "int" p2] X.env = (false, eval e X.env) :: starEach [.Name "int" p2] X.env := by rfl) : E X Γ (.Call (.Name "isinstance" p) [e, .Name "int" p2] [] pos) true true := by
  with_unfolding_all
    exact e_isi hg hm hg2 hm2 PyProof.Rows.boot_int ha (fun pins s σ H N v u Q I rv r q => by
        cases rv; obtain ⟨t, rfl⟩ := r
        exact IsiPair.int_int (q s.toks)) hs
theorem e_isIB {i : Int} (hg : Gl X "isinstance") (hm : X.mg "isinstance" = none) (hg2 : Gl X "bool") (hm2 : X.mg "bool" = none) (ha : E X Γ e b i)
    (hs : starEach [e, .Name "bool" p2] X.env = (false, eval e X.env) :: starEach [.Name "bool" p2] X.env := by rfl) : E X Γ (.Call (.Name "isinstance" p) [e, .Name "bool" p2] [] pos) true false := by
  with_unfolding_all
    exact e_isi hg hm hg2 hm2 PyProof.Rows.boot_bool ha (fun pins s σ H N v u Q I rv r q => by
        cases rv; obtain ⟨t, rfl⟩ := r
        exact IsiPair.int_bool (q (s.toks + 1))) hs
theorem e_isLL {xs : List α} (hg : Gl X "isinstance") (hm : X.mg "isinstance" = none) (hg2 : Gl X "list") (hm2 : X.mg "list" = none) (ha : E X Γ e b xs)
    (hs : starEach [e, .Name "list" p2] X.env = (false, eval e X.env) :: starEach [.Name "list" p2] X.env := by rfl) : E X Γ (.Call (.Name "isinstance" p) [e, .Name "list" p2] [] pos) true true := by
  with_unfolding_all
    exact e_isi hg hm hg2 hm2 PyProof.Rows.boot_list ha (fun pins s σ H N v u Q I rv r q => by
        obtain ⟨a, ys, rfl, sq, _, _⟩ := rv
        cases r
        obtain ⟨its, rr, pl, _⟩ := I.list sq
        obtain ⟨o, h1, h2, n, h3⟩ := pl.isList
        exact call_isinstance (isinstance_true (Tx := "list") F.isi_meta_list AutoSeq1.sub_list_list) ⟨⟨o, h1, h2⟩, q s.toks⟩) hs
end
end L2.EP
namespace L2.EP
open PySem PySem.Spec PyProof.Rows
def Sm (n : Nat) (i : Int) : Prop := i.natAbs < 2 ^ n
theorem Sm.bits {n : Nat} {i : Int} (h : Sm n i) : Builtin.Int.intBits i ≤ n := by
  unfold Builtin.Int.intBits
  split
  · exact Nat.zero_le _
  · rename_i hi
    have h0 : i.natAbs ≠ 0 := by
      intro z; apply hi; simp; omega
    have := (Nat.log2_lt h0).mpr h
    omega
theorem Sm.le {m n : Nat} {i : Int} (h : Sm m i) (l : m ≤ n) : Sm n i := Nat.lt_of_lt_of_le h (Nat.pow_le_pow_right (by decide) l)
theorem Sm.ok {m n : Nat} {i j : Int} (h : Sm m i) (h' : Sm n j) (l : m ≤ 1048576 := by decide) (l' : n ≤ 1048576 := by decide) : IntMulOk i j := IntMulOk.of_bits (Nat.le_trans h.bits (Nat.le_trans l (by decide))) (Nat.le_trans h'.bits (Nat.le_trans l' (by decide)))
theorem Sm.mul {m n : Nat} {i j : Int} (h : Sm m i) (h' : Sm n j) : Sm (m + n) (i * j) := by
  unfold Sm at *
  rw [Int.natAbs_mul, Nat.pow_add]
  rcases Nat.eq_zero_or_pos j.natAbs with z | z
  · rw [z, Nat.mul_zero]; exact Nat.mul_pos (Nat.two_pow_pos _) (Nat.two_pow_pos _)
  · exact Nat.mul_lt_mul_of_lt_of_le h (Nat.le_of_lt h') (Nat.two_pow_pos _)
theorem Sm.of_le {n : Nat} {i j : Int} (h : i.natAbs ≤ j.natAbs) (h' : Sm n j) : Sm n i := Nat.lt_of_le_of_lt h h'
theorem Sm.div {n : Nat} {i j : Int} (h : Sm n j) (hj : j ≠ 0) (l : n ≤ 9000 := by decide) : CDivK i j := ⟨hj, (Nat.log2_lt (by omega)).mpr (Nat.lt_of_lt_of_le h (Nat.pow_le_pow_right (by decide) l))⟩
theorem mulL {i j : Int} (h1 : -(2 ^ 64) < i) (h2 : i < 2 ^ 64) : IntMulOk i j := CMul.ok (.inl ⟨h1, h2⟩)
theorem mulR {i j : Int} (h1 : -(2 ^ 64) < j) (h2 : j < 2 ^ 64) : IntMulOk i j := CMul.ok (.inr ⟨h1, h2⟩)
theorem cdK {i j : Int} (h : j ≠ 0 := by decide) (h2 : j.natAbs.log2 < 9000 := by decide) : CDivK i j := ⟨h, h2⟩
theorem cpK {i j : Int} (h : 0 ≤ j := by decide) (h2 : j ≤ 1000000 := by decide) (h3 : i.natAbs < 2 ^ 64 := by decide) : CPow i j := ⟨h, h2, h3⟩
theorem hu60 {k : Nat} {A : Around} (hr : Room k A) : A.units + 60 < cLine := by have := hr.un; omega
structure Bu (mg : Str → Option Value) : Prop where
  abs : mg "abs" = none
  len : mg "len" = none
  min : mg "min" = none
  max : mg "max" = none
  range : mg "range" = none
  isinstance : mg "isinstance" = none
  int : mg "int" = none
  bool : mg "bool" = none
  list : mg "list" = none
  tuple : mg "tuple" = none
  sum : mg "sum" = none
  all : mg "all" = none
  zip : mg "zip" = none
  enumerate : mg "enumerate" = none
  any : mg "any" = none
  sorted : mg "sorted" = none
  set : mg "set" = none
  str : mg "str" = none
  reversed : mg "reversed" = none
theorem fmod_pos {a b : Int} (h : 0 < b) : 0 ≤ a.fmod b ∧ a.fmod b < b := ⟨Int.fmod_nonneg_of_pos a h, Int.fmod_lt_of_pos a h⟩
theorem Sm.fmod {n : Nat} {a b : Int} (h : 0 < b) (hb : Sm n b) : Sm n (a.fmod b) := by
  have := fmod_pos (a := a) h
  exact Sm.of_le (by omega) hb
end L2.EP
namespace L2.EP
open PySem PySem.Spec PyProof.Rows
def Df (K : PySem.W.Frag) (x : Str) (st : Stmt) : Prop := ∃ (f : Addr) (fd : FuncData), PySem.W.nsIn K mainGlobals x = some (some (.ref f)) ∧ Fun K x x st f fd
theorem Df.mk {K : PySem.W.Frag} {x : Str} {st : Stmt} {f : Addr} {oc : Value} {od an : Option Addr} {osl : Array (Option Value)} {kV doc pm cdv ct : Value} (a : PySem.W.nsIn K mainGlobals x = some (some (.ref f)))
    (l : K.lookup f = some ⟨oc, od, .func (PySem.W.fnOf x x (defArgs st) (defBody st) (defScope st) .none kV doc pm an cdv ct), osl⟩) (c : PySem.W.codeIn K cdv x = true) (k : PySem.W.keepIn K (.ref f) = true) : Df K x st := ⟨f, _, a, fun_mk l c k⟩
theorem bu_mk {K : PySem.W.Frag} {h : Heap} {mg : Str → Option Value} (X : K.In h) (G : h.Ns mainGlobals mg) (z1 : PySem.W.nsIn K mainGlobals "abs" = some none) (z2 : PySem.W.nsIn K mainGlobals "len" = some none) (z3 : PySem.W.nsIn K mainGlobals "min" = some none) (z4 : PySem.W.nsIn K mainGlobals "max" = some none)
    (z5 : PySem.W.nsIn K mainGlobals "range" = some none) (z6 : PySem.W.nsIn K mainGlobals "isinstance" = some none) (z7 : PySem.W.nsIn K mainGlobals "int" = some none) (z8 : PySem.W.nsIn K mainGlobals "bool" = some none) (z9 : PySem.W.nsIn K mainGlobals "list" = some none) (z10 : PySem.W.nsIn K mainGlobals "tuple" = some none)
    (z11 : PySem.W.nsIn K mainGlobals "sum" = some none) (z12 : PySem.W.nsIn K mainGlobals "all" = some none) (z13 : PySem.W.nsIn K mainGlobals "zip" = some none) (z14 : PySem.W.nsIn K mainGlobals "enumerate" = some none) (z15 : PySem.W.nsIn K mainGlobals "any" = some none) (z16 : PySem.W.nsIn K mainGlobals "sorted" = some none) (z17 : PySem.W.nsIn K mainGlobals "set" = some none) (z18 : PySem.W.nsIn K mainGlobals "str" = some none) (z19 : PySem.W.nsIn K mainGlobals "reversed" = some none) : Bu mg :=
  ⟨PySem.W.mg_none_of X G z1, PySem.W.mg_none_of X G z2, PySem.W.mg_none_of X G z3, PySem.W.mg_none_of X G z4, PySem.W.mg_none_of X G z5, PySem.W.mg_none_of X G z6, PySem.W.mg_none_of X G z7, PySem.W.mg_none_of X G z8, PySem.W.mg_none_of X G z9, PySem.W.mg_none_of X G z10, PySem.W.mg_none_of X G z11, PySem.W.mg_none_of X G z12, PySem.W.mg_none_of X G z13, PySem.W.mg_none_of X G z14, PySem.W.mg_none_of X G z15, PySem.W.mg_none_of X G z16, PySem.W.mg_none_of X G z17, PySem.W.mg_none_of X G z18, PySem.W.mg_none_of X G z19⟩
section
variable {P : Program} {w : World} {K : PySem.W.Frag} {mg : Str → Option Value} {base h : Heap} {x : Str} {st : Stmt} {N ps : List Str} {k : Nat}
theorem Df.cal {sp : Sp} (D : Df K x st) (X : K.In h) (G : h.Ns mainGlobals mg) (hb : ∀ (kV doc pm : Value) (an : Option Addr) (cdv ct : Value) (us : List Value), us.length = ps.length → bindArgs (PySem.W.fnOf x x (defArgs st) (defBody st) (defScope st) .none kV doc pm an cdv ct) ⟨us, []⟩ = pure (ps.zip us))
    (ok : ∀ f fd, Fun K x x st f fd → FnOk P w K mg base CX0 k f fd ps sp) : Cal P w K mg base k x ps sp := by
  obtain ⟨f, fd, a, F⟩ := D
  exact ⟨f, fd, ok f fd F, F.binds hb, F.kp, PySem.W.mg_of X G a⟩
def spLaw (K : PySem.W.Frag) : Sp := sp1 K (fun (ns : List Int) => ns.length ≤ 63) true (fun _ => true)
theorem pr_ints {K : PySem.W.Frag} {N : Nn} {H : Hp} : ∀ ns : List Int, Paired (fun x (b : Int) => Py.rp K N H x b) (ns.map V.int) ns
  | [] => .nil
  | _ :: r => .cons rfl (pr_ints r)
theorem law_start (K : PySem.W.Frag) (H : Hp) (a : Addr) (ns : List Int) (hl : ns.length ≤ 63) (hS : SqL K H a (ns.map V.int)) : spLaw K [.ref a] H (fun v _ => v = .bl true) fun _ _ _ => False :=
  ⟨fun _ => False, .ref a, ns, fun _ z => z.elim, rfl, by rw [off_nil]; exact ⟨a, _, rfl, hS, True.intro, pr_ints ns⟩, hl, fun r H' _ z => z⟩
theorem law_end {fa : Addr} {lp : Program} (D : Df K "law" st) (X : K.In h) (G : h.Ns mainGlobals mg) (hfa : mg "law" = some (.ref fa)) {y : Str}
    (hb : ∀ (kV doc pm : Value) (an : Option Addr) (cdv ct : Value) (s : Shared) (u : Value), BindsTo s (PySem.W.fnOf "law" "law" (defArgs st) (defBody st) (defScope st) .none kV doc pm an cdv ct) ⟨[u], []⟩ [(y, u)])
    (ok : ∀ base, K.In base → base.Ns mainGlobals mg → ∀ f fd, Fun K "law" "law" st f fd → FnOk lp w K mg base CX0 k f fd [y] (spLaw K)) :
    ∃ fd : FuncData, (∀ (s : Shared) (u : Value), BindsTo s fd ⟨[u], []⟩ [(y, u)]) ∧ ∀ base : Heap, K.In base → base.Ns mainGlobals mg → FnOk lp w K mg base CX0 k fa fd [y] (spLaw K) := by
  obtain ⟨f, fd, a, F⟩ := D
  have e := hfa.symm.trans (PySem.W.mg_of X G a)
  cases e
  refine ⟨fd, ?_, fun base kb nb => ok base kb nb _ fd F⟩
  obtain ⟨oc, od, kV, doc, pm, an, cdv, ct, osl, rfl, lk, hcd⟩ := F.ex
  exact hb kV doc pm an cdv ct
end
end L2.EP

namespace L2.EP
open PySem PySem.Spec PyProof.Rows
def ITS {α : Type} [Py α] (K : PySem.W.Frag) (H0 : Hp) (O : Addr → Prop) (b : Bool) (as : List α) (J : It) (H1 : Hp) : Prop :=
  ∀ (H' : Hp) (O' : Addr → Prop), OwnL H' O' → Same (off H1 O) (off H' O') → (∀ (i : Nat) (a : α), as[i]? = some a → J.go i H' ∧ ∀ x H'', J.yld i H' x H'' → Same H' H'' ∧ Py.rp K (Nf H0 b) (off H'' O') x a) ∧ J.stop as.length H'
def EI {α : Type} [Py α] (X : Cx) (Γ : GEnv) (tg iter : Expr) (b : Bool) (as : List α) : Prop := ∃ wi, PI X tg iter wi ∧
  ∀ (σ : St) (H H0 : Hp) (F O : Addr → Prop) (R : It → Hp → Prop), Sta X.K H0 F O Γ σ H → (∀ J H1, Same H H1 → ITS X.K H0 O b as J H1 → R J H1) → wi σ H R
def seqI (lo c : Int) (n : Nat) : List Int := (List.range n).map fun i : Nat => lo + (i : Int) * c
section
variable {X : Cx} {Γ : GEnv} {α β : Type} [Py α] [Py β] {e e1 e2 e3 tg : Expr} {b b1 b2 b3 : Bool}
theorem ei_list {xs : List α} (he : E X Γ e b xs) : EI X Γ tg e b xs := by
  with_unfolding_all
    exact ⟨_, pi_list he, fun σ H H0 F O R Z q => ⟨H0, F, O, Z, fun v H1 s1 r1 => by
      obtain ⟨p, vs, e, sq, nn, rr⟩ := r1
      refine ⟨p, e, ⟨vs, (off_same _ _).seq sq⟩, q _ H1 s1 fun H' O' _ sm => ⟨fun i a ha => ?_, ?_⟩⟩
      · obtain ⟨x, h1, h2⟩ := pr_get rr ha
        refine ⟨⟨vs, x, (off_same _ _).seq (sm.seq sq), h1⟩, fun y H'' hy => ?_⟩
        obtain ⟨e', hy⟩ := hy
        subst e'
        have := hy vs ((off_same _ _).seq (sm.seq sq))
        rw [h1] at this; cases this
        exact ⟨Same.refl _, rp_mono sm h2⟩
      · exact ⟨vs, (off_same _ _).seq (sm.seq sq), by rw [pr_len rr]; exact Nat.le_refl _⟩⟩⟩
theorem s_for {D : GD} {pos : Pos} {rest body : List Stmt} {g : TG} {tc : Nat → Prop} {put : Bool → α → GEnv → GEnv} {as : List α} (J : Nat → GEnv → Prop) (hG : G X tg g α put tc) (he : EI X Γ tg e b as) (h0 : J 0 Γ)
    (ht : ∀ (i : Nat) (a : α) Γ', as[i]? = some a → J i Γ' → S X (put b a Γ') body { D with nx := J (i + 1), ct := J (i + 1), bk := fun Γ2 => S X Γ2 rest D }) (hd : ∀ Γ', J as.length Γ' → S X Γ' rest D)
    (hc : X.calm = true := by rfl) (hp : PassesOwn (model X.prog X.w) X.A X.env X.xe := by exact PassesOwn.never)
    (hfs : ∀ x, foldedSetIterable e X.env x = pure x := by intro _; rfl) : S X Γ (.For tg e body [] pos :: rest) D := by
  with_unfolding_all
    obtain ⟨wi, hi, hw⟩ := he
    refine s_seq (ps_wk (ps_for hp hc hi hG.1 (tb := bodyT X body) bodyT_ok hfs) fun De σ H ⟨H0, F, O, Z, nx, r, bk, ct⟩ => ?_)
    refine hw σ H H0 F O _ Z fun Jt H1 s1 its => ?_
    refine ⟨fun i m σ' H' => m = as.length - i ∧ i ≤ as.length ∧ ∃ Γ' O', Same (off H1 O) (off H' O') ∧ Sta X.K H0 F O' Γ' σ' H' ∧ J i Γ', ⟨_, rfl, Nat.zero_le _, Γ, O, Same.refl _, Z.go s1, h0⟩, ?_⟩
    rintro i m σ' H' ⟨rfl, hi', Γ', O', sm, Z', j⟩
    obtain ⟨t1, t2⟩ := its H' O' Z'.own sm
    by_cases hlt : i < as.length
    · have ha : as[i]? = some as[i] := List.getElem?_eq_getElem hlt
      obtain ⟨go, yl⟩ := t1 i _ ha
      refine .inr ⟨go, fun σ2 H2 => ∃ Γ2 O2, Same (off H1 O) (off H2 O2) ∧ Sta X.K H0 F O2 Γ2 σ2 H2 ∧ J (i + 1) Γ2, fun σ2 H2 q => ⟨as.length - (i + 1), by omega, rfl, hlt, q⟩, fun x H'' hy => ?_⟩
      obtain ⟨s2, rx⟩ := yl x H'' hy
      refine hG.2 b as[i] H0 F O' Γ' σ' H'' _ _ (Z'.go s2) rx fun σ2 Z2 _ _ => ?_
      refine ⟨_, _, ht i _ Γ' ha j, H0, F, O', Z2, ?_, r, ?_, ?_⟩
      · exact fun Γ2 σ2 H2 O2 sm2 Z2 q => ⟨Γ2, O2, sm.trans ((off_mono s2).trans sm2), Z2, q⟩
      · exact fun Γ2 σ2 H2 O2 sm2 Z2 q => nx Γ2 σ2 H2 O2 ((off_mono s1).trans (sm.trans ((off_mono s2).trans sm2))) Z2 q
      · exact fun Γ2 σ2 H2 O2 sm2 Z2 q => ⟨Γ2, O2, sm.trans ((off_mono s2).trans sm2), Z2, q⟩
    · have ei : i = as.length := by omega
      subst ei
      exact .inl ⟨t2, nx Γ' σ' H' O' ((off_mono s1).trans sm) Z' (hd Γ' j)⟩
end

def cB : Option (Option Bd) → Option Bd
  | some (some (@Bd.val _ _ b a)) => some (.val b a)
  | _ => none
def cΓ (Γ : GEnv) (tn : List Str) (js : List Nat) : GEnv := tn.map (fun _ => none) ++ js.map fun j => cB Γ[j]?
theorem cB_val {o : Option (Option Bd)} {g : Bd} (h : cB o = some g) : o = some (some g) ∧ ¬ g.isOwn := by
  unfold cB at h
  split at h
  · cases h; exact ⟨rfl, fun z => z⟩
  · cases h
theorem cΓ_get {Γ : GEnv} {σ : St} {tn : List Str} {js : List Nat} {i : Nat} {g : Bd} (h : (cΓ Γ tn js)[i]? = some (some g)) : ∃ j, js[i - tn.length]? = some j ∧ tn.length ≤ i ∧ Γ[j]? = some (some g) ∧ ¬ g.isOwn ∧ (cσ σ tn js)[i]? = some ((σ[j]?).getD none) := by
  unfold cΓ at h
  unfold cσ
  by_cases hi : i < tn.length
  · rw [List.getElem?_append_left (by simpa using hi), List.getElem?_map] at h
    cases q : tn[i]? with
    | none => rw [q] at h; cases h
    | some y => rw [q] at h; cases h
  · rw [List.getElem?_append_right (by simpa using hi), List.getElem?_map, List.length_map] at h
    rw [List.getElem?_append_right (by simpa using hi), List.getElem?_map, List.length_map]
    cases q : js[i - tn.length]? with
    | none => rw [q] at h; cases h
    | some j =>
      rw [q] at h
      obtain ⟨h1, h2⟩ := cB_val (Option.some.inj h)
      exact ⟨j, rfl, by omega, h1, h2, rfl⟩
section
variable {K : PySem.W.Frag} {H0 : Hp} {F O : Addr → Prop} {Γ : GEnv} {σ : St} {H : Hp}
theorem Sta.blk (Z : Sta K H0 F O Γ σ H) (tn : List Str) (js : List Nat) : Sta K H0 F O (cΓ Γ tn js) (cσ σ tn js) H where
  same := Z.same
  fo := Z.fo
  f0 := Z.f0
  own := Z.own
  len := by unfold cΓ cσ; simp
  at_ := fun i g e n => by
    obtain ⟨j, h1, h2, h3, h4, h5⟩ := cΓ_get (σ := σ) e
    obtain ⟨v, q1, q2⟩ := Z.at_ j g h3 n
    exact ⟨v, by rw [h5, q1]; rfl, q2⟩
  dis := ⟨fun _ _ => False, fun _ _ _ z => z.elim, fun _ _ z => z.elim, fun i g e o => by
    obtain ⟨_, _, _, _, h4, _⟩ := cΓ_get (σ := σ) e
    exact absurd o h4⟩
theorem Sta.ownIn {H' : Hp} {D : Addr} {xs : List V} (Z : Sta K H0 F O Γ σ H) (hD : H D = none) (sm : Same H H') (hx : H' D = some (.lst xs)) : Sta K H0 F (fun p => O p ∨ p = D) Γ σ H' ∧ Same (off H O) (off H' fun p => O p ∨ p = D) := by
  have so : Same (off H O) (off H' fun p => O p ∨ p = D) := fun b o h => by
    obtain ⟨h1, h2⟩ := off_some h
    have hb : b ≠ D := fun z => by rw [z, hD] at h2; cases h2
    rw [off_get (by rintro (z | z); exact h1 z; exact hb z)]; exact sm _ _ h2
  refine ⟨⟨Z.same.trans sm, fun p h => .inl (Z.fo p h), Z.f0, fun p h => ?_, Z.len, fun i g e n => ?_, ?_⟩, so⟩
  · rcases h with h | h
    · obtain ⟨ys, q⟩ := Z.own p h
      exact ⟨ys, sm _ _ q⟩
    · subst h; exact ⟨.inl xs, hx⟩
  · obtain ⟨v, q1, q2⟩ := Z.at_ i g e n
    refine ⟨v, q1, ?_⟩
    cases g with
    | val b a => exact rp_mono so q2
    | own b as => exact q2
    | dpo a => exact q2
  · obtain ⟨D', d1, d2, d3⟩ := Z.dis
    refine ⟨D', d1, fun i p h => ⟨.inl (d2 i p h).1, (d2 i p h).2⟩, fun i g e o => ?_⟩
    obtain ⟨v, q1, q2⟩ := d3 i g e o
    exact ⟨v, q1, Bd.goD q2 (fun p ys _ z => sm _ _ z) so (fun p z => (d2 i p z).1) Z.own⟩
end
section
variable {X : Cx} {Γ : GEnv} {D : GD} {α β : Type} [Py α] [Py β] {elt target iter c : Expr} {b b' : Bool} {pos : Pos} {scope : Scope} {tn : List Str} {js : List Nat} {g : TG} {tc : Nat → Prop} {put : Bool → α → GEnv → GEnv} {as : List α} {f : α → β} {p : α → Bool} {ifs : List Expr}
def teC (X : Cx) (tn : List Str) (js : List Nat) (scope : Scope) (elt : Expr) (β : Type) [Py β] (b : Bool) : TE := fun σ H Q => ∃ Γ', ∃ v : β, (∀ C s H fp, E (blk X (cN X tn js) scope C s H fp) Γ' elt b v) ∧ tV X.K Γ' b v σ H Q
@[irreducible] def FT (X : Cx) (Γ : GEnv) (ifs : List Expr) (c : Bool) : Prop := PF X ifs (tVT X.K Γ c)
def ttC (X : Cx) (tn : List Str) (js : List Nat) (scope : Scope) (ifs : List Expr) : TT := fun σ H Q => ∃ Γ' c, (∀ C s H fp, FT (blk X (cN X tn js) scope C s H fp) Γ' ifs c) ∧ tVT X.K Γ' c σ H Q
theorem ft_nil : FT X Γ [] true := by
  with_unfolding_all
    exact fun pins s σ H Q I ⟨H0, F, O, Z, q⟩ => pf_nil pins s σ H Q I (q H (Same.refl _))
theorem ft_one {k : Bool} (h : T X Γ c k) : FT X Γ [c] k := by
  with_unfolding_all
    exact pf_one h
theorem comp_wk {wi : TI} (hw : ∀ (σ : St) (H H0 : Hp) (F O : Addr → Prop) (R : It → Hp → Prop), Sta X.K H0 F O Γ σ H → (∀ J H1, Same H H1 → ITS X.K H0 O b as J H1 → R J H1) → wi σ H R)
    (hgp : GP g α put tc X.K) (htc : ∀ j, tc j → j < tn.length)
    (ht : ∀ (i : Nat) (a : α), as[i]? = some a → ∀ C s H fp, FT (blk X (cN X tn js) scope C s H fp) (put b a (cΓ Γ tn js)) ifs (p a))
    (hb : ∀ (i : Nat) (a : α), as[i]? = some a → p a = true → ∀ C s H fp, E (blk X (cN X tn js) scope C s H fp) (put b a (cΓ Γ tn js)) elt b' (f a)) (hl : as.length ≤ 1000)
    {σ : St} {H : Hp} {Q : VK} {H0 : Hp} {F O : Addr → Prop} (Z : Sta X.K H0 F O Γ σ H) (q : ∀ v H', Same H H' → Py.rp X.K (Nf H0 b') (off H' O) v ((as.filter p).map f) → Q v H') :
    tLC wi tn js g (ttC X tn js scope ifs) (teC X tn js scope elt β b') σ H Q := by
  with_unfolding_all
    refine hw σ H H0 F O _ Z fun J H1 s1 its D hD => ?_
    have Z1 := Z.go s1
    refine ⟨fun i m H' xs => m = as.length - i ∧ i ≤ as.length ∧ Same H1 H' ∧ H' D = some (.lst xs) ∧ Paired (fun x a => Py.rp X.K (Nf H0 b') (off H' fun p => O p ∨ p = D) x a) xs (((as.take i).filter p).map f),
      ⟨_, rfl, Nat.zero_le _, same_upd hD _, upd_same, .nil⟩, ?_⟩
    rintro i m H' xs ⟨rfl, hi, sm, hx, rr⟩
    refine ⟨hx, ?_⟩
    obtain ⟨Z', so⟩ := Z1.ownIn hD sm hx
    obtain ⟨t1, t2⟩ := its H' _ Z'.own so
    by_cases hlt : i < as.length
    · have ha : as[i]? = some as[i] := List.getElem?_eq_getElem hlt
      have htk : as.take (i + 1) = as.take i ++ [as[i]] := by rw [List.take_succ, ha]; rfl
      obtain ⟨go, yl⟩ := t1 i _ ha
      refine .inr ⟨go, fun x H'' hy => ?_⟩
      obtain ⟨s2, rx⟩ := yl x H'' hy
      refine hgp b as[i] H0 F _ (cΓ Γ tn js) (cσ σ tn js) H'' x _ ((Z'.go s2).blk tn js) rx fun σ2 Z2 l2 k2 => ?_
      refine ⟨⟨fun j v hj e => ?_, l2⟩, _, _, ht i _ ha, H0, F, _, Z2, fun H3 s3 => ?_⟩
      · rw [k2 j fun z => absurd (htc j z) (Nat.not_lt.mpr hj)]; exact e
      cases hp : p as[i] with
      | false =>
        refine iteF ⟨as.length - (i + 1), by omega, rfl, hlt, sm.trans (s2.trans s3), s3 _ _ (s2 _ _ hx), ?_⟩
        rw [htk, List.filter_append, List.filter_cons, hp]
        simp only [Bool.false_eq_true, if_false, List.filter_nil, List.append_nil]
        exact pr_imp (fun _ _ z => rp_mono (off_mono (s2.trans s3)) z) rr
      | true =>
        refine iteT ⟨_, _, hb i _ ha hp, H0, F, _, Z2.go s3, fun y H4 s4 ry => ?_⟩
        have hx4 : H4 D = some (.lst xs) := s4 _ _ (s3 _ _ (s2 _ _ hx))
        have hOD : (fun p => O p ∨ p = D) D := .inr rfl
        refine ⟨hx4, ?_, as.length - (i + 1), by omega, rfl, hlt, ?_, upd_same, ?_⟩
        · have := pr_len rr
          rw [List.length_map] at this
          have h2 := List.length_filter_le p (as.take i)
          have h3 := List.length_take_le i as
          exact Nat.lt_of_le_of_lt (by omega) (small1000 hl)
        · exact fun c o z => by
            have hc : c ≠ D := fun w => by rw [w, hD] at z; cases z
            rw [upd_ne hc]; exact s4 _ _ (s3 _ _ (s2 _ _ (sm _ _ z)))
        · rw [off_upd hOD, htk, List.filter_append, List.filter_cons, hp]
          simp only [if_true, List.filter_nil, List.map_append, List.map_cons, List.map_nil]
          exact pr_app (pr_imp (fun _ _ z => rp_mono (off_mono (s2.trans (s3.trans s4))) z) rr) (.cons ry .nil)
    · have ei : i = as.length := by omega
      subst ei
      rw [List.take_length] at rr
      have hxo : off H' O D = some (.lst xs) := by rw [off_get (Z1.notOwn hD)]; exact hx
      refine .inl ⟨t2, q _ H' (s1.trans sm) ⟨D, xs, rfl, SqL.of hxo, Nf.wk (Z1.free0 hD) hxo, ?_⟩⟩
      · exact pr_imp (fun _ _ z => rp_mono (off_less fun _ w => .inl w) z) rr
theorem teC_ok {C : Addr} {s : Shared} {H : Hp} {fp : List Addr} : PE (blk X (cN X tn js) scope C s H fp) elt (teC X tn js scope elt β b') := by
  with_unfolding_all
    exact fun pins s' σ H' Q I ⟨Γ', v, h, q⟩ => (show PE (blk X (cN X tn js) scope C s H fp) elt (tV X.K Γ' b' v) from h C s H fp) pins s' σ H' Q I q
theorem ttC_ok {C : Addr} {s : Shared} {H : Hp} {fp : List Addr} : PF (blk X (cN X tn js) scope C s H fp) ifs (ttC X tn js scope ifs) := by
  with_unfolding_all
    exact fun pins s' σ H' Q I ⟨Γ', c, h, q⟩ => (show PF (blk X (cN X tn js) scope C s H fp) ifs (tVT X.K Γ' c) from h C s H fp) pins s' σ H' Q I q
theorem e_compF (tn : List Str) (js : List Nat) (S : CScope X scope tn js) (he : EI X Γ target iter b as) (hgp : GP g α put tc X.K) (hg : ∀ C s H fp, PG (blk X (cN X tn js) scope C s H fp) target g) (htc : ∀ j, tc j → j < tn.length)
    (ht : ∀ (i : Nat) (a : α), as[i]? = some a → ∀ C s H fp, FT (blk X (cN X tn js) scope C s H fp) (put b a (cΓ Γ tn js)) ifs (p a))
    (hb : ∀ (i : Nat) (a : α), as[i]? = some a → p a = true → ∀ C s H fp, E (blk X (cN X tn js) scope C s H fp) (put b a (cΓ Γ tn js)) elt b' (f a)) (hl : as.length ≤ 1000) (hc : X.calm = true := by rfl)
    (hs : ∀ x, foldedSetIterable iter X.env x = pure x := by intro _; rfl) : E X Γ (.ListComp elt [⟨target, iter, ifs, 0⟩] scope pos) b' ((as.filter p).map f) := by
  with_unfolding_all
    obtain ⟨wi, hi, hw⟩ := he
    exact pe_wk (pe_lc S hc hi (fun C s H fp => ⟨hg C s H fp, ttC_ok, teC_ok⟩) hs) fun σ H Q ⟨H0, F, O, Z, q⟩ => comp_wk hw hgp htc ht hb hl Z q
theorem e_comp (tn : List Str) (js : List Nat) (S : CScope X scope tn js) (he : EI X Γ target iter b as) (hgp : GP g α put tc X.K) (hg : ∀ C s H fp, PG (blk X (cN X tn js) scope C s H fp) target g) (htc : ∀ j, tc j → j < tn.length)
    (hb : ∀ (i : Nat) (a : α), as[i]? = some a → ∀ C s H fp, E (blk X (cN X tn js) scope C s H fp) (put b a (cΓ Γ tn js)) elt b' (f a)) (hl : as.length ≤ 1000) (hc : X.calm = true := by rfl)
    (hs : ∀ x, foldedSetIterable iter X.env x = pure x := by intro _; rfl) : E X Γ (.ListComp elt [⟨target, iter, [], 0⟩] scope pos) b' (as.map f) := by
  with_unfolding_all
    have h := e_compF (pos := pos) (p := fun _ => true) tn js S he hgp hg htc (fun i a _ C s H fp => ft_nil) (fun i a ha _ => hb i a ha) hl hc hs
    rw [List.filter_eq_self.mpr (fun _ _ => rfl)] at h
    exact h
end
end L2.EP

namespace L2.EP
open PySem PySem.Spec PyProof.Rows
theorem bools_of : ∀ {bs : List Bool} {us : List Value}, Vals (bs.map V.bl) us → LSm.BoolsAre us bs
  | [], _, h => by cases h; exact .nil
  | b :: r, _, h => by
    cases h with
    | cons h1 h2 => cases h1; exact .cons b (bools_of h2)
section
variable {X : Cx}
theorem call_allL (hc : X.calm = true) : CallR X (.builtin "all") (fun xs H Q => ∃ p, ∃ bs : List Bool, xs = [.ref p] ∧ SqL X.K H p (bs.map V.bl) ∧ Q (.bl (bs.all id)) H) := by
  intro pins s σ H xs us Q I r h
  obtain ⟨p, bs, rfl, sq, q⟩ := h
  obtain ⟨u, rfl, rx⟩ := vals1 r
  cases rx
  obtain ⟨its, rr, pl, _⟩ := I.list sq
  have hb := bools_of rr
  have hl := pl.isList
  have hlt : p < s.heap.objs.size := by obtain ⟨_, e, _⟩ := hl; exact Heap.lt_size e
  refine call_all_walk (wpAny_pyIter_list hl ?_)
  refine ⟨s.heap.objs.size, [s.heap.objs.size, p], [s.heap.objs.size], its.toArray.size, _, _, fun i => (bs[i]?).getD true, rfl, Walks.list (A := X.A.in1) (I.ok.hd hc) _ p (Nat.ne_of_lt hlt) its.toArray,
    ⟨⟨_, Heap.get?_push_size _ rfl, rfl, rfl⟩, hl.push _⟩, fun i v s' Q' E' hP hQ => ?_, fun h' tk hk => ?_⟩
  · obtain ⟨b, e, rfl⟩ := hb.get i v (by simpa using hP)
    simp only [e, Option.getD_some] at hQ
    exact wpAny_truthy_bool hQ
  · have e : ((List.range its.toArray.size).all fun i => (bs[i]?).getD true) = bs.all id := by
      rw [List.size_toArray, hb.length]; exact LSm.range_all bs
    rw [e]
    exact ⟨.bl _, H, I.kept (LSm.kept_iter hk), rfl, q⟩
end
theorem pr_bl {K : PySem.W.Frag} {N : Nn} {H : Hp} : ∀ {xs : List V} {bs : List Bool}, Paired (fun x (b : Bool) => Py.rp K N H x b) xs bs → xs = bs.map V.bl
  | _, _, .nil => rfl
  | _, _, .cons h t => by rw [show _ = V.bl _ from h, pr_bl t]; rfl
section
variable {X : Cx} {Γ : GEnv} {α β γ : Type} [Py α] [Py β] [Py γ] {e e1 e2 e3 : Expr} {b b1 b2 b3 : Bool} {pos : Pos}
theorem e_all {bs : List Bool} {p : Pos} (hc : X.calm = true) (hg : Gl X "all") (hm : X.mg "all" = none) (ha : E X Γ e b bs) (hs : starEach [e] X.env = (false, eval e X.env) :: starEach [] X.env := by rfl) : E X Γ (.Call (.Name "all" p) [e] [] pos) true (bs.all id) := by
  with_unfolding_all
    exact pe_wk (pe_callB (call_allL hc) hg hm PyProof.Rows.boot_all (pa_cons ha pa_nil hs) (he := hs)) fun σ H Q ⟨H0, F, O, S, q⟩ => ⟨H0, F, O, S, fun v H1 s1 r1 => by
        obtain ⟨p, vs, e, sq, n, r⟩ := r1
        rw [pr_bl r] at sq
        exact ⟨p, bs, by rw [e], (off_same _ _).seq sq, q _ H1 s1 rfl⟩⟩
end
end L2.EP

namespace L2.EP
open PySem PySem.Spec PyProof.Rows
def ckS (osc : Scope) (N : List Str) (scope : Scope) (js : List Nat) : Bool :=
  (scope.kind == .function) && scope.names.all (fun x => (!(x.2 == .local) || scope.names.lookup x.1 == some .local) && (!(x.2 == .free) || (scope.names.lookup x.1 == some .free && (osc.names.lookup x.1 == some .cell || osc.names.lookup x.1 == some .free))) && scope.names.all (fun y => !(x.1 == y.1) || x.2 == y.2)) &&
    js.all (fun j => match N[j]? with | some x => scope.names.lookup x == some .free | none => false)
theorem cscope {X : Cx} {scope : Scope} {tn : List Str} {js : List Nat} (osc : Scope) (N : List Str) (h1 : X.env.scope = osc) (h2 : X.N = N) (h : ckS osc N scope js = true) : CScope X scope tn js := by
  subst h1 h2
  unfold ckS at h
  simp only [Bool.and_eq_true, List.all_eq_true] at h
  obtain ⟨⟨hk, ha⟩, hj⟩ := h
  refine ⟨by simpa using hk, fun x hx e => ?_, fun x hx e => ?_, fun x hx y hy e => ?_, fun j hjm => ?_⟩
  · obtain ⟨⟨h1, h2⟩, h3⟩ := ha x hx
    simpa [e] using h1
  · obtain ⟨⟨h1, h2⟩, h3⟩ := ha x hx
    have h2' : (scope.names.lookup x.1 == some .free && (X.env.scope.names.lookup x.1 == some .cell || X.env.scope.names.lookup x.1 == some .free)) = true := by simpa [e] using h2
    obtain ⟨q1, q2⟩ := Bool.and_eq_true_iff.mp h2'
    refine ⟨by simpa using q1, ?_⟩
    rcases Bool.or_eq_true_iff.mp q2 with z | z
    · exact .inl (show X.env.scope.names.lookup x.1 = _ by simpa using z)
    · exact .inr (show X.env.scope.names.lookup x.1 = _ by simpa using z)
  · obtain ⟨⟨h1, h2⟩, h3⟩ := ha x hx
    have := h3 y hy
    simpa [e] using this
  · have := hj j hjm
    split at this
    · rename_i x hx
      exact ⟨x, hx, by simpa using this⟩
    · cases this
theorem rel_at {env : Env} {x : Str} : ∀ (names : List (Str × NameKind)), (names.map fun (n, k) => if (k == NameKind.free && env.scope.kind == .function && env.kindOf n == some .cell) then (n, NameKind.cell) else (n, k)).lookup x =
    (names.lookup x).map fun k => if (k == NameKind.free && env.scope.kind == .function && env.kindOf x == some .cell) then NameKind.cell else k
  | [] => rfl
  | (n, k) :: r => by
    have ih := rel_at (env := env) (x := x) r
    by_cases e : x = n
    · subst e
      cases hc : (k == NameKind.free && env.scope.kind == .function && env.kindOf x == some .cell) <;>
        simp only [hc, List.map_cons, List.lookup_cons, beq_self_eq_true, if_true, Option.map_some, Bool.false_eq_true, if_false]
    · have hn : (x == n) = false := by simpa using e
      cases hc : (k == NameKind.free && env.scope.kind == .function && env.kindOf n == some .cell) <;>
        simp only [hc, hn, List.map_cons, List.lookup_cons, if_true, Bool.false_eq_true, if_false] <;> exact ih
theorem relabel_cell {env : Env} {names : List (Str × NameKind)} {x : Str} (h : names.lookup x = some .cell) : (names.map fun (n, k) => if (k == NameKind.free && env.scope.kind == .function && env.kindOf n == some .cell) then (n, NameKind.cell) else (n, k)).lookup x = some .cell := by
  rw [rel_at, h]; rfl
theorem pg_cn {X : Cx} {scope : Scope} {tn : List Str} {js : List Nat} {C : Addr} {s : Shared} {H : Hp} {fp : List Addr} {x : Str} {pos : Pos} (i : Nat) (N : List Str) (h : cN X tn js = N := by rfl) (hd : N.Nodup := by decide +kernel) (hi : N[i]? = some x := by rfl)
    (hl : scope.names.lookup x = some .local ∨ scope.names.lookup x = some .cell := by first | exact .inl rfl | exact .inr rfl) : PG (blk X (cN X tn js) scope C s H fp) (.Name x pos) (gName i) := by
  refine pg_name (show (cN X tn js).Nodup by rw [h]; exact hd) (show (cN X tn js)[i]? = some x by rw [h]; exact hi) ?_ ?_
  · rcases hl with z | z
    · exact .inl (lookup_relabel_local z)
    · exact .inr (relabel_cell z)
  · rcases hl with z | z
    · exact .inr (lookup_relabel_local z)
    · refine .inl ?_
      show (match scope.names.lookup x with | some .cell => true | _ => false) = true
      rw [z]
theorem lt_of_eq {i n : Nat} (h : i < n := by decide) : ∀ j, j = i → j < n := fun j e => by rw [e]; exact h
end L2.EP

namespace L2.EP
open PySem PySem.Spec PyProof.Rows
section
variable {K : PySem.W.Frag} {H0 : Hp} {F O : Addr → Prop} {Γ : GEnv} {σ : St} {H H' : Hp}
theorem Sta.putOwn {v : V} {i : Nat} (Z : Sta K H0 F O Γ σ H) (sm : Same H H') (N : Addr → Prop) (hN : ∀ q, N q → H q = none ∧ ∃ xs : Mt, H' q = some (mo xs)) (g : Bd) (hg : g.isOwn) (hv : g.okD K H0 (fun p => O p ∨ N p) H' N v) :
    Sta K H0 F (fun p => O p ∨ N p) (Γ.set i (some g)) (σ.set i (some v)) H' ∧ Same (off H O) (off H' fun p => O p ∨ N p) := by
  have so : Same (off H O) (off H' fun p => O p ∨ N p) := fun b o h => by
    obtain ⟨h1, h2⟩ := off_some h
    have hb : ¬ N b := fun z => by rw [(hN b z).1] at h2; cases h2
    rw [off_get (by rintro (z | z); exact h1 z; exact hb z)]; exact sm _ _ h2
  refine ⟨⟨Z.same.trans sm, fun p h => .inl (Z.fo p h), Z.f0, fun p h => ?_, by rw [List.length_set, List.length_set]; exact Z.len, fun j g' e n => ?_, ?_⟩, so⟩
  · rcases h with h | h
    · obtain ⟨ys, q⟩ := Z.own p h
      exact ⟨ys, sm _ _ q⟩
    · exact (hN p h).2
  · by_cases hj : j = i
    · subst hj
      obtain ⟨hl, e'⟩ := get_set_some e
      subst e'; exact absurd hg n
    · rw [get_set_ne hj] at e
      obtain ⟨w, q1, q2⟩ := Z.at_ j g' e n
      refine ⟨w, by rw [get_set_ne hj]; exact q1, ?_⟩
      cases g' with
      | val b a => exact rp_mono so q2
      | own b as => exact q2
      | dpo a => exact q2
  · obtain ⟨D, d1, d2, d3⟩ := Z.dis
    refine ⟨fun j q => (j = i ∧ N q) ∨ (j ≠ i ∧ D j q), fun j k q h1 h2 => ?_, fun j q h => ?_, fun j g' e o => ?_⟩
    · rcases h1 with ⟨e1, n1⟩ | ⟨e1, n1⟩ <;> rcases h2 with ⟨e2, n2⟩ | ⟨e2, n2⟩
      · rw [e1, e2]
      · exact absurd (d2 k q n2).1 (Z.notOwn (hN q n1).1)
      · exact absurd (d2 j q n1).1 (Z.notOwn (hN q n2).1)
      · exact d1 j k q n1 n2
    · rcases h with ⟨_, n⟩ | ⟨_, n⟩
      · exact ⟨.inr n, Z.free0 (hN q n).1⟩
      · exact ⟨.inl (d2 j q n).1, (d2 j q n).2⟩
    · by_cases hj : j = i
      · subst hj
        obtain ⟨hl, e'⟩ := get_set_some e
        subst e'
        refine ⟨v, get_set_eq (by rw [Z.len]; exact hl), ?_⟩
        have : (fun q => (j = j ∧ N q) ∨ (j ≠ j ∧ D j q)) = N := funext fun q => propext ⟨fun z => by rcases z with ⟨_, z⟩ | ⟨z, _⟩; exact z; exact absurd rfl z, fun z => .inl ⟨rfl, z⟩⟩
        show Bd.okD K H0 (fun p => O p ∨ N p) H' (fun q => (j = j ∧ N q) ∨ (j ≠ j ∧ D j q)) v g
        rw [this]; exact hv
      · rw [get_set_ne hj] at e
        obtain ⟨w, q1, q2⟩ := d3 j g' e o
        refine ⟨w, by rw [get_set_ne hj]; exact q1, ?_⟩
        have : (fun q => (j = i ∧ N q) ∨ (j ≠ i ∧ D j q)) = D j := funext fun q => propext ⟨fun z => by rcases z with ⟨z, _⟩ | ⟨_, z⟩; exact absurd z hj; exact z, fun z => .inr ⟨hj, z⟩⟩
        show Bd.okD K H0 (fun p => O p ∨ N p) H' (fun q => (j = i ∧ N q) ∨ (j ≠ i ∧ D j q)) w g'
        rw [this]
        exact Bd.goD q2 (fun p ys _ z => sm _ _ z) so (fun p z => (d2 j p z).1) Z.own
theorem Sta.writeM {i : Nat} {g : Bd} (Z : Sta K H0 F O Γ σ H) (hg : Γ[i]? = some (some g)) (ho : g.isOwn) : ∃ v D, σ[i]? = some (some v) ∧ g.okD K H0 O H D v ∧ (∀ p, D p → O p ∧ H0 p = none) ∧
    ∀ (p : Addr) (ys : Mt) (g' : Option Bd), D p → (∀ g'', g' = some g'' → g''.isOwn ∧ g''.okD K H0 O (upd H p (mo ys)) D v) → Sta K H0 F O (Γ.set i g') σ (upd H p (mo ys)) ∧ off (upd H p (mo ys)) O = off H O := by
  obtain ⟨D, d1, d2, d3⟩ := Z.dis
  obtain ⟨v, q1, q2⟩ := d3 i g hg ho
  refine ⟨v, D i, q1, q2, d2 i, fun p ys g' hp hok => ?_⟩
  have hOp := (d2 i p hp).1
  have eo := off_upd (H := H) (o := mo ys) hOp
  refine ⟨⟨fun b o z => ?_, Z.fo, Z.f0, fun b hb => ?_, by rw [List.length_set]; exact Z.len, fun j g2 e n => ?_, D, d1, d2, fun j g2 e o => ?_⟩, eo⟩
  · have : b ≠ p := fun w => by rw [w, (d2 i p hp).2] at z; cases z
    rw [upd_ne this]; exact Z.same _ _ z
  · by_cases hbp : b = p
    · subst hbp; exact ⟨ys, upd_same⟩
    · rw [upd_ne hbp]; exact Z.own b hb
  · by_cases hj : j = i
    · subst hj
      have hl : j < Γ.length := (List.getElem?_eq_some_iff.mp hg).1
      rw [get_set_eq hl] at e
      have e' : g' = some g2 := Option.some.inj e
      exact absurd (hok g2 e').1 n
    · rw [get_set_ne hj] at e
      obtain ⟨w, q3, q4⟩ := Z.at_ j g2 e n
      refine ⟨w, q3, ?_⟩
      cases g2 with
      | val b a =>
        show Py.rp K _ (off (upd H p _) O) w a
        rw [eo]; exact q4
      | own b as => exact q4
      | dpo a => exact q4
  · by_cases hj : j = i
    · subst hj
      have hl : j < Γ.length := (List.getElem?_eq_some_iff.mp hg).1
      rw [get_set_eq hl] at e
      have e' : g' = some g2 := Option.some.inj e
      exact ⟨v, q1, (hok g2 e').2⟩
    · rw [get_set_ne hj] at e
      obtain ⟨w, q3, q4⟩ := d3 j g2 e o
      refine ⟨w, q3, Bd.goD q4 (fun q xs hq z => ?_) (by rw [eo]; exact Same.refl _) (fun q z => (d2 j q z).1) Z.own⟩
      have : q ≠ p := fun w => hj (d1 j i q hq (w ▸ hp))
      rw [upd_ne this]; exact z
theorem Sta.write {i : Nat} {g : Bd} (Z : Sta K H0 F O Γ σ H) (hg : Γ[i]? = some (some g)) (ho : g.isOwn) : ∃ v D, σ[i]? = some (some v) ∧ g.okD K H0 O H D v ∧ (∀ p, D p → O p ∧ H0 p = none) ∧
    ∀ (p : Addr) (ys : List V) (g' : Option Bd), D p → (∀ g'', g' = some g'' → g''.isOwn ∧ g''.okD K H0 O (upd H p (.lst ys)) D v) → Sta K H0 F O (Γ.set i g') σ (upd H p (.lst ys)) ∧ off (upd H p (.lst ys)) O = off H O := by
  obtain ⟨v, D, a, b, c, f⟩ := Z.writeM hg ho
  exact ⟨v, D, a, b, c, fun p ys => f p (.inl ys)⟩
theorem Sta.freeze {i : Nat} {g g' : Bd} (Z : Sta K H0 F O Γ σ H) (hg : Γ[i]? = some (some g)) (ho : g.isOwn) (hn : ¬ g'.isOwn)
    (hk : ∀ (D O' : Addr → Prop) v, g.okD K H0 O H D v → (∀ p, D p → H0 p = none ∧ ¬ O' p) → Same (off H O) (off H O') → (∀ p xs, Rt H p xs → Rt (off H O') p xs) → g'.ok K H0 O' H v) :
    ∃ O', Sta K H0 F O' (Γ.set i (some g')) σ H ∧ Same (off H O) (off H O') := by
  obtain ⟨D, d1, d2, d3⟩ := Z.dis
  obtain ⟨v, q1, q2⟩ := d3 i g hg ho
  have so : Same (off H O) (off H fun p => O p ∧ ¬ D i p) := off_less fun p h => h.1
  refine ⟨fun p => O p ∧ ¬ D i p, ⟨Z.same, fun p h => ⟨Z.fo p h, fun z => ?_⟩, Z.f0, fun p h => Z.own p h.1, by rw [List.length_set]; exact Z.len, fun j g2 e n => ?_, fun j q => j ≠ i ∧ D j q, fun j k q h1 h2 => d1 j k q h1.2 h2.2, fun j q h => ⟨⟨(d2 j q h.2).1, fun z => h.1 (d1 j i q h.2 z)⟩, (d2 j q h.2).2⟩, fun j g2 e o => ?_⟩, so⟩
  · obtain ⟨xs, w⟩ := Z.f0 p h
    rw [(d2 i p z).2] at w; cases w
  · by_cases hj : j = i
    · subst hj
      obtain ⟨_, e'⟩ := get_set_some e
      subst e'
      refine ⟨v, q1, hk (D j) _ v q2 (fun p z => ⟨(d2 j p z).2, fun w => w.2 z⟩) so fun p xs q => ?_⟩
      have hp : ∀ u, (H p = some (.tup u) ∨ ∃ o, H p = some (.frz o (.tup u))) → ¬ (O p ∧ ¬ D j p) := fun u z w => by
        obtain ⟨ys, w'⟩ := Z.own p w.1
        rcases z with z | ⟨o, z⟩
        · rw [z] at w'; rcases ys with ys | ys | ys <;> cases w'
        · rw [z] at w'; rcases ys with ys | ys | ys <;> cases w'
      have hp' := hp xs q.rd
      rcases q with q | ⟨o, q⟩
      · exact .inl (by rw [off_get hp']; exact q)
      · exact .inr ⟨o, by rw [off_get hp']; exact q⟩
    · rw [get_set_ne hj] at e
      obtain ⟨w, q3, q4⟩ := Z.at_ j g2 e n
      refine ⟨w, q3, ?_⟩
      cases g2 with
      | val b a => exact rp_mono so q4
      | own b as => exact q4
      | dpo a => exact q4
  · have hj : j ≠ i := by
      rintro rfl
      obtain ⟨_, e'⟩ := get_set_some e
      subst e'; exact hn o
    rw [get_set_ne hj] at e
    obtain ⟨w, q3, q4⟩ := d3 j g2 e o
    refine ⟨w, q3, ?_⟩
    have : (fun q => j ≠ i ∧ D j q) = D j := funext fun q => propext ⟨fun z => z.2, fun z => ⟨hj, z⟩⟩
    show Bd.okD K H0 (fun p => O p ∧ ¬ D i p) H (fun q => j ≠ i ∧ D j q) w g2
    rw [this]
    exact Bd.goD q4 (fun p ys _ z => z) so (fun p z => (d2 j p z).1) Z.own
theorem ok_own {α : Type} [Py α] {b : Bool} {as : List α} {D O' : Addr → Prop} {v : V} (h : (Bd.own b as).okD K H0 O H D v) (hD : ∀ p, D p → H0 p = none ∧ ¬ O' p) (so : Same (off H O) (off H O')) : (Bd.val b as).ok K H0 O' H v := by
  obtain ⟨p, xs, e, o, q, r⟩ := h
  have hx : off H O' p = some (.lst xs) := by rw [off_get (hD p o).2]; exact q
  exact ⟨p, xs, e, SqL.of hx, Nf.wk (hD p o).1 hx, pr_imp (fun _ _ z => rp_mono so z) r⟩
theorem ok_dpo {α : Type} [Py α] {a : α} {D O' : Addr → Prop} {v : V} (h : (Bd.dpo a).okD K H0 O H D v) (hD : ∀ p, D p → H0 p = none ∧ ¬ O' p) (ht : ∀ p xs, Rt H p xs → Rt (off H O') p xs) : (Bd.val true a).ok K H0 O' H v := by
  refine Py.tr (fun p xs q n => ?_) ht h
  obtain ⟨n1, n2⟩ := n
  have hx : off H O' p = some (mo xs) := by rw [off_get (hD p n1).2]; exact n2
  exact ⟨Mo.of hx, (hD p n1).1, hx⟩
end
section
variable {X : Cx} {Γ : GEnv} {D : GD} {α β γ : Type} [Py α] [Py β] [Py γ] {e e1 e2 : Expr} {b b1 b2 : Bool} {pos : Pos} {rest st : List Stmt}
theorem s_own (i : Nat) (α : Type) [Py α] {x : Str} {p p2 : Pos} (hN : X.N.Nodup) (h : S X (Γ.set i (some (.own true ([] : List α)))) rest D) (hi : X.N[i]? = some x := by rfl) (hx : Loc X.env.scope x := by first | exact Or.inl rfl | exact Or.inr rfl)
    (hs : swapsWith (.List [] p2) (some (.Name x p)) pos.line X.env = pure false := by rfl) (hf : X.fn x = true ∨ X.env.scope.names.lookup x = some .local := by first | exact .inl rfl | exact .inr rfl) : S X Γ (.Assign [.Name x p] (.List [] p2) pos :: rest) D := by
  with_unfolding_all
    exact s_seq (ps_wk (ps_set hN hi hx (pe_lst pa_nil) hs hf) fun De σ H ⟨H0, F, O, Z, n, _⟩ => ⟨Nat.zero_le _, fun q hq => by
        obtain ⟨Z', so⟩ := Z.putOwn (i := i) (v := .ref q) (same_upd hq (.lst [])) (· = q) (fun r e => by subst e; exact ⟨hq, .inl [], upd_same⟩) (Bd.own true ([] : List α)) True.intro ⟨q, [], rfl, rfl, upd_same, .nil⟩
        exact n _ _ _ _ so Z' h⟩)
theorem s_append (i : Nat) {as : List α} {a : α} {x : Str} {p ap cp : Pos} (hg : Γ[i]? = some (some (.own b as))) (he : E X Γ e b a) (hl : as.length ≤ 1000) (h : S X (Γ.set i (some (.own b (as ++ [a])))) rest D) (hi : X.N[i]? = some x := by rfl)
    (hv : Vis X.env.scope x := by first | exact Or.inl rfl | exact Or.inr (Or.inl rfl) | exact Or.inr (Or.inr rfl)) (hd : (x == ("__debug__" : Str)) = false := by decide) (hcd : (x == ("__classdict__" : Str)) = false := by decide)
    (hbase : attributeBase (.Name x p) "append" X.env (eval (.Name x p) X.env) = eval (.Name x p) X.env := by rfl)
    (hfew : ((backTo cp (starEach [e] X.env)).all (fun x => !x.1) && (backToKw cp (keywordEach [] X.env)).all (fun x => x.1.isSome)
      && decide (([e] : List Expr).length + ([] : List Keyword).length + (if ([] : List Keyword).isEmpty then 0 else 1) < 30)) = true := by rfl)
    (hline : (ap.endLine == cp.line) = true := by rfl) (hs : starEach [e] X.env = (false, eval e X.env) :: starEach [] X.env := by rfl) (hplain : (backTo cp (starEach [] X.env)).any (·.1) = false := by rfl)
    (hsw : swapsWith (.Call (.Attribute (.Name x p) "append" ap) [e] [] cp) none pos.line X.env = pure false := by rfl) :
    S X Γ (.Expr (.Call (.Attribute (.Name x p) "append" ap) [e] [] cp) pos :: rest) D := by
  with_unfolding_all
    exact s_seq (ps_wk (ps_expr (pe_bm PySem.F.plainAttrs_list PySem.F.slot_list_append PySem.F.type_list_append mt_append (pv i hi hv hd hcd) (pa_cons he pa_nil hs) hbase hfew hline hs hplain) hsw) fun De σ H ⟨H0, F, O, Z, n, _⟩ => by
        obtain ⟨v, Di, hv1, ⟨q, xs, hq1, hq2, hq3, hq4⟩, _, _⟩ := Z.write hg True.intro
        subst hq1
        refine ⟨.ref q, hv1, .inl ⟨rfl, xs, SqL.of hq3⟩, H0, F, O, Z, fun y H2 s2 ry => ⟨q, xs, y, rfl, rfl, s2 _ _ hq3, ?_, ?_⟩⟩
        · rw [pr_len hq4]; exact small1000 hl
        · obtain ⟨v', D', hv2, ⟨q', xs', w1, w2, w3, w4⟩, hO', wr⟩ := (Z.go s2).write hg True.intro
          rw [hv1] at hv2
          have ev : V.ref q = v' := by injection hv2 with z; injection z
          subst ev
          cases w1
          have ex : xs' = xs := by
            have := s2 _ _ hq3
            rw [w3] at this; cases this; rfl
          subst ex
          obtain ⟨Z', eo⟩ := wr q (xs' ++ [y]) (some (.own b (as ++ [a]))) w2 fun g'' e' => by
            cases e'
            refine ⟨True.intro, q, _, rfl, w2, upd_same, ?_⟩
            rw [off_upd (hO' q w2).1]
            exact pr_app w4 (.cons ry .nil)
          exact n _ _ _ _ (by rw [eo]; exact off_mono s2) Z' h)
theorem pss_frz {g g' : Bd} (i : Nat) (hg : Γ[i]? = some (some g)) (ho : g.isOwn) (hn : ¬ g'.isOwn)
    (hk : ∀ (H0 H : Hp) (O D O' : Addr → Prop) v, g.okD X.K H0 O H D v → (∀ p, D p → H0 p = none ∧ ¬ O' p) → Same (off H O) (off H O') → (∀ p xs, Rt H p xs → Rt (off H O') p xs) → g'.ok X.K H0 O' H v)
    (h : S X (Γ.set i (some g')) st D) : S X Γ st D := by
  with_unfolding_all
    exact pss_wk h fun De σ H ⟨H0, F, O, Z, n, r, bk, ct⟩ => by
      obtain ⟨O', Z', so⟩ := Z.freeze hg ho hn fun Di O' v => hk H0 H O Di O' v
      exact ⟨H0, F, O', Z', fun Γ2 σ2 H2 O2 sm => n Γ2 σ2 H2 O2 (so.trans sm), r, fun Γ2 σ2 H2 O2 sm => bk Γ2 σ2 H2 O2 (so.trans sm), fun Γ2 σ2 H2 O2 sm => ct Γ2 σ2 H2 O2 (so.trans sm)⟩
theorem s_freeze (i : Nat) {as : List α} (hg : Γ[i]? = some (some (.own b as))) (h : S X (Γ.set i (some (.val b as))) st D) : S X Γ st D := by
  with_unfolding_all
    exact pss_frz (g' := .val b as) i hg True.intro (fun z => z) (fun H0 H O Di O' v z1 z2 z3 _ => ok_own z1 z2 z3) h
theorem s_thaw (i : Nat) {a : α} (hg : Γ[i]? = some (some (.dpo a))) (h : S X (Γ.set i (some (.val true a))) st D) : S X Γ st D := by
  with_unfolding_all
    exact pss_frz (g' := .val true a) i hg True.intro (fun z => z) (fun H0 H O Di O' v z1 z2 _ z4 => ok_dpo z1 z2 z4) h
end
end L2.EP

namespace L2.EP
open PySem PySem.Spec PyProof.Rows
class PyT (β : Type) [Py β] : Prop where
  free : ∀ {K : PySem.W.Frag} {N N' : Nn} {H H' : Hp} {v : V} {b : β}, (∀ p xs, Rt H p xs → Rt H' p xs) → Py.rp K N H v b → Py.rp K N' H' v b
  nl : ∀ {K : PySem.W.Frag} {N : Nn} {H : Hp} {q : Addr} {b : β} {xs : List V}, Py.rp K N H (.ref q) b → H q = some (.lst xs) → False
instance : PyT Int where
  free _ h := h
  nl h _ := nomatch h
instance : PyT Bool where
  free _ h := h
  nl h _ := nomatch h
instance {α β : Type} [Py α] [Py β] [PyT α] [PyT β] : PyT (α × β) where
  free t h := by
    obtain ⟨p, x, y, e, s, h1, h2⟩ := h
    exact ⟨p, x, y, e, t _ _ s, PyT.free t h1, PyT.free t h2⟩
  nl h e := by
    obtain ⟨p, x, y, e', s, h1, h2⟩ := h
    cases e'
    rcases s with s | ⟨o, s⟩
    · rw [e] at s; cases s
    · rw [e] at s; cases s
def tN {α : Type} [Py α] (K : PySem.W.Frag) (Γ : GEnv) (a : α) : TE := fun σ H Q => ∃ H0 F O, Sta K H0 F O Γ σ H ∧ ∀ v H', Same H H' → Py.rp K (.new H) (off H' O) v a → Q v H'
@[irreducible] def EN {α : Type} [Py α] (X : Cx) (Γ : GEnv) (e : Expr) (a : α) : Prop := PE X e (tN X.K Γ a)
theorem new_less {α : Type} [Py α] {K : PySem.W.Frag} {H H1 Hx : Hp} {v : V} {a : α} (s : Same H H1) (h : Py.rp K (.new H1) Hx v a) : Py.rp K (.new H) Hx v a := rp_wid (N := .new H1) (N' := .new H) (fun _ _ n => ⟨s.free n.1, n.2⟩) h
section
variable {X : Cx} {Γ : GEnv} {D : GD} {α β γ : Type} [Py α] [Py β] [Py γ] {e e1 e2 : Expr} {b b1 b2 : Bool} {pos p : Pos} {rest st : List Stmt} {k : Nat} {name : Str} {ps : List Str}
theorem s_deep (i : Nat) {x : Str} {a : α} {p : Pos} (hN : X.N.Nodup) (he : EN X Γ e a) (h : S X (Γ.set i (some (.dpo a))) rest D) (hi : X.N[i]? = some x := by rfl) (hx : Loc X.env.scope x := by first | exact Or.inl rfl | exact Or.inr rfl)
    (hs : swapsWith e (some (.Name x p)) pos.line X.env = pure false := by rfl) (hf : X.fn x = true ∨ X.env.scope.names.lookup x = some .local := by first | exact .inl rfl | exact .inr rfl) : S X Γ (.Assign [.Name x p] e pos :: rest) D := by
  with_unfolding_all
    exact s_seq (ps_wk (ps_set hN hi hx he hs hf) fun De σ H ⟨H0, F, O, Z, n, _⟩ => ⟨H0, F, O, Z, fun v H1 s1 r1 => by
        obtain ⟨Z', so⟩ := Z.putOwn (i := i) (v := v) s1 (fun q => H q = none ∧ ∃ xs : Mt, H1 q = some (mo xs)) (fun q z => z) (Bd.dpo a) True.intro (by
          refine Py.tr (fun q xs sq nn => ?_) (fun q xs sq => Same.rt (off_same _ _) sq) r1
          have := (off_same _ _) _ _ nn.2
          exact ⟨Mo.of this, ⟨nn.1, xs, this⟩, this⟩)
        exact n _ _ _ _ so Z' h⟩)
end
end L2.EP

namespace L2.EP
open PySem PySem.Spec PyProof.Rows
section
variable {X : Cx} {Γ : GEnv} {α : Type} [Py α] {e : Expr} {b b' : Bool} {pos : Pos}
theorem E.up [PyT α] {a : α} (h : E X Γ e b a) : E X Γ e b' a := by
  with_unfolding_all
    exact pe_wk h fun σ H Q ⟨H0, F, O, S, q⟩ => ⟨H0, F, O, S, fun v H' s r => q v H' s (PyT.free (fun _ _ z => z) r)⟩
theorem e_up [PyT α] {a : α} (h : E X Γ e b a) : E X Γ e b' a := by
  with_unfolding_all
    exact E.up h
theorem e_listT [PyT α] {xs : List α} {p : Pos} (hg : Gl X "list") (hm : X.mg "list" = none) (ha : E X Γ e b xs) (hs : starEach [e] X.env = (false, eval e X.env) :: starEach [] X.env := by rfl) : E X Γ (.Call (.Name "list" p) [e] [] pos) true xs := by
  with_unfolding_all
    exact pe_wk (pe_callTy call_list_of hg hm PyProof.Rows.boot_list (pa_cons ha pa_nil hs) (he := hs)) fun σ H Q ⟨H0, F, O, S, q⟩ => ⟨H0, F, O, S, fun v H1 s1 r1 => by
        obtain ⟨p, vs, e, sq, n, r⟩ := r1
        refine ⟨p, vs, by rw [e], .inl ((off_same _ _).seq sq), fun l hl => ?_⟩
        obtain ⟨z1, z2⟩ := laid_lst (xs := vs) (S.go s1) hl
        exact q _ _ (s1.trans z1) ⟨l, vs, rfl, SqL.of z2, Nf.wk ((S.go s1).free0 hl) z2, pr_imp (fun _ _ z => PyT.free (fun _ _ t => Same.rt (off_mono z1) t) z) r⟩⟩
end
theorem take_fold {α β : Type} {g : β → α → β} {z : β} {us : List α} {i : Nat} {a : α} (h : us[i]? = some a) : (us.take (i + 1)).foldl g z = g ((us.take i).foldl g z) a := by
  rw [List.take_add_one, h, List.foldl_append]; rfl
end L2.EP

namespace EP
theorem gcd_fmod (a b : Int) : Int.gcd b (a.fmod b) = Int.gcd a b := by
  rw [Int.fmod_def, Int.gcd_comm a b]
  exact Int.gcd_sub_mul_left_right ..
theorem fmod_lt (a b : Int) (hb : b ≠ 0) : (a.fmod b).natAbs < b.natAbs := by
  rcases Int.lt_or_gt_of_ne hb with h | h
  · have e := Int.neg_fmod_neg a b
    have h' : (0:Int) < -b := by omega
    have h1 := Int.fmod_nonneg_of_pos (-a) h'
    have h2 := Int.fmod_lt_of_pos (-a) h'
    omega
  · have h1 := Int.fmod_nonneg_of_pos a h
    have h2 := Int.fmod_lt_of_pos a h
    omega
def fd (t b : Int) : Int := if b < 0 then -(Int.gcd t b : Int) else (Int.gcd t b : Int)
def fr (t b : Int) : Int × Int := (t.fdiv (fd t b), b.fdiv (fd t b))
theorem fd_ne {t b : Int} (hb : b ≠ 0) : fd t b ≠ 0 := by
  have h : Int.gcd t b ≠ 0 := by
    intro h; rw [Int.gcd_eq_zero_iff] at h; exact hb h.2
  unfold fd; split <;> omega
theorem fd_abs (t b : Int) : (fd t b).natAbs = Int.gcd t b := by
  unfold fd; split <;> omega
theorem fd_le {t b : Int} (hb : b ≠ 0) : (fd t b).natAbs ≤ b.natAbs := by
  rw [fd_abs]; exact Nat.le_of_dvd (by omega) (Int.natAbs_dvd_natAbs.mpr (Int.gcd_dvd_right t b))
end EP

namespace EP
def fadd (u v : Int × Int) : Int × Int := fr (u.1 * v.2 + v.1 * u.2) (u.2 * v.2)
def fsub (u v : Int × Int) : Int × Int := fr (u.1 * v.2 - v.1 * u.2) (u.2 * v.2)
def fmul (u v : Int × Int) : Int × Int := fr (u.1 * v.1) (u.2 * v.2)
def fdv (u v : Int × Int) : Int × Int := fr (u.1 * v.2) (u.2 * v.1)
def Low (u : Int × Int) : Prop := 1 ≤ u.2 ∧ Int.gcd u.1 u.2 = 1
end EP

namespace EP
abbrev Fr := Int × Int
def rng (n : Nat) : List Int := (List.range n).map fun i : Nat => (i : Int)
def lcmB (us : List Fr) : Int := us.foldl (fun b u => (b * u.2).fdiv (Int.gcd b u.2 : Nat)) 1
def oob (us : List Fr) : List Int × Int := (us.map fun u => u.1 * (lcmB us).fdiv u.2, lcmB us)
def dotI (xs ys : List Int) : Int := ((xs.zip ys).map fun p => p.1 * p.2).sum
def sop (a b : List Int × Int) : Fr := fr (dotI a.1 b.1) (a.2 * b.2)
def dotF (us vs : List Fr) : Fr := (us.zip vs).foldl (fun acc p => fadd acc (fmul p.1 p.2)) (0, 1)
abbrev Tb := List (List Fr)
def colm (T : Tb) (j : Int) : List Fr := T.map fun r => r.getD j.toNat (0, 1)
def tov (T : Tb) : Tb := (rng T.length).map (colm T)
def prd (A B : Tb) : Tb := A.map fun r => ((tov B).map oob).map (sop (oob r))
structure Sq (n : Nat) (T : Tb) : Prop where
  len : T.length = n
  row : ∀ r ∈ T, r.length = n
  low : ∀ r ∈ T, ∀ u ∈ r, Low u
theorem getD_mem {α : Type} {l : List α} {i : Nat} {d : α} (h : i < l.length) : l.getD i d ∈ l := by
  rw [List.getD_eq_getElem?_getD, List.getElem?_eq_getElem h]; exact List.getElem_mem h
def lsum (r : List Fr) (B : Tb) (j : Int) : Nat → Fr
  | 0 => (0, 1)
  | k + 1 => fadd (lsum r B j k) (fmul (r.getD k (0, 1)) ((B.getD k []).getD j.toNat (0, 1)))
def lprd (A B : Tb) : Tb := A.map fun r => (rng B.length).map fun j => lsum r B j r.length
def plL (n : Nat) (i : Int) : List Fr := (rng n).map fun j => if j = i then (1, 1) else (0, 1)
def plT (n : Nat) : Tb := (rng n).map fun i => plL n i
end EP

namespace EP
theorem eps_eq {α : Type} {P : α → Prop} (hu : ∀ a b, P a → P b → a = b) {a : α} (h : P a) : a = @Classical.epsilon α ⟨a⟩ P :=
  hu _ _ h (@Classical.epsilon_spec α P ⟨a, h⟩)
def rtN : Nat → Nat
  | 0 => 0
  | n + 1 => if (rtN n + 1) * (rtN n + 1) ≤ n + 1 then rtN n + 1 else rtN n
theorem rtN_le : ∀ n, rtN n * rtN n ≤ n
  | 0 => Nat.le_refl _
  | n + 1 => by
    have := rtN_le n
    unfold rtN
    split <;> omega
theorem rtN_lt : ∀ n, n < (rtN n + 1) * (rtN n + 1)
  | 0 => by decide
  | n + 1 => by
    have h := rtN_lt n
    unfold rtN
    split
    · have : (rtN n + 1) * (rtN n + 1) < (rtN n + 1 + 1) * (rtN n + 1 + 1) := Nat.mul_lt_mul'' (by omega) (by omega)
      omega
    · omega
def rt (k : Int) : Int := (rtN k.toNat : Int)
theorem rt_nonneg (k : Int) : 0 ≤ rt k := by unfold rt; omega
theorem rt_le {k : Int} (h : 0 ≤ k) : rt k * rt k ≤ k := by
  have := rtN_le k.toNat
  unfold rt
  have e : ((rtN k.toNat * rtN k.toNat : Nat) : Int) ≤ ((k.toNat : Nat) : Int) := by omega
  rw [Int.natCast_mul] at e
  omega
theorem rt_lt {k : Int} (h : 0 ≤ k) : k < (rt k + 1) * (rt k + 1) := by
  have := rtN_lt k.toNat
  unfold rt
  have e : ((k.toNat : Nat) : Int) < (((rtN k.toNat + 1) * (rtN k.toNat + 1) : Nat) : Int) := by omega
  rw [Int.natCast_mul] at e
  simp only [Int.natCast_add, Int.natCast_one] at e
  omega
theorem sq_lt {a b : Int} (h0 : 0 ≤ a) (h : a * a < b * b) (hb : 0 ≤ b) : a < b := by
  apply Classical.byContradiction
  intro hn
  have : b * b ≤ a * a := Int.mul_le_mul (by omega) (by omega) hb h0
  omega
theorem sq_le {a b : Int} (h0 : 0 ≤ a) (h : a ≤ b) : a * a ≤ b * b := Int.mul_le_mul h h h0 (by omega)
theorem rt_unique {k r : Int} (h0 : 0 ≤ r) (h1 : r * r ≤ k) (h2 : k < (r + 1) * (r + 1)) : r = rt k := by
  have hk : 0 ≤ k := Int.le_trans (Int.mul_nonneg h0 h0) h1
  have a := rt_le hk
  have b := rt_lt hk
  have c := rt_nonneg k
  have := sq_lt h0 (show r * r < (rt k + 1) * (rt k + 1) by omega) (by omega)
  have := sq_lt c (show rt k * rt k < (r + 1) * (r + 1) by omega) (by omega)
  omega
theorem lt_rt {d k : Int} (h : 0 ≤ k) (hd : 0 ≤ d) : d < rt k + 1 ↔ d * d ≤ k := by
  constructor
  · intro z
    exact Int.le_trans (sq_le hd (by omega)) (rt_le h)
  · intro z
    exact sq_lt hd (by have := rt_lt h; omega) (by have := rt_nonneg k; omega)
theorem newton {k r : Int} (hk : 0 ≤ k) (hr : 0 < r) (h : k < r * r) : 0 ≤ (r + k.fdiv r).fdiv 2 ∧ (r + k.fdiv r).fdiv 2 < r ∧ k < ((r + k.fdiv r).fdiv 2 + 1) * ((r + k.fdiv r).fdiv 2 + 1) := by
  rw [Int.fdiv_eq_ediv_of_nonneg k (by omega), Int.fdiv_eq_ediv_of_nonneg _ (by decide)]
  have e := Int.mul_ediv_add_emod k r
  have m0 := Int.emod_nonneg k (show r ≠ 0 by omega)
  have m1 := Int.emod_lt_of_pos k hr
  have q0 : 0 ≤ k / r := Int.ediv_nonneg hk (by omega)
  have q1 : k / r < r := Int.ediv_lt_of_lt_mul hr h
  generalize k / r = q at *
  generalize k % r = m at *
  have n1 : 2 * ((r + q) / 2) ≤ r + q := by omega
  have n2 : r + q + 1 ≤ 2 * ((r + q) / 2) + 2 := by omega
  refine ⟨by omega, by omega, ?_⟩
  generalize (r + q) / 2 = n at *
  have s1 : (r + q + 1) * (r + q + 1) ≤ (2 * n + 2) * (2 * n + 2) := sq_le (by omega) n2
  have s2 : 0 ≤ (r - (q + 1)) * (r - (q + 1)) := by
    rcases Int.le_total 0 (r - (q + 1)) with z | z
    · exact Int.mul_nonneg z z
    · exact Int.mul_nonneg_of_nonpos_of_nonpos z z
  grind
def OddFree (k : Int) : Prop := ∀ d : Int, 3 ≤ d → d * d ≤ k → d % 2 = 1 → ¬ d ∣ k
open Classical in
noncomputable def isP (k : Int) : Bool := decide (k = 2 ∨ (3 ≤ k ∧ k % 2 = 1 ∧ OddFree k))
open Classical in
theorem isP_iff {k : Int} : isP k = true ↔ k = 2 ∨ (3 ≤ k ∧ k % 2 = 1 ∧ OddFree k) := by unfold isP; exact decide_eq_true_iff
theorem isP_ge {k : Int} (h : isP k = true) : 2 ≤ k := by rcases isP_iff.mp h with h | h <;> omega
def nodiv (n : Nat) (m : Nat) : Bool := @Nat.rec (fun _ => Bool) true (fun i ih => cond (Nat.beq (n % (2 * i + 3)) 0) false ih) m
theorem nodiv_ok {n : Nat} : ∀ {m : Nat}, nodiv n m = true → ∀ i, i < m → n % (2 * i + 3) ≠ 0
  | 0, _, i, hi => absurd hi (Nat.not_lt_zero _)
  | m + 1, h, i, hi => by
    have h' : cond (Nat.beq (n % (2 * m + 3)) 0) false (nodiv n m) = true := h
    cases hb : Nat.beq (n % (2 * m + 3)) 0 with
    | true => rw [hb] at h'; cases h'
    | false =>
      rw [hb] at h'
      rcases Nat.lt_succ_iff_lt_or_eq.mp hi with z | z
      · exact nodiv_ok h' i z
      · subst z
        intro e
        rw [e] at hb
        cases hb
theorem oddFree_of {n m : Nat} (h : nodiv n m = true) (hm : n < (2 * m + 3) * (2 * m + 3)) : OddFree (n : Int) := by
  intro d h3 hd ho hdv
  have hlt : d < (2 * m + 3 : Int) := sq_lt (by omega) (by
    have : (n : Int) < (((2 * m + 3) * (2 * m + 3) : Nat) : Int) := by omega
    rw [Int.natCast_mul] at this
    simp only [Int.natCast_add, Int.natCast_mul] at this
    exact Int.lt_of_le_of_lt hd this) (by omega)
  have z := nodiv_ok h ((d.toNat - 3) / 2) (by omega)
  have e : 2 * ((d.toNat - 3) / 2) + 3 = d.toNat := by omega
  rw [e] at z
  obtain ⟨c, hc⟩ := hdv
  apply z
  have hdn : d.toNat ∣ n := by
    have : (d.toNat : Int) ∣ (n : Int) := ⟨c, by rw [hc]; congr 1; omega⟩
    exact Int.natCast_dvd_natCast.mp this
  exact Nat.mod_eq_zero_of_dvd hdn
theorem isP_of {n m : Nat} (h : nodiv n m = true) (h3 : 3 ≤ n) (ho : n % 2 = 1) (hm : n < (2 * m + 3) * (2 * m + 3)) : isP (n : Int) = true :=
  isP_iff.mpr (.inr ⟨by omega, by omega, oddFree_of h hm⟩)
def PB : Int := 1070000011
theorem PB_prime : isP PB = true := isP_of (n := 1070000011) (m := 16384) (by decide +kernel) (by decide) (by decide) (by decide)
noncomputable def pfF : Nat → Int → Int
  | 0, k => k
  | n + 1, k => if isP k then k else pfF n (k + 2)
noncomputable def pf (k : Int) : Int := if k < 3 then 2 else pfF 1073741824 (k + 1 - k % 2)
theorem pfF_ok : ∀ (n : Nat) (k p : Int), isP p = true → k ≤ p → (p - k) % 2 = 0 → p - k ≤ 2 * n → isP (pfF n k) = true ∧ k ≤ pfF n k ∧ pfF n k ≤ p ∧ (pfF n k - k) % 2 = 0
  | 0, k, p, hp, h1, h2, h3 => by
    have : k = p := by omega
    subst this
    exact ⟨hp, Int.le_refl _, Int.le_refl _, by unfold pfF; omega⟩
  | n + 1, k, p, hp, h1, h2, h3 => by
    unfold pfF
    split
    · rename_i h
      exact ⟨h, Int.le_refl _, h1, by omega⟩
    · rename_i h
      have hne : k ≠ p := by rintro rfl; exact h hp
      obtain ⟨a, b, c, d⟩ := pfF_ok n (k + 2) p hp (by omega) (by omega) (by omega)
      exact ⟨a, by omega, c, by omega⟩
theorem isP_two : isP 2 = true := isP_iff.mpr (.inl rfl)
theorem pf_prime {k : Int} (h : k ≤ PB) : isP (pf k) = true := by
  unfold pf
  split
  · exact isP_two
  · exact (pfF_ok _ _ PB PB_prime (by unfold PB at *; omega) (by unfold PB at *; omega) (by unfold PB at *; omega)).1
theorem pf_le {k : Int} (h : k ≤ PB) : pf k ≤ PB := by
  unfold pf
  split
  · decide
  · exact (pfF_ok _ _ PB PB_prime (by unfold PB at *; omega) (by unfold PB at *; omega) (by unfold PB at *; omega)).2.2.1
theorem pf_le_of {k p : Int} (hp : isP p = true) (h : k ≤ p) (ho : p % 2 = 1) (hb : p ≤ PB) (h3 : 3 ≤ k) : pf k ≤ p := by
  unfold pf
  rw [if_neg (by omega)]
  exact (pfF_ok _ _ p hp (by omega) (by omega) (by unfold PB at *; omega)).2.2.1
def NdS (k b m : Int) (r : Option Int) : Prop := match r with
  | none => ∀ d, b ≤ d → d < m → (d - b) % 2 = 0 → ¬ d ∣ k
  | some d => b ≤ d ∧ d < m ∧ (d - b) % 2 = 0 ∧ d ∣ k ∧ ∀ d', b ≤ d' → d' < d → (d' - b) % 2 = 0 → ¬ d' ∣ k
theorem NdS.uniq {k b m : Int} : ∀ r r', NdS k b m r → NdS k b m r' → r = r'
  | none, none, _, _ => rfl
  | none, some d, h, h' => absurd h'.2.2.2.1 (h d h'.1 h'.2.1 h'.2.2.1)
  | some d, none, h, h' => absurd h.2.2.2.1 (h' d h.1 h.2.1 h.2.2.1)
  | some d, some d', h, h' => by
    rcases Int.lt_trichotomy d d' with z | z | z
    · exact absurd h.2.2.2.1 (h'.2.2.2.2 d h.1 z h.2.2.1)
    · rw [z]
    · exact absurd h'.2.2.2.1 (h.2.2.2.2 d' h'.1 z h'.2.2.1)
theorem NdS.ex (k b m : Int) : ∀ n : Nat, (∃ d, NdS k b m (some d)) ∨ ∀ d, b ≤ d → d < m → d < b + 2 * n → (d - b) % 2 = 0 → ¬ d ∣ k
  | 0 => .inr fun d h1 h2 h3 => by omega
  | n + 1 => by
    rcases NdS.ex k b m n with h | h
    · exact .inl h
    · by_cases hm : b + 2 * n < m ∧ (b + 2 * n : Int) ∣ k
      · exact .inl ⟨b + 2 * n, by omega, hm.1, by omega, hm.2, fun d' h1 h2 h3 => h d' h1 (by omega) h2 h3⟩
      · refine .inr fun d h1 h2 h3 h4 hd => ?_
        by_cases e : d = b + 2 * n
        · subst e; exact hm ⟨h2, hd⟩
        · exact h d h1 h2 (by omega) h4 hd
noncomputable def ndM (k b m : Int) : Option Int := Classical.epsilon (NdS k b m)
theorem ndM_eq {k b m : Int} {r : Option Int} (h : NdS k b m r) : r = ndM k b m := eps_eq NdS.uniq h
theorem ndM_ok (k b m : Int) : NdS k b m (ndM k b m) := by
  rcases NdS.ex k b m (m - b).toNat with ⟨d, h⟩ | h
  · rw [← ndM_eq h]; exact h
  · have z : NdS k b m none := fun d h1 h2 h3 => h d h1 h2 (by omega) h3
    rw [← ndM_eq z]; exact z
noncomputable def ndv (k b e : Int) : Option Int := ndM k b (if rt k + 1 < e then rt k + 1 else e)
theorem dvd_fmod {d k : Int} : k.fmod d = 0 ↔ d ∣ k := ⟨Int.dvd_of_fmod_eq_zero, Int.fmod_eq_zero_of_dvd⟩
end EP

namespace EP
theorem isP_dvd {p d : Int} (hp : isP p = true) (hd : 0 < d) (h : d ∣ p) : d = 1 ∨ d = p := by
  obtain ⟨e, he⟩ := h
  have hp2 := isP_ge hp
  have he0 : 0 < e := by
    apply Classical.byContradiction
    intro hn
    have : d * e ≤ 0 := Int.mul_nonpos_of_nonneg_of_nonpos (by omega) (by omega)
    omega
  rcases isP_iff.mp hp with h2 | ⟨h3, ho, hf⟩
  · have : d ≤ 2 := by
      have := Int.le_of_dvd (show (0 : Int) < 2 by decide) (⟨e, by omega⟩ : d ∣ 2)
      omega
    omega
  · apply Classical.byContradiction
    intro hn
    have hd1 : d ≠ 1 := fun z => hn (.inl z)
    have hd2 : d ≠ p := fun z => hn (.inr z)
    have he1 : e ≠ 1 := by rintro rfl; omega
    have dodd : d % 2 = 1 := by
      rcases Int.emod_two_eq d with z | z
      · obtain ⟨c, hc⟩ := Int.dvd_of_emod_eq_zero z
        rw [hc, Int.mul_assoc] at he
        omega
      · exact z
    have eodd : e % 2 = 1 := by
      rcases Int.emod_two_eq e with z | z
      · obtain ⟨c, hc⟩ := Int.dvd_of_emod_eq_zero z
        rw [hc, Int.mul_left_comm] at he
        omega
      · exact z
    rcases Int.le_total d e with z | z
    · exact hf d (by omega) (by rw [he]; exact Int.mul_le_mul_of_nonneg_left z (by omega)) dodd ⟨e, he⟩
    · exact hf e (by omega) (by rw [he]; exact Int.mul_le_mul_of_nonneg_right z (by omega)) eodd ⟨d, by rw [he, Int.mul_comm]⟩
theorem euclid {p a b : Int} (hp : isP p = true) (h : p ∣ a * b) : p ∣ a ∨ p ∣ b := by
  have hp2 := isP_ge hp
  have hg : (0 : Int) < (Int.gcd p a : Nat) := by
    have := Int.gcd_pos_of_ne_zero_left a (show p ≠ 0 by omega)
    omega
  rcases isP_dvd hp hg (Int.gcd_dvd_left p a) with z | z
  · right
    have hc : Nat.Coprime p.natAbs a.natAbs := by
      show Nat.gcd p.natAbs a.natAbs = 1
      have : Int.gcd p a = 1 := by omega
      exact this
    have := Int.natAbs_dvd_natAbs.mpr h
    rw [Int.natAbs_mul] at this
    exact Int.natAbs_dvd_natAbs.mp (hc.dvd_of_dvd_mul_left this)
  · left
    rw [← z]
    exact Int.gcd_dvd_right p a
def lprod : List Int → Int
  | [] => 1
  | x :: l => x * lprod l
def sqb (k p : Int) : Int := if k % p = 0 then 0 else if p = 2 then 1 else if (k % p) ^ ((p - 1) / 2).toNat % p = 1 then 1 else -1
end EP

namespace EP
def TkS (k d : Int) (r : Int × Int) : Prop := 0 ≤ r.1 ∧ k = r.2 * d ^ r.1.toNat ∧ ¬ d ∣ r.2
theorem TkS.lt {k d : Int} (hd : 2 ≤ d) {r r' : Int × Int} (h : TkS k d r) (h' : TkS k d r') (hl : r.1 < r'.1) : False := by
  obtain ⟨a1, a2, a3⟩ := h
  obtain ⟨b1, b2, b3⟩ := h'
  have e : r'.1.toNat = (r'.1.toNat - r.1.toNat - 1) + 1 + r.1.toNat := by omega
  rw [e, Int.pow_add, Int.pow_succ] at b2
  have hp : d ^ r.1.toNat ≠ 0 := Int.pow_ne_zero (by omega)
  have z : r.2 * d ^ r.1.toNat = (r'.2 * d ^ (r'.1.toNat - r.1.toNat - 1) * d) * d ^ r.1.toNat := by rw [← a2, b2]; grind
  have w := Int.eq_of_mul_eq_mul_right hp z
  exact a3 ⟨r'.2 * d ^ (r'.1.toNat - r.1.toNat - 1), by rw [w, Int.mul_comm]⟩
theorem TkS.uniq {k d : Int} (hd : 2 ≤ d) (r r' : Int × Int) (h : TkS k d r) (h' : TkS k d r') : r = r' := by
  have h1 : r.1 = r'.1 := by
    rcases Int.lt_trichotomy r.1 r'.1 with z | z | z
    · exact (TkS.lt hd h h' z).elim
    · exact z
    · exact (TkS.lt hd h' h z).elim
  have hp : d ^ r.1.toNat ≠ 0 := Int.pow_ne_zero (by omega)
  have h2 : r.2 = r'.2 := by
    have := h.2.1.symm.trans h'.2.1
    rw [← h1] at this
    exact Int.eq_of_mul_eq_mul_right hp this
  exact Prod.ext h1 h2
theorem TkS.ex {d : Int} (hd : 2 ≤ d) : ∀ (n : Nat) (k : Int), k ≠ 0 → k.natAbs ≤ n → ∃ r, TkS k d r
  | 0, k, h0, hn => by omega
  | n + 1, k, h0, hn => by
    by_cases h : d ∣ k
    · obtain ⟨c, hc⟩ := h
      have hc0 : c ≠ 0 := by rintro rfl; rw [Int.mul_zero] at hc; exact h0 hc
      have hlt : c.natAbs < k.natAbs := by
        rw [hc, Int.natAbs_mul]
        have : 2 * c.natAbs ≤ d.natAbs * c.natAbs := Nat.mul_le_mul_right _ (by omega)
        omega
      obtain ⟨r, h1, h2, h3⟩ := TkS.ex hd n c hc0 (by omega)
      refine ⟨(r.1 + 1, r.2), by dsimp only; omega, ?_, h3⟩
      dsimp only
      rw [show (r.1 + 1).toNat = r.1.toNat + 1 by omega, Int.pow_succ, hc]
      rw [show d * c = d * (r.2 * d ^ r.1.toNat) by rw [← h2]]
      grind
    · exact ⟨(0, k), Int.le_refl 0, by dsimp only; rw [show (0 : Int).toNat = 0 from rfl, Int.pow_zero, Int.mul_one], h⟩
noncomputable def tko (k d : Int) : Int × Int := Classical.epsilon (TkS k d)
theorem tko_eq {k d : Int} (hd : 2 ≤ d) {r : Int × Int} (h : TkS k d r) : tko k d = r := (eps_eq (TkS.uniq hd) h).symm
theorem tko_ok {k d : Int} (hd : 2 ≤ d) (h : k ≠ 0) : TkS k d (tko k d) := by
  obtain ⟨r, hr⟩ := TkS.ex hd k.natAbs k h (Nat.le_refl _)
  rw [tko_eq hd hr]; exact hr
theorem tko_step {k d : Int} (hd : 2 ≤ d) (h : d ∣ k) (h0 : k ≠ 0) : k.fdiv d * d = k ∧ k.fdiv d ≠ 0 ∧ (k.fdiv d).natAbs < k.natAbs := by
  obtain ⟨c, rfl⟩ := h
  have e : (d * c).fdiv d = c := Int.mul_fdiv_cancel_left c (by omega)
  rw [e]
  have hc : c ≠ 0 := by rintro rfl; simp at h0
  refine ⟨Int.mul_comm .., hc, ?_⟩
  rw [Int.natAbs_mul]
  have : 2 * c.natAbs ≤ d.natAbs * c.natAbs := Nat.mul_le_mul_right _ (by omega)
  omega
noncomputable def cls (k p : Int) : Int × Int := ((tko k p).1 % 2, if p = 2 then (tko k p).2 % 8 else sqb (tko k p).2 p)
def b1 (c : Bool) : Int := if c then 1 else 0
def twoS (x y : Int × Int) : Bool := decide ((b1 (decide (x.2 % 4 = 3) && decide (y.2 % 4 = 3)) + b1 (decide (x.1 = 1) && (decide (y.2 = 3) || decide (y.2 = 5))) + b1 (decide (y.1 = 1) && (decide (x.2 = 3) || decide (x.2 = 5)))) % 2 = 0)
def oddS (x y : Int × Int) (p : Int) : Bool := decide ((if x.1 = 1 then y.2 else 1) * (if y.1 = 1 then x.2 else 1) * (if x.1 = 1 ∧ y.1 = 1 then sqb (-1) p else 1) = 1)
noncomputable def saysF (a b p : Int) : Bool := if p = 0 then decide (0 < a) || decide (0 < b) else if p = 2 then twoS (cls a p) (cls b p) else oddS (cls a p) (cls b p) p
end EP

namespace EP
def cmul (x y : Int × Int) (p : Int) : Int × Int := ((x.1 + y.1) % 2, if p = 2 then x.2 * y.2 % 8 else x.2 * y.2)
def CO : List (Int × Int) := [(0, 1), (0, -1), (1, 1), (1, -1)]
def C2 : List (Int × Int) := [(0, 1), (0, 3), (0, 5), (0, 7), (1, 1), (1, 3), (1, 5), (1, 7)]
def oddM (x y : Int × Int) (m : Int) : Bool := decide ((if x.1 = 1 then y.2 else 1) * (if y.1 = 1 then x.2 else 1) * (if x.1 = 1 ∧ y.1 = 1 then m else 1) = 1)
def Pl (p : Int) : Prop := p = 0 ∨ isP p = true
end EP

namespace EP
noncomputable def dvF (e : Int) : Nat → List (Int × Int) → Int → Int → List (Int × Int) × Int
  | 0, fs, l, _ => (fs, l)
  | n + 1, fs, l, b => match ndv l b e with
    | none => (fs, l)
    | some d => dvF e n (fs ++ [(d, (tko l d).1)]) (tko l d).2 (d + 2)
noncomputable def dvd0 (k : Int) : List (Int × Int) := if 0 < (tko k 2).1 then [(2, (tko k 2).1)] else []
noncomputable def dvdF (k e : Int) : List (Int × Int) × Int := dvF e k.toNat (dvd0 k) (tko k 2).2 3
theorem ndv_some {l b e d : Int} (hl : 0 ≤ l) (hb : 1 ≤ b) (h : ndv l b e = some d) : b ≤ d ∧ d < e ∧ d * d ≤ l ∧ (d - b) % 2 = 0 ∧ d ∣ l ∧ ∀ d', b ≤ d' → d' < d → (d' - b) % 2 = 0 → ¬ d' ∣ l := by
  have z := ndM_ok l b (if rt l + 1 < e then rt l + 1 else e)
  unfold ndv at h
  rw [h] at z
  obtain ⟨z1, z2, z3, z4, z5⟩ := z
  have h1 : d < rt l + 1 ∧ d < e := by split at z2 <;> omega
  exact ⟨z1, h1.2, (lt_rt hl (by omega)).mp h1.1, z3, z4, z5⟩
theorem ndv_none {l b e : Int} (hl : 0 ≤ l) (hb : 1 ≤ b) (h : ndv l b e = none) : ∀ d, b ≤ d → d < e → d * d ≤ l → (d - b) % 2 = 0 → ¬ d ∣ l := by
  have z := ndM_ok l b (if rt l + 1 < e then rt l + 1 else e)
  unfold ndv at h
  rw [h] at z
  intro d h1 h2 h3 h4
  have := (lt_rt hl (by omega)).mpr h3
  exact z d h1 (by split <;> omega) h4
theorem tko_lt {l d : Int} (hd : 2 ≤ d) (hl : 0 < l) (h : d ∣ l) : 0 < (tko l d).2 ∧ 2 * (tko l d).2 ≤ l ∧ 1 ≤ (tko l d).1 ∧ (tko l d).2 ∣ l := by
  obtain ⟨h1, h2, h3⟩ := tko_ok hd (show l ≠ 0 by omega)
  have h1' : 1 ≤ (tko l d).1 := by
    apply Classical.byContradiction
    intro hn
    have e : (tko l d).1.toNat = 0 := by omega
    rw [e, Int.pow_zero, Int.mul_one] at h2
    exact h3 (h2 ▸ h)
  have hp : (2 : Int) ≤ d ^ (tko l d).1.toNat := by
    have e : (tko l d).1.toNat = ((tko l d).1.toNat - 1) + 1 := by omega
    rw [e, Int.pow_succ]
    have : (0 : Int) < d ^ ((tko l d).1.toNat - 1) := Int.pow_pos (by omega)
    have : 1 * 2 ≤ d ^ ((tko l d).1.toNat - 1) * d := Int.mul_le_mul (by omega) hd (by decide) (by omega)
    omega
  generalize (tko l d).2 = x at *
  generalize d ^ (tko l d).1.toNat = t at *
  have hx : 0 < x := by
    apply Classical.byContradiction
    intro hn
    have : x * t ≤ 0 := Int.mul_nonpos_of_nonpos_of_nonneg (by omega) (by omega)
    omega
  have : x * 2 ≤ x * t := Int.mul_le_mul_of_nonneg_left hp (by omega)
  exact ⟨hx, by omega, h1', ⟨t, h2⟩⟩
def pp : List (Int × Int) → Int
  | [] => 1
  | u :: us => u.1 ^ u.2.toNat * pp us
theorem pp_snoc (u : Int × Int) : ∀ us, pp (us ++ [u]) = pp us * u.1 ^ u.2.toNat
  | [] => by show _ * 1 = 1 * _; rw [Int.mul_one, Int.one_mul]
  | v :: us => by
    show v.1 ^ v.2.toNat * pp (us ++ [u]) = v.1 ^ v.2.toNat * pp us * _
    rw [pp_snoc u us, Int.mul_assoc]
def Rise : Int → List (Int × Int) → Int → Prop
  | a, [], b => a < b
  | a, u :: us, b => a < u.1 ∧ isP u.1 = true ∧ 1 ≤ u.2 ∧ Rise u.1 us b
theorem Rise.lt : ∀ {a b : Int} {us}, Rise a us b → a < b
  | _, _, [], h => h
  | _, _, _ :: _, h => Int.lt_trans h.1 (Rise.lt h.2.2.2)
theorem Rise.mono {b b' : Int} (hb : b ≤ b') : ∀ {a us}, Rise a us b → Rise a us b'
  | _, [], h => Int.lt_of_lt_of_le h hb
  | _, _ :: _, h => ⟨h.1, h.2.1, h.2.2.1, Rise.mono hb h.2.2.2⟩
theorem Rise.snoc {b b' : Int} {u : Int × Int} (hu : isP u.1 = true) (h1 : 1 ≤ u.2) (hb : b ≤ u.1) (hb' : u.1 < b') : ∀ {a us}, Rise a us b → Rise a (us ++ [u]) b'
  | _, [], h => ⟨Int.lt_of_lt_of_le h hb, hu, h1, hb'⟩
  | _, _ :: _, h => ⟨h.1, h.2.1, h.2.2.1, Rise.snoc hu h1 hb hb' h.2.2.2⟩
structure DvI (k : Int) (fs : List (Int × Int)) (l b : Int) : Prop where
  rise : Rise 1 fs b
  prod : pp fs * l = k
  pos : 0 < l
  odd : l % 2 = 1
  b3 : 3 ≤ b
  bo : b % 2 = 1
  free : ∀ d, 3 ≤ d → d < b → d % 2 = 1 → ¬ d ∣ l
theorem DvI.prime {k : Int} {fs : List (Int × Int)} {l b e d : Int} (I : DvI k fs l b) (h : ndv l b e = some d) : isP d = true := by
  obtain ⟨h1, h2, h3, h4, h5, h6⟩ := ndv_some (Int.le_of_lt I.pos) (by have := I.b3; omega) h
  have hb := I.b3
  have hbo := I.bo
  refine isP_iff.mpr (.inr ⟨by omega, by omega, fun f g1 g2 g3 g4 => ?_⟩)
  have hfl : f ∣ l := Int.dvd_trans g4 h5
  have hfd : f < d := by
    have : f * 3 ≤ f * f := Int.mul_le_mul_of_nonneg_left g1 (by omega)
    omega
  rcases Int.lt_or_le f b with z | z
  · exact I.free f g1 z g3 hfl
  · exact h6 f z hfd (by omega) hfl
theorem DvI.step {k : Int} {fs : List (Int × Int)} {l b e d : Int} (I : DvI k fs l b) (h : ndv l b e = some d) : DvI k (fs ++ [(d, (tko l d).1)]) (tko l d).2 (d + 2) := by
  obtain ⟨h1, h2, h3, h4, h5, h6⟩ := ndv_some (Int.le_of_lt I.pos) (by have := I.b3; omega) h
  have hb := I.b3
  have hbo := I.bo
  obtain ⟨t1, t2, t3, t4⟩ := tko_lt (show 2 ≤ d by omega) I.pos h5
  obtain ⟨s1, s2, s3⟩ := tko_ok (show 2 ≤ d by omega) (show l ≠ 0 by have := I.pos; omega)
  refine ⟨I.rise.snoc (I.prime h) t3 h1 (by omega), ?_, t1, ?_, by omega, by omega, fun f g1 g2 g3 g4 => ?_⟩
  · rw [pp_snoc, Int.mul_assoc, Int.mul_comm (d ^ _), ← s2, I.prod]
  · have ho := I.odd
    obtain ⟨c, hc⟩ := t4
    rcases Int.emod_two_eq (tko l d).2 with z | z
    · obtain ⟨y, hy⟩ := Int.dvd_of_emod_eq_zero z
      rw [hy, Int.mul_assoc] at hc
      omega
    · exact z
  · have hfl : f ∣ l := Int.dvd_trans g4 t4
    rcases Int.lt_trichotomy f d with z | z | z
    · rcases Int.lt_or_le f b with y | y
      · exact I.free f g1 y g3 hfl
      · exact h6 f y z (by omega) hfl
    · rw [z] at g4; exact s3 g4
    · omega
theorem dvF_ok {k e : Int} : ∀ (n : Nat) (fs : List (Int × Int)) (l b : Int), DvI k fs l b → l ≤ n → ∃ b', DvI k (dvF e n fs l b).1 (dvF e n fs l b).2 b' ∧ ndv (dvF e n fs l b).2 b' e = none
  | 0, fs, l, b, I, h => by have := I.pos; omega
  | n + 1, fs, l, b, I, h => by
    unfold dvF
    cases hn : ndv l b e with
    | none => exact ⟨b, I, hn⟩
    | some d =>
      obtain ⟨h1, h2, h3, h4, h5, h6⟩ := ndv_some (Int.le_of_lt I.pos) (by have := I.b3; omega) hn
      obtain ⟨t1, t2, t3, t4⟩ := tko_lt (show 2 ≤ d by have := I.b3; omega) I.pos h5
      exact dvF_ok n _ _ _ (I.step hn) (by omega)
theorem dvd_start {k : Int} (hk : 1 ≤ k) : DvI k (dvd0 k) (tko k 2).2 3 ∧ (tko k 2).2 ≤ k := by
  obtain ⟨s1, s2, s3⟩ := tko_ok (show (2 : Int) ≤ 2 by decide) (show k ≠ 0 by omega)
  have hodd : (tko k 2).2 % 2 = 1 := by omega
  have hp : (0 : Int) < 2 ^ (tko k 2).1.toNat := Int.pow_pos (by decide)
  have hpos : 0 < (tko k 2).2 := by
    apply Classical.byContradiction
    intro hn
    have : (tko k 2).2 * 2 ^ (tko k 2).1.toNat ≤ 0 := Int.mul_nonpos_of_nonpos_of_nonneg (by omega) (by omega)
    omega
  have hle : (tko k 2).2 ≤ k := by
    have : (tko k 2).2 * 1 ≤ (tko k 2).2 * 2 ^ (tko k 2).1.toNat := Int.mul_le_mul_of_nonneg_left (by omega) (by omega)
    omega
  refine ⟨⟨?_, ?_, hpos, hodd, by decide, by decide, fun d h1 h2 => by omega⟩, hle⟩
  · unfold dvd0
    split
    · exact ⟨by show (1 : Int) < 2; decide, isP_two, by dsimp only; omega, by show (2 : Int) < 3; decide⟩
    · show (1 : Int) < 3; decide
  · unfold dvd0
    split
    · show (2 ^ (tko k 2).1.toNat * 1) * _ = k
      rw [Int.mul_one, Int.mul_comm]; exact s2.symm
    · have e : (tko k 2).1.toNat = 0 := by omega
      rw [e, Int.pow_zero, Int.mul_one] at s2
      show 1 * _ = k
      rw [Int.one_mul]; exact s2.symm
theorem dvdF_ok {k e : Int} (hk : 1 ≤ k) : ∃ b, DvI k (dvdF k e).1 (dvdF k e).2 b ∧ ndv (dvdF k e).2 b e = none := by
  obtain ⟨I, h⟩ := dvd_start hk
  exact dvF_ok k.toNat _ _ 3 I (by omega)
noncomputable def prt (k : Int) : List (Int × Int) := (dvdF k (k + 1)).1 ++ (if 1 < (dvdF k (k + 1)).2 then [((dvdF k (k + 1)).2, 1)] else [])
theorem pp_pos : ∀ {us : List (Int × Int)} {a b : Int}, 0 ≤ a → Rise a us b → 0 < pp us
  | [], _, _, _, _ => by show (0 : Int) < 1; decide
  | u :: us, a, b, ha, h => Int.mul_pos (Int.pow_pos (by have := h.1; omega)) (pp_pos (by have := h.1; omega) h.2.2.2)
theorem prt_ok {k : Int} (hk : 1 ≤ k) : (∃ b, Rise 1 (prt k) b) ∧ pp (prt k) = k := by
  obtain ⟨b, I, hn⟩ := dvdF_ok (e := k + 1) hk
  have hle : (dvdF k (k + 1)).2 ≤ k := by
    have h1 := I.prod
    have h2 := pp_pos (by decide) I.rise
    have h3 := I.pos
    have : 1 * (dvdF k (k + 1)).2 ≤ pp (dvdF k (k + 1)).1 * (dvdF k (k + 1)).2 := Int.mul_le_mul_of_nonneg_right (by omega) (by omega)
    omega
  unfold prt
  generalize dvdF k (k + 1) = r at *
  split
  · rename_i hl
    have hodd := I.odd
    have hb3 := I.b3
    have hbo := I.bo
    have hlb : b ≤ r.2 := by
      rcases Int.lt_or_le r.2 b with z | z
      · exact absurd (Int.dvd_refl r.2) (I.free r.2 (by omega) z hodd)
      · exact z
    have hpr : isP r.2 = true := by
      refine isP_iff.mpr (.inr ⟨by omega, hodd, fun f g1 g2 g3 g4 => ?_⟩)
      rcases Int.lt_or_le f b with z | z
      · exact I.free f g1 z g3 g4
      · refine ndv_none (by omega) (by omega) hn f z ?_ g2 (by omega) g4
        have : f * 3 ≤ f * f := Int.mul_le_mul_of_nonneg_left g1 (by omega)
        omega
    refine ⟨⟨r.2 + 1, I.rise.snoc hpr (Int.le_refl 1) hlb (by dsimp only; omega)⟩, ?_⟩
    rw [pp_snoc]
    show pp r.1 * r.2 ^ (1 : Int).toNat = k
    rw [show (1 : Int).toNat = 1 from rfl, Int.pow_succ, Int.pow_zero, Int.one_mul]
    exact I.prod
  · have : r.2 = 1 := by have := I.pos; omega
    rw [List.append_nil]
    refine ⟨⟨b, I.rise⟩, ?_⟩
    have := I.prod
    rw [‹r.2 = 1›, Int.mul_one] at this
    exact this
end EP

namespace EP
noncomputable def gl (n : Nat) (x b : Int) : Int := (dvF 32768 n [] x b).2
end EP

namespace EP
noncomputable def lessF (k p : Int) : Int := if (tko k p).1 % 2 = 1 then (tko k p).2 % (8 * p) * p else (tko k p).2 % (8 * p)
theorem cop_dvd {k n m : Int} (h : k ∣ n * m) (hg : Int.gcd k m = 1) : k ∣ n := by
  have := Int.dvd_mul_gcd_iff_dvd_mul.mpr h
  rw [hg] at this
  simpa using this
def Sqf (n : Int) : Prop := n ≠ 0 ∧ ∀ d : Int, 2 ≤ d → ¬ d * d ∣ n
theorem sqf_one : Sqf 1 := ⟨by decide, fun d hd h => by
  have := Int.le_of_dvd (by decide) h
  have : 2 * 2 ≤ d * d := Int.mul_le_mul hd hd (by decide) (by omega)
  omega⟩
theorem sqf_neg {n : Int} (h : Sqf n) : Sqf (-n) := ⟨by have := h.1; omega, fun d hd z => h.2 d hd (Int.dvd_neg.mp z)⟩
theorem gcd_prime {p d : Int} (hp : isP p = true) (h : ¬ p ∣ d) : Int.gcd d p = 1 := by
  have hp2 := isP_ge hp
  have h1 := isP_dvd hp (d := (Int.gcd d p : Int)) (by
    have : 0 < Int.gcd d p := Int.gcd_pos_of_ne_zero_right _ (by omega)
    omega) (Int.gcd_dvd_right ..)
  rcases h1 with h1 | h1
  · omega
  · exact absurd (by rw [← h1]; exact Int.gcd_dvd_left ..) h
theorem sqf_mul_prime {n p : Int} (h : Sqf n) (hp : isP p = true) (hn : ¬ p ∣ n) : Sqf (n * p) := ⟨Int.mul_ne_zero h.1 (by have := isP_ge hp; omega), fun d hd z => by
  have hp2 := isP_ge hp
  by_cases hpd : p ∣ d
  · obtain ⟨c, rfl⟩ := hpd
    have : p * p ∣ n * p := Int.dvd_trans ⟨c * c, by grind⟩ z
    exact hn (Int.dvd_of_mul_dvd_mul_right (by omega) this)
  · exact h.2 d hd (cop_dvd z (gcd_prime hp fun w => by rcases euclid hp w with w | w <;> exact hpd w))⟩
theorem gcd_sq {r s : Int} (hg : Int.gcd r s = 1) : Int.gcd (s * s) (r * r) = 1 := by
  have a : Int.gcd s (r * r) = 1 := by rw [Int.gcd_mul_right_right_of_gcd_eq_one (by rw [Int.gcd_comm]; exact hg), Int.gcd_comm]; exact hg
  rw [Int.gcd_mul_right_left_of_gcd_eq_one a]; exact a
theorem sqf_cop {f r s : Int} (hf : Sqf f) (hs : 0 < s) (hg : Int.gcd r s = 1) (h : s * s ∣ f * (r * r)) : s = 1 := by
  have h2 : s * s ∣ f := cop_dvd h (gcd_sq hg)
  rcases Int.lt_or_le s 2 with z | z
  · omega
  · exact absurd h2 (hf.2 s z)
theorem sqf_uniq {n f r s : Int} (hn : Sqf n) (hf : Sqf f) (hr : 0 < r) (hs : 0 < s) (e : n * (r * r) = f * (s * s)) : n = f ∧ r = s := by
  obtain ⟨g, r', s', hg, hgr, er, es⟩ : ∃ g r' s' : Int, 0 < g ∧ Int.gcd r' s' = 1 ∧ r = g * r' ∧ s = g * s' := by
    have h0 : 0 < Int.gcd r s := Int.gcd_pos_of_ne_zero_left _ (by omega)
    refine ⟨Int.gcd r s, r / Int.gcd r s, s / Int.gcd r s, by omega, ?_, (Int.mul_ediv_cancel' (Int.gcd_dvd_left ..)).symm, (Int.mul_ediv_cancel' (Int.gcd_dvd_right ..)).symm⟩
    rw [Int.gcd_ediv_gcd_ediv_gcd h0]
  subst er es
  have hr' : 0 < r' := by
    rcases Int.lt_or_le 0 r' with z | z
    · exact z
    · have := Int.mul_nonpos_of_nonneg_of_nonpos (Int.le_of_lt hg) z; omega
  have hs' : 0 < s' := by
    rcases Int.lt_or_le 0 s' with z | z
    · exact z
    · have := Int.mul_nonpos_of_nonneg_of_nonpos (Int.le_of_lt hg) z; omega
  have e' : n * (r' * r') = f * (s' * s') := by
    have : (g * g) * (n * (r' * r')) = (g * g) * (f * (s' * s')) := by grind
    exact Int.eq_of_mul_eq_mul_left (Int.mul_ne_zero (by omega) (by omega)) this
  have h1 : s' = 1 := sqf_cop hn hs' hgr ⟨f, by grind⟩
  have h2 : r' = 1 := sqf_cop hf hr' (by rw [Int.gcd_comm]; exact hgr) ⟨n, by grind⟩
  subst h1 h2
  exact ⟨by omega, rfl⟩
def Smo (A : Int) : Prop := ∀ q, isP q = true → q ∣ A → q < 32768
def Rgh (l : Int) : Prop := ∀ q, isP q = true → q ∣ l → 32768 ≤ q
theorem has_prime {k : Int} (h : 2 ≤ k) : ∃ q, isP q = true ∧ q ∣ k := by
  obtain ⟨⟨b, hr⟩, hp⟩ := prt_ok (k := k) (by omega)
  cases hq : prt k with
  | nil => rw [hq] at hp; simp only [pp] at hp; omega
  | cons u us =>
    rw [hq] at hr hp
    refine ⟨u.1, hr.2.1, ?_⟩
    rw [← hp, pp]
    have h1 := hr.2.2.1
    obtain ⟨m, hm⟩ : ∃ m, u.2.toNat = m + 1 := ⟨u.2.toNat - 1, by omega⟩
    rw [hm, Int.pow_succ]
    exact ⟨u.1 ^ m * pp us, by grind⟩
theorem cop_of {a b : Int} (h : ∀ q, isP q = true → q ∣ a → ¬ q ∣ b) (ha : a ≠ 0) : Int.gcd a b = 1 := by
  have h0 : 0 < Int.gcd a b := Int.gcd_pos_of_ne_zero_left _ ha
  rcases Nat.lt_or_ge (Int.gcd a b) 2 with z | z
  · omega
  · obtain ⟨q, h1, h2⟩ := has_prime (k := (Int.gcd a b : Int)) (by omega)
    exact absurd (Int.dvd_trans h2 (Int.gcd_dvd_right ..)) (h q h1 (Int.dvd_trans h2 (Int.gcd_dvd_left ..)))
theorem smo_rgh {A l : Int} (ha : Smo A) (hl : Rgh l) (h0 : l ≠ 0) : Int.gcd l A = 1 := cop_of (fun q h1 h2 h3 => by have := ha q h1 h3; have := hl q h1 h2; omega) h0
theorem smo_mul {A B : Int} (ha : Smo A) (hb : Smo B) : Smo (A * B) := fun q h1 h2 => by rcases euclid h1 h2 with z | z; exact ha q h1 z; exact hb q h1 z
theorem rgh_mul {A B : Int} (ha : Rgh A) (hb : Rgh B) : Rgh (A * B) := fun q h1 h2 => by rcases euclid h1 h2 with z | z; exact ha q h1 z; exact hb q h1 z
theorem smo_lt {A : Int} (h0 : 0 < A) (h : A < 32768) : Smo A := fun q _ h2 => by have := Int.le_of_dvd h0 h2; omega
theorem rgh_one : Rgh 1 := fun q h1 h2 => by have := Int.le_of_dvd (by decide) h2; have := isP_ge h1; omega
theorem smo_pow {q : Int} (hq : isP q = true) (h : q < 32768) : ∀ n : Nat, Smo (q ^ n)
  | 0 => fun r h1 h2 => by rw [Int.pow_zero] at h2; have := Int.le_of_dvd (by decide) h2; have := isP_ge h1; omega
  | n + 1 => by
    rw [Int.pow_succ]
    exact smo_mul (smo_pow hq h n) fun r h1 h2 => by have := Int.le_of_dvd (by have := isP_ge hq; omega) h2; omega
theorem ndv_odd_free {l b : Int} (hl : 0 < l) (ho : l % 2 = 1) (b3 : 3 ≤ b) (bo : b % 2 = 1) (hf : ∀ d, 3 ≤ d → d < b → d % 2 = 1 → ¬ d ∣ l) (hn : ndv l b 32768 = none) : ∀ d, 3 ≤ d → d < 32768 → d * d ≤ l → d % 2 = 1 → ¬ d ∣ l := fun d h1 h2 h3 h4 => by
  rcases Int.lt_or_le d b with z | z
  · exact hf d h1 z h4
  · exact ndv_none (by omega) (by omega) hn d z h2 h3 (by omega)
theorem left_prime {k b l : Int} {fs : List (Int × Int)} (I : DvI k fs l b) (hn : ndv l b 32768 = none) (h1 : 1 < l) (h2 : l < 1073741824) : isP l = true ∧ b ≤ l := by
  have hf := ndv_odd_free I.pos I.odd I.b3 I.bo I.free hn
  have ho := I.odd
  refine ⟨isP_iff.mpr (.inr ⟨by omega, ho, fun d a1 a2 a3 => hf d a1 ?_ a2 a3⟩), ?_⟩
  · rcases Int.lt_or_le d 32768 with z | z
    · exact z
    · have : 32768 * 32768 ≤ d * d := Int.mul_le_mul z z (by decide) (by omega)
      omega
  · rcases Int.lt_or_le l b with z | z
    · exact absurd (Int.dvd_refl l) (I.free l (by omega) z ho)
    · exact z
theorem left_rough {k b l : Int} {fs : List (Int × Int)} (I : DvI k fs l b) (hn : ndv l b 32768 = none) (h : 1073741824 ≤ l) : Rgh l := fun q h1 h2 => by
  have hf := ndv_odd_free I.pos I.odd I.b3 I.bo I.free hn
  rcases Int.lt_or_le q 32768 with z | z
  · rcases isP_iff.mp h1 with w | ⟨w1, w2, w3⟩
    · subst w; have := I.odd; omega
    · have : q * q ≤ 32768 * 32768 := Int.mul_le_mul (by omega) (by omega) (by omega) (by decide)
      exact absurd h2 (hf q w1 z (by omega) w2)
  · exact z

end EP

namespace EP
theorem dvF_small {k e : Int} : ∀ (n : Nat) (fs : List (Int × Int)) (l b : Int), DvI k fs l b → (∀ u ∈ fs, u.1 < e) → ∀ u ∈ (dvF e n fs l b).1, u.1 < e
  | 0, fs, l, b, I, h => h
  | n + 1, fs, l, b, I, h => by
    unfold dvF
    cases hd : ndv l b e with
    | none => exact h
    | some d =>
      refine dvF_small n _ _ _ (I.step hd) fun u hu => ?_
      rcases List.mem_append.mp hu with z | z
      · exact h u z
      · have := ndv_some (Int.le_of_lt I.pos) (by have := I.b3; omega) hd
        simp only [List.mem_singleton] at z
        subst z
        exact this.2.1
theorem dvdF_small {k e : Int} (hk : 1 ≤ k) (he : 2 < e) : ∀ u ∈ (dvdF k e).1, u.1 < e := by
  refine dvF_small _ _ _ _ (dvd_start hk).1 fun u hu => ?_
  unfold dvd0 at hu
  split at hu
  · simp only [List.mem_singleton] at hu
    subst hu; exact he
  · cases hu
theorem rise_mem : ∀ {us : List (Int × Int)} {a b : Int}, Rise a us b → ∀ u ∈ us, isP u.1 = true ∧ 1 ≤ u.2
  | u :: us, a, b, h, v, hv => by
    rcases List.mem_cons.mp hv with z | z
    · subst z; exact ⟨h.2.1, h.2.2.1⟩
    · exact rise_mem h.2.2.2 v z
theorem smo_pp : ∀ {us : List (Int × Int)}, (∀ u ∈ us, isP u.1 = true ∧ u.1 < 32768) → Smo (pp us)
  | [], _ => fun q h1 h2 => by have h3 : q ∣ 1 := h2; have := Int.le_of_dvd (by decide) h3; have := isP_ge h1; omega
  | u :: us, h => smo_mul (smo_pow (h u (List.mem_cons_self ..)).1 (h u (List.mem_cons_self ..)).2 _) (smo_pp fun v hv => h v (List.mem_cons_of_mem _ hv))
theorem smo_rgh_of {s : Int} (hs : 1 ≤ s) : ∃ A L, Smo A ∧ Rgh L ∧ 0 < A ∧ 0 < L ∧ s = A * L := by
  obtain ⟨b, I, hn⟩ := dvdF_ok (k := s) (e := 32768) hs
  have hs' : Smo (pp (dvdF s 32768).1) := smo_pp fun u hu => ⟨(rise_mem I.rise u hu).1, dvdF_small hs (by decide) u hu⟩
  have hp := pp_pos (by decide) I.rise
  have hl := I.pos
  by_cases h1 : (dvdF s 32768).2 < 32768
  · exact ⟨s, 1, by rw [← I.prod]; exact smo_mul hs' (smo_lt hl h1), rgh_one, by omega, by decide, by omega⟩
  · refine ⟨_, _, hs', ?_, hp, hl, I.prod.symm⟩
    by_cases h2 : (dvdF s 32768).2 < 1073741824
    · have := left_prime I hn (by omega) h2
      intro q q1 q2
      rcases isP_dvd this.1 (by have := isP_ge q1; omega) q2 with z | z
      · have := isP_ge q1; omega
      · omega
    · exact left_rough I hn (by omega)
theorem rgh_eq {A B l L : Int} (hA : Smo A) (hB : Smo B) (hl : Rgh l) (hL : Rgh L) (h0 : 0 < l) (h1 : 0 < L) (e : A * l = B * L) : l = L := by
  have d1 : l ∣ L := cop_dvd (k := l) (n := L) (m := B) ⟨A, by grind⟩ (smo_rgh hB hl (by omega))
  have d2 : L ∣ l := cop_dvd (k := L) (n := l) (m := A) ⟨B, by grind⟩ (smo_rgh hA hL (by omega))
  have := Int.le_of_dvd h1 d1
  have := Int.le_of_dvd h0 d2
  omega
def Tame (k : Int) : Prop := (∃ f s, Smo f ∧ 0 < f ∧ 1 ≤ s ∧ k = f * (s * s)) ∨ (∃ f P, Smo f ∧ 0 < f ∧ isP P = true ∧ P < 1073741824 ∧ k = f * P)
theorem tame_left {k b l : Int} {fs : List (Int × Int)} (h : Tame k) (hk : 1 ≤ k) (I : DvI k fs l b) (hf : ∀ u ∈ fs, u.1 < 32768) (hn : ndv l b 32768 = none) : l < 1073741824 ∨ rt l * rt l = l := by
  rcases Int.lt_or_le l 1073741824 with z | z
  · exact .inl z
  have hl := left_rough I hn z
  have hs' : Smo (pp fs) := smo_pp fun u hu => ⟨(rise_mem I.rise u hu).1, hf u hu⟩
  have hpr := I.prod
  rcases h with ⟨f, s, h1, h2, h3, h4⟩ | ⟨f, P, h1, h2, h3, h4, h5⟩
  · obtain ⟨A, L, a1, a2, a3, a4, a5⟩ := smo_rgh_of h3
    have e : l = L * L := rgh_eq hs' (smo_mul h1 (smo_mul a1 a1)) hl (rgh_mul a2 a2) (by omega) (Int.mul_pos a4 a4) (by rw [hpr, h4, a5]; grind)
    right
    have : L = rt l := rt_unique (by omega) (by omega) (by rw [e]; grind)
    rw [← this, e]
  · have d1 : l ∣ P := cop_dvd (k := l) (n := P) (m := f) ⟨pp fs, by grind⟩ (smo_rgh h1 hl (by omega))
    have := Int.le_of_dvd (by have := isP_ge h3; omega) d1
    omega
def frS (c : Int × Int) (u : Int × Int) : Int × Int := (if u.2 % 2 = 1 then c.1 * u.1 else c.1, c.2 * u.1 ^ (u.2 / 2).toNat)
theorem frS_ok : ∀ {us : List (Int × Int)} {a b : Int} {c : Int × Int}, Rise a us b → Sqf c.1 → (∀ q, isP q = true → a < q → ¬ q ∣ c.1) → 0 < c.2 →
    Sqf (us.foldl frS c).1 ∧ 0 < (us.foldl frS c).2 ∧ (us.foldl frS c).1 * ((us.foldl frS c).2 * (us.foldl frS c).2) = c.1 * (c.2 * c.2) * pp us
  | [], a, b, c, _, hs, _, h0 => ⟨hs, h0, by simp [pp]⟩
  | u :: us, a, b, c, hr, hs, hq, h0 => by
    obtain ⟨r1, r2, r3, r4⟩ := hr
    have hu2 := isP_ge r2
    have hpow : 0 < u.1 ^ (u.2 / 2).toNat := Int.pow_pos (by omega)
    have hS : Sqf (frS c u).1 := by
      unfold frS; dsimp only
      split
      · exact sqf_mul_prime hs r2 (hq _ r2 r1)
      · exact hs
    have hQ : ∀ q, isP q = true → u.1 < q → ¬ q ∣ (frS c u).1 := fun q h1 h2 h3 => by
      unfold frS at h3; dsimp only at h3
      split at h3
      · rcases euclid h1 h3 with z | z
        · exact hq q h1 (by omega) z
        · have := Int.le_of_dvd (by omega) z; omega
      · exact hq q h1 (by omega) h3
    have hP : 0 < (frS c u).2 := Int.mul_pos h0 hpow
    obtain ⟨i1, i2, i3⟩ := frS_ok (c := frS c u) r4 hS hQ hP
    refine ⟨i1, i2, ?_⟩
    rw [List.foldl_cons, i3, pp]
    have hpw : (if u.2 % 2 = 1 then u.1 else 1) * (u.1 ^ (u.2 / 2).toNat * u.1 ^ (u.2 / 2).toNat) = u.1 ^ u.2.toNat := by
      rw [← Int.pow_add]
      by_cases z : u.2 % 2 = 1
      · rw [if_pos z, show u.2.toNat = ((u.2 / 2).toNat + (u.2 / 2).toNat) + 1 by omega, Int.pow_succ, Int.mul_comm]
      · rw [if_neg z, Int.one_mul, show u.2.toNat = (u.2 / 2).toNat + (u.2 / 2).toNat by omega]
    unfold frS
    dsimp only
    rw [← hpw]
    generalize u.1 ^ (u.2 / 2).toNat = y
    split <;> grind
noncomputable def tpM (k : Int) : List (Int × Int) × Int :=
  if 1 < (dvdF k 32768).2 ∧ (dvdF k 32768).2 < 1073741824 then ((dvdF k 32768).1 ++ [((dvdF k 32768).2, 1)], 1) else ((dvdF k 32768).1, rt (dvdF k 32768).2)
theorem tpM_ok {k : Int} (hk : 1 ≤ k) (ht : Tame k) : (1 < (dvdF k 32768).2 ∧ (dvdF k 32768).2 < 1073741824 ∨ rt (dvdF k 32768).2 * rt (dvdF k 32768).2 = (dvdF k 32768).2) ∧ (∃ b, Rise 1 (tpM k).1 b) ∧ 0 < (tpM k).2 ∧ pp (tpM k).1 * ((tpM k).2 * (tpM k).2) = k := by
  obtain ⟨b, I, hn⟩ := dvdF_ok (k := k) (e := 32768) hk
  have hl := tame_left ht hk I (dvdF_small hk (by decide)) hn
  have hpos := I.pos
  have hprod := I.prod
  unfold tpM
  by_cases h1 : 1 < (dvdF k 32768).2 ∧ (dvdF k 32768).2 < 1073741824
  · rw [if_pos h1]
    obtain ⟨p1, p2⟩ := left_prime I hn h1.1 h1.2
    refine ⟨.inl h1, ⟨_, Rise.snoc p1 (by dsimp only; decide) p2 (b' := (dvdF k 32768).2 + 1) (by dsimp only; omega) I.rise⟩, by dsimp only; decide, ?_⟩
    dsimp only
    rw [pp_snoc]
    dsimp only
    rw [show (1 : Int).toNat = 1 from rfl, Int.pow_succ, Int.pow_zero, Int.one_mul, Int.mul_one, Int.mul_one, hprod]
  · rw [if_neg h1]
    have hsq : rt (dvdF k 32768).2 * rt (dvdF k 32768).2 = (dvdF k 32768).2 := by
      rcases hl with z | z
      · have e1 : (dvdF k 32768).2 = 1 := by omega
        rw [e1]
        have : (1 : Int) = rt 1 := rt_unique (by decide) (by decide) (by decide)
        rw [← this]; rfl
      · exact z
    have h0 := rt_nonneg (dvdF k 32768).2
    refine ⟨.inr hsq, ⟨b, I.rise⟩, ?_, ?_⟩
    · dsimp only
      rcases Int.lt_or_eq_of_le h0 with z | z
      · exact z
      · rw [← z] at hsq; omega
    · dsimp only
      rw [hsq, hprod]
noncomputable def frN (t b : Int) : Int × Int := (tpM (t.natAbs * b)).1.foldl frS (if 0 < t then 1 else -1, (tpM (t.natAbs * b)).2)
theorem frN_ok {t b f s : Int} (ht : t ≠ 0) (hb : 0 < b) (htm : Tame (t.natAbs * b)) (hf : Sqf f) (hs : 0 < s) (e : t * b = f * (s * s)) : frN t b = (f, s) := by
  have hk : 1 ≤ (t.natAbs : Int) * b := by
    have : 0 < (t.natAbs : Int) * b := Int.mul_pos (by omega) hb
    omega
  obtain ⟨_, ⟨b', hr⟩, h0, hp⟩ := tpM_ok hk htm
  have hS : Sqf (if 0 < t then (1 : Int) else -1) := by split; exact sqf_one; exact sqf_neg sqf_one
  have hQ : ∀ q, isP q = true → 1 < q → ¬ q ∣ (if 0 < t then (1 : Int) else -1) := fun q h1 h2 h3 => by
    split at h3
    · have := Int.le_of_dvd (by decide) h3; omega
    · have := Int.le_of_dvd (by decide) (Int.dvd_neg.mp h3); omega
  obtain ⟨a1, a2, a3⟩ := frS_ok (c := (if 0 < t then (1 : Int) else -1, (tpM (t.natAbs * b)).2)) hr hS hQ h0
  have a4 : (frN t b).1 * ((frN t b).2 * (frN t b).2) = f * (s * s) := by
    show ((tpM (t.natAbs * b)).1.foldl frS _).1 * (((tpM (t.natAbs * b)).1.foldl frS _).2 * ((tpM (t.natAbs * b)).1.foldl frS _).2) = _
    rw [a3, ← e]
    dsimp only
    rw [show (if 0 < t then (1 : Int) else -1) * ((tpM (t.natAbs * b)).2 * (tpM (t.natAbs * b)).2) * pp (tpM (t.natAbs * b)).1 = (if 0 < t then (1 : Int) else -1) * (pp (tpM (t.natAbs * b)).1 * ((tpM (t.natAbs * b)).2 * (tpM (t.natAbs * b)).2)) by grind, hp]
    by_cases z : 0 < t
    · rw [if_pos z, show (t.natAbs : Int) = t by omega]; omega
    · rw [if_neg z, show (t.natAbs : Int) = -t by omega]; grind
  obtain ⟨u1, u2⟩ := sqf_uniq a1 hf a2 hs a4
  exact Prod.ext u1 u2
end EP

namespace EP
def spF : List Int → Int → Int
  | [], _ => 1
  | q :: qs, c => (if c % 2 = 1 then q else 1) * spF qs (c / 2)
def frA : List Int → Int → Int → Int
  | [], _, n => n
  | q :: qs, c, n => frA qs (c / 2) (if c % 2 = 1 then n * q else n)
def grF : List Int → Int → Int
  | [], k => k
  | q :: qs, k => grF qs (if k % q = 0 then k / q else k)
def P8 : List Int := [2, 3, 5, 7, 11, 13, 17, 19]
noncomputable def xtr (c : Int) : Int := if c % 4 = 1 then pf (20 + c / 4 % 30000) else if c % 4 = 3 then pf (32768 + c / 4 % 1000000) else 1
noncomputable def fre (c : Int) : Int := (1 - 2 * (c % 2)) * (spF P8 (c / 2) * xtr (c / 512))
noncomputable def grt (c : Int) : Bool := decide (32767 < xtr (c / 512))
noncomputable def frd (u : Int × Int) : Int × (Int × Int) := ((frN u.1 u.2).1, fr (frN u.1 u.2).2 u.2)
end EP

namespace EP
theorem pp_app : ∀ (a b : List (Int × Int)), pp (a ++ b) = pp a * pp b
  | [], b => by simp [pp]
  | u :: a, b => by rw [List.cons_append, pp, pp, pp_app a b, Int.mul_assoc]
theorem rise_take : ∀ {us : List (Int × Int)} {a b : Int}, Rise a us b → ∀ i, ∃ b', Rise a (us.take i) b'
  | us, a, b, h, 0 => ⟨a + 1, by rw [List.take_zero]; show a < a + 1; omega⟩
  | [], a, b, h, i + 1 => ⟨b, h⟩
  | u :: us, a, b, h, i + 1 => by
    obtain ⟨b', h'⟩ := rise_take h.2.2.2 i
    exact ⟨b', h.1, h.2.1, h.2.2.1, h'⟩
theorem rise_drop : ∀ {us : List (Int × Int)} {a b : Int}, Rise a us b → ∀ i, ∃ a', Rise a' (us.drop i) b ∧ a ≤ a'
  | us, a, b, h, 0 => ⟨a, h, Int.le_refl _⟩
  | [], a, b, h, i + 1 => ⟨a, h, Int.le_refl _⟩
  | u :: us, a, b, h, i + 1 => by
    obtain ⟨a', h', hl⟩ := rise_drop h.2.2.2 i
    exact ⟨a', h', by have := h.1; omega⟩
theorem mul_ge {a b : Int} (ha : 0 < a) (hb : 1 ≤ b) : a ≤ a * b := by
  have : a * 1 ≤ a * b := Int.mul_le_mul_of_nonneg_left hb (by omega)
  omega
theorem fold_bd {us : List (Int × Int)} {b sg R : Int} (hr : Rise 1 us b) (hR : 0 < R) (hs : sg = 1 ∨ sg = -1) (i : Nat) :
    ((us.take i).foldl frS (sg, R)).1.natAbs ≤ (pp us * (R * R)).natAbs ∧ 0 < ((us.take i).foldl frS (sg, R)).2 ∧ ((us.take i).foldl frS (sg, R)).2 ≤ pp us * (R * R) := by
  obtain ⟨b', h'⟩ := rise_take hr i
  obtain ⟨a'', h'', hl⟩ := rise_drop hr i
  have hS : Sqf sg := by rcases hs with z | z <;> rw [z]; exact sqf_one; exact sqf_neg sqf_one
  have hQ : ∀ q, isP q = true → 1 < q → ¬ q ∣ sg := fun q h1 h2 h3 => by
    rcases hs with z | z
    · rw [z] at h3; have := Int.le_of_dvd (by decide) h3; omega
    · rw [z] at h3; have := Int.le_of_dvd (by decide) (Int.dvd_neg.mp h3); omega
  obtain ⟨a1, a2, a3⟩ := frS_ok (c := (sg, R)) h' hS hQ hR
  have e : pp us = pp (us.take i) * pp (us.drop i) := by rw [← pp_app, List.take_append_drop]
  have p1 := pp_pos (by decide) h'
  have p2 := pp_pos (show 0 ≤ a'' by omega) h''
  have RR := Int.mul_pos hR hR
  dsimp only at a3
  generalize (us.take i).foldl frS (sg, R) = c at *
  have n1 : (c.1.natAbs : Int) * (c.2 * c.2) = pp (us.take i) * (R * R) := by
    have h1 : 0 < c.2 * c.2 := Int.mul_pos a2 a2
    have h2 : 0 < pp (us.take i) * (R * R) := Int.mul_pos p1 RR
    generalize c.2 * c.2 = X at *
    generalize R * R = Y at *
    generalize pp (us.take i) = Z at *
    have h3 := congrArg Int.natAbs a3
    rw [Int.natAbs_mul, Int.natAbs_mul, Int.natAbs_mul, show sg.natAbs = 1 by rcases hs with z | z <;> rw [z] <;> rfl, Nat.one_mul] at h3
    have h4 : ((c.1.natAbs * X.natAbs : Nat) : Int) = ((Y.natAbs * Z.natAbs : Nat) : Int) := by rw [h3]
    rw [Int.natCast_mul, Int.natCast_mul, show (X.natAbs : Int) = X by omega, show (Y.natAbs : Int) = Y by omega, show (Z.natAbs : Int) = Z by omega] at h4
    rw [h4, Int.mul_comm]
  have k1 : pp (us.take i) * (R * R) ≤ pp us * (R * R) := by
    rw [e]
    exact Int.mul_le_mul_of_nonneg_right (mul_ge p1 (by omega)) (by omega)
  have n0 : 0 < (c.1.natAbs : Int) := by have := a1.1; omega
  have c2 : 0 < c.2 * c.2 := Int.mul_pos a2 a2
  have m1 := mul_ge n0 (show 1 ≤ c.2 * c.2 by omega)
  have m2 : c.2 * c.2 ≤ (c.1.natAbs : Int) * (c.2 * c.2) := by rw [Int.mul_comm (c.1.natAbs : Int)]; exact mul_ge c2 (by omega)
  have m3 := mul_ge a2 (show 1 ≤ c.2 by omega)
  exact ⟨by omega, a2, by omega⟩
theorem part_bd {us : List (Int × Int)} {b : Int} (hr : Rise 1 us b) {i : Nat} {u : Int × Int} (hu : us[i]? = some u) : 2 ≤ u.1 ∧ 1 ≤ u.2 ∧ u.1 ^ (u.2 / 2).toNat ≤ pp us ∧ u.1 ≤ pp us ∧ (u.2 : Int) < pp us := by
  have hm := rise_mem hr u (List.mem_of_getElem? hu)
  have h2 := isP_ge hm.1
  have hi : i < us.length := (List.getElem?_eq_some_iff.mp hu).1
  have e : us.drop i = u :: us.drop (i + 1) := by
    rw [List.drop_eq_getElem_cons hi]
    rw [List.getElem?_eq_getElem hi] at hu
    rw [Option.some.inj hu]
  obtain ⟨b', h'⟩ := rise_take hr i
  obtain ⟨a'', h'', hl⟩ := rise_drop hr (i + 1)
  have e2 : pp us = pp (us.take i) * (u.1 ^ u.2.toNat * pp (us.drop (i + 1))) := by
    have : pp us = pp (us.take i ++ us.drop i) := by rw [List.take_append_drop]
    rw [this, pp_app, e, pp]
  have p1 := pp_pos (by decide) h'
  have p2 := pp_pos (show 0 ≤ a'' by omega) h''
  have p3 : 0 < u.1 ^ u.2.toNat := Int.pow_pos (by omega)
  have l1 : u.1 ^ u.2.toNat ≤ pp us := by
    rw [e2]
    have := mul_ge p3 (show 1 ≤ pp (us.drop (i + 1)) by omega)
    have q := Int.mul_pos p3 p2
    have w : u.1 ^ u.2.toNat * pp (us.drop (i + 1)) ≤ pp (us.take i) * (u.1 ^ u.2.toNat * pp (us.drop (i + 1))) := by rw [Int.mul_comm (pp (us.take i))]; exact mul_ge q (by omega)
    omega
  have mono : ∀ m n : Nat, m ≤ n → u.1 ^ m ≤ u.1 ^ n := fun m n hmn => by
    obtain ⟨d, rfl⟩ : ∃ d, n = m + d := ⟨n - m, by omega⟩
    rw [Int.pow_add]
    exact mul_ge (Int.pow_pos (by omega)) (by have := Int.pow_pos (n := u.1) (m := d) (by omega); omega)
  refine ⟨h2, hm.2, Int.le_trans (mono _ _ (by omega)) l1, ?_, ?_⟩
  · have := mono 1 u.2.toNat (by omega)
    rw [Int.pow_succ, Int.pow_zero, Int.one_mul] at this
    omega
  · have : ((u.2.toNat : Nat) : Int) < u.1 ^ u.2.toNat := by
      have g : ∀ n : Nat, (n : Int) < u.1 ^ n := fun n => by
        induction n with
        | zero => rw [Int.pow_zero]; decide
        | succ n ih =>
          rw [Int.pow_succ]
          have : u.1 ^ n * 2 ≤ u.1 ^ n * u.1 := Int.mul_le_mul_of_nonneg_left h2 (Int.le_of_lt (Int.pow_pos (by omega)))
          omega
      exact g _
    omega
def frC : List Int → Int → Int
  | [], c => c
  | _ :: qs, c => frC qs (c / 2)
noncomputable def sdF (c : Int) (g : Bool) : Int := if g = true then 1 + c / 4 % 30000 else if c % 4 = 1 then pf (40000 + c / 4 % 300) * (1 + c / 1200 % 50) else 1 + c / 4 % 1000000
end EP

namespace EP
def evn (L : List Int) (f : Int → Bool) : Bool := decide ((L.filter fun p => !f p).length % 2 = 0)
structure Pls (L : List Int) : Prop where
  nd : L.Nodup
  pr : ∀ p ∈ L, isP p = true
  two : (2 : Int) ∈ L
def Ove (L : List Int) (x : Int) : Prop := x ≠ 0 ∧ ∀ q, isP q = true → q ∣ x → q ∈ L
theorem zero_not {L : List Int} (h : Pls L) : (0 : Int) ∉ L := fun z => by have := isP_ge (h.pr 0 z); omega
theorem Pls.all {L : List Int} (h : Pls L) : ((0 : Int) :: L).Nodup := List.nodup_cons.mpr ⟨zero_not h, h.nd⟩
theorem Pls.pl {L : List Int} (h : Pls L) : ∀ p ∈ (0 : Int) :: L, Pl p := fun p hp => by
  rcases List.mem_cons.mp hp with z | z
  · exact .inl z
  · exact .inr (h.pr p z)
noncomputable def evs (L : List Int) (x y : Int) : Bool := evn (0 :: L) (saysF x y)
theorem prime_dvd_prime {p q : Int} (hp : isP p = true) (hq : isP q = true) (h : p ∣ q) : p = q := by
  have h1 := isP_ge hp
  have h2 := isP_ge hq
  apply Classical.byContradiction
  intro hn
  have hg := gcd_prime (p := p) (d := q) hp
  by_cases z : q ∣ p
  · have a := Int.le_of_dvd (by omega) h
    have b := Int.le_of_dvd (by omega) z
    omega
  · have e := gcd_prime (p := q) (d := p) hq z
    have := Int.dvd_coe_gcd (Int.dvd_refl p) h
    rw [e] at this
    have := Int.le_of_dvd (by decide) this
    omega
theorem tame_lt {k : Int} (h1 : 1 ≤ k) (h2 : k < 1073741824) : Tame k := by
  by_cases hs : Smo k
  · exact .inl ⟨k, 1, hs, by omega, by decide, by omega⟩
  · have ⟨q, hq⟩ := Classical.not_forall.mp hs
    have ⟨q1, hq'⟩ := Classical.not_imp.mp hq
    have ⟨⟨f, hf⟩, q3⟩ := Classical.not_imp.mp hq'
    have f0 : 0 < f := by
      apply Classical.byContradiction
      intro hn
      have : q * f ≤ 0 := Int.mul_nonpos_of_nonneg_of_nonpos (by omega) (by omega)
      omega
    have hl : f < 32768 := by
      apply Classical.byContradiction
      intro hn
      have : 32768 * 32768 ≤ q * f := Int.mul_le_mul (by omega) (by omega) (by decide) (by omega)
      omega
    have hq2 : q < 1073741824 := by
      have : q * 1 ≤ q * f := Int.mul_le_mul_of_nonneg_left (by omega) (by omega)
      omega
    exact .inr ⟨f, q, smo_lt f0 hl, f0, q1, hq2, by rw [hf]; exact Int.mul_comm ..⟩
theorem free_ex : ∀ (n : Nat) (x : Int), x ≠ 0 → x.natAbs ≤ n → ∃ f s, Sqf f ∧ 0 < s ∧ x = f * (s * s)
  | 0, x, h0, hn => absurd (show x = 0 by omega) h0
  | n + 1, x, h0, hn => by
    by_cases hs : Sqf x
    · exact ⟨x, 1, hs, by decide, by omega⟩
    · have hs' : ¬ ∀ d : Int, 2 ≤ d → ¬ d * d ∣ x := fun z => hs ⟨h0, z⟩
      have ⟨d, hd⟩ := Classical.not_forall.mp hs'
      have ⟨d2, hd'⟩ := Classical.not_imp.mp hd
      have ⟨c, hc⟩ := Classical.not_not.mp hd'
      have c0 : c ≠ 0 := by rintro rfl; exact h0 (by rw [hc, Int.mul_zero])
      have hl : c.natAbs ≤ n := by
        have e : x.natAbs = (d * d).natAbs * c.natAbs := by rw [hc, Int.natAbs_mul]
        have : 2 ≤ (d * d).natAbs := by
          have : 2 * 2 ≤ d * d := Int.mul_le_mul d2 d2 (by decide) (by omega)
          omega
        have : 2 * c.natAbs ≤ (d * d).natAbs * c.natAbs := Nat.mul_le_mul_right _ this
        omega
      obtain ⟨f, s, h1, h2, h3⟩ := free_ex n c c0 hl
      exact ⟨f, s * d, h1, Int.mul_pos h2 (by omega), by rw [hc, h3]; grind⟩
theorem free_le {x f s : Int} (hs : 0 < s) (e : x = f * (s * s)) : f.natAbs ≤ x.natAbs := by
  rw [e, Int.natAbs_mul]
  have : 1 ≤ (s * s).natAbs := by have := Int.mul_pos hs hs; omega
  have := Nat.mul_le_mul_left f.natAbs this
  omega
end EP

namespace L2.EP
open PySem PySem.Spec PyProof.Rows
section
variable {X : Cx} {Γ : GEnv} {D : GD} {α β : Type} [Py α] [Py β] {e e1 e2 : Expr} {b b1 b2 : Bool} {pos : Pos} {rest : List Stmt}
theorem e_shl {i j : Int} (ha : E X Γ e1 b1 i) (hb : E X Γ e2 b2 j) (hc : CPow i j) : E X Γ (.BinOp e1 .LShift e2 pos) true (i * 2 ^ j.toNat) := by
  with_unfolding_all
    exact e_ii (g := fun i j => i * 2 ^ j.toNat) op_shl ha hb hc
theorem mt_bits : MtR X "int.bit_length" (fun x xs H Q => ∃ i, x = .int i ∧ xs = [] ∧ Q (.int (Builtin.Int.intBits i : Nat)) H) := by
  intro pins s σ H x xs v us Q I r rs h
  obtain ⟨i, rfl, rfl, q⟩ := h
  obtain ⟨t, rfl⟩ := r
  cases rs
  exact call_int_bit_length ⟨.int (Builtin.Int.intBits i : Nat), H, I.tok _, ⟨_, rfl⟩, q⟩
theorem e_bits {i : Int} {apos : Pos} (ha : E X Γ e b i) (hbase : attributeBase e "bit_length" X.env (eval e X.env) = eval e X.env := by rfl) (hline : (apos.endLine == pos.line) = true := by rfl) : E X Γ (.Call (.Attribute e "bit_length" apos) [] [] pos) true ((Builtin.Int.intBits i : Nat) : Int) := by
  with_unfolding_all
    exact pe_wk (pe_bm0 PySem.F.plainAttrs_int PySem.F.slot_int_bit_length PySem.F.type_int_bit_length mt_bits ha hbase hline) fun σ H Q ⟨H0, F, O, S, q⟩ => ⟨H0, F, O, S, fun v H1 s1 r1 => by
        cases r1
        exact ⟨rfl, i, rfl, rfl, q _ H1 s1 rfl⟩⟩
theorem S.nxW {D : GD} {nx' : GEnv → Prop} {st : List Stmt} (h : S X Γ st D) (w : ∀ Γ', D.nx Γ' → nx' Γ') : S X Γ st { D with nx := nx' } := by
  with_unfolding_all
    exact pss_wk h fun De σ H ⟨H0, F, O, Z, n, r, bk, ct⟩ => ⟨H0, F, O, Z, fun Γ' σ' H' O' sm Z' q => n Γ' σ' H' O' sm Z' (w Γ' q), r, bk, ct⟩
theorem s_ifJ {c : Bool} {body orelse : List Stmt} (J : GEnv → Prop) (hc : T X Γ e c) (h1 : c = true → S X Γ body { D with nx := J }) (h2 : c = false → S X Γ orelse { D with nx := J }) (h : ∀ Γ', J Γ' → S X Γ' rest D) : S X Γ (.If e body orelse pos :: rest) D := by
  with_unfolding_all
    exact s_if hc (fun z => (h1 z).nxW h) (fun z => (h2 z).nxW h)
def MgI (mg : Str → Option Value) (x : Str) (i : Int) : Prop := ∃ t, mg x = some (.int i t)
theorem e_glI {x : Str} {i : Int} (hg : Gl X x) (hm : MgI X.mg x i) (hd : (x == ("__debug__" : Str)) = false := by decide) : E X Γ (.Name x pos) true i := by
  with_unfolding_all
    obtain ⟨t, hm⟩ := hm
    exact pe_wk (pe_glob (v := .int i) hg hm ⟨t, rfl⟩ hd) fun σ H Q ⟨H0, F, O, S, q⟩ => q _ H (Same.refl _) rfl
end
theorem atGetD {α : Type} {xs : List α} {k : Int} {d : α} (h0 : 0 ≤ k) (h : k < (xs.length : Int)) : atI xs k = some (xs.getD k.toNat d) := by
  have hk : k.toNat < xs.length := by omega
  have e : k = ((k.toNat : Nat) : Int) := by omega
  have q : atI xs ((k.toNat : Nat) : Int) = some xs[k.toNat] := atI_nat (by rw [List.getElem?_eq_getElem hk])
  rw [← e] at q
  rw [q, List.getD_eq_getElem?_getD, List.getElem?_eq_getElem hk]; rfl
end L2.EP

namespace L2.EP
open PySem PySem.Spec PyProof.Rows
structure TupL (α : Type) where
  l : List α
def SqU (K : PySem.W.Frag) (H : Hp) (p : Addr) (xs : List V) : Prop := Rt H p xs ∨ ∃ (o : Obj) (its : Array Value) (n : Nat), K.lookup p = some o ∧ o.cls = .type "tuple" ∧ o.data = .seq its n ∧ its.size ≤ sizeLine ∧ Vals xs its.toList
theorem SqU.t {K : PySem.W.Frag} {H : Hp} {p : Addr} {xs : List V} (h : SqU K H p xs) : SqT K H p xs := h.imp Rt.rd id
theorem sqT_tr {K : PySem.W.Frag} {H H' : Hp} {p : Addr} {xs : List V} (t : ∀ p xs, Rt H p xs → Rt H' p xs) (h : SqU K H p xs) : SqU K H' p xs := h.imp (t _ _) id
instance {α : Type} [Py α] : Py (TupL α) where
  rp K N H v a := ∃ p xs, v = .ref p ∧ SqU K H p xs ∧ Paired (fun x b => Py.rp K N H x b) xs a.l
  tr l t h := by
    obtain ⟨p, xs, e, s, r⟩ := h
    exact ⟨p, xs, e, sqT_tr t s, pr_imp (fun _ _ q => Py.tr l t q) r⟩
instance {α β : Type} [Py α] [Py β] : Py (α ⊕ β) where
  rp K N H v a := match a with | .inl x => Py.rp K N H v x | .inr y => Py.rp K N H v y
  tr {K N N' H H' v a} l t h := by
    cases a with
    | inl x => exact Py.tr (α := α) l t h
    | inr y => exact Py.tr (α := β) l t h
theorem notNonI (K : PySem.W.Frag) (N : Nn) (H : Hp) (a : Int) : ¬ Py.rp K N H .non a := fun h => nomatch h
section
variable {X : Cx} {Γ : GEnv} {D : GD} {α β : Type} [Py α] [Py β] {e e1 e2 tg : Expr} {b b1 b2 : Bool} {pos : Pos} {rest : List Stmt}
def MgT (K : PySem.W.Frag) (mg : Str → Option Value) (x : Str) (xs : List Int) : Prop := ∃ (p : Addr) (o : Obj) (its : Array Value) (n : Nat), mg x = some (.ref p) ∧ K.lookup p = some o ∧ o.cls = .type "tuple" ∧ o.data = .seq its n ∧ its.size ≤ sizeLine ∧ Vals (xs.map V.int) its.toList
theorem MgI.mk {K : PySem.W.Frag} {h : Heap} {mg : Str → Option Value} {x : Str} {i : Int} {t : Tok} (Y : K.In h) (G : h.Ns mainGlobals mg) (a : PySem.W.nsIn K mainGlobals x = some (some (.int i t))) : MgI mg x i := ⟨t, PySem.W.mg_of Y G a⟩
theorem MgT.mk {K : PySem.W.Frag} {h : Heap} {mg : Str → Option Value} {x : Str} {xs : List Int} {p : Addr} {od : Option Addr} {its : Array Value} {n : Nat} {osl : Array (Option Value)} (Y : K.In h) (G : h.Ns mainGlobals mg) (a : PySem.W.nsIn K mainGlobals x = some (some (.ref p)))
    (l : K.lookup p = some ⟨.type "tuple", od, .seq its n, osl⟩) (hz : its.size ≤ 1000) (hv : Vals (xs.map V.int) its.toList) : MgT K mg x xs := ⟨p, _, its, n, PySem.W.mg_of Y G a, l, rfl, rfl, Nat.le_of_lt (small1000 hz), hv⟩
theorem e_get {a : α} (h : E X Γ e b (some a)) : E X Γ e b a := by
  with_unfolding_all
    exact h
theorem e_some {a : α} (h : E X Γ e b a) : E X Γ e b (some a) := by
  with_unfolding_all
    exact h
theorem t_nN {x : Option α} {j : Nat} {p : Pos} (ha : E X Γ e1 b1 x) (hx : ∀ (K : PySem.W.Frag) (N : Nn) (H : Hp) (a : α), ¬ Py.rp K N H .non a) : T X Γ (.Compare e1 [.IsNot] [.Constant .none j p] pos) (!x.isNone) := by
  with_unfolding_all
    exact pt_wk (pt_cmp (pc_notN ha)) fun σ H Q ⟨H0, F, O, S, q⟩ => ⟨H0, F, O, S, fun v H1 s1 r1 => by
        refine ⟨!decide (v = .non), rfl, ?_⟩
        have e : decide (v = .non) = x.isNone := by
          cases x with
          | none => cases r1; rfl
          | some a =>
            have hv : v ≠ .non := by rintro rfl; exact hx _ _ _ a r1
            rw [decide_eq_false hv]; rfl
        rw [e]; exact q H1 s1⟩
end
section
variable {X : Cx} {Γ : GEnv} {D : GD} {α β γ : Type} [Py α] [Py β] [Py γ] {e e1 e2 e3 : Expr} {b b1 b2 b3 : Bool} {pos : Pos} {rest : List Stmt}
theorem t_chain {op op' : CmpOp} {x : α} {y : β} {z : γ} {c c' : Bool} (h1 : CV X op x y c) (h2 : CV X op' y z c') (ha : E X Γ e1 b1 x) (hb : E X Γ e2 b2 y) (hc : E X Γ e3 b3 z) (hm : lastMarks [op, op'] [e2, e3] = false := by with_unfolding_all rfl) : T X Γ (.Compare e1 [op, op'] [e2, e3] pos) (c && c') := by
  with_unfolding_all
    obtain ⟨r, ho, hr⟩ := h1
    obtain ⟨r', ho', hr'⟩ := h2
    exact pt_wk (pt_chain ho ho' ha hb hc hm) fun σ H Q ⟨H0, F, O, S, q⟩ => ⟨H0, F, O, S, fun v H1 s1 r1 => ⟨H0, F, O, S.go s1, fun w H2 s2 r2 =>
      hr _ _ H2 v w _ (rp_mono ((off_mono s2).trans (off_same _ _)) r1) (rp_mono (off_same _ _) r2) ⟨c, rfl, by
        cases c with
        | false => exact ⟨false, rfl, q H2 (s1.trans s2)⟩
        | true => exact ⟨H0, F, O, (S.go s1).go s2, fun u H3 s3 r3 => hr' _ _ H3 w u _ (rp_mono ((off_mono s3).trans (off_same _ _)) r2) (rp_mono (off_same _ _) r3) ⟨c', rfl, q H3 (s1.trans (s2.trans s3))⟩⟩⟩⟩⟩
end
def RTU : GD := { nx := fun _ => True, rt := fun _ => False }
section
variable {P : Program} {w : World} {K : PySem.W.Frag} {mg : Str → Option Value} {base : Heap} {N ps : List Str} {x qual : Str} {st : Stmt} {f : Addr} {k : Nat} {fd : FuncData}
theorem body_runU {gs : List Bd} {vs : List V} {H : Hp} {O : Addr → Prop} {b : Bool} {Q : VK} {cdv : Value} {A : Around} {outer : List Env} {s : Shared} {E : XK} (B : Body P w K mg base N qual st f k gs RTU) (hr : Room k (A.deeper (envOfC qual (defScope st) s.heap.objs.size f cdv)))
    (ho : OwnL H O) (h : Args K (off H O) vs gs) (q : ∀ r H', Same H H' → Py.rp K (Nf H b) (off H' O) r () → Q r H') :
    ∃ t, PSs (cxOf CX0 P w K mg base N qual (defScope st) f cdv A outer s H E).nox (defBody st) t ∧ t { nx := fun _ H' => Q .non H', rt := Q } (start N vs) H := by
  with_unfolding_all
    refine ⟨_, B cdv A outer s H E hr, H, O, O, sta_start ho h, fun _ _ H' _ _ Z _ => q .non H' Z.same rfl, fun g v H' sm z e => e.elim, fun _ _ _ _ _ _ z => z.elim, fun _ _ _ _ _ _ z => z.elim⟩
def unit1 {α : Type} (_ : α) : Unit := ()
theorem fn1U {α : Type} [Py α] {pre : α → Prop} {b : Bool} (F : Fun K x qual st f fd) (sc : FnScope N ps (defScope st)) (hl : ps.length = 1) (B : ∀ a, pre a → Body P w K mg base N qual st f k [.val false a] RTU) :
    FnOk P w K mg base CX0 (k + 1) f fd ps (sp1 K pre b (unit1 (α := α))) := by
  with_unfolding_all
    refine F.ok sc (fun vs H Q E h => ?_) fun cdv A outer s H vs Q E hr h => ?_
    · obtain ⟨O, v, a, _, rfl, _⟩ := h; rw [hl]; rfl
    · obtain ⟨O, v, a, ho, rfl, r, hp, q⟩ := h
      exact body_runU (B a hp) hr ho (.cons r .nil) q
end
end L2.EP

namespace L2.EP
open PySem PySem.Spec PyProof.Rows
theorem rd_tup_off {H : Hp} {O : Addr → Prop} (ho : ∀ p, O p → ∃ xs : Mt, H p = some (mo xs)) (p : Addr) (xs : List V) (h : Rt H p xs) : Rt (off H O) p xs := by
  have hn : ¬ O p := fun z => by
    obtain ⟨ys, e⟩ := ho p z
    rcases h with h | ⟨o, h⟩
    · rw [e] at h; rcases ys with ys | ys | ys <;> cases h
    · rw [e] at h; rcases ys with ys | ys | ys <;> cases h
  rcases h with h | ⟨o, h⟩
  · exact .inl (by rw [off_get hn]; exact h)
  · exact .inr ⟨o, by rw [off_get hn]; exact h⟩
theorem pr_cat {α β : Type} {F : α → β → Prop} : ∀ {l₁ l₂ : List α} {m₁ m₂ : List β}, Paired F l₁ m₁ → Paired F l₂ m₂ → Paired F (l₁ ++ l₂) (m₁ ++ m₂)
  | _, _, _, _, .nil, h => h
  | _, _, _, _, .cons h r, h' => .cons h (pr_cat r h')
section
variable {X : Cx} {Γ : GEnv} {D : GD} {α β γ : Type} [Py α] [Py β] [Py γ] {e e1 e2 : Expr} {b b1 b2 : Bool} {pos : Pos} {st rest : List Stmt}
def cInts : List Expr → Option (List Int)
  | [] => some []
  | .Constant (.int i) _ _ :: es => match cInts es with
    | some ns => some (i :: ns)
    | none => none
  | _ => none
theorem e_eq {a a' : α} (h : E X Γ e b a) (ha : a = a') : E X Γ e b a' := by
  with_unfolding_all
    subst ha; exact h
theorem e_cat {xs ys : List α} (ha : E X Γ e1 true xs) (hb : E X Γ e2 true ys) (hl : xs.length + ys.length ≤ 1000) : E X Γ (.BinOp e1 .Add e2 pos) true (xs ++ ys) := by
  with_unfolding_all
    exact pe_wk (pe_op op_cat ha hb) fun σ H Q ⟨H0, F, O, S, q⟩ => ⟨H0, F, O, S, fun v H1 s1 r1 => ⟨H0, F, O, S.go s1, fun w H2 s2 r2 => by
        obtain ⟨p, vs, e1, sq1, n1, rr1⟩ := r1
        obtain ⟨p', vs', e2, sq2, n2, rr2⟩ := r2
        have h1 : H2 p = some (.lst vs) := s2 _ _ ((off_same _ _) _ _ n1.2)
        have h2 : H2 p' = some (.lst vs') := (off_same _ _) _ _ n2.2
        refine ⟨p, p', vs, vs', e1, e2, h1, h2, by rw [pr_len rr1, pr_len rr2]; exact Nat.le_of_lt (small1000 hl), fun l hl' => ?_⟩
        obtain ⟨z1, z2⟩ := laid_lst (xs := vs ++ vs') ((S.go s1).go s2) hl'
        exact q _ _ (s1.trans (s2.trans z1)) ⟨l, _, rfl, SqL.of z2, Nf.wk (b := true) (((S.go s1).go s2).free0 hl') z2, pr_cat (pr_imp (fun _ _ z => rp_mono ((off_mono s2).trans (off_mono z1)) z) rr1) (pr_imp (fun _ _ z => rp_mono (off_mono z1) z) rr2)⟩⟩⟩
theorem en_lst [PyT α] {es : List Expr} {as : List α} (h : EA X Γ es b as) (hl : as.length ≤ 1000) : EN X Γ (.List es pos) as := by
  with_unfolding_all
    exact pe_wk (pe_lst h) fun σ H Q ⟨H0, F, O, S, q⟩ => ⟨H0, F, O, S, fun vs H1 s1 r1 => ⟨by rw [pr_len r1]; exact Nat.le_of_lt (small1000 hl), fun p hp => by
        obtain ⟨z1, z2⟩ := laid_lst (xs := vs) (S.go s1) hp
        exact q _ _ (s1.trans z1) ⟨p, vs, rfl, SqL.of z2, ⟨s1.free hp, z2⟩, pr_imp (fun _ _ r => PyT.free (fun _ _ w => w) (rp_mono (off_mono z1) r)) r1⟩⟩⟩
theorem en_if {c : Bool} {x y : α} (hc : T X Γ e c) (ha : c = true → EN X Γ e1 x) (hb : c = false → EN X Γ e2 y) : EN X Γ (.IfExp e e1 e2 pos) (if c then x else y) := by
  with_unfolding_all
    cases c with
    | true => exact pe_wk (pe_ifExp hc (ha rfl) pe_no) fun σ H Q ⟨H0, F, O, S, q⟩ => ⟨H0, F, O, S, fun H1 s1 => iteT ⟨H0, F, O, S.go s1, fun w H2 s2 r2 => q w H2 (s1.trans s2) (new_less s1 r2)⟩⟩
    | false => exact pe_wk (pe_ifExp hc pe_no (hb rfl)) fun σ H Q ⟨H0, F, O, S, q⟩ => ⟨H0, F, O, S, fun H1 s1 => iteF ⟨H0, F, O, S.go s1, fun w H2 s2 r2 => q w H2 (s1.trans s2) (new_less s1 r2)⟩⟩
theorem s_d2o [PyT α] (i : Nat) (b : Bool) {as : List α} (hg : Γ[i]? = some (some (.dpo as))) (h : S X (Γ.set i (some (.own b as))) st D) : S X Γ st D := by
  with_unfolding_all
    exact pss_wk h fun De σ H ⟨H0, F, O, Z, n, r, bk, ct⟩ => by
      refine ⟨H0, F, O, ⟨Z.same, Z.fo, Z.f0, Z.own, by rw [List.length_set]; exact Z.len, fun j g e no => ?_, ?_⟩, n, r, bk, ct⟩
      · by_cases hj : j = i
        · subst hj
          have hl : j < Γ.length := (List.getElem?_eq_some_iff.mp hg).1
          rw [get_set_eq hl] at e
          have e' : Bd.own b as = g := Option.some.inj (Option.some.inj e)
          exact absurd (e' ▸ (True.intro : (Bd.own b as).isOwn)) no
        · rw [get_set_ne hj] at e
          exact Z.at_ j g e no
      · obtain ⟨D', d1, d2, d3⟩ := Z.dis
        refine ⟨D', d1, d2, fun j g e o => ?_⟩
        by_cases hj : j = i
        · subst hj
          have hl : j < Γ.length := (List.getElem?_eq_some_iff.mp hg).1
          rw [get_set_eq hl] at e
          have e' : Bd.own b as = g := Option.some.inj (Option.some.inj e)
          subst e'
          obtain ⟨v, q1, p, xs, q2, q3, q4, q5⟩ := d3 j _ hg True.intro
          exact ⟨v, q1, p, xs, q2, q4.1, q4.2, pr_imp (fun _ _ z => PyT.free (rd_tup_off Z.own) z) q5⟩
        · rw [get_set_ne hj] at e
          exact d3 j g e o
end
end L2.EP

namespace L2
open PySem PySem.Spec PyProof.Rows
section
variable {X : Cx} {pos : Pos}
def gLst (K : PySem.W.Frag) (n : Nat) (t : TGs) : TG := fun v σ H Q => ∃ a xs, v = .ref a ∧ SqL K H a xs ∧ xs.length = n ∧ t xs σ H Q
end
end L2
namespace L2.EP
open PySem PySem.Spec PyProof.Rows
section
variable {X : Cx} {Γ : GEnv} {D : GD} {α β γ : Type} [Py α] [Py β] [Py γ] {e e1 e2 : Expr} {b b1 b2 : Bool} {pos : Pos} {rest st : List Stmt}
theorem e_to {xs : List α} {k : Int} {p2 : Pos} (ha : E X Γ e1 b xs) (hb : E X Γ e2 b2 k) (h0 : 0 ≤ k) : E X Γ (.Subscript e1 (.Slice none (some e2) none p2) pos) b (xs.take k.toNat) := by
  with_unfolding_all
    exact pe_wk (pe_slice sl_list ha po_none (po_some hb)) fun σ H Q ⟨H0, F, O, S, q⟩ => ⟨H0, F, O, S, fun v H1 s1 r1 => ⟨H0, F, O, S.go s1, fun w H2 s2 r2 => by
        obtain ⟨p, vs, e, sq, n, r⟩ := r1
        refine ⟨k, r2, p, vs, e, (off_same _ _).seq ((off_mono s2).seq sq), fun l hl => ?_⟩
        obtain ⟨z1, z2⟩ := laid_lst (xs := cutV vs none (some k)) ((S.go s1).go s2) hl
        refine q _ _ (s1.trans (s2.trans z1)) ⟨l, _, rfl, SqL.of z2, Nf.wk (((S.go s1).go s2).free0 hl) z2, ?_⟩
        have ec : cutV vs none (some k) = vs.take k.toNat := by
          unfold cutV
          have hk : k = ((k.toNat : Nat) : Int) := by omega
          rw [hk, HT.sIx_nat, HT.sIx_none]
          simp only [Int.toNat_natCast, List.drop_zero, Nat.sub_zero]
          by_cases hkn : k.toNat ≤ vs.length
          · rw [Nat.min_eq_left hkn]
          · rw [Nat.min_eq_right (by omega), List.take_of_length_le (Nat.le_refl _), List.take_of_length_le (by omega)]
        have rr := pr_imp (fun _ _ z => rp_mono ((off_mono s2).trans (off_mono z1)) z) (pr_take k.toNat r)
        rw [← ec] at rr
        exact rr⟩⟩
end
end L2.EP
namespace L2.EP
open PySem PySem.Spec PyProof.Rows
section
variable {X : Cx} {Γ : GEnv} {D : GD} {α β γ : Type} [Py α] [Py β] [Py γ] {e e1 e2 : Expr} {b b1 b2 : Bool} {pos : Pos} {rest st : List Stmt}
end
end L2.EP
namespace L2.EP
open PySem PySem.Spec PyProof.Rows
def cIntsN : Nat → List Expr → Option (List Int)
  | 0, _ => some []
  | n + 1, .Constant (.int i) _ _ :: es => match cIntsN n es with
    | some ns => some (i :: ns)
    | none => none
  | _, _ => none
end L2.EP
namespace L2
open PySem PySem.Spec PyProof.Rows
def Ite (K : PySem.W.Frag) (a : Addr) : It :=
  ⟨fun i H => ∃ xs x, SqL K H a xs ∧ xs[i]? = some x,
   fun i H v H' => ∃ T x, H T = none ∧ v = .ref T ∧ H' = upd H T (.tup [.int (i : Int), x]) ∧ ∀ xs, SqL K H a xs → xs[i]? = some x,
   fun i H => ∃ xs, SqL K H a xs ∧ xs.length ≤ i⟩
section
variable {X : Cx} {elts : List Expr} {kk : Nat} {tp : Pos}
def iEnum (K : PySem.W.Frag) (ta : TA) : TI := fun σ H R => ta σ H fun vs H1 => ∃ a, vs = [.ref a] ∧ (∃ xs, SqL K H1 a xs) ∧ R (Ite K a) H1
end
end L2
namespace L2.EP
open PySem PySem.Spec PyProof.Rows
def enI {α : Type} (xs : List α) : List (Int × α) := xs.mapIdx fun i x => ((i : Int), x)
section
variable {X : Cx} {Γ : GEnv} {α β : Type} [Py α] [Py β] {e1 e2 : Expr} {b1 b2 : Bool} {elts : List Expr} {kk : Nat} {tp p ps : Pos}
end
end L2.EP

namespace L2
open PySem PySem.Spec PyProof.Rows

section
variable {κ : Type} [DecidableEq κ]
def valV (kvs : List (κ × V)) (k : κ) : Option V := (kvs.find? fun kv => decide (kv.1 = k)).map (·.2)
def putK (kvs : List (κ × V)) (k : κ) (v : V) : List (κ × V) :=
  if (kvs.any fun kv => decide (kv.1 = k)) = true then kvs.map (fun kv => if kv.1 = k then (kv.1, v) else kv) else kvs ++ [(k, v)]
def dropK (kvs : List (κ × V)) (k : κ) : List (κ × V) := kvs.filter fun kv => decide (kv.1 ≠ k)

theorem valV_pos {p : κ × V} {r : List (κ × V)} {k : κ} (e : p.1 = k) : valV (p :: r) k = some p.2 := by simp [valV, List.find?_cons, e]
theorem valV_neg {p : κ × V} {r : List (κ × V)} {k : κ} (e : ¬ p.1 = k) : valV (p :: r) k = valV r k := by simp [valV, List.find?_cons, e]
theorem valV_any (k : κ) : ∀ kvs : List (κ × V), (kvs.any fun kv => decide (kv.1 = k)) = (valV kvs k).isSome
  | [] => rfl
  | p :: r => by
    rw [List.any_cons]
    by_cases e : p.1 = k
    · simp only [valV_pos e, decide_eq_true e, Bool.true_or, Option.isSome_some]
    · rw [valV_neg e, decide_eq_false e, Bool.false_or]; exact valV_any k r
theorem length_putK (kvs : List (κ × V)) (k : κ) (v : V) : (putK kvs k v).length ≤ kvs.length + 1 := by
  unfold putK
  split
  · rw [List.length_map]; omega
  · rw [List.length_append, List.length_cons, List.length_nil]; omega

theorem RelO.isSome_eq {o : Option V} {u : Option Value} (r : RelO o u) : o.isSome = u.isSome := by
  cases o with
  | none => cases u with
    | none => rfl
    | some _ => exact (show False from r).elim
  | some _ => cases u with
    | none => exact (show False from r).elim
    | some _ => rfl
theorem RelO.getD {o : Option V} {u : Option Value} {d : V} {d' : Value} (r : RelO o u) (rd : RelV d d') : RelV (o.getD d) (u.getD d') := by
  cases o with
  | none => cases u with
    | none => exact rd
    | some _ => exact (show False from r).elim
  | some _ => cases u with
    | none => exact (show False from r).elim
    | some _ => exact r

theorem KV.val {kvs : List (κ × V)} {vs : List (κ × Value)} (r : KV kvs vs) (k : κ) : RelO (valV kvs k) (valueAt vs k) := by
  unfold KV at r
  induction r with
  | nil => exact True.intro
  | @cons p q ps qs h t ih =>
    obtain ⟨h1, h2⟩ := h
    by_cases e : p.1 = k
    · have e' : q.1 = k := h1.symm.trans e
      have b : valueAt (q :: qs) k = some q.2 := by simp [valueAt, List.find?_cons, e']
      rw [valV_pos e, b]; exact h2
    · have e' : ¬ q.1 = k := fun z => e (h1.trans z)
      have b : valueAt (q :: qs) k = valueAt qs k := by simp [valueAt, List.find?_cons, e']
      rw [valV_neg e, b]; exact ih
theorem KV.any {kvs : List (κ × V)} {vs : List (κ × Value)} (r : KV kvs vs) (k : κ) : (kvs.any fun kv => decide (kv.1 = k)) = vs.any fun kv => decide (kv.1 = k) := by
  unfold KV at r
  induction r with
  | nil => rfl
  | cons h t ih => rw [List.any_cons, List.any_cons, ih, h.1]
theorem KV.repl {kvs : List (κ × V)} {vs : List (κ × Value)} (r : KV kvs vs) (k : κ) {y : V} {u : Value} (ry : RelV y u) :
    KV (kvs.map fun kv => if kv.1 = k then (kv.1, y) else kv) (vs.map fun kv => if kv.1 = k then (kv.1, u) else kv) := by
  unfold KV at r ⊢
  induction r with
  | nil => exact .nil
  | @cons p q ps qs h t ih =>
    rw [List.map_cons, List.map_cons]
    refine .cons ?_ ih
    obtain ⟨h1, h2⟩ := h
    by_cases e : p.1 = k
    · rw [if_pos e, if_pos (h1.symm.trans e)]; exact ⟨h1, ry⟩
    · rw [if_neg e, if_neg (fun z => e (h1.trans z))]; exact ⟨h1, h2⟩
theorem KV.put {kvs : List (κ × V)} {vs : List (κ × Value)} (r : KV kvs vs) (k : κ) {y : V} {u : Value} (ry : RelV y u) : KV (putK kvs k y) (stored vs k u) := by
  unfold putK stored
  rw [r.any k]
  by_cases e : (vs.any fun kv => decide (kv.1 = k)) = true
  · rw [if_pos e, if_pos e]; exact r.repl k ry
  · rw [if_neg e, if_neg e]; exact Paired.snoc r ⟨rfl, ry⟩
theorem KV.drop {kvs : List (κ × V)} {vs : List (κ × Value)} (r : KV kvs vs) (k : κ) : KV (dropK kvs k) (without vs k) := by
  unfold KV at r ⊢
  unfold dropK without
  induction r with
  | nil => exact .nil
  | @cons p q ps qs h t ih =>
    obtain ⟨h1, h2⟩ := h
    rw [List.filter_cons, List.filter_cons]
    by_cases e : p.1 = k
    · have a : ¬ decide (p.1 ≠ k) = true := by simp [e]
      have b : ¬ decide (q.1 ≠ k) = true := by simp [h1.symm.trans e]
      rw [if_neg a, if_neg b]; exact ih
    · have e' : ¬ q.1 = k := fun z => e (h1.trans z)
      have a : decide (p.1 ≠ k) = true := by simp [e]
      have b : decide (q.1 ≠ k) = true := by simp [e']
      rw [if_pos a, if_pos b]; exact .cons ⟨h1, h2⟩ ih
theorem KV.keys {kvs : List (κ × V)} {vs : List (κ × Value)} (r : KV kvs vs) : kvs.map (·.1) = vs.map (·.1) := by
  unfold KV at r
  induction r with
  | nil => rfl
  | cons h t ih => rw [List.map_cons, List.map_cons, ih, h.1]
theorem KV.length {kvs : List (κ × V)} {vs : List (κ × Value)} (r : KV kvs vs) : kvs.length = vs.length := Paired.length r
end


theorem kV_is {P : Program} {w : World} {k : Key} {u : Value} (r : RelV (kV k) u) : (mixKind P w).is k u = true := by
  cases k with
  | inl i => obtain ⟨t, e⟩ := (show ∃ t, u = Value.int i t from r); subst e; exact mixKind_int P w i t
  | inr x => obtain ⟨t, e⟩ := (show ∃ t, u = Value.str x t from r); subst e; exact mixKind_str P w x t
theorem items_are {P : Program} {w : World} : ∀ {ks : List Key} {us : List Value}, Vals (ks.map kV) us → ItemsAre (mixKind P w) ks us
  | [], _, r => by rw [List.map_nil] at r; cases r; exact .nil
  | k :: ks, _, r => by
    rw [List.map_cons] at r
    cases r with
    | cons h t => exact .cons (kV_is h) (items_are t)

abbrev KT (H : Hp) : List (List Key × V) → List (List Key × Addr × Value) → Prop := Paired fun p q => p.1 = q.1 ∧ H q.2.1 = some (.tup (p.1.map kV)) ∧ RelV p.2 q.2.2
theorem KT.val {H : Hp} {kvs : List (List Key × V)} {xs : List (List Key × Addr × Value)} (r : KT H kvs xs) (k : List Key) : RelO (valV kvs k) ((atKey xs k).map (·.2)) := by
  induction r with
  | nil => exact True.intro
  | @cons p q ps qs h t ih =>
    obtain ⟨h1, _, h2⟩ := h
    by_cases e : p.1 = k
    · have e' : q.1 = k := h1.symm.trans e
      have b : atKey (q :: qs) k = some q.2 := by simp [atKey, List.find?_cons, e']
      rw [valV_pos e, b]; exact h2
    · have e' : ¬ q.1 = k := fun z => e (h1.trans z)
      have b : atKey (q :: qs) k = atKey qs k := by simp [atKey, List.find?_cons, e']
      rw [valV_neg e, b]; exact ih
theorem KT.repl {H : Hp} {kvs : List (List Key × V)} {xs : List (List Key × Addr × Value)} (r : KT H kvs xs) (k : List Key) {y : V} {u : Value} (ry : RelV y u) :
    KT H (kvs.map fun kv => if kv.1 = k then (kv.1, y) else kv) (xs.map (putAt k u)) := by
  induction r with
  | nil => exact .nil
  | @cons p q ps qs h t ih =>
    rw [List.map_cons, List.map_cons]
    refine .cons ?_ ih
    obtain ⟨h1, h2, h3⟩ := h
    unfold putAt
    by_cases e : p.1 = k
    · rw [if_pos e, if_pos (h1.symm.trans e)]; exact ⟨h1, h2, ry⟩
    · rw [if_neg e, if_neg (fun z => e (h1.trans z))]; exact ⟨h1, h2, h3⟩
theorem KT.put {H : Hp} {kvs : List (List Key × V)} {xs : List (List Key × Addr × Value)} (r : KT H kvs xs) (k : List Key) {b : Addr} {y : V} {u : Value} (hb : H b = some (.tup (k.map kV))) (ry : RelV y u) :
    KT H (putK kvs k y) (storedH xs k b u) := by
  have e : (kvs.any fun kv => decide (kv.1 = k)) = (atKey xs k).isSome := by
    rw [valV_any, (r.val k).isSome_eq, Option.isSome_map]
  unfold putK storedH
  rw [e]
  by_cases q : (atKey xs k).isSome = true
  · rw [if_pos q, if_pos q]; exact r.repl k ry
  · rw [if_neg q, if_neg q]; exact Paired.snoc r ⟨rfl, hb, ry⟩
theorem KT.keeps {H H' : Hp} {kvs : List (List Key × V)} {xs : List (List Key × Addr × Value)} (r : KT H kvs xs) (ht : ∀ b ys, H b = some (.tup ys) → H' b = some (.tup ys)) : KT H' kvs xs :=
  Paired.mapP r fun _ _ z => ⟨z.1, ht _ _ z.2.1, z.2.2⟩

section
variable {P : Program} {w : World} {H : Hp} {h : Heap} {a : Addr}
theorem rd_of {u : HO} (ok : HOk P w H h) (e : Rd H a u) : ObjOk P w H h a u := e.ok ok
theorem dk_rd {kvs : List (Key × V)} (ok : HOk P w H h) (e : Rd H a (.dK kvs)) : kvs.length ≤ sizeLine ∧ (a == sysModules) = false ∧ ∃ vs, KV kvs vs ∧ h.DictOf (mixKind P w) a vs :=
  show ObjOk P w H h a (.dK kvs) from rd_of ok e
theorem dk_of {kvs : List (Key × V)} (ok : HOk P w H h) (e : H a = some (.dK kvs)) : kvs.length ≤ sizeLine ∧ (a == sysModules) = false ∧ ∃ vs, KV kvs vs ∧ h.DictOf (mixKind P w) a vs := dk_rd ok (.inl e)
theorem key_of {ks : List Key} (ok : HOk P w H h) (e : H a = some (.tup (ks.map kV))) : (tupleKind (mixKind P w)).is h ks a := by
  obtain ⟨_, its, r, o, h1, h2, n, h3⟩ := (show ObjOk P w H h a (.tup (ks.map kV)) from ok a _ e)
  exact ⟨o, its.toArray, n, h1, h2, h3, by simpa using items_are r⟩
theorem dt_rd {kvs : List (List Key × V)} (ok : HOk P w H h) (e : Rd H a (.dT kvs)) : kvs.length ≤ sizeLine ∧ (a == sysModules) = false ∧
    ∃ xs, KT H kvs xs ∧ h.DictOfH (tupleKind (mixKind P w)) a xs := by
  obtain ⟨z, y, xs, r, o, es, ep, h1, h2, h3, h4, h5⟩ := (show ObjOk P w H h a (.dT kvs) from rd_of ok e)
  refine ⟨z, y, xs, r, o, es, ep, h1, h2, h3, h4, fun x hx => ?_, h5⟩
  have all : ∀ {l : List (List Key × V)} {m : List (List Key × Addr × Value)}, KT H l m → ∀ x ∈ m, (tupleKind (mixKind P w)).is h x.1 x.2.1 := by
    intro l m q
    induction q with
    | nil => intro x hx; exact nomatch hx
    | @cons p q ps qs hq t ih =>
      intro x hx
      rcases List.mem_cons.mp hx with e | hx
      · subst e
        exact key_of ok (by rw [← hq.1]; exact hq.2.1)
      · exact ih x hx
  exact all r x hx
theorem dt_of {kvs : List (List Key × V)} (ok : HOk P w H h) (e : H a = some (.dT kvs)) : kvs.length ≤ sizeLine ∧ (a == sysModules) = false ∧
    ∃ xs, KT H kvs xs ∧ h.DictOfH (tupleKind (mixKind P w)) a xs := dt_rd ok (.inl e)
end

def DGet (H : Hp) (a : Addr) (y : V) (r : Option V) : Prop :=
  (∃ kvs k, Rd H a (.dK kvs) ∧ y = kV k ∧ r = valV kvs k) ∨ ∃ kvs k b, Rd H a (.dT kvs) ∧ y = .ref b ∧ H b = some (.tup (k.map kV)) ∧ r = valV kvs k
def DPut (H : Hp) (a : Addr) (y v : V) (H' : Hp) : Prop :=
  (∃ kvs k, H a = some (.dK kvs) ∧ y = kV k ∧ kvs.length < sizeLine ∧ H' = upd H a (.dK (putK kvs k v))) ∨
  ∃ kvs k b, H a = some (.dT kvs) ∧ y = .ref b ∧ H b = some (.tup (k.map kV)) ∧ kvs.length < sizeLine ∧ H' = upd H a (.dT (putK kvs k v))
theorem DGet.k {H : Hp} {a : Addr} {kvs : List (Key × V)} {k : Key} (e : H a = some (.dK kvs)) : DGet H a (kV k) (valV kvs k) := .inl ⟨kvs, k, .inl e, rfl, rfl⟩
theorem DGet.t {H : Hp} {a b : Addr} {kvs : List (List Key × V)} {k : List Key} (e : H a = some (.dT kvs)) (eb : H b = some (.tup (k.map kV))) : DGet H a (.ref b) (valV kvs k) := .inr ⟨kvs, k, b, .inl e, rfl, eb, rfl⟩
theorem DPut.k {H : Hp} {a : Addr} {kvs : List (Key × V)} {k : Key} {v : V} (e : H a = some (.dK kvs)) (hl : kvs.length < sizeLine) : DPut H a (kV k) v (upd H a (.dK (putK kvs k v))) := .inl ⟨kvs, k, e, rfl, hl, rfl⟩
theorem DPut.t {H : Hp} {a b : Addr} {kvs : List (List Key × V)} {k : List Key} {v : V} (e : H a = some (.dT kvs)) (eb : H b = some (.tup (k.map kV))) (hl : kvs.length < sizeLine) :
    DPut H a (.ref b) v (upd H a (.dT (putK kvs k v))) := .inr ⟨kvs, k, b, e, rfl, eb, hl, rfl⟩


section
variable {X : Cx} {pins : List (Addr × Obj)} {σ : St} {H : Hp} {s : Shared} {a : Addr} {y v : V} {u r : Value} {o : Option V} {A : Around} {E : Value → Shared → Prop}

theorem Inv.big (I : Inv X pins σ H s) : sysModules < s.heap.objs.size := by
  have h : mainGlobals < s.heap.objs.size := (I.mod.glob.keeps I.bk).lt
  exact Nat.lt_trans (by decide) h

theorem d_getItem {Q : Value → Shared → Prop} (hu : A.units + 1 < cLine) (I : Inv X pins σ H s) (g : DGet H a y (some v)) (ry : RelV y u) (h : ∀ w' s', Inv X pins σ H s' → RelV v w' → Q w' s') :
    wpAny (model X.prog X.w) A (getItem (.ref a) u) Q E s := by
  rcases g with ⟨kvs, k, e, ey, l⟩ | ⟨kvs, k, b, e, ey, eb, l⟩
  · subst ey
    obtain ⟨z, hd, vs, rel, dd⟩ := dk_rd I.hok e
    obtain ⟨w', hw, rw'⟩ := RelO.some_of (v := v) (o := valueAt vs k) (by rw [l]; exact rel.val k)
    exact wpAny_getItem_of (kV_is ry) dd.mapOf hw (h w' _ (I.tok _) rw')
  · subst ey
    cases (show u = Value.ref b from ry)
    obtain ⟨z, hd, xs, rel, dd⟩ := dt_rd I.hok e
    obtain ⟨w', hw, rw'⟩ := RelO.some_of (v := v) (o := (atKey xs k).map (·.2)) (by rw [l]; exact rel.val k)
    obtain ⟨p, hp, hp2⟩ := Option.map_eq_some_iff.mp hw
    refine wpAny_getItem_heap (tupleKind_room_in1 hu) (key_of I.hok eb) dd hp ?_
    rw [hp2]
    exact h w' _ (I.tok _) rw'
theorem d_write {h' : Heap} {t' : Nat} {ob : HO} (I : Inv X pins σ H s) (mu : Mut (H a)) (hs : Heap.SameBut a s.heap h') (he : ∃ q, h'.get? a = some q) (new : ObjOk X.prog X.w (upd H a ob) h' a ob) :
    Inv X pins σ (upd H a ob) { s with heap := h', toks := t' } :=
  I.write (x := a) (e := a) mu (.inl rfl) (fun b q hb z => (hs.2 b hb).trans z) he new
theorem dk_new {P : Program} {w : World} {H' : Hp} {h' : Heap} {kvs : List (Key × V)} {vs : List (Key × Value)} (z : kvs.length ≤ sizeLine) (hd : (a == sysModules) = false) (rel : KV kvs vs) (dd : h'.DictOf (mixKind P w) a vs) :
    ObjOk P w H' h' a (.dK kvs) := ⟨z, hd, vs, rel, dd⟩
theorem d_setItem {H' : Hp} {Q : Unit → Shared → Prop} (hu : A.units + 1 < cLine) (I : Inv X pins σ H s) (g : DPut H a y v H') (ry : RelV y u) (rv : RelV v r) (h : ∀ s', Inv X pins σ H' s' → Q () s') :
    wpAny (model X.prog X.w) A (setItem (.ref a) u r) Q E s := by
  rcases g with ⟨kvs, k, e, ey, l, eH⟩ | ⟨kvs, k, b, e, ey, eb, l, eH⟩
  · subst ey eH
    obtain ⟨z, hd, vs, rel, dd⟩ := dk_of I.hok e
    have hz : vs.length ≤ sizeLine := by rw [← rel.length]; exact z
    have hl : (putK kvs k v).length ≤ sizeLine := by have := length_putK kvs k v; omega
    refine wpAny_setItem_pairs (hsz := hz) (kV_is ry) dd fun h' dd' hs => h _ ?_
    have he : ∃ q, h'.get? a = some q := let ⟨q, _, _, hq, _⟩ := dd'; ⟨q, hq⟩
    exact d_write I (by rw [e]; exact True.intro) hs he (dk_new hl hd (rel.put k rv) dd')
  · subst ey eH
    cases (show u = Value.ref b from ry)
    obtain ⟨z, hd, xs, rel, dd⟩ := dt_of I.hok e
    have hz : xs.length ≤ sizeLine := by rw [← Paired.length rel]; exact z
    have hl : (putK kvs k v).length ≤ sizeLine := by have := length_putK kvs k v; omega
    refine wpAny_setItem_heap (hsz := hz) (tupleKind_room_in1 hu) (key_of I.hok eb) dd fun h' dd' hs => h _ ?_
    obtain ⟨q, es, ep, hq, h2, h3, h4, _, h5⟩ := dd'
    refine d_write I (by rw [e]; exact True.intro) hs ⟨q, hq⟩ ⟨hl, hd, _, (rel.put k eb rv).keeps fun c ys ec => ?_, q, es, ep, hq, h2, h3, h4, h5⟩
    rw [upd_ne (ne_of ec e (fun z => nomatch z))]
    exact ec
end

section
variable {X : Cx} {pins : List (Addr × Obj)} {σ : St} {H : Hp} {s : Shared} {a : Addr} {kvs : List (Key × V)} {k : Key} {u : Value} {A : Around} {E : Value → Shared → Prop}
end


def NoSl (i : Expr) : Prop := ∀ ov iv, subscripted i false ov iv = operate [ov, iv] (getItem ov iv)
theorem subD_of {prog : Program} {w : World} {A : Around} {E : Value → Shared → Prop} {s : Shared} {env : Env} {value slice : Expr} {pos : Pos} {T id : String} {Q : Value → Shared → Prop}
    (hl : typeLookup (.type T) "__getitem__" = pure (some (.builtin id))) (hs : NoSl slice)
    (h : wpAny (model prog w) A (eval value env) (fun o s₁ => wpAny (model prog w) A (eval slice env) (fun i s₂ => s₂.TypeIs o T ∧ wpAny (model prog w) A (getItem o i) Q E s₂) E s₁) E s) :
    wpAny (model prog w) A (eval (.Subscript value slice pos) env) Q E s := by
  refine Subscript_ (wpAny_mono h (fun o s₁ h₁ => wpAny_mono h₁ (fun i s₂ h₂ => ?_) fun _ _ x => x) fun _ _ x => x)
  obtain ⟨hT, h₂⟩ := h₂
  unfold subscriptTail
  refine wpAny_bind ?_
  rw [getitemInPython_of_ne hT.not_modules]
  refine wpAny_bind (wpAny_specialOf hT hl ?_)
  have fin : wpAny (model prog w) A (subscripted slice false o i) (fun r s₃ => wpAny (model prog w) A (letTemporaryGo value o r >>= fun _ => pure r) Q E s₃) E s₂ := by
    rw [hs o i]
    exact wpAny_operating (wpAny_mono h₂ (fun r s₃ h₃ => wpAny_bind (wpAny_letTemporaryGo (wpAny_pure h₃))) fun _ _ x => x)
  first
    | exact wpAny_pure (wpAny_bind fin)
    | exact wpAny_bind (wpAny_pure (wpAny_bind fin))
    | exact wpAny_bind fin

theorem dict_typeIs {X : Cx} {pins : List (Addr × Obj)} {σ : St} {H : Hp} {s : Shared} {a : Addr} {y : V} {o : Option V} (I : Inv X pins σ H s) (g : DGet H a y o) : s.TypeIs (.ref a) "dict" := by
  rcases g with ⟨kvs, k, e, _, _⟩ | ⟨kvs, k, b, e, _, _, _⟩
  · obtain ⟨_, _, vs, _, dd⟩ := dk_rd I.hok e
    exact dd.typeIs
  · obtain ⟨_, _, xs, _, dd⟩ := dt_rd I.hok e
    exact dd.typeIs

def tDGet (td ty : TE) : TE := fun σ H Q => td σ H fun x H1 => ty σ H1 fun y H2 => ∃ a v, x = .ref a ∧ DGet H2 a y (some v) ∧ Q v H2
def tDIn (ty td : TE) : TE := fun σ H Q => ty σ H fun y H1 => td σ H1 fun x H2 => ∃ a o, x = .ref a ∧ DGet H2 a y o ∧ Q (.bl o.isSome) H2
def tDNotIn (ty td : TE) : TE := fun σ H Q => ty σ H fun y H1 => td σ H1 fun x H2 => ∃ a o, x = .ref a ∧ DGet H2 a y o ∧ Q (.bl (!o.isSome)) H2
def sDPut (td ty tv : TE) : TS := fun D σ H => tv σ H fun v H1 => td σ H1 fun x H2 => ty σ H2 fun y H3 => ∃ a H4, x = .ref a ∧ DPut H3 a y v H4 ∧ D.nx σ H4
def sDAug (td ty tv : TE) (rd : V → V → Hp → VK → Prop) : TS := fun D σ H => td σ H fun x H1 => ty σ H1 fun y H2 => ∃ a v, x = .ref a ∧ DGet H2 a y (some v) ∧
  tv σ H2 fun y2 H3 => rd v y2 H3 fun z H4 => ∃ H5, DPut H4 a y z H5 ∧ D.nx σ H5
def sDDel (td ty : TE) : TS := fun D σ H => td σ H fun x H1 => ty σ H1 fun y H2 => ∃ a kvs k, x = .ref a ∧ H2 a = some (.dK kvs) ∧ y = kV k ∧ (valV kvs k).isSome = true ∧ D.nx σ (upd H2 a (.dK (dropK kvs k)))

section
variable {X : Cx} {o i e value : Expr} {pos pos' tpos : Pos} {td ty tv : TE}
theorem pe_dget (hu : X.A.units + 1 < cLine) (ho : PE X o td) (hi : PE X i ty) (hs : NoSl i) : PE X (.Subscript o i pos) (tDGet td ty) := by
  intro pins s σ H Q I h
  refine subD_of PySem.F.slot_dict_getitem.lookup hs (thn (ho pins s σ H _ I h) fun u s1 ⟨x, H1, I1, rx, q1⟩ => thn (hi pins s1 σ H1 _ I1 q1) fun iv s2 ⟨y, H2, I2, ry, a, v, ex, g, q2⟩ => ?_)
  subst ex
  obtain rfl : u = Value.ref a := rx
  exact ⟨dict_typeIs I2 g, d_getItem hu I2 g ry fun w' s3 I3 rw' => ⟨v, H2, I3, rw', q2⟩⟩
theorem ps_dput (hu : X.A.units + 1 < cLine) (ho : PE X o td) (hi : PE X i ty) (hv : PE X value tv) (hs : swapsWith value (some (.Subscript o i pos')) pos.line X.env = pure false) :
    PS X (.Assign [.Subscript o i pos'] value pos) (sDPut td ty tv) := by
  intro pins s σ H D I h
  refine wpAny_Assign_Subscript (thn (hv pins s σ H _ I h) fun r s1 ⟨v, H1, I1, rv, q1⟩ => thn (ho pins s1 σ H1 _ I1 q1) fun u s2 ⟨x, H2, I2, rx, q2⟩ => thn (hi pins s2 σ H2 _ I2 q2) fun iv s3 ⟨y, H3, I3, ry, a, H4, ex, g, q3⟩ => ?_) hs
  subst ex
  obtain rfl : u = Value.ref a := rx
  exact d_setItem hu I3 g ry rv fun s4 I4 => ⟨σ, H4, I4, q3⟩
end


theorem dk_empty {P : Program} {w : World} {H : Hp} (h : Heap) (hb : sysModules < h.objs.size) : ObjOk P w H (h.push { cls := .type "dict", data := .dict #[] }) h.objs.size (.dK []) :=
  ⟨Nat.zero_le _, beq_eq_false_iff_ne.mpr (Ne.symm (Nat.ne_of_lt hb)), [], .nil, Heap.DictOf.new h⟩
def tDNewK : TE := fun _ H Q => ∀ p, H p = none → Q (.ref p) (upd H p (.dK []))
def tDNewT : TE := fun _ H Q => ∀ p, H p = none → Q (.ref p) (upd H p (.dT []))
section
variable {X : Cx} {pos : Pos}
theorem pe_dnewK : PE X (.Dict [] [] pos) tDNewK := fun pins s σ H Q I h =>
  wpAny_Dict_empty ⟨.ref s.heap.objs.size, _, I.laid (a := s.heap.objs.size) (o := .dK []) (t' := s.toks) (fun _ _ q => Heap.get?_push_of_some _ q) (Nat.le_refl _) (dk_empty s.heap I.big), rfl, h _ (I.hok.fresh (Nat.le_refl _))⟩
end

def tPairs : List (TE × TE) → St → Hp → (List (V × V) → Hp → Prop) → Prop
  | [], _, H, Q => Q [] H
  | (tk, tv) :: r, σ, H, Q => tk σ H fun x H1 => tv σ H1 fun y H2 => tPairs r σ H2 fun ps H3 => Q ((x, y) :: ps) H3
abbrev VV : List (V × V) → List (Value × Value) → Prop := Paired fun p q => RelV p.1 q.1 ∧ RelV p.2 q.2
def PPs (X : Cx) (pos : Pos) (keys : List (Option Expr)) (values : List Expr) (trs : List (TE × TE)) : Prop :=
  ∀ (pins : List (Addr × Obj)) (s : Shared) (σ : St) (H : Hp) (Q : List (V × V) → Hp → Prop), Inv X pins σ H s → tPairs trs σ H Q →
    wpAny (model X.prog X.w) X.A (evalPairs (pairTrees keys values X.env pos)) (fun vs s' => ∃ ps H', Inv X pins σ H' s' ∧ VV ps vs ∧ Q ps H') X.xe s

def mergeK (kvs more : List (Key × V)) : List (Key × V) := more.foldl (fun acc kv => putK acc kv.1 kv.2) kvs
def tDisp (trs : List (TE × TE)) : TE := fun σ H Q => ∀ p, H p = none → tPairs trs σ (upd H p (.dK [])) fun ps H2 => H2 p = some (.dK []) ∧ ∃ kvs : List (Key × V), ps = kvs.map (fun kv => (kV kv.1, kv.2)) ∧ kvs.length ≤ 15 ∧ Q (.ref p) (upd H2 p (.dK (mergeK [] kvs)))


structure M1 (X : Cx) (o : Expr) (m : Str) (apos : Pos) (e : Expr) (cpos : Pos) : Prop where
  base : attributeBase o m X.env (eval o X.env) = eval o X.env
  few : ((backTo cpos (starEach [e] X.env)).all (fun x => !x.1) && (backToKw cpos (keywordEach [] X.env)).all (fun x => x.1.isSome)
    && decide (([e] : List Expr).length + ([] : List Keyword).length + (if ([] : List Keyword).isEmpty then 0 else 1) < 30)) = true
  line : (apos.endLine == cpos.line) = true
  trees : backTo cpos (starEach [e] X.env) = [(false, eval e X.env)]
structure M2 (X : Cx) (o : Expr) (m : Str) (apos : Pos) (e f : Expr) (cpos : Pos) : Prop where
  base : attributeBase o m X.env (eval o X.env) = eval o X.env
  few : ((backTo cpos (starEach [e, f] X.env)).all (fun x => !x.1) && (backToKw cpos (keywordEach [] X.env)).all (fun x => x.1.isSome)
    && decide (([e, f] : List Expr).length + ([] : List Keyword).length + (if ([] : List Keyword).isEmpty then 0 else 1) < 30)) = true
  line : (apos.endLine == cpos.line) = true
  trees : backTo cpos (starEach [e, f] X.env) = [(false, eval e X.env), (false, eval f X.env)]

def IsD (H : Hp) (a : Addr) : Prop := (∃ kvs, Rd H a (.dK kvs)) ∨ ∃ kvs, Rd H a (.dT kvs)
theorem isD_at {X : Cx} {pins : List (Addr × Obj)} {σ : St} {H : Hp} {s : Shared} {a : Addr} (I : Inv X pins σ H s) (d : IsD H a) :
    s.TypeIs (.ref a) "dict" ∧ (∀ b, Value.ref a = .ref b → ∃ ob, s.heap.get? b = some ob ∧ ob.dict = none) ∧ (a == sysModules) = false := by
  rcases d with ⟨kvs, e⟩ | ⟨kvs, e⟩
  · obtain ⟨_, hd, vs, _, dd⟩ := dk_rd I.hok e
    refine ⟨dd.typeIs, fun b q => ?_, hd⟩
    cases q
    obtain ⟨ob, _, _, h1, h2, _⟩ := dd
    exact ⟨ob, h1, h2.2.1⟩
  · obtain ⟨_, hd, xs, _, dd⟩ := dt_rd I.hok e
    refine ⟨dd.typeIs, fun b q => ?_, hd⟩
    cases q
    obtain ⟨ob, _, _, h1, h2, _⟩ := dd
    exact ⟨ob, h1, h2.2.1⟩

section
variable {X : Cx} {pins : List (Addr × Obj)} {σ : St} {H : Hp} {s : Shared} {a : Addr} {y d : V} {u r : Value} {o : Option V} {A : Around} {E : Value → Shared → Prop}
theorem d_get2 {Q : Value → Shared → Prop} (hu : A.units + 1 < cLine) (I : Inv X pins σ H s) (g : DGet H a y o) (ry : RelV y u) (rd : RelV d r) (h : ∀ w' s', Inv X pins σ H s' → RelV (o.getD d) w' → Q w' s') :
    wpAny (model X.prog X.w) A (call (.builtin "dict.get") [.ref a, u, r]) Q E s := by
  rcases g with ⟨kvs, k, e, ey, l⟩ | ⟨kvs, k, b, e, ey, eb, l⟩
  · subst ey
    obtain ⟨z, hd, vs, rel, dd⟩ := dk_rd I.hok e
    refine call_meetsIn PySem.F.slot_dict_get dd.typeIs PySem.F.entry_dict_get (PySem.F.args_dict_get_3 _ _ _) (meets_dict_get_default (mixKind X.prog X.w) a (kV_is ry) hd r) ⟨_, dd.mapOf, h _ _ (I.tok _) ?_⟩
    rw [l]
    exact (rel.val k).getD rd
  · subst ey
    cases (show u = Value.ref b from ry)
    obtain ⟨z, hd, xs, rel, dd⟩ := dt_rd I.hok e
    refine call_meetsIn PySem.F.slot_dict_get dd.typeIs PySem.F.entry_dict_get (PySem.F.args_dict_get_3 _ _ _) (meetsH_dict_get_default (tupleKind (mixKind X.prog X.w)) a b hd r) ⟨tupleKind_room_in1 hu, k, xs, key_of I.hok eb, dd, h _ _ (I.tok _) ?_⟩
    rw [l]
    exact (rel.val k).getD rd
end

def tDGet1 (td ty : TE) : TE := fun σ H Q => td σ H fun x H1 => ∃ a, x = .ref a ∧ IsD H1 a ∧ ty σ H1 fun y H2 => ∃ o, DGet H2 a y o ∧ Q (o.getD .non) H2
def tDGet2 (td ty tx : TE) : TE := fun σ H Q => td σ H fun x H1 => ∃ a, x = .ref a ∧ IsD H1 a ∧ ty σ H1 fun y H2 => tx σ H2 fun z H3 => ∃ o, DGet H3 a y o ∧ Q (o.getD z) H3
def tDPop1 (td ty : TE) : TE := fun σ H Q => td σ H fun x H1 => ∃ a, x = .ref a ∧ IsD H1 a ∧ ty σ H1 fun y H2 => ∃ kvs k v, H2 a = some (.dK kvs) ∧ y = kV k ∧ valV kvs k = some v ∧ Q v (upd H2 a (.dK (dropK kvs k)))
def tDPop2 (td ty tx : TE) : TE := fun σ H Q => td σ H fun x H1 => ∃ a, x = .ref a ∧ IsD H1 a ∧ ty σ H1 fun y H2 => tx σ H2 fun z H3 => ∃ kvs k, H3 a = some (.dK kvs) ∧ y = kV k ∧
  (∀ v, valV kvs k = some v → Q v (upd H3 a (.dK (dropK kvs k)))) ∧ (valV kvs k = none → Q z H3)
section
variable {X : Cx} {o e f : Expr} {apos cpos : Pos} {td ty tx : TE}
theorem pe_dget2 (hu : X.A.units + 1 < cLine) (ho : PE X o td) (he : PE X e ty) (hf : PE X f tx) (m : M2 X o "get" apos e f cpos) : PE X (.Call (.Attribute o "get" apos) [e, f] [] cpos) (tDGet2 td ty tx) := by
  intro pins s σ H Q I h
  refine wpAny_Call_method m.base m.few m.line PySem.F.plainAttrs_dict PySem.F.slot_dict_get PySem.F.type_dict_get (thn (ho pins s σ H _ I h) fun u s1 ⟨x, H1, I1, rx, a, ex, d, q1⟩ => ?_)
  subst ex
  obtain rfl : u = Value.ref a := rx
  obtain ⟨t1, t2, _⟩ := isD_at I1 d
  refine ⟨t1, t2, ?_⟩
  rw [m.trees]
  refine Calls.callWith_builtin rfl (Calls.evalArgs_plain (Calls.spliced_cons (thn (he pins s1 σ H1 _ I1 q1) fun iv s2 ⟨y, H2, I2, ry, q2⟩ =>
    Calls.spliced_cons (thn (hf pins s2 σ H2 _ I2 q2) fun fv s3 ⟨z, H3, I3, rz, ov, g, q3⟩ => Calls.spliced_nil ?_))))
  exact d_get2 hu I3 g ry rz fun w' s4 I4 rw' => ⟨_, H3, I4, rw', q3⟩
end

section
variable {X : Cx} {pins : List (Addr × Obj)} {σ : St} {H : Hp} {s : Shared} {a : Addr} {kvs : List (Key × V)} {A : Around} {E : Value → Shared → Prop}
end


section
variable {X : Cx} {pins : List (Addr × Obj)} {σ : St} {H : Hp} {s : Shared} {a : Addr} {y : V} {u : Value} {A : Around} {E : Value → Shared → Prop}
end
end L2

namespace L2.EP
open PySem PySem.Spec PyProof.Rows
structure Dc (β : Type) where
  l : List (Int × β)
def Dc.val {β : Type} (d : Dc β) (k : Int) : Option β := (d.l.find? fun u => decide (u.1 = k)).map (·.2)
def Dc.put {β : Type} (d : Dc β) (k : Int) (c : β) : Dc β := ⟨if (d.l.any fun u => decide (u.1 = k)) = true then d.l.map (fun u => if u.1 = k then (u.1, c) else u) else d.l ++ [(k, c)]⟩
theorem Dc.put_len {β : Type} (d : Dc β) (k : Int) (c : β) : (d.put k c).l.length ≤ d.l.length + 1 := by
  unfold Dc.put
  dsimp only
  split
  · rw [List.length_map]; omega
  · rw [List.length_append]; exact Nat.le_refl _
def DP {β : Type} [Py β] (K : PySem.W.Frag) (N : Nn) (H : Hp) (x : Key × V) (y : Int × β) : Prop := x.1 = .inl y.1 ∧ Py.rp K N H x.2 y.2
instance {β : Type} [Py β] : Py (Dc β) where
  rp K N H v d := ∃ p kvs, v = .ref p ∧ Rd H p (.dK kvs) ∧ N.has H p (.inr kvs) ∧ Paired (DP K N H) kvs d.l
  tr l t h := by
    obtain ⟨p, kvs, e, s, n, r⟩ := h
    obtain ⟨s', n'⟩ := l _ (.inr kvs) s n
    exact ⟨p, kvs, e, s', n', pr_imp (fun _ _ q => ⟨q.1, Py.tr l t q.2⟩) r⟩
theorem dc_val {β : Type} [Py β] {K : PySem.W.Frag} {N : Nn} {H : Hp} (k : Int) : ∀ {kvs : List (Key × V)} {l : List (Int × β)}, Paired (DP K N H) kvs l →
    (∀ c, (Dc.mk l).val k = some c → ∃ v, valV kvs (.inl k) = some v ∧ Py.rp K N H v c) ∧ ((Dc.mk l).val k = none → valV kvs (.inl k) = none)
  | _, _, .nil => ⟨fun c h => (by cases h), fun _ => rfl⟩
  | _, _, .cons (a := x) (b := y) h t => by
    obtain ⟨i1, i2⟩ := dc_val k t
    by_cases e : y.1 = k
    · have e' : x.1 = Sum.inl k := by rw [h.1, e]
      have hv : ∀ r, (Dc.mk (y :: r)).val k = some y.2 := fun r => by unfold Dc.val; rw [List.find?_cons]; simp [e]
      rw [hv, valV_pos e']
      exact ⟨fun c hc => (by cases hc; exact ⟨_, rfl, h.2⟩), fun z => (by cases z)⟩
    · have e' : ¬ x.1 = Sum.inl k := by rw [h.1]; intro z; injection z with z; exact e z
      have hv : ∀ r, (Dc.mk (y :: r)).val k = (Dc.mk r).val k := fun r => by unfold Dc.val; rw [List.find?_cons]; simp [e]
      rw [hv, valV_neg e']
      exact ⟨i1, i2⟩
theorem dc_put {β : Type} [Py β] {K : PySem.W.Frag} {N : Nn} {H : Hp} {k : Int} {v : V} {c : β} {kvs : List (Key × V)} {l : List (Int × β)} (r : Paired (DP K N H) kvs l) (h : Py.rp K N H v c) : Paired (DP K N H) (putK kvs (.inl k) v) ((Dc.mk l).put k c).l := by
  have ha : ∀ {kvs : List (Key × V)} {l : List (Int × β)}, Paired (DP K N H) kvs l → (kvs.any fun kv => decide (kv.1 = Sum.inl k)) = (l.any fun u => decide (u.1 = k)) := fun r => by
    induction r with
    | nil => rfl
    | cons h t ih =>
      rw [List.any_cons, List.any_cons, ih, h.1]
      congr 1
      exact decide_eq_decide.mpr ⟨fun z => by injection z, fun z => by rw [z]⟩
  have hm : ∀ {kvs : List (Key × V)} {l : List (Int × β)}, Paired (DP K N H) kvs l → Paired (DP K N H) (kvs.map fun kv => if kv.1 = Sum.inl k then (kv.1, v) else kv) (l.map fun u => if u.1 = k then (u.1, c) else u) := fun r => by
    induction r with
    | nil => exact .nil
    | @cons x y _ _ g t ih =>
      rw [List.map_cons, List.map_cons]
      refine .cons ?_ ih
      by_cases e : y.1 = k
      · rw [if_pos e, if_pos (by rw [g.1, e])]
        exact ⟨g.1, h⟩
      · rw [if_neg e, if_neg (by rw [g.1]; intro z; injection z with z; exact e z)]
        exact g
  unfold putK Dc.put
  dsimp only
  rw [ha r]
  split
  · exact hm r
  · exact pr_app r (.cons ⟨rfl, h⟩ .nil)
section
variable {X : Cx} {Γ : GEnv} {D : GD} {α β γ : Type} [Py α] [Py β] [Py γ] {e e1 e2 ek : Expr} {b b1 b2 : Bool} {pos : Pos} {rest st : List Stmt}
theorem en_dnew : EN X Γ (.Dict [] [] pos) (Dc.mk ([] : List (Int × β))) := by
  with_unfolding_all
    exact pe_wk pe_dnewK fun σ H Q ⟨H0, F, O, Z, q⟩ p hp => by
      have hx : off (upd H p (.dK [])) O p = some (.dK []) := by rw [off_get (Z.notOwn hp)]; exact upd_same
      exact q _ _ (same_upd hp _) ⟨p, [], rfl, .inl hx, ⟨hp, hx⟩, .nil⟩
theorem s_dput [PyT β] (i : Nat) {d : Dc β} {k : Int} {c : β} {x : Str} {p p' : Pos} (hu : X.A.units + 60 < cLine) (hg : Γ[i]? = some (some (.dpo d))) (hk : E X Γ ek b2 k) (he : E X Γ e b c) (hl : d.l.length ≤ 1000) (h : S X (Γ.set i (some (.dpo (d.put k c)))) rest D) (hi : X.N[i]? = some x := by rfl)
    (hv : Vis X.env.scope x := by first | exact Or.inl rfl | exact Or.inr (Or.inl rfl) | exact Or.inr (Or.inr rfl)) (hd : (x == ("__debug__" : Str)) = false := by decide) (hcd : (x == ("__classdict__" : Str)) = false := by decide)
    (hs : swapsWith e (some (.Subscript (.Name x p) ek p')) pos.line X.env = pure false := by rfl) : S X Γ (.Assign [.Subscript (.Name x p) ek p'] e pos :: rest) D := by
  with_unfolding_all
    exact s_seq (ps_wk (ps_dput (by omega) (pv i hi hv hd hcd) hk he hs) fun De σ H ⟨H0, F, O, Z, n, _⟩ => ⟨H0, F, O, Z, fun u H1 z1 ru => by
        obtain ⟨v, Di, hv1, _, _, _⟩ := (Z.go z1).writeM hg True.intro
        refine ⟨v, hv1, H0, F, O, Z.go z1, fun y H3 z3 ry => ?_⟩
        obtain ⟨v', Di, hv2, ⟨q, kvs, e1, rd, nn, rr⟩, hO, wr⟩ := (Z.go (z1.trans z3)).writeM hg True.intro
        rw [hv1] at hv2
        have ev : v = v' := Option.some.inj (Option.some.inj hv2)
        subst ev
        have ey : y = V.int k := ry
        subst ey
        have hq : H3 q = some (.dK kvs) := nn.2
        have ht : ∀ p xs, Rt H3 p xs → Rt (upd H3 q (.dK (putK kvs (.inl k) u))) p xs := fun p xs h => by
          have hp : p ≠ q := fun w => by
            subst w
            rcases h with h | ⟨o, h⟩
            · rw [hq] at h; cases h
            · rw [hq] at h; cases h
          rcases h with h | ⟨o, h⟩
          · exact .inl (by rw [upd_ne hp]; exact h)
          · exact .inr ⟨o, by rw [upd_ne hp]; exact h⟩
        refine ⟨q, _, e1, DPut.k (k := .inl k) hq (by rw [pr_len rr]; exact small1000 hl), ?_⟩
        have rr' : Paired (DP X.K (.set Di) (upd H3 q (.dK (putK kvs (.inl k) u)))) kvs d.l := pr_imp (fun _ _ z => ⟨z.1, PyT.free ht z.2⟩) rr
        have ru' : Py.rp X.K (.set Di) (upd H3 q (.dK (putK kvs (.inl k) u))) u c := PyT.free (fun p xs w => ht p xs (Same.rt ((off_same _ _).trans z3) w)) ru
        obtain ⟨Z', eo⟩ := wr q (.inr (putK kvs (.inl k) u)) (some (.dpo (d.put k c))) nn.1 fun g'' e' => by
          cases e'
          exact ⟨True.intro, q, _, e1, .inl upd_same, ⟨nn.1, upd_same⟩, dc_put rr' ru'⟩
        exact n _ _ _ _ (by rw [show upd H3 q (HO.dK (putK kvs (Sum.inl k) u)) = upd H3 q (mo (.inr (putK kvs (.inl k) u))) from rfl, eo]; exact off_mono (z1.trans z3)) Z' h⟩)
end
end L2.EP

namespace L2.EP
open PySem PySem.Spec PyProof.Rows
section
variable {X : Cx} {Γ : GEnv} {D : GD} {α β γ : Type} [Py α] [Py β] [Py γ] {e e1 e2 ek ec : Expr} {b b1 b2 : Bool} {pos : Pos} {rest st : List Stmt}
theorem e_dgetO [PyT β] (i : Nat) {d : Dc β} {k : Int} {c : β} {x : Str} {p ap cp : Pos} (hu : X.A.units + 60 < cLine) (hg : Γ[i]? = some (some (.dpo d))) (hk : E X Γ ek b1 k) (he : E X Γ ec b2 c) (hi : X.N[i]? = some x := by rfl)
    (hv : Vis X.env.scope x := by first | exact Or.inl rfl | exact Or.inr (Or.inl rfl) | exact Or.inr (Or.inr rfl)) (hd : (x == ("__debug__" : Str)) = false := by decide) (hcd : (x == ("__classdict__" : Str)) = false := by decide)
    (hm : M2 X (.Name x p) "get" ap ek ec cp := by exact ⟨rfl, rfl, rfl, rfl⟩) : E X Γ (.Call (.Attribute (.Name x p) "get" ap) [ek, ec] [] cp) true ((d.val k).getD c) := by
  with_unfolding_all
    exact pe_wk (pe_dget2 (by omega) (pv i hi hv hd hcd) hk he hm) fun σ H Q ⟨H0, F, O, Z, q⟩ => by
        obtain ⟨v, Di, hv1, ⟨a, kvs0, e1, rd0, _, _⟩, _, _⟩ := Z.writeM hg True.intro
        refine ⟨v, hv1, a, e1, .inl ⟨kvs0, rd0⟩, H0, F, O, Z, fun y H2 z2 ry => ⟨H0, F, O, Z.go z2, fun u H3 z3 ru => ?_⟩⟩
        have Z3 := Z.go (z2.trans z3)
        obtain ⟨v', Di, hv2, ⟨a', kvs, e1', rd, nn, rr⟩, _, _⟩ := Z3.writeM hg True.intro
        rw [hv1] at hv2
        have ev : v = v' := Option.some.inj (Option.some.inj hv2)
        subst ev
        rw [e1] at e1'
        have ea : a = a' := by injection e1'
        subst ea
        have ey : y = V.int k := ry
        subst ey
        refine ⟨valV kvs (.inl k), .inl ⟨kvs, .inl k, rd, rfl, rfl⟩, q _ H3 (z2.trans z3) ?_⟩
        obtain ⟨h1, h2⟩ := dc_val (β := β) (l := d.l) k rr
        cases ed : d.val k with
        | none =>
          rw [h2 ed]
          exact PyT.free (fun _ _ w => w) ru
        | some c' =>
          obtain ⟨w, h3, h4⟩ := h1 c' ed
          rw [h3]
          exact PyT.free (rd_tup_off Z3.own) h4
end
end L2.EP

namespace L2.EP
open PySem PySem.Spec PyProof.Rows
section
variable {X : Cx} {Γ : GEnv} {D : GD} {α β γ : Type} [Py α] [Py β] [Py γ] {e e1 e2 : Expr} {b b1 b2 : Bool} {pos : Pos} {rest st : List Stmt}
theorem e_borrowT [PyT β] (i : Nat) {a : α} {c : β} (hg : Γ[i]? = some (some (.dpo a))) (h : E X (Γ.set i (some (.val true a))) e b c) : E X Γ e true c := by
  with_unfolding_all
    exact pe_wk h fun σ H Q ⟨H0, F, O, Z, q⟩ => by
      obtain ⟨O', Z', so⟩ := Z.freeze hg True.intro (g' := .val true a) (fun z => z) fun Di O' v z1 z2 _ z4 => ok_dpo z1 z2 z4
      refine ⟨H0, F, O', Z', fun v H' s r => q v H' s ?_⟩
      exact PyT.free (fun p xs w => rd_tup_off (Z.go s).own p xs (Same.rt (off_same _ _) w)) r
end
end L2.EP

namespace L2
open PySem PySem.Spec PyProof.Rows
def Itd (a : Addr) (o : Obj) (kvs : List (Key × V)) : It :=
  ⟨fun i H => H a = some (.frz o (.dK kvs)) ∧ i < kvs.length,
   fun i H x H' => H' = H ∧ ∃ kv, kvs[i]? = some kv ∧ x = kV kv.1,
   fun i H => H a = some (.frz o (.dK kvs)) ∧ kvs.length ≤ i⟩
theorem turn_dict {P : Program} {w : World} {K : PySem.W.Frag} {tg : Expr} (a it : Addr) (o : Obj) (kvs : List (Key × V)) : Turn P w K tg (Itd a o kvs) [it] it (fun i h => ∃ es ep, o.data = .dict es ep ∧ h.IsKeyIter it a i kvs.length ep) where
  mem := by simp
  obj := fun i h st b hb => by
    have e : b = it := by simpa using hb
    subst e
    obtain ⟨es, ep, _, o', e, c, d⟩ := st
    exact ⟨o', e, fun v z => by rw [d] at z; cases z⟩
  keep := fun i h h' st k => by
    obtain ⟨es, ep, e, st⟩ := st
    exact ⟨es, ep, e, st.at fun o e => k it (by simp) o e⟩
  item := by
    intro X hP hw hK hc i pins s σ H E I hf st hg
    subst hP hw hK
    obtain ⟨es, ep, hd, st⟩ := st
    obtain ⟨fz, hi⟩ := hg
    obtain ⟨go, hz, hs, vs, kv, o', es', ep', e1, r1, r2, r3⟩ := (show ObjOk X.prog X.w H s.heap a (.frz o (.dK kvs)) from I.hok a _ fz)
    rw [go] at e1; cases e1
    rw [hd] at r2; cases r2
    have hl : kvs.length = vs.length := kv.length
    have at_ : s.heap.DictAt (mixKind X.prog X.w) a vs ep := ⟨o, es, go, r1, hd, r3⟩
    obtain ⟨f0, f1, f2, f3, f4, f5⟩ := hf it (by simp)
    obtain ⟨⟨k, x⟩, hx⟩ : ∃ p, vs[i]? = some p := ⟨vs[i]'(by omega), List.getElem?_eq_getElem (by omega)⟩
    rw [hl] at st
    refine wpAny_pyNext_dict_item st at_ hx fun key h' hkey st' sb => ?_
    have I1 : Inv X pins σ H { s with heap := h' } := I.turned (t' := s.toks) (fun b o hb e => (sb.2 b hb).trans e) f0 f1 f3 f4 f5
    obtain ⟨o2, e2, c2, d2⟩ := id st'
    have e6 : (kvs[i]'hi).1 = k := by
      have e7 : (kvs.map (·.1))[i]? = (vs.map (·.1))[i]? := by rw [kv.keys]
      rw [List.getElem?_map, List.getElem?_map, List.getElem?_eq_getElem hi, hx] at e7
      exact Option.some.inj e7
    have rk : RelV (kV (kvs[i]'hi).1) key := by
      rw [e6]
      rcases keyIs_shape hkey with ⟨j, t, g1, g2⟩ | ⟨j, t, g1, g2⟩
      · subst g1; exact ⟨t, g2⟩
      · subst g1; exact ⟨t, g2⟩
    exact ⟨key, rfl, go_of (s := { s with heap := h' }) e2 c2 d2 (by decide) ⟨_, H, I1, rk, ⟨rfl, _, List.getElem?_eq_getElem hi, rfl⟩, ⟨es, ep, hd, by rw [hl]; exact st'⟩, fun b hb => (hf b hb).1⟩⟩
  done := by
    intro X hP hw hK hc i pins s σ H E I hf st hg
    subst hP hw hK
    obtain ⟨es, ep, hd, st⟩ := st
    obtain ⟨fz, hi⟩ := hg
    obtain ⟨go, hz, hs, vs, kv, o', es', ep', e1, r1, r2, r3⟩ := (show ObjOk X.prog X.w H s.heap a (.frz o (.dK kvs)) from I.hok a _ fz)
    rw [go] at e1; cases e1
    rw [hd] at r2; cases r2
    have hl : kvs.length = vs.length := kv.length
    have at_ : s.heap.DictAt (mixKind X.prog X.w) a vs ep := ⟨o, es, go, r1, hd, r3⟩
    obtain ⟨f0, f1, f2, f3, f4, f5⟩ := hf it (by simp)
    rw [hl] at st
    exact wpAny_pyNext_dict_end (I.ok.hd hc) st at_ (List.getElem?_eq_none (by omega)) fun h' eb => ⟨rfl, I.turned (t' := s.toks) (fun b o hb e => eb b o hb e) f0 f1 f3 f4 f5⟩
  self := fun _ _ _ _ _ st h => by
    obtain ⟨es, ep, _, st⟩ := st
    exact wpAny_pyIter_keyiter st h
def Dz (kvs : List (Key × V)) (u : HO) : Prop := u = .dK kvs ∨ ∃ o, u = .frz o (.dK kvs)
section
variable {X : Cx} {tg : Expr} {pins : List (Addr × Obj)} {σ : St} {H : Hp} {s : Shared} {a : Addr} {u0 u : HO} {kvs : List (Key × V)}
theorem Inv.swap (I : Inv X pins σ H s) (e : H a = some u0) (d0 : Dz kvs u0) (ok : ObjOk X.prog X.w H s.heap a u) (hf : ∀ o' u', X.H₀ a = some (.frz o' u') → u = .frz o' u') : Inv X pins σ (upd H a u) s := by
  have hn : ∀ b, H b = none → b ≠ a := fun b n z => by subst z; rw [n] at e; cases e
  have ht : ∀ b xs, H b = some (.tup xs) → b ≠ a := fun b xs q z => by
    subst z; rw [e] at q
    rcases d0 with d | ⟨o, d⟩ <;> (rw [d] at q; cases q)
  have hw : ∀ b x, H b = some (.own x) → b ≠ a := fun b xs q z => by
    subst z; rw [e] at q
    rcases d0 with d | ⟨o, d⟩ <;> (rw [d] at q; cases q)
  have st : ∀ b v, ObjOk X.prog X.w H s.heap b v → ObjOk X.prog X.w (upd H a u) s.heap b v := fun b v z => z.stay (fun c v _ q => q) (fun c q => by rw [upd_ne (hw c _ q)]; exact q) fun c xs q => by rw [upd_ne (ht c xs q)]; exact q
  refine ⟨I.ok, I.os, I.bare, ⟨I.base.keep, I.base.slot, fun b o q n hx => ?_, I.base.there, fun b xs q => ?_, fun b o v q => ?_, fun b ps q => ?_⟩, I.loc, I.cell, ?_, fun x c q => ?_, fun p hp => ?_, fun b v q => ?_, I.len⟩
  · have := I.base.free b o q n hx
    rw [upd_ne (hn b this)]; exact this
  · have := I.base.tups b xs q
    rw [upd_ne (ht b xs this)]; exact this
  · by_cases hb : b = a
    · subst hb; rw [upd_same, hf _ _ q]
    · rw [upd_ne hb]; exact I.base.frzs b o v q
  · obtain ⟨more, q'⟩ := I.base.tbls b ps q
    have hb : b ≠ a := fun z => by
      subst z; rw [e] at q'
      rcases d0 with d | ⟨o, d⟩ <;> (rw [d] at q'; cases q')
    exact ⟨more, by rw [upd_ne hb]; exact q'⟩
  · rw [upd_ne (hn _ I.free)]; exact I.free
  · rw [upd_ne (hn _ (I.freeC x c q))]; exact I.freeC x c q
  · obtain ⟨q1, q2, q3⟩ := I.pin p hp
    exact ⟨q1, by rw [upd_ne (hn _ q2)]; exact q2, q3⟩
  · by_cases hb : b = a
    · subst hb; rw [upd_same] at q; cases q; exact st _ _ ok
    · rw [upd_ne hb] at q; exact st _ _ (I.hok b v q)
def iDict (X : Cx) (tl : TE) : TI := fun σ H R => tl σ H fun x H1 => ∃ a kvs u, x = .ref a ∧ H1 a = some u ∧ Dz kvs u ∧
  ∀ o, (u = .dK kvs ∨ u = .frz o (.dK kvs)) → (∀ o' u', X.H₀ a = some (.frz o' u') → u = .frz o' u') → R (Itd a o kvs) (upd H1 a (.frz o (.dK kvs)))
theorem pi_dict {l : Expr} {tl : TE} (hl : PE X l tl) : PI X tg l (iDict X tl) := by
  intro pins s σ H R I h
  refine thn (hl pins s σ H _ I h) fun v s1 ⟨x, H1, I1, r1, q1⟩ => ?_
  obtain ⟨a, kvs, u, e, hu, dz, q⟩ := q1
  subst e
  cases r1
  have rd : Rd H1 a (.dK kvs) := by
    rcases dz with d | ⟨o, d⟩
    · exact .inl (by rw [hu, d])
    · exact .inr ⟨o, by rw [hu, d]⟩
  obtain ⟨hz, hs, vs, kv, hm⟩ := dk_rd I1.hok rd
  obtain ⟨o, es, ep, e1, r1, r2, r3⟩ := id hm
  have at_ : s1.heap.DictAt (mixKind X.prog X.w) a vs ep := ⟨o, es, e1, r1, r2, r3⟩
  have hu' : u = .dK kvs ∨ u = .frz o (.dK kvs) := by
    rcases dz with d | ⟨o', d⟩
    · exact .inl d
    · refine .inr ?_
      have := (show ObjOk X.prog X.w H1 s1.heap a (.frz o' (.dK kvs)) from I1.hok a _ (by rw [hu, d])).1
      rw [e1] at this
      rw [d, Option.some.inj this]
  have hf : ∀ o' u', X.H₀ a = some (.frz o' u') → u = .frz o' u' := fun o' u' z => by
    have := I1.base.frzs a o' u' z
    rw [hu] at this; exact Option.some.inj this
  have hfo : ∀ o' u', X.H₀ a = some (.frz o' u') → HO.frz o (.dK kvs) = .frz o' u' := fun o' u' z => by
    have := hf o' u' z
    rcases hu' with d | d
    · rw [d] at this; cases this
    · rw [← d]; exact this
  have I2 := I1.swap (u := .frz o (.dK kvs)) hu dz ⟨e1, hz, hs, vs, kv, hm⟩ hfo
  refine wpAny_pyIter_dict hs at_ ?_
  have hl : kvs.length = vs.length := kv.length
  refine ⟨s1.heap.objs.size, [s1.heap.objs.size], _, _, _, rfl, I2.kept (t' := s1.toks) fun b o e => Heap.get?_push_of_some _ e, turn_dict a _ o kvs, ⟨es, ep, r2, by rw [hl]; exact ⟨_, Heap.get?_push_size _ rfl, rfl, rfl⟩⟩, fun b hb => ?_, q o hu' hf⟩
  have e : b = s1.heap.objs.size := by simpa using hb
  subst e
  exact I2.fpOk (Nat.le_refl _) (I2.hok.fresh (Nat.le_refl _))
def eD (X : Cx) (D : Ends) : Ends := { D with
  nx := fun σ' H' => ∃ a kvs u o, H' a = some (.frz o (.dK kvs)) ∧ (u = .dK kvs ∨ u = .frz o (.dK kvs)) ∧ (∀ o' u', X.H₀ a = some (.frz o' u') → u = .frz o' u') ∧ D.nx σ' (upd H' a u)
  rt := fun v H' => D.rt v H' ∨ ∃ a kvs u o, H' a = some (.frz o (.dK kvs)) ∧ (u = .dK kvs ∨ u = .frz o (.dK kvs)) ∧ (∀ o' u', X.H₀ a = some (.frz o' u') → u = .frz o' u') ∧ D.rt v (upd H' a u) }
theorem Inv.loose {o : Obj} (I : Inv X pins σ H s) (e : H a = some (.frz o (.dK kvs))) (hu : u = .dK kvs ∨ u = .frz o (.dK kvs)) (hf : ∀ o' u', X.H₀ a = some (.frz o' u') → u = .frz o' u') : Inv X pins σ (upd H a u) s := by
  have ok := (show ObjOk X.prog X.w H s.heap a (.frz o (.dK kvs)) from I.hok a _ e)
  refine I.swap e (.inr ⟨o, rfl⟩) ?_ hf
  rcases hu with d | d
  · rw [d]; exact ok.2
  · rw [d]; exact ok
theorem ps_forD {l : Expr} {tl : TE} {body : List Stmt} {g : TG} {tb : TS} {pos : Pos} (hp : PassesOwn (model X.prog X.w) X.A X.env X.xe) (hc : X.calm = true) (hl : PE X l tl) (hg : PG X tg g) (hb : PSs X body tb)
    (hs : ∀ x, foldedSetIterable l X.env x = pure x := by intro _; rfl) : PS X (.For tg l body [] pos) (fun D σ H => tFor (iDict X tl) g tb (eD X D) σ H) := by
  intro pins s σ H D I h
  refine thn (ps_for hp hc (pi_dict hl) hg hb hs pins s σ H (eD X D) I h) fun f s' q => ?_
  cases f with
  | next =>
    obtain ⟨σ', H', I', a, kvs, u, o, e, hu, hf, q⟩ := q
    exact ⟨σ', _, I'.loose e hu hf, q⟩
  | brk => exact q
  | cont => exact q
  | ret v =>
    obtain ⟨v', σ', H', I', r, q | ⟨a, kvs, u, o, e, hu, hf, q⟩⟩ := q
    · exact ⟨v', σ', H', I', r, q⟩
    · exact ⟨v', σ', _, I'.loose e hu hf, r, q⟩
end
end L2

namespace L2.EP
open PySem PySem.Spec PyProof.Rows
def Bd.wk : Bd → Bd
  | @Bd.val _ _ _ a => .val false a
  | @Bd.own _ _ _ as => .own false as
  | @Bd.dpo _ _ a => .dpo a
def wkΓ (Γ : GEnv) : GEnv := Γ.map (Option.map Bd.wk)
theorem wkΓ_get {Γ : GEnv} {i : Nat} {g : Bd} (h : (wkΓ Γ)[i]? = some (some g)) : ∃ g0, Γ[i]? = some (some g0) ∧ g = g0.wk := by
  unfold wkΓ at h
  rw [List.getElem?_map] at h
  cases e : Γ[i]? with
  | none => rw [e] at h; cases h
  | some o =>
    cases o with
    | none => rw [e] at h; cases h
    | some g0 => rw [e] at h; cases h; exact ⟨g0, rfl, rfl⟩
open Classical in
noncomputable def fz0 (H0 : Hp) (a : Addr) (o : Obj) (kvs : List (Key × V)) : Hp := if H0 a = none then H0 else upd H0 a (.frz o (.dK kvs))
section
variable {K : PySem.W.Frag} {H0 H H' : Hp} {F O : Addr → Prop} {Γ : GEnv} {σ : St} {a : Addr} {u : HO} {kvs : List (Key × V)} {o : Obj}
theorem fz0_none {p : Addr} : fz0 H0 a o kvs p = none ↔ H0 p = none := by
  unfold fz0
  split
  · exact Iff.rfl
  · rename_i h
    by_cases e : p = a
    · subst e; rw [upd_same]; exact ⟨fun z => (by cases z), fun z => absurd z h⟩
    · rw [upd_ne e]
theorem fz0_ne {p : Addr} (h : p ≠ a) : fz0 H0 a o kvs p = H0 p := by
  unfold fz0
  split
  · rfl
  · rw [upd_ne h]
theorem fz0_at (h : H0 a ≠ none) : fz0 H0 a o kvs a = some (.frz o (.dK kvs)) := by
  unfold fz0
  rw [if_neg h, upd_same]
theorem mo_dz {G G' : Hp} {u u' : HO} (ne : ∀ b, b ≠ a → G' b = G b) (e : G a = some u) (e' : G' a = some u') (d : Dz kvs u) (d' : Dz kvs u') {p : Addr} {m : Mt} (h : Mo K G p m) : Mo K G' p m := by
  by_cases hp : p = a
  · subst hp
    cases m with
    | inl xs =>
      rcases h with (h | ⟨o1, h⟩) | h
      · rw [e] at h; rcases d with d | ⟨o2, d⟩ <;> (rw [d] at h; cases h)
      · rw [e] at h; rcases d with d | ⟨o2, d⟩ <;> (rw [d] at h; cases h)
      · exact .inr h
    | inr ks =>
      have ek : ks = kvs := by
        rcases h with h | ⟨o1, h⟩
        · rw [e] at h; rcases d with d | ⟨o2, d⟩ <;> (rw [d] at h; cases h)
          rfl
        · rw [e] at h; rcases d with d | ⟨o2, d⟩ <;> (rw [d] at h; cases h)
          rfl
      subst ek
      rcases d' with d' | ⟨o2, d'⟩
      · exact .inl (by rw [e', d'])
      · exact .inr ⟨o2, by rw [e', d']⟩
    | inT ks =>
      exfalso
      rcases h with h | ⟨o1, h⟩
      · rw [e] at h; rcases d with d | ⟨o2, d⟩ <;> (rw [d] at h; cases h)
      · rw [e] at h; rcases d with d | ⟨o2, d⟩ <;> (rw [d] at h; cases h)
  · cases m with
    | inl xs =>
      rcases h with (h | ⟨o1, h⟩) | h
      · exact .inl (.inl (by rw [ne p hp]; exact h))
      · exact .inl (.inr ⟨o1, by rw [ne p hp]; exact h⟩)
      · exact .inr h
    | inr ks =>
      rcases h with h | ⟨o1, h⟩
      · exact .inl (by rw [ne p hp]; exact h)
      · exact .inr ⟨o1, by rw [ne p hp]; exact h⟩
    | inT ks =>
      rcases h with h | ⟨o1, h⟩
      · exact .inl (by rw [ne p hp]; exact h)
      · exact .inr ⟨o1, by rw [ne p hp]; exact h⟩
theorem tup_dz {G G' : Hp} {u : HO} (ne : ∀ b, b ≠ a → G' b = G b) (e : G a = some u) (d : Dz kvs u) {p : Addr} {xs : List V} (h : Rt G p xs) : Rt G' p xs := by
  have hp : p ≠ a := fun z => by
    subst z
    rcases h with h | ⟨o1, h⟩
    · rw [e] at h; rcases d with d | ⟨o2, d⟩ <;> (rw [d] at h; cases h)
    · rw [e] at h; rcases d with d | ⟨o2, d⟩ <;> (rw [d] at h; cases h)
  rcases h with h | ⟨o1, h⟩
  · exact .inl (by rw [ne p hp]; exact h)
  · exact .inr ⟨o1, by rw [ne p hp]; exact h⟩
theorem off_ne {H H' : Hp} (ne : ∀ b, b ≠ a → H' b = H b) : ∀ b, b ≠ a → off H' O b = off H O b := fun b hb => by
  by_cases h : O b
  · rw [off_own h, off_own h]
  · rw [off_get h, off_get h, ne b hb]
theorem Sta.hold (Z : Sta K H0 F O Γ σ H) (ha : ¬ O a) (e : H a = some u) (dz : Dz kvs u) : Sta K (fz0 H0 a o kvs) F O (wkΓ Γ) σ (upd H a (.frz o (.dK kvs))) := by
  have ne : ∀ b, b ≠ a → upd H a (.frz o (.dK kvs)) b = H b := fun b hb => upd_ne hb
  have nO : ∀ p, O p → p ≠ a := fun p h z => ha (z ▸ h)
  have oe : off H O a = some u := by rw [off_get ha]; exact e
  have oe' : off (upd H a (.frz o (.dK kvs))) O a = some (.frz o (.dK kvs)) := by rw [off_get ha]; exact upd_same
  have d' : Dz kvs (.frz o (.dK kvs)) := .inr ⟨o, rfl⟩
  have any : ∀ {β : Type} [Py β] {N : Nn} {v : V} {x : β}, Py.rp K N (off H O) v x → Py.rp K .any (off (upd H a (.frz o (.dK kvs))) O) v x := fun r =>
    Py.tr (fun p m h _ => ⟨mo_dz (off_ne ne) oe oe' dz d' h, True.intro⟩) (fun p xs h => tup_dz (off_ne ne) oe dz h) r
  refine ⟨fun b w h => ?_, Z.fo, fun p h => ?_, fun p h => ?_, ?_, fun i g hg hn => ?_, ?_⟩
  · by_cases hb : b = a
    · subst hb
      have hn : H0 b ≠ none := fun z => by rw [fz0_none.mpr z] at h; cases h
      rw [fz0_at hn] at h
      rw [upd_same]; exact h
    · rw [fz0_ne hb] at h
      rw [upd_ne hb]; exact Z.same _ _ h
  · obtain ⟨xs, q⟩ := Z.f0 p h
    exact ⟨xs, by rw [fz0_ne (nO p (Z.fo p h))]; exact q⟩
  · obtain ⟨xs, q⟩ := Z.own p h
    exact ⟨xs, by rw [upd_ne (nO p h)]; exact q⟩
  · unfold wkΓ; rw [List.length_map]; exact Z.len
  · obtain ⟨g0, hg0, rfl⟩ := wkΓ_get hg
    cases g0 with
    | val b x =>
      obtain ⟨v, h1, h2⟩ := Z.at_ i _ hg0 (fun z => z)
      exact ⟨v, h1, any h2⟩
    | own b as => exact absurd True.intro hn
    | dpo x => exact absurd True.intro hn
  · obtain ⟨D, d1, d2, d3⟩ := Z.dis
    refine ⟨D, d1, fun i p h => ⟨(d2 i p h).1, fz0_none.mpr (d2 i p h).2⟩, fun i g hg ho => ?_⟩
    obtain ⟨g0, hg0, rfl⟩ := wkΓ_get hg
    cases g0 with
    | val b x => exact absurd ho (fun z => z)
    | own b as =>
      obtain ⟨v, h1, p, xs, q1, q2, q3, q4⟩ := d3 i _ hg0 True.intro
      exact ⟨v, h1, p, xs, q1, q2, by rw [upd_ne (nO p (d2 i p q2).1)]; exact q3, pr_imp (fun _ _ z => any z) q4⟩
    | dpo x =>
      obtain ⟨v, h1, h2⟩ := d3 i _ hg0 True.intro
      refine ⟨v, h1, ?_⟩
      have h2' : Py.rp K (.set (D i)) H v x := h2
      exact Py.tr (a := x) (N := .set (D i)) (N' := .set (D i)) (fun p m h n => ⟨mo_dz ne e upd_same dz d' h, n.1, by rw [upd_ne (nO p (d2 i p n.1).1)]; exact n.2⟩) (fun p xs h => tup_dz ne e dz h) h2'
theorem rp_let {β : Type} [Py β] {b : Bool} {v : V} {x : β} {O : Addr → Prop} (ha : ¬ O a) (e : H' a = some (.frz o (.dK kvs))) (hu : u = .dK kvs ∨ u = .frz o (.dK kvs)) (h : Py.rp K (Nf (fz0 H0 a o kvs) b) (off H' O) v x) : Py.rp K (Nf H0 b) (off (upd H' a u) O) v x := by
  have ne : ∀ b, b ≠ a → upd H' a u b = H' b := fun b hb => upd_ne hb
  have oe : off H' O a = some (.frz o (.dK kvs)) := by rw [off_get ha]; exact e
  have oe' : off (upd H' a u) O a = some u := by rw [off_get ha]; exact upd_same
  have dz : Dz kvs u := hu.imp id fun d => ⟨o, d⟩
  refine Py.tr (fun p m h n => ⟨mo_dz (off_ne ne) oe oe' (.inr ⟨o, rfl⟩) dz h, ?_⟩) (fun p xs h => tup_dz (off_ne ne) oe (.inr ⟨o, rfl⟩) h) h
  cases b with
  | false => exact True.intro
  | true =>
    have hp : p ≠ a := fun z => by
      subst z
      have := n.2
      rw [oe] at this
      rcases m with m | m | m <;> cases this
    exact ⟨fz0_none.mp n.1, by rw [off_ne ne p hp]; exact n.2⟩
theorem Sta.letgo {O' : Addr → Prop} {Γ' : GEnv} {σ' : St} (Z : Sta K H0 F O Γ σ H) (ha : H a = some u) (Z' : Sta K (fz0 H0 a o kvs) F O' Γ' σ' H') (na : ¬ O' a) (e : H' a = some (.frz o (.dK kvs))) (hu : u = .dK kvs ∨ u = .frz o (.dK kvs)) : Sta K H0 F O' Γ' σ' (upd H' a u) := by
  have ne : ∀ b, b ≠ a → upd H' a u b = H' b := fun b hb => upd_ne hb
  have nO : ∀ p, O' p → p ≠ a := fun p h z => na (z ▸ h)
  have dz : Dz kvs u := hu.imp id fun d => ⟨o, d⟩
  refine ⟨fun b w h => ?_, Z'.fo, Z.f0, fun p h => ?_, Z'.len, fun i g hg hn => ?_, ?_⟩
  · by_cases hb : b = a
    · subst hb
      have := Z.same _ _ h
      rw [upd_same, ← ha]; exact this
    · rw [upd_ne hb]
      exact Z'.same _ _ (by rw [fz0_ne hb]; exact h)
  · obtain ⟨xs, q⟩ := Z'.own p h
    exact ⟨xs, by rw [upd_ne (nO p h)]; exact q⟩
  · obtain ⟨v, h1, h2⟩ := Z'.at_ i g hg hn
    refine ⟨v, h1, ?_⟩
    cases g with
    | val b x => exact rp_let na e hu h2
    | own b as => exact absurd True.intro hn
    | dpo x => exact absurd True.intro hn
  · obtain ⟨D, d1, d2, d3⟩ := Z'.dis
    refine ⟨D, d1, fun i p h => ⟨(d2 i p h).1, fz0_none.mp (d2 i p h).2⟩, fun i g hg ho => ?_⟩
    obtain ⟨v, h1, h2⟩ := d3 i g hg ho
    refine ⟨v, h1, ?_⟩
    cases g with
    | val b x => exact absurd ho (fun z => z)
    | own b as =>
      obtain ⟨p, xs, q1, q2, q3, q4⟩ := h2
      exact ⟨p, xs, q1, q2, by rw [upd_ne (nO p (d2 i p q2).1)]; exact q3, pr_imp (fun _ _ z => rp_let na e hu z) q4⟩
    | dpo x =>
      have h2' : Py.rp K (.set (D i)) H' v x := h2
      exact Py.tr (a := x) (N := .set (D i)) (N' := .set (D i)) (fun p m h n => ⟨mo_dz ne e upd_same (.inr ⟨o, rfl⟩) dz h, n.1, by rw [upd_ne (nO p (d2 i p n.1).1)]; exact n.2⟩) (fun p xs h => tup_dz ne e (.inr ⟨o, rfl⟩) h) h2'
theorem same_let {O' : Addr → Prop} (ha : ¬ O a) (e : H a = some u) (s : Same (off (upd H a (.frz o (.dK kvs))) O) (off H' O')) : ¬ O' a ∧ H' a = some (.frz o (.dK kvs)) ∧ Same (off H O) (off (upd H' a u) O') := by
  have h1 : off (upd H a (.frz o (.dK kvs))) O a = some (.frz o (.dK kvs)) := by rw [off_get ha]; exact upd_same
  obtain ⟨n, h2⟩ := off_some (s _ _ h1)
  refine ⟨n, h2, fun b w h => ?_⟩
  by_cases hb : b = a
  · subst hb
    rw [off_get ha, e] at h
    rw [off_get n, upd_same]; exact h
  · have := s b w (by rw [off_ne (a := a) (H := H) (fun c hc => upd_ne hc) b hb]; exact h)
    rw [off_ne (a := a) (H := H') (fun c hc => upd_ne hc) b hb]
    exact this
end
section
variable {X : Cx} {Γ : GEnv} {D : GD} {α β γ : Type} [Py α] [Py β] [Py γ] {e e1 e2 tg : Expr} {b b1 b2 : Bool} {pos : Pos} {rest body : List Stmt}
theorem s_forD {g : TG} {tc : Nat → Prop} {put : Bool → Int → GEnv → GEnv} {d : Dc β} (J : Nat → GEnv → Prop) (hG : G X tg g Int put tc) (he : E X Γ e b d) (h0 : J 0 (wkΓ Γ))
    (ht : ∀ (i : Nat) (k : Int) Γ', (d.l.map (·.1))[i]? = some k → J i Γ' → S X (put true k Γ') body { D with nx := J (i + 1), ct := J (i + 1), bk := fun Γ2 => S X Γ2 rest D }) (hd : ∀ Γ', J d.l.length Γ' → S X Γ' rest D)
    (hc : X.calm = true := by rfl) (hp : PassesOwn (model X.prog X.w) X.A X.env X.xe := by exact PassesOwn.never)
    (hfs : ∀ x, foldedSetIterable e X.env x = pure x := by intro _; rfl) : S X Γ (.For tg e body [] pos :: rest) D := by
  with_unfolding_all
    refine s_seq (ps_wk (ps_forD hp hc he hG.1 (tb := bodyT X body) bodyT_ok hfs) fun De σ H ⟨H0, F, O, Z, nx, r, bk, ct⟩ => ?_)
    refine ⟨H0, F, O, Z, fun v H1 s1 r1 => ?_⟩
    obtain ⟨a, kvs, ev, rd, _, rr⟩ := r1
    have rd' : ¬ O a ∧ ∃ u, H1 a = some u ∧ Dz kvs u := by
      rcases rd with h | ⟨o, h⟩
      · obtain ⟨n, h⟩ := off_some h; exact ⟨n, _, h, .inl rfl⟩
      · obtain ⟨n, h⟩ := off_some h; exact ⟨n, _, h, .inr ⟨o, rfl⟩⟩
    obtain ⟨na, u, hu, dz⟩ := rd'
    refine ⟨a, kvs, u, ev, hu, dz, fun o hu' hf => ?_⟩
    have Z1 := Z.go s1
    have lk : kvs.length = d.l.length := pr_len rr
    have out : ∀ (Q : St → Hp → Prop) (P : GEnv → Prop), (∀ Γ' σ' H' O', Same (off H O) (off H' O') → Sta X.K H0 F O' Γ' σ' H' → P Γ' → Q σ' H') → ∀ Γ' σ' H' O', Same (off (upd H1 a (.frz o (.dK kvs))) O) (off H' O') → Sta X.K (fz0 H0 a o kvs) F O' Γ' σ' H' → P Γ' →
        ∃ a kvs u o, H' a = some (.frz o (.dK kvs)) ∧ (u = .dK kvs ∨ u = .frz o (.dK kvs)) ∧ (∀ o' u', X.H₀ a = some (.frz o' u') → u = .frz o' u') ∧ Q σ' (upd H' a u) := fun Q P q Γ' σ' H' O' sm Z' p => by
      obtain ⟨n', e', sm'⟩ := same_let na hu sm
      exact ⟨a, kvs, u, o, e', hu', hf, q Γ' σ' _ O' ((off_mono s1).trans sm') (Z1.letgo hu Z' n' e' hu') p⟩
    refine ⟨fun i m σ' H' => m = d.l.length - i ∧ i ≤ d.l.length ∧ ∃ Γ' O', Same (off (upd H1 a (.frz o (.dK kvs))) O) (off H' O') ∧ Sta X.K (fz0 H0 a o kvs) F O' Γ' σ' H' ∧ J i Γ', ⟨_, rfl, Nat.zero_le _, wkΓ Γ, O, Same.refl _, Z1.hold na hu dz, h0⟩, ?_⟩
    rintro i m σ' H' ⟨rfl, hi', Γ', O', sm, Z', j⟩
    obtain ⟨n', e', sm'⟩ := same_let na hu sm
    by_cases hlt : i < d.l.length
    · refine .inr ⟨⟨e', by omega⟩, fun σ2 H2 => ∃ Γ2 O2, Same (off (upd H1 a (.frz o (.dK kvs))) O) (off H2 O2) ∧ Sta X.K (fz0 H0 a o kvs) F O2 Γ2 σ2 H2 ∧ J (i + 1) Γ2, fun σ2 H2 q => ⟨d.l.length - (i + 1), by omega, rfl, hlt, q⟩, fun x H'' hy => ?_⟩
      obtain ⟨rfl, kv, hk, rfl⟩ := hy
      obtain ⟨y, hy, hxy⟩ := pr_get' rr hk
      refine hG.2 true y.1 (fz0 H0 a o kvs) F O' Γ' σ' H'' _ _ Z' (show kV kv.1 = V.int y.1 from by rw [hxy.1]; rfl) fun σ2 Z2 _ _ => ?_
      refine ⟨_, _, ht i y.1 Γ' (by rw [List.getElem?_map, hy]; rfl) j, fz0 H0 a o kvs, F, O', Z2, ?_, ?_, ?_, ?_⟩
      · exact fun Γ2 σ2 H2 O2 sm2 Z2 q => ⟨Γ2, O2, sm.trans sm2, Z2, q⟩
      · intro g v H2 s2 okr q
        by_cases hn : H0 a = none
        · have e0 : fz0 H0 a o kvs = H0 := by unfold fz0; rw [if_pos hn]
          rw [e0] at s2 okr
          exact .inl (r g v H2 s2 okr q)
        · have e2 : H2 a = some (.frz o (.dK kvs)) := s2 _ _ (fz0_at hn)
          refine .inr ⟨a, kvs, u, o, e2, hu', hf, r g v _ (fun b w h => ?_) ?_ q⟩
          · by_cases hb : b = a
            · subst hb
              have := Z1.same _ _ h
              rw [upd_same, ← hu]; exact this
            · rw [upd_ne hb]; exact s2 _ _ (by rw [fz0_ne hb]; exact h)
          · cases g with
            | val b x => exact rp_let (fun z => na (Z.fo a z)) e2 hu' okr
            | own b as => exact okr
            | dpo x => exact okr
      · exact fun Γ2 σ2 H2 O2 sm2 Z2 q => out _ _ nx Γ2 σ2 H2 O2 (sm.trans sm2) Z2 q
      · exact fun Γ2 σ2 H2 O2 sm2 Z2 q => ⟨Γ2, O2, sm.trans sm2, Z2, q⟩
    · have ei : i = d.l.length := by omega
      subst ei
      exact .inl ⟨⟨e', by omega⟩, out _ _ nx Γ' σ' H' O' sm Z' (hd Γ' j)⟩
theorem e_dget {d : Dc β} {k : Int} {c : β} {ek : Expr} (hu : X.A.units + 60 < cLine) (ha : E X Γ e b d) (hk : E X Γ ek b2 k) (h : d.val k = some c) (hs : PlainIx ek := by intro _ _; rfl) : E X Γ (.Subscript e ek pos) b c := by
  with_unfolding_all
    exact pe_wk (pe_dget (by omega) ha hk hs) fun σ H Q ⟨H0, F, O, Z, q⟩ => ⟨H0, F, O, Z, fun v H1 s1 r1 => ⟨H0, F, O, Z.go s1, fun y H2 s2 ry => by
      obtain ⟨p, kvs, ev, rd, nn, rr⟩ := r1
      have ey : y = V.int k := ry
      subst ey
      obtain ⟨h1, _⟩ := dc_val (β := β) (l := d.l) k rr
      obtain ⟨w, h3, h4⟩ := h1 c h
      refine ⟨p, w, ev, .inl ⟨kvs, .inl k, Same.rd ((off_same _ _).trans s2) rd, rfl, h3.symm⟩, q _ _ (s1.trans s2) (rp_mono (off_mono s2) h4)⟩⟩⟩
end
end L2.EP

namespace L2
open PySem PySem.Spec PyProof.Rows
abbrev itO (t : Bool) (l : Addr) : Obj := { cls := .type (if t = true then "tuple_iterator" else "list_iterator"), data := .fields #[.ref l, .int 0 0] }
def SeqAt (h : Heap) (t : Bool) (l : Addr) (xs : Array Value) : Prop := if t = true then h.IsTuple l xs else h.IsList l xs
theorem SeqAt.keep {h h' : Heap} {t : Bool} {l : Addr} {xs : Array Value} (x : SeqAt h t l xs) (k : ∀ o, h.get? l = some o → h'.get? l = some o) : SeqAt h' t l xs := by
  unfold SeqAt at *
  cases t
  · obtain ⟨o, a, b⟩ := x; exact ⟨o, k o a, b⟩
  · obtain ⟨o, a, b⟩ := x; exact ⟨o, k o a, b⟩
abbrev zH2 (h : Heap) (t1 t2 : Bool) (l1 l2 : Addr) : Heap := (h.push (itO t1 l1)).push (itO t2 l2)
abbrev zH2e (h : Heap) (t1 t2 : Bool) (l1 l2 : Addr) : Heap := (((zH2 h t1 t2 l1 l2).push { cls := .type "tuple", data := .seq #[.ref h.objs.size, .ref (h.push (itO t1 l1)).objs.size] }).push { cls := .type "tuple", data := .seq #[.none, .none] })
abbrev zH2z (h : Heap) (t1 t2 : Bool) (l1 l2 : Addr) : Heap := (zH2e h t1 t2 l1 l2).push { cls := .type "zip", data := .fields #[.none, .bool false, .bool false, .ref (zH2 h t1 t2 l1 l2).objs.size, .ref ((zH2 h t1 t2 l1 l2).push { cls := .type "tuple", data := .seq #[.ref h.objs.size, .ref (h.push (itO t1 l1)).objs.size] }).objs.size] }
abbrev zH3 (h : Heap) (l1 l2 l3 : Addr) : Heap := ((h.push (itO false l1)).push (itO false l2)).push (itO false l3)
abbrev tI3 (h : Heap) (l1 l2 : Addr) : Obj := { cls := .type "tuple", data := .seq #[.ref h.objs.size, .ref (h.push (itO false l1)).objs.size, .ref ((h.push (itO false l1)).push (itO false l2)).objs.size] }
abbrev zH3e (h : Heap) (l1 l2 l3 : Addr) : Heap := (((zH3 h l1 l2 l3).push (tI3 h l1 l2)).push { cls := .type "tuple", data := .seq #[.none, .none, .none] })
abbrev zH3z (h : Heap) (l1 l2 l3 : Addr) : Heap := (zH3e h l1 l2 l3).push { cls := .type "zip", data := .fields #[.none, .bool false, .bool false, .ref (zH3 h l1 l2 l3).objs.size, .ref ((zH3 h l1 l2 l3).push (tI3 h l1 l2)).objs.size] }
end L2

namespace L2.EP
open PySem PySem.Spec PyProof.Rows
section
variable {X : Cx} {Γ : GEnv} {D : GD} {α β γ δ : Type} [Py α] [Py β] [Py γ] [Py δ] {e e1 e2 e3 : Expr} {b b1 b2 b3 : Bool} {pos p : Pos} {k : Nat} {name : Str} {ps : List Str}
theorem en_call3 {pre : α → β → γ → Prop} {f : α → β → γ → δ} {a : α} {c : β} {d : γ} (C : Cal X.prog X.w X.K X.mg X.base k name ps (sp3 X.K pre true f)) (hr : Room k X.A) (hg : Gl X name) (h1 : E X Γ e1 b1 a) (h2 : E X Γ e2 b2 c) (h3 : E X Γ e3 b3 d) (hp : pre a c d)
    (hs1 : starEach [e1, e2, e3] X.env = (false, eval e1 X.env) :: starEach [e2, e3] X.env := by rfl) (hs2 : starEach [e2, e3] X.env = (false, eval e2 X.env) :: starEach [e3] X.env := by rfl) (hs3 : starEach [e3] X.env = (false, eval e3 X.env) :: starEach [] X.env := by rfl) (hdb : (name == ("__debug__" : Str)) = false := by decide) (hpl : (backTo pos (starEach [e2, e3] X.env)).any (·.1) = false := by rfl) :
    EN X Γ (.Call (.Name name p) [e1, e2, e3] [] pos) (f a c d) := by
  with_unfolding_all
    obtain ⟨fa, fd, F, B, kp, m⟩ := C.ex
    exact pe_wk (pe_call F hr hg m kp B .nil pass0 (pa_cons h1 (pa_cons h2 (pa_cons h3 pa_nil hs3) hs2) hs1) hdb hs1 hpl) fun σ H Q ⟨H0, F, O, S, q⟩ => ⟨H0, F, O, S, fun v1 H1 s1 r1 => ⟨H0, F, O, S.go s1, fun v2 H2 s2 r2 => ⟨H0, F, O, (S.go s1).go s2, fun v3 H3 s3 r3 =>
      ⟨O, v1, v2, v3, a, c, d, (S.go (s1.trans (s2.trans s3))).own, rfl, rp_wid nf_true (rp_mono (off_mono (s2.trans s3)) r1), rp_wid nf_true (rp_mono (off_mono s3) r2), rp_wid nf_true r3, hp, fun r H' s' z => q r H' (s1.trans (s2.trans (s3.trans s'))) (new_less (s1.trans (s2.trans s3)) z)⟩⟩⟩⟩
end
end L2.EP

namespace L2.EP
open PySem PySem.Spec PyProof.Rows
abbrev Xo (C : Addr) (vs : Array Value) : Obj := { cls := .ref C, data := .fields vs }
structure Chg (fs : List Addr) (ch : Addr → Prop) (h h' : Heap) : Prop where
  keep : ∀ b o, h.get? b = some o → b ∉ fs → ¬ ch b → h'.get? b = some o
  slot : ∀ b o, h.get? b = some o → ¬ ch b → ∃ sl, h'.get? b = some { o with slots := sl }
def Tr (h : Heap) (C e : Addr) (T : Option Addr) : Prop := ∃ vs, h.get? e = some (Xo C vs) ∧ match T with
  | none => vs[1]? = some .none
  | some t => vs[1]? = some (.ref t) ∧ t ≠ e ∧ ∃ oT ts, h.get? t = some oT ∧ oT.data = .fields ts ∧ ts[3]? = some .none
section
variable {M : Model} {A : Around} {E : Value → Shared → Prop} {s : Shared} {base : Heap} {env : Env} {outer : List Env} {L C e : Addr}
theorem entry_x {vs : Array Value} {head : Value} {had : Bool} {Q : Unit → Shared → Prop} (hfr : A.frames = some (env :: outer)) (hl : s.heap.FunFrames base (env :: outer)) (hf : env.frame = some L)
    (he : s.heap.get? e = some (Xo C vs)) (hz : 1 < vs.size)
    (h : ∀ h' T oT ts, Chg (frs (env :: outer)) (· = e) s.heap h' → h'.get? e = some (Xo C (vs.setIfInBounds 1 (.ref T))) → T ≠ e → s.heap.objs.size ≤ T → h'.get? T = some oT → oT.data = .fields ts → ts[3]? = some (rawInt L) → Q () { s with heap := h' }) :
    wpAny M A (do let a ← frameOf env; let pl ← entryPlaceOf L had; let b ← EntryCells.newEntry head a .none (rawInt L) .none pl; setField (.ref e) 1 b) Q E s := by
  have nf : e ∉ frs (env :: outer) := fun hm => by
    obtain ⟨_, o, ho, nd⟩ := hl.mem hm
    rw [he] at ho; cases ho; exact nd _ rfl
  refine wpAny_bind (wpAny_frameOf_fun hfr hl hf fun g hg => wpAny_bind (wpAny_entryPlaceOf fun pl hp => ?_))
  have he1 : g.get? e = some (Xo C vs) := (hg.2.1 e nf).trans he
  delta EntryCells.newEntry newFields
  refine wpAny_bind (wpAny_newObj_type (dict := none) ?_ (hp.sizeOk5 _ _ _ _ _))
  have ne : g.objs.size ≠ e := Nat.ne_of_gt (Heap.lt_size he1)
  refine wpAny_setField (Heap.get?_push_of_some _ he1) rfl hz (h _ g.objs.size { cls := .type "traceback", dict := none, data := .fields ([head, .ref L, .none, rawInt L, .none] ++ (if pl.isEmpty then List.replicate 6 Value.none else pl)).toArray } _ ⟨fun b o q nb nc => ?_, fun b o q nc => ?_⟩ ?_ ne (by rw [hg.1]; exact Nat.le_refl _) ?_ rfl ?_)
  · rw [Heap.get?_update_other _ _ (Ne.symm nc)]
    exact Heap.get?_push_of_some _ ((hg.2.1 b nb).trans q)
  · obtain ⟨sl, q'⟩ := hg.2.2 b o q
    refine ⟨sl, ?_⟩
    rw [Heap.get?_update_other _ _ (Ne.symm nc)]
    exact Heap.get?_push_of_some _ q'
  · exact Heap.get?_update_self _ (Heap.get?_push_of_some _ he1) rfl
  · rw [Heap.get?_update_other _ _ (Ne.symm ne)]
    exact Heap.get?_push_size g rfl
  · rcases hp with rfl | ⟨_, _, _, _, _, _, _, rfl⟩ <;> simp
theorem flight_x {T : Addr} {fl : Value} {vs : Array Value} {oT : Obj} {ts : Array Value} {Q : Unit → Shared → Prop} (he : s.heap.get? e = some (Xo C vs)) (hv : vs[1]? = some (.ref T)) (ne : T ≠ e) (ho : s.heap.get? T = some oT) (hd : oT.data = .fields ts) (h3 : ts[3]? = some fl)
    (h : ∀ h', Chg [] (· = T) s.heap h' → h'.get? e = some (Xo C vs) → Tr h' C e (some T) → Q () { s with heap := h' }) : wpAny M A (setFlight (.ref e) none) Q E s := by
  have hz : 3 < ts.size := (Array.getElem?_eq_some_iff.mp h3).1
  unfold setFlight
  refine wpAny_bind (wpAny_field he rfl hv ?_)
  rw [if_pos (by simp)]
  have ee := (Heap.get?_update_other s.heap (Obj.mapFields fun x => x.setIfInBounds 3 ((none : Option Addr).elim Value.none fun f => rawInt f)) ne).trans he
  refine wpAny_setField ho hd hz (h _ ⟨fun b o q _ nc => ?_, fun b o q nc => ⟨o.slots, ?_⟩⟩ ee ⟨vs, ee, hv, ne, _, _, Heap.get?_update_self _ ho (Obj.isFreed_of_fields (Obj.data_mapFields hd _)), Obj.data_mapFields hd _, ?_⟩)
  · exact (Heap.get?_update_other _ _ (Ne.symm nc)).trans q
  · exact (Heap.get?_update_other _ _ (Ne.symm nc)).trans q
  · simp [hz]
theorem Chg.trans {fs : List Addr} {ch c1 c2 : Addr → Prop} {h h1 h2 : Heap} (a : Chg fs c1 h h1) (b : Chg fs c2 h1 h2) (w1 : ∀ b, c1 b → ch b) (w2 : ∀ b o, h.get? b = some o → c2 b → ch b) : Chg fs ch h h2 :=
  ⟨fun x o q n nc => b.keep x o (a.keep x o q n fun z => nc (w1 x z)) n fun z => nc (w2 x o q z), fun x o q nc => by
    obtain ⟨sl, q1⟩ := a.slot x o q fun z => nc (w1 x z)
    obtain ⟨sl2, q2⟩ := b.slot x _ q1 fun z => nc (w2 x o q z)
    exact ⟨sl2, q2⟩⟩
theorem Chg.mono {fs fs' : List Addr} {ch ch' : Addr → Prop} {h h' : Heap} (a : Chg fs ch h h') (w : ∀ b, ch b → ch' b) (v : ∀ b, b ∈ fs → b ∈ fs') : Chg fs' ch' h h' :=
  ⟨fun x o q n nc => a.keep x o q (fun z => n (v x z)) fun z => nc (w x z), fun x o q nc => a.slot x o q fun z => nc (w x z)⟩
theorem note_x {T : Option Addr} {Q : Unit → Shared → Prop} (hfr : A.frames = some (env :: outer)) (hl : s.heap.FunFrames base (env :: outer)) (hf : env.frame = some L) (x : Tr s.heap C e T)
    (h : ∀ h' t vs oT ts, Chg (frs (env :: outer)) (fun b => b = e ∨ T = some b) s.heap h' → h'.get? e = some (Xo C vs) → vs[1]? = some (.ref t) → t ≠ e → s.heap.objs.size ≤ t → h'.get? t = some oT → oT.data = .fields ts → ts[3]? = some (rawInt L) → Q () { s with heap := h' }) :
    wpAny M A (noteFrame (.ref e) env) Q E s := by
  obtain ⟨vs, he, hT⟩ := x
  unfold noteFrame
  simp only [hf]
  cases T with
  | none =>
    have hT : vs[1]? = some .none := hT
    have hz : 1 < vs.size := (Array.getElem?_eq_some_iff.mp hT).1
    refine wpAny_bind (wpAny_field he rfl hT ?_)
    rw [if_neg (by decide)]
    exact entry_x hfr hl hf he hz fun h' t oT ts c e1 n l o1 o2 o3 => h h' t _ oT ts (c.mono (fun b z => .inl z) fun _ z => z) e1 (by simp [hz]) n l o1 o2 o3
  | some t0 =>
    obtain ⟨hv, ne, oT, ts, ho, hd, h3⟩ : vs[1]? = some (.ref t0) ∧ t0 ≠ e ∧ ∃ oT ts, s.heap.get? t0 = some oT ∧ oT.data = .fields ts ∧ ts[3]? = some .none := hT
    have hz : 1 < vs.size := (Array.getElem?_eq_some_iff.mp hv).1
    refine wpAny_bind (wpAny_field he rfl hv ?_)
    rw [if_pos (by simp)]
    refine wpAny_bind (wpAny_field ho hd h3 ?_)
    rw [if_neg (by simp [rawInt])]
    refine wpAny_bind (wpAny_setField ho hd (Array.getElem?_eq_some_iff.mp h3).1 ?_)
    have oth : ∀ b, b ≠ t0 → (s.heap.update t0 (Obj.mapFields fun x => x.setIfInBounds 3 Value.none)).get? b = s.heap.get? b := fun b nb => Heap.get?_update_other _ _ (Ne.symm nb)
    have nfd : ∀ b o, s.heap.get? b = some o → (∀ us, o.data ≠ .fields us) → b ≠ t0 := fun b o q nd z => by
      rw [z, ho] at q; cases q; exact nd _ hd
    refine entry_x hfr (hl.of_keeps fun b o q nd => ⟨o, (oth b (nfd b o q nd)).trans q, rfl⟩) hf ((oth e (Ne.symm ne)).trans he) hz fun h' t oT' ts' c e1 n l o1 o2 o3 => ?_
    refine h h' t _ oT' ts' (Chg.trans (c1 := fun b => b = t0) (c2 := fun b => b = e) ⟨fun b o q _ nc => (oth b nc).trans q, fun b o q nc => ⟨o.slots, (oth b nc).trans q⟩⟩ c (fun b z => .inr (by rw [z])) fun b _ _ z => .inl z) e1 (by simp [hz]) n ?_ o1 o2 o3
    rw [Heap.size_after_update] at l
    exact l
theorem land_x {T : Option Addr} {Q : Unit → Shared → Prop} (hfr : A.frames = some (env :: outer)) (hl : s.heap.FunFrames base (env :: outer)) (hf : env.frame = some L) (x : Tr s.heap C e T)
    (h : ∀ h' t, Chg (frs (env :: outer)) (fun b => b = e ∨ T = some b) s.heap h' → Tr h' C e (some t) → s.heap.objs.size ≤ t → Q () { s with heap := h' }) :
    wpAny M A (noteFrame (.ref e) env) (fun _ s2 => wpAny M A (setFlight (.ref e) none) Q E s2) E s := by
  refine note_x hfr hl hf x fun h' t vs oT ts c e1 hv n l o1 o2 o3 => ?_
  refine flight_x e1 hv n o1 o2 o3 fun h2 c2 _ tr => h h2 t (Chg.trans c (c2.mono (ch' := fun b => b = t) (fun _ z => z) (fun _ z => nomatch z)) (fun _ z => z) fun b o q z => ?_) tr l
  exact absurd (Heap.lt_size q) (Nat.not_lt.mpr (by rw [z]; exact l))
theorem leave_x {T : Option Addr} {Q : Unit → Shared → Prop} (hfr : A.frames = some (env :: outer)) (hl : s.heap.FunFrames base (env :: outer)) (hf : env.frame = some L) (x : Tr s.heap C e T)
    (h : ∀ h' t, Chg (frs (env :: outer)) (fun b => b = e ∨ T = some b) s.heap h' → Tr h' C e (some t) → s.heap.objs.size ≤ t → Q () { s with heap := h' }) :
    wpAny M A (leaving env (.ref e)) Q E s := by
  unfold leaving
  exact wpAny_bind (land_x hfr hl hf x h)
end
end L2.EP

namespace L2.EP
open PySem PySem.Spec PyProof.Rows
def Nw (X : Cx) (pins : List (Addr × Obj)) (H : Hp) (a : Addr) : Prop := X.s₀.heap.get? a = none ∧ H a = none ∧ ∀ p ∈ X.pn ++ pins, p.1 ≠ a
def Fly (X : Cx) (pins : List (Addr × Obj)) (H : Hp) (h : Heap) (C e : Addr) : Prop := ∃ T, Tr h C e T ∧ Nw X pins H e ∧ ∀ t, T = some t → Nw X pins H t
theorem ObjOk.there {P : Program} {w : World} {H : Hp} {h : Heap} {a : Addr} {o : HO} (x : ObjOk P w H h a o) : ∃ ob, h.get? a = some ob := by
  cases o with
  | lst xs => obtain ⟨_, _, _, _, e⟩ := x; exact ⟨_, e⟩
  | tup xs => obtain ⟨_, _, _, o, e, _⟩ := x; exact ⟨_, e⟩
  | dK kvs => obtain ⟨_, _, _, _, o, _, _, e, _⟩ := x; exact ⟨_, e⟩
  | dT kvs => obtain ⟨_, _, _, _, o, _, _, e, _⟩ := x; exact ⟨_, e⟩
  | set S n => obtain ⟨o, _, _, _, e, _⟩ := x; exact ⟨_, e⟩
  | ins C dx fs => obtain ⟨_, _, _, e, _⟩ := x; exact ⟨_, e⟩
  | own y => exact x
  | xd fs => obtain ⟨_, ⟨_, _, _, e, _⟩, _⟩ := x; exact ⟨_, e⟩
  | rng lo hi => obtain ⟨_, _, _, e⟩ := x; exact ⟨_, e⟩
  | frz ob u => obtain ⟨e, _⟩ := x; exact ⟨_, e⟩
  | tbl ps => exact ⟨_, (show h.get? a = some _ from x)⟩
  | met f y => exact ⟨_, (show h.get? a = some _ from x)⟩
  | ext φ => exact x.2.1
section
variable {X : Cx} {pins : List (Addr × Obj)} {σ : St} {H H' : Hp} {s : Shared} {h' : Heap} {C e : Addr}
theorem nw_of (I : Inv X pins σ H s) (hex : X.ex = []) {a : Addr} (h : s.heap.get? a = none) : Nw X pins H a := by
  refine ⟨?_, ?_, fun p hp z => ?_⟩
  · cases q : X.s₀.heap.get? a with
    | none => rfl
    | some o =>
      obtain ⟨o', q'⟩ := I.base.there a o q (by rw [hex]; exact fun z => nomatch z)
      rw [h] at q'; cases q'
  · cases q : H a with
    | none => rfl
    | some o =>
      obtain ⟨o', q'⟩ := ObjOk.there (I.hok a o q)
      rw [h] at q'; cases q'
  · have := (I.pin p hp).1
    rw [z, h] at this; cases this
theorem nw_size (I : Inv X pins σ H s) (hex : X.ex = []) {a : Addr} (h : s.heap.objs.size ≤ a) : Nw X pins H a := nw_of I hex (Heap.get?_none_of_le h)
theorem inv_chg {ch : Addr → Prop} (I : Inv X pins σ H s) (c : Chg (frs X.stack) ch s.heap h') (hc : ∀ b, ch b → Nw X pins H b ∧ ∃ o vs, s.heap.get? b = some o ∧ o.data = .fields vs) : Inv X pins σ H { s with heap := h' } := by
  have ns : ∀ b o, X.s₀.heap.get? b = some o → ¬ ch b := fun b o q z => by
    have := (hc b z).1.1
    rw [q] at this; cases this
  have nL : ∀ b o, X.s₀.heap.get? b = some o → b ≠ X.env.locals := fun b o q => Nat.ne_of_lt (Nat.lt_of_lt_of_le (Heap.lt_size q) I.ok.above)
  have nr : ∀ b o, s.heap.get? b = some o → (∀ vs, o.data ≠ .fields vs) → ¬ ch b := fun b o q nd z => by
    obtain ⟨_, o', vs, q', d⟩ := hc b z
    rw [q] at q'; cases q'; exact nd vs d
  have kp : ∀ b o, s.heap.get? b = some o → b ≠ X.env.locals → b ∉ X.fs → ¬ ch b → h'.get? b = some o := fun b o q n1 n2 nc => c.keep b o q (fun z => (List.mem_cons.mp (I.stkSub b z)).elim n1 n2) nc
  have cl : ∀ x k, X.env.cells.lookup x = some k → ∀ v, s.heap.IsCell k v → h'.IsCell k v := fun x k _ v ⟨o, ho, hd⟩ => by
    obtain ⟨sl, q⟩ := c.slot k o ho (nr k o ho fun vs z => by rw [hd] at z; cases z)
    exact ⟨_, q, hd⟩
  refine ⟨I.ok, I.os, I.bare, ⟨fun b o q n hb hx => ?_, fun b o q n hb hx => ?_, I.base.free, fun b o q hx => ?_, I.base.tups, I.base.frzs, I.base.tbls⟩, ?_, fun x k q => ?_, I.free, I.freeC, fun p hp => ?_, fun b o q => ?_, I.len⟩
  · exact kp b o (I.base.keep b o q n hb hx) (nL b o q) hb (ns b o q)
  · obtain ⟨sl, q1⟩ := I.base.slot b o q n hb hx
    obtain ⟨sl2, q2⟩ := c.slot b _ q1 (ns b o q)
    exact ⟨sl2, q2⟩
  · obtain ⟨o1, q1⟩ := I.base.there b o q hx
    obtain ⟨sl2, q2⟩ := c.slot b _ q1 (ns b o q)
    exact ⟨_, q2⟩
  · obtain ⟨m, ⟨o, es, ep, ho, hd, r⟩, hl⟩ := I.loc
    obtain ⟨sl, q⟩ := c.slot _ o ho (nr _ o ho fun vs z => by rw [hd] at z; cases z)
    refine ⟨m, ⟨_, es, ep, q, hd, r⟩, fun i x v e1 e2 e3 => ?_⟩
    obtain ⟨u, ru, l⟩ := hl i x v e1 e2 e3
    refine ⟨u, ru, ?_⟩
    rcases l with l | ⟨k, cc, q2, z⟩
    · exact .inl l
    · exact .inr ⟨k, cc, q2, cl x cc q2 _ z⟩
  · obtain ⟨v, z⟩ := I.cell x k q
    exact ⟨v, cl x k q v z⟩
  · obtain ⟨q, n, ne, nf, d⟩ := I.pin p hp
    exact ⟨kp p.1 p.2 q ne nf fun z => (hc _ z).1.2.2 p hp rfl, n, ne, nf, d⟩
  · refine (I.hok b o q).stay (fun b2 u hb r => ?_) (fun _ z => z) fun _ _ z => z
    have ht : ∃ o2, H b2 = some o2 := by
      rcases hb with rfl | hb
      · exact ⟨_, q⟩
      · exact ⟨_, hb⟩
    obtain ⟨o2, ht⟩ := ht
    refine c.keep b2 u r (fun z => ?_) fun z => ?_
    · rw [I.stkFree b2 z] at ht; cases ht
    · rw [(hc b2 z).1.2.1] at ht; cases ht
theorem Tr.recs {h : Heap} {T : Option Addr} (t : Tr h C e T) : ∀ b, (b = e ∨ T = some b) → ∃ o vs, h.get? b = some o ∧ o.data = .fields vs := by
  obtain ⟨vs, he, q⟩ := t
  rintro b (rfl | rfl)
  · exact ⟨_, vs, he, rfl⟩
  · obtain ⟨_, _, oT, ts, a, b, _⟩ := q
    exact ⟨oT, ts, a, b⟩
end

def CX1 (P : Program) (w : World) : CXT := fun outer H s E ev s' => ∃ e C t H', ev = .ref e ∧ s'.os = s.os ∧ AllBare s'.gens ∧ Un (frs outer) [] H H' s.heap s'.heap ∧ HOk P w H' s'.heap ∧
  s.heap.get? e = none ∧ H' e = none ∧ s.heap.get? t = none ∧ H' t = none ∧ Tr s'.heap C e (some t) ∧ E (.ref C) none H'
section
variable {X : Cx} {pins : List (Addr × Obj)} {σ : St} {H : Hp} {s s' : Shared} {E : XK}
theorem pass1 {ev : Value} (I : Inv X pins σ H s) (hex : X.ex = []) (h : CX1 X.prog X.w X.stack H s E ev s') : ∃ e C H', ev = .ref e ∧ Inv X pins σ H' s' ∧ Fly X pins H' s'.heap C e ∧ E (.ref C) none H' := by
  obtain ⟨e, C, t, H', rfl, os, bare, un, hok, n1, n2, n3, n4, tr, q⟩ := h
  have I' : Inv X pins σ H' s' := I.call' os un hok bare (fun b z => absurd z (by simp))
  refine ⟨e, C, H', rfl, I', ⟨some t, tr, ⟨(nw_of I hex n1).1, n2, (nw_of I hex n1).2.2⟩, fun u z => ?_⟩, q⟩
  cases z
  exact ⟨(nw_of I hex n3).1, n4, (nw_of I hex n3).2.2⟩
end
abbrev cx1 (P : Program) (w : World) (K : PySem.W.Frag) (mg : Str → Option Value) (base : Heap) (N : List Str) (qual : Str) (st : Stmt) (f : Addr) (cdv : Value) (A : Around) (outer : List Env) (s : Shared) (H : Hp) (E : XK) : Cx := cxOf (CX1 P w) P w K mg base N qual (defScope st) f cdv A outer s H E
theorem acc_def {P : Program} {w : World} {K : PySem.W.Frag} {mg : Str → Option Value} {base : Heap} {N : List Str} {qual : Str} {st : Stmt} {f : Addr} {cdv : Value} {A : Around} {outer : List Env} {s s1 : Shared} {H H1 : Hp} {E : XK} {pins : List (Addr × Obj)} {σ : St} {C e : Addr}
    (I : Inv (cx1 P w K mg base N qual st f cdv A outer s H E) pins σ H1 s1) (fl : Fly (cx1 P w K mg base N qual st f cdv A outer s H E) pins H1 s1.heap C e) (q : E (.ref C) none H1) : (cx1 P w K mg base N qual st f cdv A outer s H E).xe (.ref e) s1 := by
  obtain ⟨T, tr, ne, nt⟩ := fl
  refine leave_x (base := base) (outer := outer) I.ok.frames I.stack rfl tr fun h' t c tr' l => ?_
  have I2 := inv_chg I (h' := h') c fun b z => ⟨by rcases z with rfl | z; exact ne; exact nt b z, tr.recs b z⟩
  have n := nw_size I rfl l
  exact ⟨e, C, t, H1, rfl, I.os, I.bare, I2.base, I2.hok, ne.1, ne.2.1, n.1, n.2.1, tr', q⟩
end L2.EP

namespace L2.EP
open PySem PySem.Spec PyProof.Rows
abbrev bmV : List Value := [.type "ValueError", .type "Exception", .type "BaseException", .type "object"]
abbrev RzK (K : PySem.W.Frag) (C : Addr) : Prop := PySem.W.excIn K C bmV "ValueError.__new__" = true
theorem rz_obj {K : PySem.W.Frag} {h : Heap} {C : Addr} (X : K.In h) (q : RzK K C) : ∃ bm N nm qn bs hd sn sub ab col dd k0 k1 k2 k3 k5 mN, h.get? C = some (excClassObj nm qn C N bs bm hd sn sub ab col dd k0 k1 k2 k3 k5 "ValueError.__new__") ∧ h.Ns N mN ∧ mN "__init__" = none ∧ OwnTail h bmV bm := by
  unfold RzK PySem.W.excIn at q
  split at q
  · rename_i dd cd sl ho
    split at q
    · rename_i C' bm k0 k1 k2 k3 n k5 e1 e2
      simp only [Bool.and_eq_true, beq_iff_eq, Bool.not_eq_true'] at q
      obtain ⟨⟨⟨⟨⟨rfl, rfl⟩, z1⟩, z2⟩, z3⟩, z4⟩ := q
      obtain ⟨nm, bs, mro, ns, qn, hd, sn, sub, ab, col, del⟩ := cd
      dsimp only at e1 z1 z3 z4
      subst e1 z1
      have e3 : sl = #[k0, k1, k2, k3, some (.builtin "ValueError.__new__"), k5] := by
        obtain ⟨l⟩ := sl
        have e4 : l = [k0, k1, k2, k3, some (.builtin "ValueError.__new__"), k5] := e2
        rw [e4]
      subst e3
      exact ⟨bm, ns, nm, qn, bs, hd, sn, sub, ab, col, dd, k0, k1, k2, k3, k5, _, X _ _ ho, .of_isNs (PySem.W.isNs_of_in X z3), PySem.W.nsMap_none_of_in X z3 z4, PySem.W.tail_of_in X z2⟩
    · cases q
  · cases q
section
variable {X : Cx} {cn : Str} {C : Addr} {np cpos pos cps : Pos} {msg : Str} {j : Nat}
theorem ps_raise {W : St → Hp → Prop} (hcm : X.calm = true) (hex : X.ex = []) (hg : Gl X cn) (hm : X.mg cn = some (.ref C)) (hc : RzK X.K C)
    (hW : ∀ pins σ H s e, Inv X pins σ H s → W σ H → Fly X pins H s.heap C e → X.xe (.ref e) s) (hd : (cn == ("__debug__" : Str)) = false := by decide) :
    PS X (.Raise (some (.Call (.Name cn np) [.Constant (.str msg) j cps] [] cpos)) none pos) (fun _ σ H => W σ H) := by
  intro pins s σ H D I h
  obtain ⟨bm, N, nm, qn, bs, hd', sn, sub, ab, col, dd, k0, k1, k2, k3, k5, mN, c1, c2, c3, c4⟩ := rz_obj I.ok.mod.kin hc
  have hA : PA X [.Constant (.str msg) j cps] _ := pa_cons pe_str pa_nil
  refine wpAny_Raise_call_subU (nm := nm) (q := qn) (N := N) (bs := bs) (bm := bm) (hdct := hd') (sn := sn) (sub := sub) (ab := ab) (col := col) (dd := dd) (k0 := k0) (k1 := k1) (k2 := k2) (k3 := k3) (k5 := k5) PySem.F.excBase_ValueError (by decide) PySem.F.excBase_ValueError (c4.hasType (by decide)) (I.ok.hd hcm) rfl c3 (ld_glob I hg hm ⟨rfl, ?_⟩ hd)
  have he : starEach [Expr.Constant (.str msg) j cps] X.env = (false, eval (.Constant (.str msg) j cps) X.env) :: starEach [] X.env := rfl
  have hq := hA cpos pins s σ H (fun vs H1 => vs = [.str msg] ∧ H1 = H) I ⟨rfl, rfl⟩
  rw [he] at hq ⊢
  refine Calls.evalArgs_plain (wpAny_mono hq (fun us s2 ⟨vs, H1, I2, r, e1, e2⟩ => ?_) fun _ _ z => z)
  subst e1 e2
  refine ⟨rfl, ?_, I2.bk _ _ c1, c2.keeps I2.bk, c4.keeps I2.bk, fun h' e hm' => ?_⟩
  · rw [← r.length]; exact Nat.le_of_lt (small1000 (n := 1) (by decide))
  · obtain ⟨t, h1, h2, h3⟩ := hm'.there
    have I3 := I2.kept (h' := h') (t' := s2.toks) hm'.keeps
    have nw := nw_of I2 hex hm'.new
    exact hW pins σ _ _ e I3 h ⟨none, ⟨_, h1, rfl⟩, nw, fun t z => nomatch z⟩
end
end L2.EP

namespace L2.EP
open PySem PySem.Spec PyProof.Rows
abbrev Cx.hold (X : Cx) (Y : Value → Shared → Prop) (pn : List (Addr × Obj)) : Cx := { X with xe := Y, pn := pn }
abbrev Cx.caught (X : Cx) (e : Addr) (pn : List (Addr × Obj)) : Cx := { X with A := X.A.mark (some (.ref e)), calm := false, xe := fun _ _ => False, pn := pn }
section
variable {X : Cx} {pins pn : List (Addr × Obj)} {σ : St} {H : Hp} {s : Shared} {Y : Value → Shared → Prop} {C e : Addr}
theorem ok_hold (ok : X.Ok) : (Cx.hold X Y pn).Ok := ⟨ok.mod, ok.kind, ok.glob, ok.blt, ok.above, ok.inj, ok.has, ok.cab, ok.hd, ok.frames, ok.stk, ok.exf, ok.bs, ok.bsz, ok.noex, ok.exfs, ok.funs, ok.frf⟩
theorem ok_caught (ok : X.Ok) : (Cx.caught X e pn).Ok := ⟨ok.mod, ok.kind, ok.glob, ok.blt, ok.above, ok.inj, ok.has, ok.cab, fun z => Bool.noConfusion z, ok.frames, ok.stk, ok.exf, ok.bs, ok.bsz, ok.noex, ok.exfs, ok.funs, ok.frf⟩
theorem inv_hold (I : Inv X pins σ H s) : Inv (Cx.hold X Y (X.pn ++ pins)) [] σ H s := ⟨ok_hold I.ok, I.os, I.bare, I.base, I.loc, I.cell, I.free, I.freeC, fun p hp => I.pin p (by simpa using hp), I.hok, I.len⟩
theorem inv_unhold {pins' : List (Addr × Obj)} (ok : X.Ok) (I : Inv (Cx.hold X Y (X.pn ++ pins)) pins' σ H s) : Inv X pins σ H s := ⟨ok, I.os, I.bare, I.base, I.loc, I.cell, I.free, I.freeC, fun p hp => I.pin p (List.mem_append_left _ hp), I.hok, I.len⟩
theorem inv_caught {vs : Array Value} (I : Inv X pins σ H s) (he : s.heap.get? e = some (Xo C vs)) (n : Nw X pins H e) (nf : e ∉ X.fs) : Inv (Cx.caught X e (X.pn ++ pins ++ [(e, Xo C vs)])) [] σ H s := by
  refine ⟨ok_caught I.ok, I.os, I.bare, I.base, I.loc, I.cell, I.free, I.freeC, fun p hp => ?_, I.hok, I.len⟩
  rw [List.append_nil] at hp
  rcases List.mem_append.mp hp with hp | hp
  · exact I.pin p hp
  · have z : p = (e, Xo C vs) := by simpa using hp
    subst z
    refine ⟨he, n.2.1, fun z => ?_, nf, fun v z => nomatch z⟩
    obtain ⟨m, ⟨o, es, ep, ho, hd, _⟩, _⟩ := I.loc
    have z : e = X.env.locals := z
    rw [← z, he] at ho; cases ho; cases hd
theorem inv_uncaught {pins' : List (Addr × Obj)} {l : List (Addr × Obj)} (ok : X.Ok) (I : Inv (Cx.caught X e (X.pn ++ pins ++ l)) pins' σ H s) : Inv X pins σ H s := ⟨ok, I.os, I.bare, I.base, I.loc, I.cell, I.free, I.freeC, fun p hp => I.pin p (List.mem_append_left _ (List.mem_append_left _ hp)), I.hok, I.len⟩
theorem name_goes {M : Model} {A : Around} {E : Value → Shared → Prop} {i : Nat} {n : Str} {pos : Pos} {Q : Unit → Shared → Prop} (I : Inv X pins σ H s) (hN : X.N.Nodup) (hi : X.N[i]? = some n) (hl : X.env.kindOf n = some .local)
    (h : ∀ s', Inv X pins (σ.set i none) H s' → Q () s') : wpAny M A (do bindName X.env n .none; unbindBehindTheSuite X.env n pos) Q E s := by
  obtain ⟨m, hn, hv⟩ := id I.loc
  refine wpAny_nameGoes_keeps hl hn (by rw [I.ok.kind]; rfl) fun h' v hn' hs => ?_
  obtain ⟨oL, _, _, hoL, hdL, _⟩ := id hn
  have nL : ∀ b o, X.s₀.heap.get? b = some o → b ≠ X.env.locals := fun b o q => Nat.ne_of_lt (Nat.lt_of_lt_of_le (Heap.lt_size q) I.ok.above)
  refine h _ ⟨I.ok, I.os, I.bare, ⟨fun b o q n hb hx => (hs.2 b (nL b o q)).trans (I.base.keep b o q n hb hx), fun b o q n hb hx => ?_, I.base.free, fun b o q hx => ?_, I.base.tups, I.base.frzs, I.base.tbls⟩, ⟨_, hn', fun j y v' e1 e2 e3 => ?_⟩, fun y c q => ?_, I.free, I.freeC, fun p hp => ?_, fun b o q => ?_, by rw [List.length_set]; exact I.len⟩
  · obtain ⟨sl, q1⟩ := I.base.slot b o q n hb hx
    exact ⟨sl, (hs.2 b (nL b o q)).trans q1⟩
  · obtain ⟨o1, q1⟩ := I.base.there b o q hx
    exact ⟨o1, (hs.2 b (nL b o q)).trans q1⟩
  · by_cases hj : j = i
    · subst hj
      rw [List.getElem?_set] at e2
      split at e2
      · split at e2
        · cases e2
        · cases e2
      · exact absurd rfl (by assumption)
    · rw [List.getElem?_set_ne (Ne.symm hj)] at e2
      obtain ⟨u, r, q⟩ := hv j y v' e1 e2 e3
      refine ⟨u, r, ?_⟩
      rcases q with ⟨k, q⟩ | ⟨k, c, q, z⟩
      · refine .inl ⟨k, ?_⟩
        have : y ≠ n := fun z => hj (nodup_ix hN e1 (z ▸ hi))
        simp [this, q]
      · exact .inr ⟨k, c, q, z.sameBut hs (I.cne y c q)⟩
  · obtain ⟨w, z⟩ := I.cell y c q
    exact ⟨w, z.sameBut hs (I.cne y c q)⟩
  · obtain ⟨q, n, ne, nf, d⟩ := I.pin p hp
    exact ⟨(hs.2 p.1 ne).trans q, n, ne, nf, d⟩
  · refine (I.hok b o q).stay (fun b2 u hb r => ?_) (fun _ z => z) fun _ _ z => z
    have ht : ∃ o2, H b2 = some o2 := by
      rcases hb with rfl | hb
      · exact ⟨_, q⟩
      · exact ⟨_, hb⟩
    obtain ⟨o2, ht⟩ := ht
    refine (hs.2 b2 fun z => ?_).trans r
    rw [z, I.free] at ht; cases ht
end
end L2.EP

namespace L2.EP
open PySem PySem.Spec PyProof.Rows
section
variable {X : Cx} {pins : List (Addr × Obj)} {σ : St} {H : Hp} {s : Shared} {C D e : Addr} {i : Nat} {n dn : Str} {np hpos pos : Pos} {b₀ : Stmt} {suite body : List Stmt} {rest : List ExceptHandler} {Q : Flow → Shared → Prop}
theorem nofs_x {vs : Array Value} (I : Inv X pins σ H s) (he : s.heap.get? e = some (Xo C vs)) : e ∉ X.fs := fun z => by
  obtain ⟨_, o, ho, nd⟩ := I.funs.mem z
  rw [he] at ho; cases ho; exact nd _ rfl
theorem looks_x {M : Model} {h : Heap} {vs : Array Value} (he : h.get? e = some (Xo C vs)) : PySem.W.Looks M h (typeOf (.ref e)) (.ref C) := (PySem.W.Looks.ld he).andThen .now
theorem caught_as (I : Inv X pins σ H s) (fl : Fly X pins H s.heap C e) (hst : X.stack = X.env :: X.outer) (hf : X.env.frame = some X.env.locals) (hex : X.ex = []) (hgd : Gl X dn) (hmd : X.mg dn = some (.ref D)) (hxm : PySem.W.exmOne X.K (.ref C) (.ref D) = some true)
    (hN : X.N.Nodup) (hi : X.N[i]? = some n) (hl : X.env.kindOf n = some .local)
    (k : ∀ s' vs, Inv (Cx.caught X e (X.pn ++ pins ++ [(e, Xo C vs)])) [] (σ.set i (some (.ref e))) H s' → wpAny (model X.prog X.w) (X.A.mark (some (.ref e))) (execs (b₀ :: suite) X.env)
      (fun f s4 => wpAny (model X.prog X.w) X.A (do bindName X.env n .none; unbindBehindTheSuite X.env n hpos) (fun _ s5 => Q f s5) X.xe s4) (fun _ _ => False) s') (hdb : (dn == ("__debug__" : Str)) = false := by decide) :
    wpAny (model X.prog X.w) X.A (noteFrame (.ref e) X.env) (fun _ s2 => wpAny (model X.prog X.w) X.A (setFlight (.ref e) none) (fun _ s3 => wpAny (model X.prog X.w) X.A (handleBy (.ref e) X.env (.ExceptHandler (some (.Name dn np)) (some n) (b₀ :: suite) hpos :: rest)) Q X.xe s3) X.xe s2) X.xe s := by
  obtain ⟨T, tr, ne, nt⟩ := fl
  refine land_x (base := X.base) (by rw [I.ok.frames, hst]) (hst ▸ I.stack) hf tr fun h' t c tr' l => ?_
  have I2 := inv_chg I (h' := h') (by rw [hst]; exact c) fun b z => ⟨by rcases z with rfl | z; exact ne; exact nt b z, tr.recs b z⟩
  have ntt := nw_size I hex l
  obtain ⟨vs, he, hv, nte, oT, ts, ho, hd, h3⟩ := tr'
  refine wpAny_handleBy_cons (codeAny_handlers_test ?_) (by intro q; cases q)
  refine ld_glob (X := Cx.caught X e _) (inv_caught I2 he ne (nofs_x I2 he)) hgd hmd ?_ hdb
  refine (PySem.W.exm_one (K := X.K) I2.kIn (looks_x he) hxm).here ?_
  refine codeAny_handlers_suite_as ?_
  refine flight_x he hv nte ho hd h3 fun h2 c2 he2 tr2 => ?_
  have I3 := inv_chg I2 (h' := h2) (c2.mono (ch' := fun b => b = t) (fun _ z => z) (fun _ z => nomatch z)) fun b z => by
    subst z; exact ⟨ntt, oT, ts, ho, hd⟩
  refine store_ok (X := Cx.caught X e _) (v := .ref e) (inv_caught I3 he2 ne (nofs_x I3 he2)) hN hi (.inl hl) rfl (fun s' I4 => ?_) (.inr hl)
  exact wpAny_mono (k s' vs I4) (fun _ _ z => z) fun _ _ z => z.elim
theorem ps_try_as {W : St → Hp → Prop} {W0 : St → Hp → Prop} {th : Addr → TS} (hst : X.stack = X.env :: X.outer) (hf : X.env.frame = some X.env.locals) (hex : X.ex = []) (hgd : Gl X dn) (hmd : X.mg dn = some (.ref D)) (hxm : PySem.W.exmOne X.K (.ref C) (.ref D) = some true)
    (hN : X.N.Nodup) (hi : X.N[i]? = some n) (hl : X.env.kindOf n = some .local)
    (hb : ∀ Y pn, (∀ pins σ H s e, Inv (Cx.hold X Y pn) pins σ H s → W σ H → Fly (Cx.hold X Y pn) pins H s.heap C e → Y (.ref e) s) → PSs (Cx.hold X Y pn) body (fun _ σ H => W0 σ H))
    (hh : ∀ e vs pn, (e, Xo C vs) ∈ pn → PSs (Cx.caught X e pn) (b₀ :: suite) (th e)) (hdb : (dn == ("__debug__" : Str)) = false := by decide) :
    PS X (.Try body [.ExceptHandler (some (.Name dn np)) (some n) (b₀ :: suite) hpos] [] [] pos)
      (fun De σ H => W0 σ H ∧ ∀ σ' H' e, W σ' H' → th e { nx := fun σ2 H2 => De.nx (σ2.set i none) H2, rt := De.rt } (σ'.set i (some (.ref e))) H') := by
  intro pins s σ H De I ⟨h0, h1⟩
  refine wpAny_Try_except ?_
  have hB := hb (fun e s₁ => wpAny (model X.prog X.w) X.A (noteFrame e X.env) (fun _ s₂ => wpAny (model X.prog X.w) X.A (setFlight e none) (fun _ s₃ => wpAny (model X.prog X.w) X.A (handleBy e X.env [.ExceptHandler (some (.Name dn np)) (some n) (b₀ :: suite) hpos]) (SP X pins De) X.xe s₃) X.xe s₂) X.xe s₁) (X.pn ++ pins) (fun pins' σ' H' s' e I' w fl => ?_)
  · exact wpAny_mono (hB [] s σ H { nx := fun _ _ => False, rt := fun _ _ => False } (inv_hold I) h0) (fun f s1 z => by
      cases f with
      | next => obtain ⟨_, _, _, z⟩ := z; exact z.elim
      | ret v => obtain ⟨_, _, _, _, _, z⟩ := z; exact z.elim
      | brk => obtain ⟨_, _, _, z⟩ := z; exact z.elim
      | cont => obtain ⟨_, _, _, z⟩ := z; exact z.elim) fun _ _ z => z
  · have I2 : Inv X pins σ' H' s' := inv_unhold I.ok I'
    obtain ⟨T, tr, n1, n2⟩ := fl
    have sub : ∀ a, Nw (Cx.hold X (fun e s₁ => wpAny (model X.prog X.w) X.A (noteFrame e X.env) (fun _ s₂ => wpAny (model X.prog X.w) X.A (setFlight e none) (fun _ s₃ => wpAny (model X.prog X.w) X.A (handleBy e X.env [.ExceptHandler (some (.Name dn np)) (some n) (b₀ :: suite) hpos]) (SP X pins De) X.xe s₃) X.xe s₂) X.xe s₁) (X.pn ++ pins)) pins' H' a → Nw X pins H' a := fun a z => ⟨z.1, z.2.1, fun p hp => z.2.2 p (List.mem_append_left _ hp)⟩
    refine caught_as I2 ⟨T, tr, sub _ n1, fun t z => sub _ (n2 t z)⟩ hst hf hex hgd hmd hxm hN hi hl (fun s'' vs I3 => ?_) hdb
    refine wpAny_mono (hh e vs _ (by simp) [] s'' _ _ { nx := fun σ2 H2 => De.nx (σ2.set i none) H2, rt := De.rt } I3 (h1 σ' H' e w)) (fun f s4 z => ?_) fun _ _ z => z
    cases f with
    | next =>
      obtain ⟨σ2, H2, J, z⟩ := z
      exact name_goes (inv_uncaught I.ok J) hN hi hl fun s5 J2 => ⟨_, _, J2, z⟩
    | ret v =>
      obtain ⟨u, σ2, H2, J, r, z⟩ := z
      exact name_goes (inv_uncaught I.ok J) hN hi hl fun s5 J2 => ⟨u, _, _, J2, r, z⟩
    | brk => obtain ⟨_, _, _, z⟩ := z; exact z.elim
    | cont => obtain ⟨_, _, _, z⟩ := z; exact z.elim
theorem ps_try_ok {tb : TS} {h₀ : ExceptHandler} (hb : PSs X.nox body tb) : PS X (.Try body (h₀ :: rest) [] [] pos) tb := by
  intro pins s σ H De I h
  refine wpAny_Try_except (wpAny_mono (hb pins s σ H De (I.wish _) h) (fun f s1 z => ?_) fun _ _ z => z.elim)
  have z := z.unwish
  cases f with
  | next => exact wpAny_execs_nil z
  | ret v => exact z
  | brk => exact z
  | cont => exact z
end
end L2.EP

namespace L2.EP
open PySem PySem.Spec PyProof.Rows
structure Xn where
  e : Addr
instance : Py Xn where
  rp _ _ _ v a := v = .ref a.e
  tr _ _ h := h
structure RB where
  B : Hp
  H0 : Hp
  F : Addr → Prop
def Stb (K : PySem.W.Frag) (R : RB) (Γ : GEnv) (σ : St) (H : Hp) : Prop := ∃ O, Same R.B (off H O) ∧ Sta K R.H0 R.F O Γ σ H
theorem Stb.go {K : PySem.W.Frag} {R : RB} {Γ : GEnv} {σ : St} {H H' : Hp} (z : Stb K R Γ σ H) (s : Same H H') : Stb K R Γ σ H' := let ⟨O, m, Z⟩ := z; ⟨O, m.trans (off_mono s), Z.go s⟩
def Acc (X : Cx) (R : RB) (Γ : GEnv) (C : Addr) : Prop := ∀ pins σ H s e, Inv X pins σ H s → Stb X.K R Γ σ H → Fly X pins H s.heap C e → X.xe (.ref e) s
@[irreducible] def ER (X : Cx) (R : RB) (Γ : GEnv) (e : Expr) : Prop := PE X e (fun σ H _ => Stb X.K R Γ σ H)
@[irreducible] def SR (X : Cx) (R : RB) (Γ : GEnv) (st : List Stmt) : Prop := PSs X st (fun _ σ H => Stb X.K R Γ σ H)
section
variable {X : Cx} {R : RB} {Γ : GEnv} {D : GD} {α β γ : Type} [Py α] [Py β] [Py γ] {e e1 e2 e3 : Expr} {b b1 b2 b3 : Bool} {p pos np cpos cps : Pos} {st : Stmt} {rest body orelse : List Stmt} {C : Addr} {cn : Str}
theorem sr_raise {msg : Str} {j : Nat} (hA : Acc X R Γ C) (hg : Gl X cn) (hm : X.mg cn = some (.ref C)) (hc : RzK X.K C) (hcm : X.calm = true := by rfl) (hex : X.ex = [] := by rfl) (hd : (cn == ("__debug__" : Str)) = false := by decide) :
    SR X R Γ (.Raise (some (.Call (.Name cn np) [.Constant (.str msg) j cps] [] cpos)) none pos :: rest) := by
  with_unfolding_all
    exact pss_cons (u := tNever) (ps_raise (W := fun σ H => Stb X.K R Γ σ H) hcm hex hg hm hc (fun pins σ H s e I z fl => hA pins σ H s e I z fl) hd) pss_never
theorem sr_ret (h : ER X R Γ e) : SR X R Γ (.Return (some e) pos :: rest) := by
  with_unfolding_all
    exact pss_cons (u := tNever) (ps_wk (ps_ret h) fun _ _ _ z => z) pss_never
theorem sr_asg (i : Nat) {x : Str} {a : α} (hN : X.N.Nodup) (he : E X Γ e b a) (h : SR X R (Γ.set i (some (.val b a))) rest) (hi : X.N[i]? = some x := by rfl) (hx : Loc X.env.scope x := by first | exact Or.inl rfl | exact Or.inr rfl)
    (hs : swapsWith e (some (.Name x p)) pos.line X.env = pure false := by rfl) (hf : X.fn x = true ∨ X.env.scope.names.lookup x = some .local := by first | exact .inl rfl | exact .inr rfl) : SR X R Γ (.Assign [.Name x p] e pos :: rest) := by
  with_unfolding_all
    exact pss_wk (pss_cons (ps_set hN hi hx he hs hf) h) fun De σ H ⟨O, m, Z⟩ => ⟨R.H0, R.F, O, Z, fun v H1 s1 r1 => ⟨O, m.trans (off_mono s1), (Z.go s1).set r1⟩⟩
theorem sr_expr {a : α} (he : E X Γ e b a) (h : SR X R Γ rest) (hs : swapsWith e none pos.line X.env = pure false := by rfl) : SR X R Γ (.Expr e pos :: rest) := by
  with_unfolding_all
    exact pss_wk (pss_cons (ps_expr he hs) h) fun De σ H ⟨O, m, Z⟩ => ⟨R.H0, R.F, O, Z, fun v H1 s1 r1 => ⟨O, m.trans (off_mono s1), Z.go s1⟩⟩
theorem sr_ifT (hc : T X Γ e true) (h : SR X R Γ body) : SR X R Γ (.If e body orelse pos :: rest) := by
  with_unfolding_all
    exact pss_wk (pss_cons (u := tNever) (ps_if hc h pss_never) pss_never) fun De σ H ⟨O, m, Z⟩ => ⟨R.H0, R.F, O, Z, fun H1 s1 => iteT ⟨O, m.trans (off_mono s1), Z.go s1⟩⟩
end

structure CalR (P : Program) (w : World) (K : PySem.W.Frag) (mg : Str → Option Value) (base : Heap) (k : Nat) (name : Str) (ps : List Str) (sp : Sp) : Prop where
  ex : ∃ (f : Addr) (fd : FuncData), FnOk P w K mg base (CX1 P w) k f fd ps sp ∧ Binds K fd ps [] ∧ PySem.W.keepIn K (.ref f) = true ∧ mg name = some (.ref f)
def spR1 {α : Type} [Py α] (K : PySem.W.Frag) (pre : α → Prop) (C : Addr) : Sp := fun vs H _ E => ∃ O v a, OwnL H O ∧ vs = [v] ∧ Py.rp K .any (off H O) v a ∧ pre a ∧ ∀ H', Same H H' → E (.ref C) none H'
def spR2 {α β : Type} [Py α] [Py β] (K : PySem.W.Frag) (pre : α → β → Prop) (C : Addr) : Sp := fun vs H _ E => ∃ O v w a c, OwnL H O ∧ vs = [v, w] ∧ Py.rp K .any (off H O) v a ∧ Py.rp K .any (off H O) w c ∧ pre a c ∧ ∀ H', Same H H' → E (.ref C) none H'
section
variable {X : Cx} {R : RB} {Γ : GEnv} {α β γ : Type} [Py α] [Py β] [Py γ] {e e1 e2 e3 : Expr} {es : List Expr} {b b1 b2 b3 : Bool} {p pos : Pos} {C f : Addr} {x name : Str} {k : Nat} {ps : List Str} {fd : FuncData} {t : TA} {sp : Sp}
theorem pe_callR {W : St → Hp → Prop} {E' : St → Hp → XK} (G : FnOk X.prog X.w X.K X.mg X.base (CX1 X.prog X.w) k f fd ps sp) (hr : Room k X.A) (hg : Gl X x) (hm : X.mg x = some (.ref f)) (hk : PySem.W.keepIn X.K (.ref f) = true) (hb : Binds X.K fd ps []) (hex : X.ex = [])
    (hx : ∀ pins σ H H' s e C, W σ H → Inv X pins σ H' s → Fly X pins H' s.heap C e → E' σ H (.ref C) none H' → X.xe (.ref e) s)
    (ha : PA X (e :: es) t) (hdb : (x == ("__debug__" : Str)) = false := by decide) (he : starEach (e :: es) X.env = (false, eval e X.env) :: starEach es X.env := by rfl) (hpl : (backTo pos (starEach es X.env)).any (·.1) = false := by rfl) :
    PE X (.Call (.Name x p) (e :: es) [] pos) (fun σ H _ => t σ H fun vs H1 => W σ H1 ∧ sp vs H1 (fun _ _ => False) (E' σ H1)) := by
  intro pins s σ H Q I h
  refine wpAny_Call_Name_kw (ld_glob I hg hm ?_ hdb)
  refine PySem.W.callWith_K (h₀ := X.base) I.ok.mod.kin hk (thn (ha pos pins s σ H _ I h) fun us s1 ⟨vs, H1, I1, r, w, q⟩ => ⟨I1.kIn, ?_⟩) he hpl
  have hl : us.length = ps.length := by rw [← r.length]; exact G.len _ _ _ _ q
  have hbb := hb s1 us I1.kIn (by rw [List.append_nil]; exact hl)
  rw [List.append_nil] at hbb
  refine wpAny_call (codeAny_mono (G.run X.A X.stack s1 H1 ⟨us, []⟩ us vs _ _ hr I1.env0 hbb r q) fun r s' hq => ?_)
  cases r with
  | error ev =>
    obtain ⟨a, C, H', rfl, I', fl, z⟩ := pass1 I1 hex hq
    exact hx pins σ H1 H' s' a C w I' fl z
  | ok fl =>
    cases fl with
    | ret u => obtain ⟨_, _, _, _, _, _, _, z⟩ := hq; exact z.elim
    | next => exact False.elim hq
    | brk => exact False.elim hq
    | cont => exact False.elim hq
theorem acc_go {pins : List (Addr × Obj)} {σ : St} {H H' : Hp} {s : Shared} {a C' : Addr} (hA : Acc X R Γ C) (w : Stb X.K R Γ σ H) (I : Inv X pins σ H' s) (fl : Fly X pins H' s.heap C' a) (z : (.ref C' : Value) = .ref C ∧ Same H H') : X.xe (.ref a) s := by
  obtain ⟨z1, z2⟩ := z
  cases z1
  exact hA pins σ H' s a I (w.go z2) fl
theorem er_call1 {pre : α → Prop} {a : α} (Cl : CalR X.prog X.w X.K X.mg X.base k name ps (spR1 X.K pre C)) (hA : Acc X R Γ C) (hr : Room k X.A) (hg : Gl X name) (h1 : E X Γ e1 b1 a) (hp : pre a) (hex : X.ex = [] := by rfl)
    (hs1 : starEach [e1] X.env = (false, eval e1 X.env) :: starEach [] X.env := by rfl) (hdb : (name == ("__debug__" : Str)) = false := by decide) (hpl : (backTo pos (starEach [] X.env)).any (·.1) = false := by rfl) :
    ER X R Γ (.Call (.Name name p) [e1] [] pos) := by
  with_unfolding_all
    obtain ⟨fa, fd, G, B, kp, m⟩ := Cl.ex
    exact pe_wk (pe_callR (W := fun σ H => Stb X.K R Γ σ H) (E' := fun _ H cls _ H' => cls = .ref C ∧ Same H H') G hr hg m kp B hex (fun pins σ H H' s a C' w I fl z => acc_go hA w I fl z) (pa_cons h1 pa_nil hs1) hdb hs1 hpl) fun σ H Q ⟨O, m, S⟩ => ⟨R.H0, R.F, O, S, fun v1 H1 s1 r1 =>
      ⟨⟨O, m.trans (off_mono s1), S.go s1⟩, O, v1, a, (S.go s1).own, rfl, rp_wid nf_true r1, hp, fun H' s' => ⟨rfl, s'⟩⟩⟩
end
section
variable {P : Program} {w : World} {K : PySem.W.Frag} {mg : Str → Option Value} {base : Heap} {N ps : List Str} {k : Nat} {x qual : Str} {st : Stmt} {f : Addr} {fd : FuncData}
def BodyR (P : Program) (w : World) (K : PySem.W.Frag) (mg : Str → Option Value) (base : Heap) (N : List Str) (qual : Str) (st : Stmt) (f : Addr) (k : Nat) (gs : List Bd) (C : Addr) : Prop :=
  ∀ (cdv : Value) (A : Around) (outer : List Env) (s : Shared) (H : Hp) (E : XK) (R : RB), Room k (A.deeper (envOfC qual (defScope st) s.heap.objs.size f cdv)) →
    (∀ Γ, Acc (cx1 P w K mg base N qual st f cdv A outer s H E) R Γ C) → SR (cx1 P w K mg base N qual st f cdv A outer s H E) R (gst N gs) (defBody st)
theorem fn_R {sp : Sp} {C : Addr} (G : Fun K x qual st f fd) (S : FnScope N ps (defScope st)) (len : ∀ vs H Q E, sp vs H Q E → vs.length = ps.length)
    (hb : ∀ (vs : List V) (H : Hp) (Q : VK) (E : XK), sp vs H Q E → ∃ O gs, OwnL H O ∧ Args K (off H O) vs gs ∧ BodyR P w K mg base N qual st f k gs C ∧ ∀ H', Same H H' → E (.ref C) none H') : FnOk P w K mg base (CX1 P w) (k + 1) f fd ps sp := by
  with_unfolding_all
    obtain ⟨oc, od, kV, doc, pm, an, cdv, ct, osl, rfl, lk, hcd⟩ := G.ex
    refine fn_of lk hcd S len fun A outer s H vs Q E hr hsp => ?_
    obtain ⟨O, gs, ho, ha, B, q⟩ := hb vs H Q E hsp
    exact ⟨_, B cdv A outer s H E ⟨off H O, H, O⟩ hr (fun Γ pins σ H1 s1 e I ⟨O1, m, Z⟩ fl => acc_def I fl (q H1 Z.same)), O, Same.refl _, sta_start ho ha⟩
theorem fnR1 {α : Type} [Py α] {pre : α → Prop} {C : Addr} (G : Fun K x qual st f fd) (sc : FnScope N ps (defScope st)) (hl : ps.length = 1) (B : ∀ a, pre a → BodyR P w K mg base N qual st f k [.val false a] C) : FnOk P w K mg base (CX1 P w) (k + 1) f fd ps (spR1 K pre C) := by
  refine fn_R (C := C) G sc (fun vs H Q E h => ?_) fun vs H Q E h => ?_
  · obtain ⟨O, v, a, _, rfl, _⟩ := h; rw [hl]; rfl
  · obtain ⟨O, v, a, ho, rfl, r, hp, q⟩ := h
    exact ⟨O, _, ho, .cons r .nil, B a hp, q⟩
theorem Df.calR {h : Heap} {sp : Sp} (D : Df K x st) (X : K.In h) (G : h.Ns mainGlobals mg) (hb : ∀ (kV doc pm : Value) (an : Option Addr) (cdv ct : Value) (us : List Value), us.length = ps.length → bindArgs (PySem.W.fnOf x x (defArgs st) (defBody st) (defScope st) .none kV doc pm an cdv ct) ⟨us, []⟩ = pure (ps.zip us))
    (ok : ∀ f fd, Fun K x x st f fd → FnOk P w K mg base (CX1 P w) k f fd ps sp) : CalR P w K mg base k x ps sp := by
  obtain ⟨f, fd, a, F⟩ := D
  exact ⟨f, fd, ok f fd F, F.binds hb, F.kp, PySem.W.mg_of X G a⟩
end
end L2.EP

namespace L2.EP
open PySem PySem.Spec PyProof.Rows
theorem get_set_no.{u} {α : Type u} {l : List (Option α)} {i j : Nat} {x : α} (h : (l.set i none)[j]? = some (some x)) : j ≠ i ∧ l[j]? = some (some x) := by
  by_cases hj : j = i
  · subst hj
    rw [List.getElem?_set] at h
    split at h
    · split at h
      · cases h
      · cases h
    · exact absurd rfl (by assumption)
  · rw [List.getElem?_set_ne (Ne.symm hj)] at h
    exact ⟨hj, h⟩
theorem Sta.gone {K : PySem.W.Frag} {H0 : Hp} {F O : Addr → Prop} {Γ : GEnv} {σ : St} {H : Hp} (S : Sta K H0 F O Γ σ H) (i : Nat) : Sta K H0 F O (Γ.set i none) (σ.set i none) H where
  same := S.same
  fo := S.fo
  f0 := S.f0
  own := S.own
  len := by rw [List.length_set, List.length_set]; exact S.len
  at_ := fun j g e n => by
    obtain ⟨nj, e'⟩ := get_set_no e
    obtain ⟨v, q, r⟩ := S.at_ j g e' n
    exact ⟨v, by rw [List.getElem?_set_ne (Ne.symm nj)]; exact q, r⟩
  dis := by
    obtain ⟨D, d1, d2, d3⟩ := S.dis
    refine ⟨D, d1, d2, fun j g e o => ?_⟩
    obtain ⟨nj, e'⟩ := get_set_no e
    obtain ⟨v, q, r⟩ := d3 j g e' o
    exact ⟨v, by rw [List.getElem?_set_ne (Ne.symm nj)]; exact q, r⟩
section
variable {X : Cx} {Γ : GEnv} {D : GD} {α β γ : Type} [Py α] [Py β] [Py γ] {e e1 e2 e3 : Expr} {b b1 b2 b3 : Bool} {p p2 pos np hpos : Pos} {b₀ : Stmt} {rest body suite : List Stmt} {C Cd : Addr} {n dn : Str}
theorem s_try_as (i : Nat) (hN : X.N.Nodup) (hgd : Gl X dn) (hmd : X.mg dn = some (.ref Cd)) (hxm : PySem.W.exmOne X.K (.ref C) (.ref Cd) = some true)
    (hb : ∀ Y pn R, Acc (Cx.hold X Y pn) R Γ C → SR (Cx.hold X Y pn) R Γ body)
    (hh : ∀ a vs pn, (a, Xo C vs) ∈ pn → S (Cx.caught X a pn) (Γ.set i (some (.val true (Xn.mk a)))) (b₀ :: suite) { nx := fun Γ' => S X (Γ'.set i none) rest D, rt := D.rt })
    (hi : X.N[i]? = some n := by rfl) (hl : X.env.kindOf n = some .local := by rfl) (hst : X.stack = X.env :: X.outer := by rfl) (hf : X.env.frame = some X.env.locals := by rfl) (hex : X.ex = [] := by rfl) (hdb : (dn == ("__debug__" : Str)) = false := by decide) :
    S X Γ (.Try body [.ExceptHandler (some (.Name dn np)) (some n) (b₀ :: suite) hpos] [] [] pos :: rest) D := by
  with_unfolding_all
    refine s_seq fun pins s σ H De I ⟨H0, F, O, Z, nx, rt, bk, ct⟩ => ?_
    refine ps_try_as (W := fun σ' H' => Stb X.K ⟨off H O, H0, F⟩ Γ σ' H') (W0 := fun σ' H' => Stb X.K ⟨off H O, H0, F⟩ Γ σ' H') (th := fun a => tG X.K (Γ.set i (some (.val true (Xn.mk a)))) { nx := fun Γ' => S X (Γ'.set i none) rest D, rt := D.rt })
      hst hf hex hgd hmd hxm hN hi hl (fun Y pn hY => hb Y pn ⟨off H O, H0, F⟩ fun pins' σ' H' s' a I' Z' fl => hY pins' σ' H' s' a I' Z' fl) (fun a vs pn hm => hh a vs pn hm) hdb pins s σ H De I ⟨⟨O, Same.refl _, Z⟩, fun σ' H' a ⟨O', m, Z'⟩ => ?_⟩
    exact ⟨H0, F, O', Z'.set (b := true) (a := Xn.mk a) rfl, fun Γ2 σ2 H2 O2 m2 Z2 q => nx _ _ H2 O2 (Same.trans m m2) (Z2.gone i) q, fun g v H2 m2 r2 q => rt g v H2 m2 r2 q, fun _ _ _ _ _ _ z => z.elim, fun _ _ _ _ _ _ z => z.elim⟩
theorem s_try_ok {h₀ : ExceptHandler} {hs : List ExceptHandler} (hb : S X.nox Γ body { D with nx := fun Γ' => S X Γ' rest D }) : S X Γ (.Try body (h₀ :: hs) [] [] pos :: rest) D := by
  with_unfolding_all
    exact s_seq (ps_try_ok hb)
end

def kxIn (K : PySem.W.Frag) (C : Addr) : Bool := PySem.W.findIn K (.ref C) "__getattribute__" == some (some (.builtin "BaseException.__getattribute__")) && PySem.W.findIn K (.ref C) "__getattr__" == some none && (PySem.W.clsIn K C).isSome && PySem.W.findIn K (.ref C) "__class__" == some (some (.builtin "object.__class__")) &&
  PySem.W.specialIn K (.builtin "object.__class__") "__get__" == some (some (.builtin "getset_descriptor.__get__")) && PySem.W.takesIn K (.builtin "object.__class__") == some true && PySem.W.mroIn K C (.type "object") == some true && PySem.W.mroIn K C (.type "BaseException") == some true
section
variable {prog : Program} {w : World} {A : Around} {E : Value → Shared → Prop} {s : Shared} {K : PySem.W.Frag} {a C : Addr} {ox : Obj}
theorem chk_ga {M : Model} {nv : Value} {Q : Unit → Shared → Prop} (LB : PySem.W.Looks M s.heap (isInstance (.ref a) (.type "BaseException")) true) (q : Q () s) : wpAny M A (checkBuiltinCall "BaseException.__getattribute__" ⟨[.ref a, nv], []⟩) Q E s := by
  have k1 : builtinKind "BaseException.__getattribute__" = some .slot := by decide +kernel
  have k2 : splitId "BaseException.__getattribute__" = some ("BaseException", "__getattribute__") := by decide +kernel
  have k3 := PySem.F.args_bexc_ga (.ref a) nv
  with_reducible exact @PySem.W.check_slot M A E s "BaseException.__getattribute__" "BaseException" "__getattribute__" (.ref a) [nv] [] Q k1 k2 LB k3 q
theorem cls_x {Q : Option Value → Shared → Prop} (X : K.In s.heap) (I : PySem.W.InstAt s.heap a ox C none) (z1 : PySem.W.findIn K (.ref C) "__getattribute__" = some (some (.builtin "BaseException.__getattribute__"))) (z2 : PySem.W.findIn K (.ref C) "__getattr__" = some none)
    (hf : PySem.W.findObj K C none "__class__" = some (.bind (.builtin "getset_descriptor.__get__") (.builtin "object.__class__"))) (hm : PySem.W.mroIn K C (.type "object") = some true) (hB : PySem.W.mroIn K C (.type "BaseException") = some true) (h : Q (some (.ref C)) { s with toks := s.toks + 1 }) :
    wpAny (model prog w) A (getAttr? (.ref a) "__class__") Q E s := by
  obtain ⟨hh, g, d, t, os⟩ := s
  have L0 := I.type (M := model prog w)
  have L1 := PySem.W.looks_findIn (M := model prog w) X z1
  have L2 := PySem.W.looks_findIn (M := model prog w) X z2
  have LF := PySem.W.looks_find (M := model prog w) X I hf
  have LB : PySem.W.Looks (model prog w) hh (isInstance (.ref a) (.type "BaseException")) true := L0.andThen (PySem.W.looks_mroIn X hB)
  unfold getAttr? getAttrBy? getAttrBy
  refine wpAny_bind (wpAny_mkText (wpAny_bind (wpAny_attempt (wpAny_holding (wpAny_bind (L0.at (wpAny_bind (L1.at ?_))))))))
  dsimp only
  rw [if_neg (by rw [show (Value.builtin "BaseException.__getattribute__" == Value.builtin "object.__getattribute__") = false from by decide +kernel]; simp)]
  unfold getAttrByItsOwn
  have e1 : hookBefore (.ref C) = typeLookup (.ref C) "__getattr__" := rfl
  rw [e1]
  refine wpAny_bind (L2.at (wpAny_bind (wpAny_attempt (wpAny_holding ?_))))
  have e2 : ∀ nv : Value, callGetattribute (.ref a) nv (.builtin "BaseException.__getattribute__") false = boundAndCalled (.builtin "BaseException.__getattribute__") (.ref a) nv := fun _ => rfl
  rw [e2]
  unfold boundAndCalled
  refine wpAny_bind (wpAny_of_eq (PySem.F.excAttr_ValueError.ga.bind (.ref a)) ?_)
  refine wpAny_call (codeAny_call_builtin (args := ⟨[.ref a, .str "__class__" t], []⟩) PySem.F.excAttr_ValueError.ga.plain PySem.F.entry_bexc_ga ?_)
  refine chk_ga LB ?_
  unfold Builtin.«object.__getattribute__»
  refine wpAny_bind (wpAny_pure (wpAny_bind (wpAny_pure (wpAny_bind (L0.at (wpAny_bind (LF.at ?_)))))))
  show wpAny _ _ (holding [_] (call _ [_, .ref a, .ref C]) >>= ret) _ _ _
  refine wpAny_bind (wpAny_holding (wpAny_call (PySem.W.class_get (s := ⟨hh, g, d, t + 1, os⟩) (ox := ox) (od := none) X I hm ?_)))
  exact wpAny_pure (wpAny_of_eq (PySem.W.handedOut_of rfl) (wpAny_pure h))
end
theorem kitx_x {K : PySem.W.Frag} {C a : Addr} (h : kxIn K C = true) : PySem.W.KitX K (.ref a) (.ref C) (fun g => ∃ vs, g.get? a = some (Xo C vs)) := by
  simp only [kxIn, Bool.and_eq_true, beq_iff_eq] at h
  obtain ⟨⟨⟨⟨⟨⟨⟨h0, h1⟩, h2⟩, h3⟩, h4⟩, h5⟩, h6⟩, h7⟩ := h
  obtain ⟨cd, h2⟩ := Option.isSome_iff_exists.mp h2
  have hK : ∃ c' d' sl', K.lookup C = some ⟨c', d', .cls cd, sl'⟩ := by
    unfold PySem.W.clsIn at h2
    split at h2
    · rename_i ho; cases h2; exact ⟨_, _, _, ho⟩
    · cases h2
  obtain ⟨c', d', sl', ho⟩ := hK
  have hf : PySem.W.findObj K C none "__class__" = some (.bind (.builtin "getset_descriptor.__get__") (.builtin "object.__class__")) := by
    unfold PySem.W.findObj
    rw [h2, Option.bind_some, h3, Option.bind_some]
    simp [h4, h5]
  refine ⟨fun M g _ ⟨vs, he⟩ => looks_x he, fun M g X _ => ?_, fun g tp dd its n sl X htp => ?_, fun {prog w A E Q s} X ⟨vs, he⟩ k => ?_⟩
  · intro A' Q' E' s' k q
    unfold isType loadHead
    exact wpAny_bind (wpAny_loadPart (k _ _ (X _ _ ho)) (wpAny_pure q))
  · refine Bool.eq_false_iff.mpr fun q => ?_
    have z : C = tp := Value.ref.inj (beq_iff_eq.mp q)
    subst z
    have z := (X _ _ ho).symm.trans htp
    cases z
  · exact cls_x (ox := Xo C vs) X ⟨he, rfl, rfl, True.intro⟩ h0 h1 hf h6 h7 k
def Lie (X : Cx) (a C : Addr) : Prop := ∀ pins σ H s, Inv X pins σ H s → ∃ vs, s.heap.get? a = some (Xo C vs)
theorem lie_caught {X : Cx} {a C : Addr} {vs : Array Value} {pn : List (Addr × Obj)} (h : (a, Xo C vs) ∈ pn) : Lie (Cx.caught X a pn) a C := fun pins σ H s I => ⟨vs, (I.pin _ (List.mem_append_left _ h)).1⟩
section
variable {X : Cx} {Γ : GEnv} {e : Expr} {b c : Bool} {p p2 pos : Pos} {a C Cd : Addr} {T : Str}
theorem e_isX (L : Lie X a C) (hk : kxIn X.K C = true) (ho : PySem.W.kitOne X.K (.ref C) (.ref Cd) = some c) (hg : Gl X "isinstance") (hm : X.mg "isinstance" = none) (hg2 : Gl X T) (hm2 : X.mg T = some (.ref Cd)) (ha : E X Γ e b (Xn.mk a))
    (hs : starEach [e, .Name T p2] X.env = (false, eval e X.env) :: starEach [.Name T p2] X.env := by rfl) (hs2 : starEach [.Name T p2] X.env = (false, eval (.Name T p2) X.env) :: starEach [] X.env := by rfl) (hpl : (backTo pos (starEach [.Name T p2] X.env)).any (·.1) = false := by rfl)
    (hd : (T == ("__debug__" : Str)) = false := by decide) :
    E X Γ (.Call (.Name "isinstance" p) [e, .Name T p2] [] pos) true c := by
  with_unfolding_all
    have hc : CallR X (.builtin "isinstance") (fun xs H Q => xs = [.ref a, .ref Cd] ∧ Q (.bl c) H) := by
      intro pins s σ H xs us Q I r h
      obtain ⟨rfl, q⟩ := h
      obtain ⟨u, w', rfl, rx, ry⟩ := vals2 r
      cases rx; cases ry
      obtain ⟨vs, he⟩ := L pins σ H s I
      exact PySem.W.kia_one (kitx_x hk) I.kIn ⟨vs, he⟩ ho (fun z => nomatch z) fun tk => ⟨.bl c, H, I.tok _, rfl, q⟩
    exact pe_wk (pe_callB hc hg hm boot_isinstance (pa_cons ha (pa_cons (pe_glob (v := .ref Cd) hg2 hm2 rfl hd) pa_nil hs2) hs) (he := hs) (hpl := hpl)) fun σ H Q ⟨H0, F, O, S, q⟩ => ⟨H0, F, O, S, fun v H1 s1 r1 => ⟨by cases r1; rfl, q _ H1 s1 rfl⟩⟩
theorem e_isXB {T' : String} (L : Lie X a C) (hk : kxIn X.K C = true) (ho : PySem.W.kitOne X.K (.ref C) (.type T') = some c) (hg : Gl X "isinstance") (hm : X.mg "isinstance" = none) (hg2 : Gl X T) (hm2 : X.mg T = none) (hv : bootBuiltins T = some (.type T')) (ha : E X Γ e b (Xn.mk a))
    (hs : starEach [e, .Name T p2] X.env = (false, eval e X.env) :: starEach [.Name T p2] X.env := by rfl) (hs2 : starEach [.Name T p2] X.env = (false, eval (.Name T p2) X.env) :: starEach [] X.env := by rfl) (hpl : (backTo pos (starEach [.Name T p2] X.env)).any (·.1) = false := by rfl)
    (hn : T ≠ "__name__" := by decide) (hd : (T == ("__debug__" : Str)) = false := by decide) :
    E X Γ (.Call (.Name "isinstance" p) [e, .Name T p2] [] pos) true c := by
  with_unfolding_all
    have hc : CallR X (.builtin "isinstance") (fun xs H Q => xs = [.ref a, .ty T'] ∧ Q (.bl c) H) := by
      intro pins s σ H xs us Q I r h
      obtain ⟨rfl, q⟩ := h
      obtain ⟨u, w', rfl, rx, ry⟩ := vals2 r
      cases rx; cases ry
      obtain ⟨vs, he⟩ := L pins σ H s I
      exact PySem.W.kia_one (kitx_x hk) I.kIn ⟨vs, he⟩ ho (fun z => nomatch z) fun tk => ⟨.bl c, H, I.tok _, rfl, q⟩
    exact pe_wk (pe_callB hc hg hm boot_isinstance (pa_cons ha (pa_cons (pe_bltn (v := .ty T') hg2 hm2 hv rfl hn hd) pa_nil hs2) hs) (he := hs) (hpl := hpl)) fun σ H Q ⟨H0, F, O, S, q⟩ => ⟨H0, F, O, S, fun v H1 s1 r1 => ⟨by cases r1; rfl, q _ H1 s1 rfl⟩⟩
end

structure RoomH (k : Nat) (A : Around) : Prop where
  dp : A.depth + 3 * k + 5 < recursionLimit
  un : A.units + 16 * k + 200 < cLine
theorem Room.h {k : Nat} {A : Around} (r : Room k A) (v : Option Value) : RoomH k (A.mark v) := ⟨r.dp, r.un⟩
abbrev cxH (P : Program) (w : World) (K : PySem.W.Frag) (mg : Str → Option Value) (base : Heap) (N : List Str) (qual : Str) (st : Stmt) (f : Addr) (cdv : Value) (A : Around) (outer : List Env) (s : Shared) (H : Hp) : Cx := { cxOf CX0 P w K mg base N qual (defScope st) f cdv A outer s H E0 with calm := false, xe := fun _ _ => False }
structure CalH (P : Program) (w : World) (K : PySem.W.Frag) (mg : Str → Option Value) (base : Heap) (k : Nat) (name : Str) (C : Addr) (c : Bool) : Prop where
  ex : ∃ f : Addr, PySem.W.keepIn K (.ref f) = true ∧ mg name = some (.ref f) ∧ ∀ (A : Around) (outer : List Env) (s : Shared) (H : Hp) (a : Addr) (vs : Array Value), RoomH k A → Env0 P w K mg base A outer s H → s.heap.get? a = some (Xo C vs) → H a = none → a ∉ frs outer →
    codeAny (model P w) A (.call (.ref f) ⟨[.ref a], []⟩) (CR CX0 outer P w H s (fun v H' => v = .bl c ∧ Same H H') E0) s
theorem e_callH {X : Cx} {Γ : GEnv} {e : Expr} {b c : Bool} {p pos : Pos} {a C : Addr} {vs : Array Value} {pn : List (Addr × Obj)} {k : Nat} {name : Str} (Cl : CalH X.prog X.w X.K X.mg X.base k name C c) (hm' : (a, Xo C vs) ∈ pn) (hr : Room k X.A) (hg : Gl X name) (h1 : E (Cx.caught X a pn) Γ e b (Xn.mk a))
    (hs1 : starEach [e] X.env = (false, eval e X.env) :: starEach [] X.env := by rfl) (hdb : (name == ("__debug__" : Str)) = false := by decide) (hpl : (backTo pos (starEach [] X.env)).any (·.1) = false := by rfl) :
    E (Cx.caught X a pn) Γ (.Call (.Name name p) [e] [] pos) true c := by
  with_unfolding_all
    obtain ⟨f, kp, m, run⟩ := Cl.ex
    have hE : PE (Cx.caught X a pn) (.Call (.Name name p) [e] [] pos) (fun σ H Q => tCons (tV X.K Γ b (Xn.mk a)) tNil σ H fun us H1 => us = [.ref a] ∧ ∀ H2, Same H1 H2 → Q (.bl c) H2) := by
      intro pins s σ H Q I h
      refine wpAny_Call_Name_kw (ld_glob (X := Cx.caught X a pn) I hg m ?_ hdb)
      refine PySem.W.callWith_K (h₀ := X.base) I.ok.mod.kin kp (thn ((pa_cons h1 pa_nil hs1 : PA (Cx.caught X a pn) [e] _) pos pins s σ H _ I h) fun us s1 ⟨ws, H1, I1, r, ew, q⟩ => ⟨I1.kIn, ?_⟩) hs1 hpl
      subst ew
      obtain ⟨u, rfl, ru⟩ : ∃ u, us = [u] ∧ RelV (.ref a) u := by
        cases r with
        | cons r1 r2 => cases r2; exact ⟨_, rfl, r1⟩
      cases ru
      obtain ⟨e1, e2, e3, e4, _⟩ := I1.pin (a, Xo C vs) (List.mem_append_left _ hm')
      have e1 : s1.heap.get? a = some (Xo C vs) := e1
      refine wpAny_call (codeAny_mono (run _ X.stack s1 H1 a vs (Room.h hr _) I1.env0 e1 e2 fun z => ?_) fun r s' hq => ?_)
      · exact (List.mem_cons.mp (I1.stkSub a z)).elim e3 e4
      · cases r with
        | error ev => exact hq.elim
        | ok fl =>
          cases fl with
          | ret u =>
            obtain ⟨v, H', J, rv, ev, sm⟩ := I1.after hq
            subst ev
            exact ⟨_, H', J, rv, q H' sm⟩
          | next => exact False.elim hq
          | brk => exact False.elim hq
          | cont => exact False.elim hq
    exact pe_wk hE fun σ H Q ⟨H0, F, O, S, q⟩ => ⟨H0, F, O, S, fun v H1 s1 r1 => ⟨by cases r1; rfl, fun H2 s2 => q _ H2 (s1.trans s2) rfl⟩⟩
section
variable {P : Program} {w : World} {K : PySem.W.Frag} {mg : Str → Option Value} {base h : Heap} {N : List Str} {k : Nat} {x y : Str} {st : Stmt} {C : Addr} {c : Bool}
theorem Df.calH (D : Df K x st) (X : K.In h) (G : h.Ns mainGlobals mg) (S' : FnScope N [y] (defScope st)) (hbd : ∀ (kV doc pm : Value) (an : Option Addr) (cdv ct : Value) (us : List Value), us.length = 1 → bindArgs (PySem.W.fnOf x x (defArgs st) (defBody st) (defScope st) .none kV doc pm an cdv ct) ⟨us, []⟩ = pure ([y].zip us))
    (hb : ∀ (f : Addr) (cdv : Value) (A : Around) (outer : List Env) (s : Shared) (H : Hp) (a : Addr), Lie (cxH P w K mg base N x st f cdv A outer s H) a C → S (cxH P w K mg base N x st f cdv A outer s H) (gst N [.val false (Xn.mk a)]) (defBody st) (RT true c)) : CalH P w K mg base (k + 1) x C c := by
  with_unfolding_all
    obtain ⟨f, fd, nm, F⟩ := D
    have kp := F.kp
    obtain ⟨oc, od, kV, doc, pm, an, cdv, ct, osl, rfl, lk, hcd⟩ := F.ex
    refine ⟨f, kp, PySem.W.mg_of X G nm, fun A outer s H a vs hr e0 he hH nf => ?_⟩
    have KX : K.In s.heap := e0.mod.kin.keeps fun b o e => (e0.bs b o e).1
    have lim : s.heap.NoLimit := e0.mod.nolimit.keeps fun b o e => (e0.bs b o e).1
    have hkd : ∀ z ∈ [y].zip [Value.ref a], (defScope st).names.lookup z.1 = some .local ∨ ((defScope st).names.lookup z.1 = some .cell ∧ ((cellsFrom (s.heap.objs.size + 1) (defScope st).names []).lookup z.1).isSome = true) := fun ⟨n, v⟩ hz => by
      rcases S'.par n (List.of_mem_zip hz).1 with q | q
      · exact .inl q
      · exact .inr ⟨q, PySem.W.cellsFrom_some _ _ _ (.inl q)⟩
    refine codeAny_call_function (by have := hr.dp; omega) (KX _ _ lk) rfl S'.co S'.gen rfl (PySem.W.codeRec_of KX hcd) (BindsTo.of_eq (hbd kV doc pm an cdv ct [.ref a] rfl) _ _ _ _ ?_)
    refine wpAny_newFunctionEnv_cells S'.kind hkd fun env hE s1 z => ?_
    subst hE
    refine ⟨lim.keeps z.toInCall.keep, codeAny_func ?_⟩
    have e1 : Env0 P w K mg base { A with handled := none } outer s H := ⟨e0.frames, e0.mod, e0.bs, e0.bsz, e0.funs, e0.frf, e0.hok, e0.bare⟩
    have I0 : Inv (cxOf CX0 P w K mg base N x (defScope st) f cdv { A with handled := none } outer s H E0) [] (start N [.ref a]) H s1 := inv_start (vs := [.ref a]) (us := [.ref a]) S' rfl e1 rfl (.cons rfl .nil) z
    have I : Inv (cxH P w K mg base N x st f cdv A outer s H) [] (start N [.ref a]) H s1 := by
      obtain ⟨ok, q1, q2, q3, q4, q5, q6, q7, q8, q9, q10⟩ := I0
      exact ⟨⟨ok.mod, ok.kind, ok.glob, ok.blt, ok.above, ok.inj, ok.has, ok.cab, fun z => Bool.noConfusion z, ok.frames, ok.stk, ok.exf, ok.bs, ok.bsz, ok.noex, ok.exfs, ok.funs, ok.frf⟩, q1, q2, q3, q4, q5, q6, q7, q8, q9, q10⟩
    have L : Lie (cxH P w K mg base N x st f cdv A outer s H) a C := fun pins σ H1 s2 I2 => ⟨vs, I2.base.keep a _ he hH nf (fun z => nomatch z)⟩
    have B : PSs (cxH P w K mg base N x st f cdv A outer s H) (defBody st) (tG K (gst N [.val false (Xn.mk a)]) (RT true c)) := hb f cdv A outer s H a L
    have hs : Sta K H (fun _ => False) (fun _ => False) (gst N [.val false (Xn.mk a)]) (start N [.ref a]) H := sta_start (fun _ z => z.elim) (.cons rfl .nil)
    refine wpAny_mono (B [] s1 (start N [.ref a]) H { nx := fun _ _ => False, rt := fun v H' => v = .bl c ∧ Same H H' } I ⟨H, _, _, hs, fun _ _ _ _ _ _ z => z.elim, fun g v H' sm z e => ?_, fun _ _ _ _ _ _ z => z.elim, fun _ _ _ _ _ _ z => z.elim⟩) (fun fl s' hq => ?_) fun _ _ z => z.elim
    · have e' : g = .val true c := e
      subst e'
      exact ⟨z, sm⟩
    · cases fl with
      | ret u =>
        obtain ⟨v, σ', H', J, rv, q⟩ := hq
        exact ⟨v, H', J.os, J.bare, J.base, J.hok, rv, q⟩
      | next => obtain ⟨_, _, _, z⟩ := hq; exact z.elim
      | brk => obtain ⟨_, _, _, z⟩ := hq; exact z.elim
      | cont => obtain ⟨_, _, _, z⟩ := hq; exact z.elim
end
end L2.EP

namespace L2.EP
open PySem PySem.Spec PyProof.Rows
def xsRow (K : PySem.W.Frag) (F T N R S : Addr) : Bool := PySem.W.excIn K T bmV "ValueError.__new__" && kxIn K T && PySem.W.exmOne K (.ref T) (.ref F) == some true && PySem.W.exmOne K (.ref T) (.ref T) == some true && PySem.W.kitOne K (.ref T) (.type "ValueError") == some true &&
  PySem.W.kitOne K (.ref T) (.ref F) == some true && PySem.W.kitOne K (.ref T) (.ref T) == some true && PySem.W.kitOne K (.ref T) (.ref N) == some false && PySem.W.kitOne K (.ref T) (.ref R) == some false && PySem.W.kitOne K (.ref T) (.ref S) == some false
structure Xr (K : PySem.W.Frag) (F T N R S : Addr) : Prop where
  rz : RzK K T
  kx : kxIn K T = true
  xF : PySem.W.exmOne K (.ref T) (.ref F) = some true
  xT : PySem.W.exmOne K (.ref T) (.ref T) = some true
  iV : PySem.W.kitOne K (.ref T) (.type "ValueError") = some true
  iF : PySem.W.kitOne K (.ref T) (.ref F) = some true
  iT : PySem.W.kitOne K (.ref T) (.ref T) = some true
  iN : PySem.W.kitOne K (.ref T) (.ref N) = some false
  iR : PySem.W.kitOne K (.ref T) (.ref R) = some false
  iS : PySem.W.kitOne K (.ref T) (.ref S) = some false
theorem xr_of {K : PySem.W.Frag} {F T N R S : Addr} (h : xsRow K F T N R S = true) : Xr K F T N R S := by
  simp only [xsRow, Bool.and_eq_true, beq_iff_eq] at h
  obtain ⟨⟨⟨⟨⟨⟨⟨⟨⟨h1, h2⟩, h3⟩, h4⟩, h5⟩, h6⟩, h7⟩, h8⟩, h9⟩, h10⟩ := h
  exact ⟨h1, h2, h3, h4, h5, h6, h7, h8, h9, h10⟩
structure Xs (K : PySem.W.Frag) (mg : Str → Option Value) (F T N R S : Addr) : Prop where
  mF : mg "FormError" = some (.ref F)
  mT : mg "TooGreat" = some (.ref T)
  mN : mg "NoText" = some (.ref N)
  mR : mg "NoRow" = some (.ref R)
  mS : mg "NoStep" = some (.ref S)
  mV : mg "ValueError" = none
  t : Xr K F T N R S
  n : Xr K F N R S T
  r : Xr K F R S T N
  s : Xr K F S T N R
theorem xs_mk {K : PySem.W.Frag} {h : Heap} {mg : Str → Option Value} {F T N R S : Addr} (X : K.In h) (G : h.Ns mainGlobals mg) (z1 : PySem.W.nsIn K mainGlobals "FormError" = some (some (.ref F))) (z2 : PySem.W.nsIn K mainGlobals "TooGreat" = some (some (.ref T))) (z3 : PySem.W.nsIn K mainGlobals "NoText" = some (some (.ref N)))
    (z4 : PySem.W.nsIn K mainGlobals "NoRow" = some (some (.ref R))) (z5 : PySem.W.nsIn K mainGlobals "NoStep" = some (some (.ref S))) (z6 : PySem.W.nsIn K mainGlobals "ValueError" = some none) (y1 : xsRow K F T N R S = true) (y2 : xsRow K F N R S T = true) (y3 : xsRow K F R S T N = true) (y4 : xsRow K F S T N R = true) : Xs K mg F T N R S :=
  ⟨PySem.W.mg_of X G z1, PySem.W.mg_of X G z2, PySem.W.mg_of X G z3, PySem.W.mg_of X G z4, PySem.W.mg_of X G z5, PySem.W.mg_none_of X G z6, xr_of y1, xr_of y2, xr_of y3, xr_of y4⟩
end L2.EP

namespace L2.EP
open PySem PySem.Spec PyProof.Rows
theorem reads_bools {h : Heap} : ∀ {its : List Value} {bs : List Bool}, Vals (bs.map V.bl) its → ReadsAll h its (bs.map PyData.bool) []
  | _, [], .nil => .nil
  | _, b :: bs, .cons r t => by
    cases r
    exact .cons (as := []) (.bool b) (reads_bools t)
theorem pr_bools {K : PySem.W.Frag} {N : Nn} {H : Hp} : ∀ {xs : List V} {bs : List Bool}, Paired (fun x (b : Bool) => Py.rp K N H x b) xs bs → xs = bs.map V.bl
  | _, _, .nil => rfl
  | _, _, .cons r t => by
    have r' : _ = V.bl _ := r
    rw [r', pr_bools t]
    rfl
theorem all_bools : ∀ bs : List Bool, (bs.map PyData.bool).all Shape.bool.has = true
  | [] => rfl
  | b :: bs => by
    rw [List.map_cons, List.all_cons, all_bools bs]
    rfl
instance : PyD (Option Int) where
  dat a := match a with | none => .none | some i => .int i
  dr {K N H v a} h := by
    cases a with
    | none => cases h; exact .non
    | some i => cases h; exact .int i
  lay a := by cases a <;> rfl
  dep := 0
  depth a := by cases a <;> exact Nat.le_refl _
  eqv a b := by cases a <;> cases b <;> simp [PyData.eqv]
section
variable {X : Cx} {Γ : GEnv} {e : Expr} {b : Bool} {ap cp p : Pos} {j : Nat}
theorem e_countT {bs : List Bool} (ha : E X Γ e b bs) (hbase : attributeBase e "count" X.env (eval e X.env) = eval e X.env := by rfl)
    (hfew : ((backTo cp (starEach [.Constant (.bool true) j p] X.env)).all (fun x => !x.1) && (backToKw cp (keywordEach [] X.env)).all (fun x => x.1.isSome)
      && decide ([Expr.Constant (.bool true) j p].length + ([] : List Keyword).length + (if ([] : List Keyword).isEmpty then 0 else 1) < 30)) = true := by rfl)
    (hline : (ap.endLine == cp.line) = true := by rfl) :
    E X Γ (.Call (.Attribute e "count" ap) [.Constant (.bool true) j p] [] cp) true (countIn (.bool true) (bs.map PyData.bool)) := by
  with_unfolding_all
    have hm : MtR X "list.count" (fun x xs H Q => ∃ N, Py.rp X.K N H x bs ∧ xs = [.bl true] ∧ Q (.int (countIn (.bool true) (bs.map PyData.bool))) H) := by
      intro pins s σ H x xs v us Q I rv r ⟨N, rb, ex, q⟩
      subst ex
      obtain ⟨u, rfl, ru⟩ := Vals.one r
      cases ru
      obtain ⟨a, ys, rfl, sq, _, pr⟩ := rb
      cases rv
      have ey := pr_bools pr
      subst ey
      obtain ⟨its, rr, pl, _⟩ := I.list sq
      exact count_list_bools pl.isList (reads_bools (h := s.heap) rr) (all_bools bs) ⟨.int _, H, I.tok _, ⟨_, rfl⟩, q⟩
    exact pe_wk (pe_bm PySem.F.plainAttrs_list PySem.F.slot_list_count PySem.F.type_list_count hm ha (pa_cons pe_bl pa_nil) hbase hfew hline) fun σ H Q ⟨H0, F, O, Z, q⟩ => ⟨H0, F, O, Z, fun v H1 s1 r1 => ⟨by
      obtain ⟨a, ys, rfl, sq, _, pr⟩ := rp_mono (off_same _ _) r1
      exact .inl ⟨rfl, ys, sq⟩, ⟨_, rp_mono (off_same _ _) r1, rfl, q _ H1 s1 rfl⟩⟩⟩
end
end L2.EP

namespace L2.EP
open PySem PySem.Spec PyProof.Rows
mutual
inductive DN (K : PySem.W.Frag) (N : Nn) (H : Hp) : V → PyData → Prop
  | non : DN K N H .non .none
  | bl (b : Bool) : DN K N H (.bl b) (.bool b)
  | int (i : Int) : DN K N H (.int i) (.int i)
  | str (x : Str) : DN K N H (.str x) (.str x)
  | lst {a : Addr} {xs : List V} {ds : List PyData} : SqL K H a xs → N.has H a (.inl xs) → DNs K N H xs ds → DN K N H (.ref a) (.list ds)
  | tup {a : Addr} {xs : List V} {ds : List PyData} : Rt H a xs → DNs K N H xs ds → DN K N H (.ref a) (.tuple ds)
inductive DNs (K : PySem.W.Frag) (N : Nn) (H : Hp) : List V → List PyData → Prop
  | nil : DNs K N H [] []
  | cons {x : V} {xs : List V} {d : PyData} {ds : List PyData} : DN K N H x d → DNs K N H xs ds → DNs K N H (x :: xs) (d :: ds)
end
mutual
theorem DN.tr {K : PySem.W.Frag} {N N' : Nn} {H H' : Hp} (l : ∀ p (o : Mt), Mo K H p o → N.has H p o → Mo K H' p o ∧ N'.has H' p o) (t : ∀ p xs, Rt H p xs → Rt H' p xs) : ∀ {v : V} {d : PyData}, DN K N H v d → DN K N' H' v d
  | _, _, .non => .non
  | _, _, .bl b => .bl b
  | _, _, .int i => .int i
  | _, _, .str x => .str x
  | _, _, .lst (xs := xs) s n r => .lst (l _ (.inl xs) s n).1 (l _ (.inl xs) s n).2 (DNs.tr l t r)
  | _, _, .tup s r => .tup (t _ _ s) (DNs.tr l t r)
theorem DNs.tr {K : PySem.W.Frag} {N N' : Nn} {H H' : Hp} (l : ∀ p (o : Mt), Mo K H p o → N.has H p o → Mo K H' p o ∧ N'.has H' p o) (t : ∀ p xs, Rt H p xs → Rt H' p xs) : ∀ {v : List V} {d : List PyData}, DNs K N H v d → DNs K N' H' v d
  | _, _, .nil => .nil
  | _, _, .cons h r => .cons (DN.tr l t h) (DNs.tr l t r)
end
structure Dt where
  d : PyData
instance : Py Dt where
  rp K N H v a := DN K N H v a.d
  tr l t h := DN.tr l t h
mutual
theorem DN.dr {K : PySem.W.Frag} {N : Nn} {H : Hp} : ∀ {v : V} {d : PyData}, DN K N H v d → DR K H v d
  | _, _, .non => .non
  | _, _, .bl b => .bl b
  | _, _, .int i => .int i
  | _, _, .str x => .str x
  | _, _, .lst s _ r => .lst s (DNs.dr r)
  | _, _, .tup s r => .tup (SqU.t (.inl s)) (DNs.dr r)
theorem DNs.dr {K : PySem.W.Frag} {N : Nn} {H : Hp} : ∀ {v : List V} {d : List PyData}, DNs K N H v d → DRs K H v d
  | _, _, .nil => .nil
  | _, _, .cons h r => .cons (DN.dr h) (DNs.dr r)
end
section
variable {X : Cx} {Γ : GEnv} {α β : Type} [Py α] [Py β] {e e1 e2 : Expr} {b b1 b2 : Bool} {p p2 pos : Pos}
theorem e_rp {a : α} {c : β} (h : E X Γ e b a) (w : ∀ N H v, Py.rp X.K N H v a → Py.rp X.K N H v c) : E X Γ e b c := by
  with_unfolding_all
    exact pe_wk h fun σ H Q ⟨H0, F, O, S, q⟩ => ⟨H0, F, O, S, fun v H1 s1 r1 => q v H1 s1 (w _ _ _ r1)⟩
def isL : PyData → Bool
  | .list _ => true
  | _ => false
def isTu : PyData → Bool
  | .tuple _ => true
  | _ => false
def isIn : PyData → Bool
  | .int _ => true
  | .bool _ => true
  | _ => false
def isBo : PyData → Bool
  | .bool _ => true
  | _ => false
def frD (u : Int × Int) : PyData := .tuple [.int u.1, .int u.2]
end
section
variable {X : Cx} {Γ : GEnv} {D : GD} {α β γ : Type} [Py α] [Py β] [Py γ] {e e1 e2 : Expr} {b b1 b2 : Bool} {pos : Pos} {rest st : List Stmt}
end
end L2.EP

namespace L2.EP
open PySem PySem.Spec PyProof.Rows
structure AtL where
  p : Addr
  l : List Int
structure AtD where
  p : Addr
  d : Dc Int
instance : Py AtL where
  rp K N H v a := v = .ref a.p ∧ Py.rp K N H v a.l
  tr l t h := ⟨h.1, Py.tr l t h.2⟩
instance : Py AtD where
  rp K N H v a := v = .ref a.p ∧ Py.rp K N H v a.d
  tr l t h := ⟨h.1, Py.tr l t h.2⟩
section
variable {X : Cx} {Γ : GEnv} {D : GD} {α β γ : Type} [Py α] [Py β] [Py γ] {e e1 e2 ek ec : Expr} {b b1 b2 : Bool} {pos : Pos} {rest st : List Stmt}
theorem e_dgetAt (i : Nat) {u0 : AtD} {k : Int} {c : Int} {x : Str} {p ap cp : Pos} (hu : X.A.units + 60 < cLine) (hg : Γ[i]? = some (some (.dpo u0))) (hk : E X Γ ek b1 k) (he : E X Γ ec b2 c) (hi : X.N[i]? = some x := by rfl)
    (hv : Vis X.env.scope x := by first | exact Or.inl rfl | exact Or.inr (Or.inl rfl) | exact Or.inr (Or.inr rfl)) (hd : (x == ("__debug__" : Str)) = false := by decide) (hcd : (x == ("__classdict__" : Str)) = false := by decide)
    (hm : M2 X (.Name x p) "get" ap ek ec cp := by exact ⟨rfl, rfl, rfl, rfl⟩) : E X Γ (.Call (.Attribute (.Name x p) "get" ap) [ek, ec] [] cp) true ((u0.d.val k).getD c) := by
  with_unfolding_all
    exact pe_wk (pe_dget2 (by omega) (pv i hi hv hd hcd) hk he hm) fun σ H Q ⟨H0, F, O, Z, q⟩ => by
        obtain ⟨v, Di, hv1, ⟨_, a, kvs0, e1, rd0, _, _⟩, _, _⟩ := Z.writeM hg True.intro
        refine ⟨v, hv1, a, e1, .inl ⟨kvs0, rd0⟩, H0, F, O, Z, fun y H2 z2 ry => ⟨H0, F, O, Z.go z2, fun u H3 z3 ru => ?_⟩⟩
        have Z3 := Z.go (z2.trans z3)
        obtain ⟨v', Di, hv2, ⟨_, a', kvs, e1', rd, nn, rr⟩, _, _⟩ := Z3.writeM hg True.intro
        rw [hv1] at hv2
        have ev : v = v' := Option.some.inj (Option.some.inj hv2)
        subst ev
        rw [e1] at e1'
        have ea : a = a' := by injection e1'
        subst ea
        have ey : y = V.int k := ry
        subst ey
        refine ⟨valV kvs (.inl k), .inl ⟨kvs, .inl k, rd, rfl, rfl⟩, q _ H3 (z2.trans z3) ?_⟩
        obtain ⟨h1, h2⟩ := dc_val (β := Int) (l := u0.d.l) k rr
        cases ed : u0.d.val k with
        | none =>
          rw [h2 ed]
          exact PyT.free (fun _ _ w => w) ru
        | some c' =>
          obtain ⟨w, h3, h4⟩ := h1 c' ed
          rw [h3]
          exact PyT.free (rd_tup_off Z3.own) h4
theorem s_setAt (i : Nat) {u0 : AtL} {k : Int} {c : Int} {x : Str} {p p' : Pos} (hg : Γ[i]? = some (some (.dpo u0))) (hk : E X Γ ek b2 k) (he : E X Γ e b c) (h0 : 0 ≤ k) (hl : k < u0.l.length) (h : S X (Γ.set i (some (.dpo (AtL.mk u0.p (u0.l.set k.toNat c))))) rest D) (hi : X.N[i]? = some x := by rfl)
    (hv : Vis X.env.scope x := by first | exact Or.inl rfl | exact Or.inr (Or.inl rfl) | exact Or.inr (Or.inr rfl)) (hd : (x == ("__debug__" : Str)) = false := by decide) (hcd : (x == ("__classdict__" : Str)) = false := by decide)
    (ha : ∀ v, assign (.Subscript (.Name x p) ek p') X.env v = (do
      let ov ← holding [v] (eval (.Name x p) X.env)
      let iv ← holding [v, ov] (eval ek X.env)
      standAt p'
      holding [v, ov, iv] (setItem ov iv v)
      release [v, ov, iv] []) := by intro _; rfl)
    (hs : swapsWithSole [.Subscript (.Name x p) ek p'] e pos.line X.env = pure false := by rfl) (hw : swappedStores [.Subscript (.Name x p) ek p'] e X.env = pure none := by rfl)
    (h1 : (assignEach [.Subscript (.Name x p) ek p'] X.env).map (·.2) = [assign (.Subscript (.Name x p) ek p') X.env] := by rfl) : S X Γ (.Assign [.Subscript (.Name x p) ek p'] e pos :: rest) D := by
  with_unfolding_all
    exact s_seq (ps_wk (ps_asg he (pg_sub (pv i hi hv hd hcd) hk set_list ha) hs hw h1) fun De σ H ⟨H0, F, O, Z, n, _⟩ => ⟨H0, F, O, Z, fun u H1 z1 ru => by
        obtain ⟨v, Di, hv1, _, _, _⟩ := (Z.go z1).write hg True.intro
        refine ⟨v, hv1, H0, F, O, Z.go z1, fun y H3 z3 ry => ?_⟩
        obtain ⟨v', Di, hv2, ⟨ep, q, ys, e1, sq, nn, rr⟩, hO, wr⟩ := (Z.go (z1.trans z3)).write hg True.intro
        rw [hv1] at hv2
        have ev : v = v' := Option.some.inj (Option.some.inj hv2)
        subst ev
        have ey : y = V.int k := ry
        subst ey
        have hq : H3 q = some (.lst ys) := nn.2
        have hly : k < ys.length := by rw [pr_len rr]; exact hl
        have hix : ixN ys.length k = some k.toNat := by
          unfold ixN; rw [if_pos h0, if_pos (by omega)]
        have ht : ∀ p zs, Rt H3 p zs → Rt (upd H3 q (.lst (ys.set k.toNat u))) p zs := fun p zs h => by
          have hp : p ≠ q := fun w => by
            subst w
            rcases h with h | ⟨o, h⟩
            · rw [hq] at h; cases h
            · rw [hq] at h; cases h
          rcases h with h | ⟨o, h⟩
          · exact .inl (by rw [upd_ne hp]; exact h)
          · exact .inr ⟨o, by rw [upd_ne hp]; exact h⟩
        refine ⟨q, ys, k, k.toNat, e1, rfl, hq, hix, ?_⟩
        obtain ⟨Z', eo⟩ := wr q (ys.set k.toNat u) (some (.dpo (AtL.mk u0.p (u0.l.set k.toNat c)))) nn.1 fun g'' e' => by
          cases e'
          exact ⟨True.intro, ep, q, _, e1, SqL.of upd_same, ⟨nn.1, upd_same⟩, pr_set (PyT.free (fun p xs w => ht p xs (Same.rt ((off_same _ _).trans z3) w)) ru) k.toNat (pr_imp (fun _ _ z => PyT.free ht z) rr)⟩
        exact n _ _ _ _ (by rw [eo]; exact off_mono (z1.trans z3)) Z' h⟩)
end
section
variable {X : Cx} {Γ : GEnv} {D : GD} {α β γ : Type} [Py α] [Py β] [Py γ] {e e1 e2 ek : Expr} {b b1 b2 : Bool} {pos : Pos} {rest st : List Stmt}
theorem s_dputAt (i : Nat) {u0 : AtD} {k : Int} {c : Int} {x : Str} {p p' : Pos} (hu : X.A.units + 60 < cLine) (hg : Γ[i]? = some (some (.dpo u0))) (hk : E X Γ ek b2 k) (he : E X Γ e b c) (hl : u0.d.l.length ≤ 1000) (h : S X (Γ.set i (some (.dpo (AtD.mk u0.p (u0.d.put k c))))) rest D) (hi : X.N[i]? = some x := by rfl)
    (hv : Vis X.env.scope x := by first | exact Or.inl rfl | exact Or.inr (Or.inl rfl) | exact Or.inr (Or.inr rfl)) (hd : (x == ("__debug__" : Str)) = false := by decide) (hcd : (x == ("__classdict__" : Str)) = false := by decide)
    (hs : swapsWith e (some (.Subscript (.Name x p) ek p')) pos.line X.env = pure false := by rfl) : S X Γ (.Assign [.Subscript (.Name x p) ek p'] e pos :: rest) D := by
  with_unfolding_all
    exact s_seq (ps_wk (ps_dput (by omega) (pv i hi hv hd hcd) hk he hs) fun De σ H ⟨H0, F, O, Z, n, _⟩ => ⟨H0, F, O, Z, fun u H1 z1 ru => by
        obtain ⟨v, Di, hv1, _, _, _⟩ := (Z.go z1).writeM hg True.intro
        refine ⟨v, hv1, H0, F, O, Z.go z1, fun y H3 z3 ry => ?_⟩
        obtain ⟨v', Di, hv2, ⟨ep, q, kvs, e1, rd, nn, rr⟩, hO, wr⟩ := (Z.go (z1.trans z3)).writeM hg True.intro
        rw [hv1] at hv2
        have ev : v = v' := Option.some.inj (Option.some.inj hv2)
        subst ev
        have ey : y = V.int k := ry
        subst ey
        have hq : H3 q = some (.dK kvs) := nn.2
        have ht : ∀ p xs, Rt H3 p xs → Rt (upd H3 q (.dK (putK kvs (.inl k) u))) p xs := fun p xs h => by
          have hp : p ≠ q := fun w => by
            subst w
            rcases h with h | ⟨o, h⟩
            · rw [hq] at h; cases h
            · rw [hq] at h; cases h
          rcases h with h | ⟨o, h⟩
          · exact .inl (by rw [upd_ne hp]; exact h)
          · exact .inr ⟨o, by rw [upd_ne hp]; exact h⟩
        refine ⟨q, _, e1, DPut.k (k := .inl k) hq (by rw [pr_len rr]; exact small1000 hl), ?_⟩
        have rr' : Paired (DP X.K (.set Di) (upd H3 q (.dK (putK kvs (.inl k) u)))) kvs u0.d.l := pr_imp (fun _ _ z => ⟨z.1, PyT.free ht z.2⟩) rr
        have ru' : Py.rp X.K (.set Di) (upd H3 q (.dK (putK kvs (.inl k) u))) u c := PyT.free (fun p xs w => ht p xs (Same.rt ((off_same _ _).trans z3) w)) ru
        obtain ⟨Z', eo⟩ := wr q (.inr (putK kvs (.inl k) u)) (some (.dpo (AtD.mk u0.p (u0.d.put k c)))) nn.1 fun g'' e' => by
          cases e'
          exact ⟨True.intro, ep, q, _, e1, .inl upd_same, ⟨nn.1, upd_same⟩, dc_put rr' ru'⟩
        exact n _ _ _ _ (by rw [show upd H3 q (HO.dK (putK kvs (Sum.inl k) u)) = upd H3 q (mo (.inr (putK kvs (.inl k) u))) from rfl, eo]; exact off_mono (z1.trans z3)) Z' h⟩)
end
def spM (K : PySem.W.Frag) (pre : List Int → Dc Int → Int → Prop) (g : List Int → Dc Int → Int → List Int × Dc Int) : Sp := fun vs H Q _ => ∃ (O : Addr → Prop) (p q : Addr) (l : List Int) (d : Dc Int) (c : Int), OwnL H O ∧ O p ∧ O q ∧ p ≠ q ∧ vs = [.ref p, .ref q, .int c] ∧
  Py.rp K (.set (· = p)) H (.ref p) l ∧ Py.rp K (.set (· = q)) H (.ref q) d ∧ pre l d c ∧ ∀ H', (∀ a o, a ≠ p → a ≠ q → H a = some o → H' a = some o) → Py.rp K (.set (· = p)) H' (.ref p) (g l d c).1 → Py.rp K (.set (· = q)) H' (.ref q) (g l d c).2 → Q .non H'
def RTM (p q : Addr) (u : List Int × Dc Int) : GD := { nx := fun Γ => Γ[0]? = some (some (.dpo (AtL.mk p u.1))) ∧ Γ[1]? = some (some (.dpo (AtD.mk q u.2))), rt := fun _ => False }
open Classical in
noncomputable def but2 (H : Hp) (p q : Addr) : Hp := fun a => if a = p ∨ a = q then none else H a
theorem but2_same (H : Hp) (p q : Addr) : Same (but2 H p q) H := fun a o h => by
  unfold but2 at h
  split at h
  · cases h
  · exact h
theorem list_set {K : PySem.W.Frag} {D : Addr → Prop} {H : Hp} {p : Addr} {l : List Int} (h : Py.rp K (.set D) H (.ref p) l) : D p ∧ Py.rp K (.set (· = p)) H (.ref p) l := by
  obtain ⟨q, xs, e, sq, n, r⟩ := h
  cases e
  exact ⟨n.1, _, xs, rfl, sq, ⟨rfl, n.2⟩, pr_imp (fun _ _ z => z) r⟩
theorem dict_set {K : PySem.W.Frag} {D : Addr → Prop} {H : Hp} {p : Addr} {d : Dc Int} (h : Py.rp K (.set D) H (.ref p) d) : D p ∧ Py.rp K (.set (· = p)) H (.ref p) d := by
  obtain ⟨q, kvs, e, sq, n, r⟩ := h
  cases e
  exact ⟨n.1, _, kvs, rfl, sq, ⟨rfl, n.2⟩, pr_imp (fun _ _ z => z) r⟩
theorem gst_get {N : List Str} {gs : List Bd} (i : Nat) (g : Bd) (e : (gst N gs)[i]? = some (some g)) : gs[i]? = some g := by
  unfold gst at e
  by_cases hi : i < (gs.map some).length
  · rw [List.getElem?_append_left hi, List.getElem?_map] at e
    cases q : gs[i]? with
    | none => rw [q] at e; cases e
    | some g' => rw [q] at e; simpa using e
  · rw [List.getElem?_append_right (by omega)] at e
    have := List.mem_of_getElem? e
    rw [List.mem_replicate] at this
    cases this.2
theorem start_get {N : List Str} {vs : List V} {i : Nat} {v : V} (h1 : vs[i]? = some v) : (start N vs)[i]? = some (some v) := by
  unfold start
  have hi : i < (vs.map some).length := by
    rw [List.length_map]
    exact (List.getElem?_eq_some_iff.mp h1).1
  rw [List.getElem?_append_left hi, List.getElem?_map, h1]; rfl
theorem fnM {P : Program} {w : World} {K : PySem.W.Frag} {mg : Str → Option Value} {base : Heap} {N ps : List Str} {k : Nat} {x qual : Str} {st : Stmt} {f : Addr} {fd : FuncData} {pre : List Int → Dc Int → Int → Prop} {g : List Int → Dc Int → Int → List Int × Dc Int} (F : Fun K x qual st f fd) (sc : FnScope N ps (defScope st)) (hl : ps.length = 3)
    (B : ∀ p q l d c, pre l d c → Body P w K mg base N qual st f k [.dpo (AtL.mk p l), .dpo (AtD.mk q d), .val false c] (RTM p q (g l d c))) : FnOk P w K mg base CX0 (k + 1) f fd ps (spM K pre g) := by
  with_unfolding_all
    refine F.ok sc (fun vs H Q E h => ?_) fun cdv A outer s H vs Q E hr h => ?_
    · obtain ⟨O, p, q, l, d, c, _, _, _, _, rfl, _⟩ := h; rw [hl]; rfl
    · obtain ⟨O, p, q, l, d, c, ho, op, oq, pq, rfl, r1, r2, hp, kk⟩ := h
      have Z : Sta K (but2 H p q) (fun a => O a ∧ a ≠ p ∧ a ≠ q) O (gst N [.dpo (AtL.mk p l), .dpo (AtD.mk q d), .val false c]) (start N [.ref p, .ref q, .int c]) H := by
        refine ⟨but2_same H p q, fun a z => z.1, fun a z => ?_, ho, by simp [gst, start], fun i g e n => ?_, ⟨fun i a => (i = 0 ∧ a = p) ∨ (i = 1 ∧ a = q), fun i j a z1 z2 => ?_, fun i a z => ?_, fun i g e o => ?_⟩⟩
        · obtain ⟨xs, hx⟩ := ho a z.1
          refine ⟨xs, ?_⟩
          unfold but2
          rw [if_neg (by rintro (w | w); exact z.2.1 w; exact z.2.2 w)]
          exact hx
        · have e' := gst_get i g e
          match i, e' with
          | 0, e' => simp at e'; subst e'; exact absurd True.intro n
          | 1, e' => simp at e'; subst e'; exact absurd True.intro n
          | 2, e' => simp at e'; subst e'; exact ⟨.int c, start_get rfl, rfl⟩
          | _ + 3, e' => simp at e'
        · rcases z1 with ⟨a1, a2⟩ | ⟨a1, a2⟩ <;> rcases z2 with ⟨b1, b2⟩ | ⟨b1, b2⟩
          · rw [a1, b1]
          · exact absurd (a2.symm.trans b2) pq
          · exact absurd (b2.symm.trans a2) pq
          · rw [a1, b1]
        · rcases z with ⟨_, rfl⟩ | ⟨_, rfl⟩
          · exact ⟨op, by unfold but2; rw [if_pos (.inl rfl)]⟩
          · exact ⟨oq, by unfold but2; rw [if_pos (.inr rfl)]⟩
        · have e' := gst_get i g e
          match i, e' with
          | 0, e' =>
            simp at e'; subst e'
            obtain ⟨p', xs, ev, sq, n, r⟩ := r1
            cases ev
            exact ⟨.ref p, start_get rfl, rfl, _, xs, rfl, sq, ⟨.inl ⟨rfl, rfl⟩, n.2⟩, pr_imp (fun _ _ z => z) r⟩
          | 1, e' =>
            simp at e'; subst e'
            obtain ⟨p', xs, ev, sq, n, r⟩ := r2
            cases ev
            exact ⟨.ref q, start_get rfl, rfl, _, xs, rfl, sq, ⟨.inr ⟨rfl, rfl⟩, n.2⟩, pr_imp (fun _ _ z => z) r⟩
          | 2, e' => simp at e'; subst e'; exact absurd o fun z => z
          | _ + 3, e' => simp at e'
      refine ⟨_, B p q l d c hp cdv A outer s H E hr, but2 H p q, _, O, Z, fun Γ' σ' H' O' sm Z' ⟨g0, g1⟩ => ?_, fun g v H' sm z e => e.elim, fun _ _ _ _ _ _ z => z.elim, fun _ _ _ _ _ _ z => z.elim⟩
      obtain ⟨D, d1, d2, d3⟩ := Z'.dis
      obtain ⟨v0, _, ⟨e0, k0⟩⟩ := d3 0 _ g0 True.intro
      obtain ⟨v1, _, ⟨e1, k1⟩⟩ := d3 1 _ g1 True.intro
      subst e0 e1
      refine kk H' (fun a o ap aq ha => Z'.same a o ?_) (list_set k0).2 (dict_set k1).2
      unfold but2
      rw [if_neg (by rintro (w | w); exact ap w; exact aq w)]
      exact ha
section
variable {X : Cx} {Γ : GEnv} {D : GD} {e3 : Expr} {b3 : Bool} {pos cp p0 px py : Pos} {rest : List Stmt} {k : Nat} {name : Str} {ps : List Str}
open Classical in
theorem s_callM (i j : Nat) {l : List Int} {d : Dc Int} {c : Int} {x y : Str} {pre : List Int → Dc Int → Int → Prop} {g : List Int → Dc Int → Int → List Int × Dc Int} (Cl : Cal X.prog X.w X.K X.mg X.base k name ps (spM X.K pre g)) (hr : Room k X.A) (hg : Gl X name) (hi : Γ[i]? = some (some (.dpo l))) (hj : Γ[j]? = some (some (.dpo d))) (hij : i ≠ j) (h3 : E X Γ e3 b3 c) (hp : pre l d c)
    (h : S X ((Γ.set i (some (.dpo (g l d c).1))).set j (some (.dpo (g l d c).2))) rest D)
    (hx : X.N[i]? = some x := by rfl) (hv : Vis X.env.scope x := by first | exact Or.inl rfl | exact Or.inr (Or.inl rfl) | exact Or.inr (Or.inr rfl)) (hd : (x == ("__debug__" : Str)) = false := by decide) (hcd : (x == ("__classdict__" : Str)) = false := by decide)
    (hy : X.N[j]? = some y := by rfl) (hv' : Vis X.env.scope y := by first | exact Or.inl rfl | exact Or.inr (Or.inl rfl) | exact Or.inr (Or.inr rfl)) (hd' : (y == ("__debug__" : Str)) = false := by decide) (hcd' : (y == ("__classdict__" : Str)) = false := by decide)
    (hs1 : starEach [.Name x px, .Name y py, e3] X.env = (false, eval (.Name x px) X.env) :: starEach [.Name y py, e3] X.env := by rfl) (hs2 : starEach [.Name y py, e3] X.env = (false, eval (.Name y py) X.env) :: starEach [e3] X.env := by rfl) (hs3 : starEach [e3] X.env = (false, eval e3 X.env) :: starEach [] X.env := by rfl)
    (hdb : (name == ("__debug__" : Str)) = false := by decide) (hpl : (backTo cp (starEach [.Name y py, e3] X.env)).any (·.1) = false := by rfl)
    (hsw : swapsWith (.Call (.Name name p0) [.Name x px, .Name y py, e3] [] cp) none pos.line X.env = pure false := by rfl) :
    S X Γ (.Expr (.Call (.Name name p0) [.Name x px, .Name y py, e3] [] cp) pos :: rest) D := by
  with_unfolding_all
    obtain ⟨fa, fd, F, B, kp, m⟩ := Cl.ex
    refine s_seq (ps_wk (ps_expr (pe_call F hr hg m kp B .nil pass0 (pa_cons (pv i hx hv hd hcd) (pa_cons (pv j hy hv' hd' hcd') (pa_cons h3 pa_nil hs3) hs2) hs1) hdb hs1 hpl) hsw) fun De σ H ⟨H0, F, O, Z, n, _⟩ => ?_)
    obtain ⟨vi, Di, hvi, ⟨p, xs, ei, sqi, ni, ri⟩, hOi, _⟩ := Z.writeM hi True.intro
    obtain ⟨vj, Dj, hvj, ⟨q, kvs, ej, sqj, nj, rj⟩, hOj, _⟩ := Z.writeM hj True.intro
    subst ei ej
    have pq : p ≠ q := fun z => by
      subst z
      have := ni.2.symm.trans nj.2
      cases this
    refine ⟨_, hvi, _, hvj, H0, F, O, Z, fun v3 H1 s1 r3 => ?_⟩
    have Z1 := Z.go s1
    have r3' : v3 = V.int c := r3
    subst r3'
    refine ⟨O, p, q, l, d, c, Z1.own, (hOi p ni.1).1, (hOj q nj.1).1, pq, rfl, ⟨p, xs, rfl, s1.seq sqi, ⟨rfl, s1 _ _ ni.2⟩, pr_imp (fun _ _ z => z) ri⟩, ⟨q, kvs, rfl, .inl (s1 _ _ nj.2), ⟨rfl, s1 _ _ nj.2⟩, pr_imp (fun _ _ z => z) rj⟩, hp, fun H' oth rl rd => ?_⟩
    obtain ⟨p', xs', e1, sq1, n1, r1⟩ := rl
    obtain ⟨q', kvs', e2, sq2, n2, r2⟩ := rd
    cases e1
    cases e2
    have hs12 : Same H1 (fun a => if a = p then H1 p else if a = q then H1 q else H' a) := fun a o ha => by
      dsimp only
      by_cases ap : a = p
      · rw [if_pos ap, ← ap]; exact ha
      · rw [if_neg ap]
        by_cases aq : a = q
        · rw [if_pos aq, ← aq]; exact ha
        · rw [if_neg aq]; exact oth a o ap aq ha
    have Z2 := Z1.go hs12
    have eH : H' = upd (upd (fun a => if a = p then H1 p else if a = q then H1 q else H' a) p (mo (.inl xs'))) q (mo (.inr kvs')) := by
      funext a
      by_cases aq : a = q
      · subst aq; rw [upd_same]; exact n2.2
      · rw [upd_ne aq]
        by_cases ap : a = p
        · subst ap; rw [upd_same]; exact n1.2
        · rw [upd_ne ap, if_neg ap, if_neg aq]
    generalize (fun a => if a = p then H1 p else if a = q then H1 q else H' a) = H2 at *
    obtain ⟨v2, D2, hv2, ⟨pp, ys, ep, _, np, _⟩, _, wr⟩ := Z2.writeM hi True.intro
    rw [hvi] at hv2
    have ev := Option.some.inj (Option.some.inj hv2)
    subst ev
    cases ep
    obtain ⟨Z3, eo3⟩ := wr p (.inl xs') (some (.dpo (g l d c).1)) np.1 fun g'' e' => by
      cases e'
      exact ⟨True.intro, p, xs', rfl, SqL.of upd_same, ⟨np.1, upd_same⟩, pr_imp (fun _ _ z => z) r1⟩
    have hj3 : (Γ.set i (some (.dpo (g l d c).1)))[j]? = some (some (.dpo d)) := by rw [List.getElem?_set_ne hij]; exact hj
    obtain ⟨v4, D4, hv4, ⟨qq, zs, eq, _, nq, _⟩, _, wr4⟩ := Z3.writeM hj3 True.intro
    rw [hvj] at hv4
    have ev4 := Option.some.inj (Option.some.inj hv4)
    subst ev4
    cases eq
    obtain ⟨Z5, eo5⟩ := wr4 q (.inr kvs') (some (.dpo (g l d c).2)) nq.1 fun g'' e' => by
      cases e'
      exact ⟨True.intro, q, kvs', rfl, .inl upd_same, ⟨nq.1, upd_same⟩, pr_imp (fun _ _ z => z) r2⟩
    rw [eH]
    exact n _ _ _ O (by rw [eo5, eo3]; exact off_mono (s1.trans hs12)) Z5 h
end
section
variable {X : Cx} {Γ : GEnv} {D : GD} {e : Expr} {pos : Pos} {rest : List Stmt}
theorem s_deep2 (i j : Nat) {x y : Str} {u : List Int × Dc Int} {p1 p2 p3 : Pos} {k : Nat} (hN : X.N.Nodup) (he : EN X Γ e u) (h : S X ((Γ.set i (some (.dpo u.1))).set j (some (.dpo u.2))) rest D) (hc : X.calm = true := by rfl) (hi : X.N[i]? = some x := by rfl) (hj : X.N[j]? = some y := by rfl)
    (hx : Loc X.env.scope x := by first | exact Or.inl rfl | exact Or.inr rfl) (hy : Loc X.env.scope y := by first | exact Or.inl rfl | exact Or.inr rfl)
    (hf : X.fn x = true ∨ X.env.scope.names.lookup x = some .local := by first | exact .inl rfl | exact .inr rfl) (hf2 : X.fn y = true ∨ X.env.scope.names.lookup y = some .local := by first | exact .inl rfl | exact .inr rfl)
    (hs : swapsWithSole [.Tuple [.Name x p1, .Name y p2] k p3] e pos.line X.env = pure false := by rfl) (hw : swappedStores [.Tuple [.Name x p1, .Name y p2] k p3] e X.env = pure none := by rfl)
    (h1 : (assignEach [.Tuple [.Name x p1, .Name y p2] k p3] X.env).map (·.2) = [assign (.Tuple [.Name x p1, .Name y p2] k p3) X.env] := by rfl) (hn : (assignEach [.Name x p1, .Name y p2] X.env).length = 2 := by rfl)
    (hst : (assignEach [.Name x p1, .Name y p2] X.env).findIdx? (·.1) = none := by rfl) (ha1 : assignEach [.Name x p1, .Name y p2] X.env = (false, assign (.Name x p1) X.env) :: assignEach [.Name y p2] X.env := by rfl) (ha2 : assignEach [.Name y p2] X.env = (false, assign (.Name y p2) X.env) :: assignEach [] X.env := by rfl) :
    S X Γ (.Assign [.Tuple [.Name x p1, .Name y p2] k p3] e pos :: rest) D := by
  with_unfolding_all
    exact s_seq (ps_wk (ps_asg he (pg_tup hc (pgs_cons (pg_name hN hi hx hf) (pgs_cons (pg_name hN hj hy hf2) pgs_nil))) hs hw h1) fun De σ H ⟨H0, F, O, Z, n, _⟩ => ⟨H0, F, O, Z, fun v H1 s1 r1 => by
        obtain ⟨pt, v1, v2, e', sq, ⟨p, xs, ex, sqx, nx, rx⟩, ⟨q, kvs, ey, rd, ny, ry⟩⟩ := r1
        subst ex ey
        refine ⟨pt, _, e', sqT_rd (off_same _ _) sq, rfl, .ref p, [.ref q], rfl, .ref q, [], rfl, rfl, ?_⟩
        have hp1 : H1 p = some (.lst xs) := (off_same _ _) _ _ nx.2
        have hq1 : H1 q = some (.dK kvs) := (off_same _ _) _ _ ny.2
        have pq : q ≠ p := fun z => by
          rw [z, hp1] at hq1
          cases hq1
        have sa : Same H (upd H p (.lst xs)) := same_upd nx.1 _
        have sb : Same (upd H p (.lst xs)) H1 := fun a o ha => by
          by_cases ap : a = p
          · subst ap; rw [upd_same] at ha; cases ha; exact hp1
          · rw [upd_ne ap] at ha; exact s1 _ _ ha
        obtain ⟨Z1, so1⟩ := Z.putOwn (i := i) (v := .ref p) sa (· = p) (fun r z => by subst z; exact ⟨nx.1, .inl xs, upd_same⟩) (Bd.dpo u.1) True.intro ⟨p, xs, rfl, SqL.of upd_same, ⟨rfl, upd_same⟩, pr_imp (fun _ _ z => z) rx⟩
        obtain ⟨Z2, so2⟩ := Z1.putOwn (i := j) (v := .ref q) sb (· = q) (fun r z => by subst z; exact ⟨by rw [upd_ne pq]; exact ny.1, .inr kvs, hq1⟩) (Bd.dpo u.2) True.intro ⟨q, kvs, rfl, .inl hq1, ⟨rfl, hq1⟩, pr_imp (fun _ _ z => z) ry⟩
        exact n _ _ H1 _ (so1.trans so2) Z2 h⟩)
end
end L2.EP

namespace L2.EP.K
open PySem PySem.Spec PyProof.Rows
open _root_.EP (fr fd)
def top (i : Nat) : Stmt := PySem.Challenge.pw_everyplace_k31_numbers_and_signs.main.body.getD i (.Pass ⟨0, 0, 0, 0⟩)
abbrev s_is_whole : Stmt := top 7
abbrev N_is_whole : List Str := ["k"]
theorem sc_is_whole : FnScope N_is_whole ["k"] (defScope s_is_whole) := ⟨rfl, rfl, rfl, by decide +kernel, rfl, by decide +kernel, by decide +kernel⟩
abbrev s_power : Stmt := top 8
abbrev N_power : List Str := ["base", "exponent", "answer", "step"]
theorem sc_power : FnScope N_power ["base", "exponent"] (defScope s_power) := ⟨rfl, rfl, rfl, by decide +kernel, rfl, by decide +kernel, by decide +kernel⟩
abbrev s_taken_out : Stmt := top 9
abbrev N_taken_out : List Str := ["k", "divisor", "often", "left"]
theorem sc_taken_out : FnScope N_taken_out ["k", "divisor"] (defScope s_taken_out) := ⟨rfl, rfl, rfl, by decide +kernel, rfl, by decide +kernel, by decide +kernel⟩
abbrev s_square_root : Stmt := top 10
abbrev N_square_root : List Str := ["k", "root"]
theorem sc_square_root : FnScope N_square_root ["k"] (defScope s_square_root) := ⟨rfl, rfl, rfl, by decide +kernel, rfl, by decide +kernel, by decide +kernel⟩
abbrev s_square_root_or_none : Stmt := top 11
abbrev N_square_root_or_none : List Str := ["k", "root"]
theorem sc_square_root_or_none : FnScope N_square_root_or_none ["k"] (defScope s_square_root_or_none) := ⟨rfl, rfl, rfl, by decide +kernel, rfl, by decide +kernel, by decide +kernel⟩
abbrev s_common_divisor : Stmt := top 13
abbrev N_common_divisor : List Str := ["a", "b", "rest"]
theorem sc_common_divisor : FnScope N_common_divisor ["a", "b"] (defScope s_common_divisor) := ⟨rfl, rfl, rfl, by decide +kernel, rfl, by decide +kernel, by decide +kernel⟩
abbrev s_fraction : Stmt := top 14
abbrev N_fraction : List Str := ["top", "bottom", "divisor"]
theorem sc_fraction : FnScope N_fraction ["top", "bottom"] (defScope s_fraction) := ⟨rfl, rfl, rfl, by decide +kernel, rfl, by decide +kernel, by decide +kernel⟩
abbrev s_next_divisor : Stmt := top 18
abbrev N_next_divisor : List Str := ["k", "begin", "end", "divisor"]
theorem sc_next_divisor : FnScope N_next_divisor ["k", "begin", "end"] (defScope s_next_divisor) := ⟨rfl, rfl, rfl, by decide +kernel, rfl, by decide +kernel, by decide +kernel⟩
abbrev s_divided : Stmt := top 19
abbrev N_divided : List Str := ["k", "end", "out", "found", "left", "divisor"]
theorem sc_divided : FnScope N_divided ["k", "end"] (defScope s_divided) := ⟨rfl, rfl, rfl, by decide +kernel, rfl, by decide +kernel, by decide +kernel⟩
abbrev s_tame_parts : Stmt := top 20
abbrev N_tame_parts : List Str := ["k", "known", "root"]
theorem sc_tame_parts : FnScope N_tame_parts ["k"] (defScope s_tame_parts) := ⟨rfl, rfl, rfl, by decide +kernel, rfl, by decide +kernel, by decide +kernel⟩
abbrev s_freed : Stmt := top 21
abbrev N_freed : List Str := ["u", "known", "number", "root", "part"]
theorem sc_freed : FnScope N_freed ["u"] (defScope s_freed) := ⟨rfl, rfl, rfl, by decide +kernel, rfl, by decide +kernel, by decide +kernel⟩
abbrev s_free_of : Stmt := top 22
abbrev N_free_of : List Str := ["k"]
theorem sc_free_of : FnScope N_free_of ["k"] (defScope s_free_of) := ⟨rfl, rfl, rfl, by decide +kernel, rfl, by decide +kernel, by decide +kernel⟩
abbrev s_is_row_number : Stmt := top 26
abbrev N_is_row_number : List Str := ["k"]
theorem sc_is_row_number : FnScope N_is_row_number ["k"] (defScope s_is_row_number) := ⟨rfl, rfl, rfl, by decide +kernel, rfl, by decide +kernel, by decide +kernel⟩
abbrev s_is_row : Stmt := top 27
abbrev N_is_row : List Str := ["row"]
theorem sc_is_row : FnScope N_is_row ["row"] (defScope s_is_row) := ⟨rfl, rfl, rfl, by decide +kernel, rfl, by decide +kernel, by decide +kernel⟩
abbrev s_refuse_no_row : Stmt := top 28
abbrev N_refuse_no_row : List Str := ["row"]
theorem sc_refuse_no_row : FnScope N_refuse_no_row ["row"] (defScope s_refuse_no_row) := ⟨rfl, rfl, rfl, by decide +kernel, rfl, by decide +kernel, by decide +kernel⟩
abbrev s_joined : Stmt := top 29
abbrev N_joined : List Str := ["a", "b", "divisor"]
theorem sc_joined : FnScope N_joined ["a", "b"] (defScope s_joined) := ⟨rfl, rfl, rfl, by decide +kernel, rfl, by decide +kernel, by decide +kernel⟩
abbrev s_free_product : Stmt := top 30
abbrev N_free_product : List Str := ["row", "number", "k"]
theorem sc_free_product : FnScope N_free_product ["row"] (defScope s_free_product) := ⟨rfl, rfl, rfl, by decide +kernel, rfl, by decide +kernel, by decide +kernel⟩
abbrev s_number_of : Stmt := top 31
abbrev N_number_of : List Str := ["row", "number"]
theorem sc_number_of : FnScope N_number_of ["row"] (defScope s_number_of) := ⟨rfl, rfl, rfl, by decide +kernel, rfl, by decide +kernel, by decide +kernel⟩
abbrev s_signs_of : Stmt := top 32
abbrev N_signs_of : List Str := ["row"]
theorem sc_signs_of : FnScope N_signs_of ["row"] (defScope s_signs_of) := ⟨rfl, rfl, rfl, by decide +kernel, rfl, by decide +kernel, by decide +kernel⟩
abbrev s_law_deep : Stmt := top 34
abbrev N_law_deep : List Str := ["_law_script", "_law_k", "_law_cell", "_law_deep_here", "_law_j", "_law_here"]
theorem sc_law_deep : FnScope N_law_deep ["_law_script", "_law_k"] (defScope s_law_deep) := ⟨rfl, rfl, rfl, by decide +kernel, rfl, by decide +kernel, by decide +kernel⟩
abbrev s_law_whole : Stmt := top 35
abbrev N_law_whole : List Str := ["_law_found"]
theorem sc_law_whole : FnScope N_law_whole ["_law_found"] (defScope s_law_whole) := ⟨rfl, rfl, rfl, by decide +kernel, rfl, by decide +kernel, by decide +kernel⟩
abbrev s_law_prime : Stmt := top 36
abbrev N_law_prime : List Str := ["_law_k", "_law_d"]
theorem sc_law_prime : FnScope N_law_prime ["_law_k"] (defScope s_law_prime) := ⟨rfl, rfl, rfl, by decide +kernel, rfl, by decide +kernel, by decide +kernel⟩
abbrev s_law_prime_from : Stmt := top 37
abbrev N_law_prime_from : List Str := ["_law_k"]
theorem sc_law_prime_from : FnScope N_law_prime_from ["_law_k"] (defScope s_law_prime_from) := ⟨rfl, rfl, rfl, by decide +kernel, rfl, by decide +kernel, by decide +kernel⟩
abbrev s_law_alone : Stmt := top 38
abbrev N_law_alone : List Str := ["_law_e", "_law_hits"]
theorem sc_law_alone : FnScope N_law_alone ["_law_e"] (defScope s_law_alone) := ⟨rfl, rfl, rfl, by decide +kernel, rfl, by decide +kernel, by decide +kernel⟩
abbrev s_law_known : Stmt := top 39
abbrev N_law_known : List Str := ["_law_cell", "_law_size", "_law_wide", "_law_row", "_law_primes", "_law_k", "_law_number", "_law_some", "_law_more", "_law_turn", "_law_prime_here"]
theorem sc_law_known : FnScope N_law_known ["_law_cell", "_law_size", "_law_wide"] (defScope s_law_known) := ⟨rfl, rfl, rfl, by decide +kernel, rfl, by decide +kernel, by decide +kernel⟩
abbrev s_law_greater : Stmt := top 40
abbrev N_law_greater : List Str := ["_law_row", "_law_primes", "_law_cell", "_law_first", "_law_second", "_law_k", "_law_prime_here"]
theorem sc_law_greater : FnScope N_law_greater ["_law_row", "_law_primes", "_law_cell"] (defScope s_law_greater) := ⟨rfl, rfl, rfl, by decide +kernel, rfl, by decide +kernel, by decide +kernel⟩
abbrev s_law_due : Stmt := top 41
abbrev N_law_due : List Str := ["_law_row", "_law_primes", "_law_due_here", "_law_number", "_law_prime_here"]
theorem sc_law_due : FnScope N_law_due ["_law_row", "_law_primes"] (defScope s_law_due) := ⟨rfl, rfl, rfl, by decide +kernel, rfl, by decide +kernel, by decide +kernel⟩
abbrev s_law_told : Stmt := top 42
abbrev N_law_told : List Str := ["_law_row", "_law_e"]
theorem sc_law_told : FnScope N_law_told ["_law_row"] (defScope s_law_told) := ⟨rfl, rfl, rfl, by decide +kernel, rfl, by decide +kernel, by decide +kernel⟩
abbrev s_law : Stmt := top 43
abbrev N_law : List Str := ["_law_script", "_law_k", "_law_cell", "_law_row", "_law_primes", "_law_due_here", "_law_handed", "_law_told_here"]
theorem sc_law : FnScope N_law ["_law_script"] (defScope s_law) := ⟨rfl, rfl, rfl, by decide +kernel, rfl, by decide +kernel, by decide +kernel⟩
section
variable {P : Program} {w : World} {K : PySem.W.Frag} {mg : Str → Option Value} {base : Heap} {f : Addr} {k : Nat} (B : Bu mg)
theorem tko_go {k d l n : Int} (h0 : 0 ≤ n) (he : k = l * d ^ n.toNat) (hd : 2 ≤ d) (hl : l.fmod d = 0) (hz : l ≠ 0) : 0 ≤ n + 1 ∧ k = l.fdiv d * d ^ (n + 1).toNat ∧ l.fdiv d ≠ 0 ∧ (l.fdiv d).natAbs < l.natAbs := by
  obtain ⟨a, b, c⟩ := _root_.EP.tko_step hd (_root_.EP.dvd_fmod.mp hl) hz
  refine ⟨by omega, ?_, b, c⟩
  rw [show (n + 1).toNat = n.toNat + 1 by omega, Int.pow_succ, he]
  generalize d ^ n.toNat = t
  generalize l.fdiv d = q at *
  rw [← a]
  grind
theorem b_taken_out (x d : Int) (h0 : x ≠ 0) (hd : 2 ≤ d) (hs : Sm 9000 d) : Body P w K mg base N_taken_out "taken_out" s_taken_out f kk [.val false x, .val false d] (RT true (_root_.EP.tko x d)) := by
  intro cdv A outer s H E hr
  refine s_asg 2 sc_taken_out.nd e_int ?_
  refine s_asg 3 sc_taken_out.nd (e_var 0) ?_
  refine s_while (ι := Bool × Int × Int) (fun i Γ => Γ = [some (.val false x), some (.val false d), some (.val true i.2.1), some (.val i.1 i.2.2)] ∧ 0 ≤ i.2.1 ∧ x = i.2.2 * d ^ i.2.1.toNat ∧ i.2.2 ≠ 0) (fun i => i.2.2.natAbs) (false, 0, x) ⟨rfl, Int.le_refl 0, by dsimp only; rw [show (0 : Int).toNat = 0 from rfl, Int.pow_zero, Int.mul_one], h0⟩ ?_
  rintro ⟨bb, n, l⟩ Γ' ⟨rfl, hn, he, hl⟩
  dsimp only at *
  refine ⟨_, t_cmp cv_eqI (e_mod (e_var 3) (e_var 1) (by omega)) e_int, fun hc => ?_, fun hc => ?_⟩
  · have hc' : l.fmod d = 0 := by simpa using hc
    refine s_asg 3 sc_taken_out.nd (e_fdiv (e_var 3) (e_var 1) (hs.div (by omega))) ?_
    refine s_asg 2 sc_taken_out.nd (e_add (e_var 2) e_int) ?_
    obtain ⟨a1, a2, a3, a4⟩ := tko_go hn he hd hc' hl
    exact s_nil ⟨(true, n + 1, l.fdiv d), ⟨rfl, a1, a2, a3⟩, a4⟩
  · have hc' : ¬ l.fmod d = 0 := by simpa using hc
    refine s_ret (e_tup2 (e_var 2) (e_up (b' := true) (e_var 3))) ?_
    show Bd.val _ _ = Bd.val _ _
    rw [_root_.EP.tko_eq hd (r := (n, l)) ⟨hn, he, fun z => hc' (_root_.EP.dvd_fmod.mpr z)⟩]
    rfl

theorem bits_sq {k : Int} (h0 : 0 ≤ k) : k < (2 : Int) ^ ((Builtin.Int.intBits k + 1) / 2) * 2 ^ ((Builtin.Int.intBits k + 1) / 2) := by
  have hb : k.natAbs < 2 ^ Builtin.Int.intBits k := by
    unfold Builtin.Int.intBits
    by_cases hz : k = 0
    · subst hz; decide
    · rw [if_neg (by simpa using hz)]
      exact Nat.lt_log2_self
  have h2 : Builtin.Int.intBits k ≤ (Builtin.Int.intBits k + 1) / 2 + (Builtin.Int.intBits k + 1) / 2 := by omega
  have h3 : (2 : Nat) ^ Builtin.Int.intBits k ≤ 2 ^ ((Builtin.Int.intBits k + 1) / 2 + (Builtin.Int.intBits k + 1) / 2) := Nat.pow_le_pow_right (by decide) h2
  rw [← Int.pow_add]
  have h4 : ((2 ^ ((Builtin.Int.intBits k + 1) / 2 + (Builtin.Int.intBits k + 1) / 2) : Nat) : Int) = (2 : Int) ^ ((Builtin.Int.intBits k + 1) / 2 + (Builtin.Int.intBits k + 1) / 2) := by rw [Int.natCast_pow]; rfl
  rw [← h4]
  omega
theorem b_square_root (x : Int) (h0 : 0 ≤ x) (hs : Sm 8000 x) : Body P w K mg base N_square_root "square_root" s_square_root f k [.val false x] (RT true (_root_.EP.rt x)) := by
  intro cdv A outer s H E hr
  have hb : Builtin.Int.intBits x ≤ 8000 := hs.bits
  have hj : ((Builtin.Int.intBits x : Int) + 1).fdiv 2 = (((Builtin.Int.intBits x + 1) / 2 : Nat) : Int) := by
    rw [Int.fdiv_eq_ediv_of_nonneg _ (by decide)]; omega
  refine s_asg 1 sc_square_root.nd (e_shl e_int (e_fdiv (e_add (e_bits (e_var 0)) e_int) e_int cdK) ⟨by rw [hj]; omega, by rw [hj]; omega, by decide⟩) ?_
  rw [hj, Int.one_mul, Int.toNat_natCast]
  have hR := bits_sq h0
  have hS : Sm 8001 ((2 : Int) ^ ((Builtin.Int.intBits x + 1) / 2)) := by
    unfold Sm
    rw [Int.natAbs_pow]
    exact Nat.pow_lt_pow_right (by decide) (by omega)
  have hp : (0 : Int) < 2 ^ ((Builtin.Int.intBits x + 1) / 2) := Int.pow_pos (by decide)
  generalize (2 : Int) ^ ((Builtin.Int.intBits x + 1) / 2) = R at *
  refine s_while (ι := Int) (fun r Γ => Γ = [some (.val false x), some (.val true r)] ∧ 0 ≤ r ∧ r ≤ R ∧ x < (r + 1) * (r + 1)) (fun r => r.toNat) R ⟨rfl, by omega, by omega, by
    have : R * R ≤ (R + 1) * (R + 1) := _root_.EP.sq_le (by omega) (by omega)
    omega⟩ ?_
  rintro r Γ' ⟨rfl, r0, r1, r2⟩
  have hSr : Sm 8001 r := Sm.of_le (by omega) hS
  refine ⟨_, t_cmp cv_gt (e_mul (e_var 1) (e_var 1) (hSr.ok hSr)) (e_var 0), fun hc => ?_, fun hc => ?_⟩
  · have hc' : x < r * r := by simpa using hc
    have hpos : 0 < r := by
      rcases Int.lt_or_eq_of_le r0 with z | z
      · exact z
      · rw [← z] at hc'; simp at hc'; omega
    refine s_asg 1 sc_square_root.nd (e_fdiv (e_add (e_var 1) (e_fdiv (e_var 0) (e_var 1) (hSr.div (by omega)))) e_int cdK) ?_
    obtain ⟨n0, n1, n2⟩ := _root_.EP.newton h0 hpos hc'
    exact s_nil ⟨_, ⟨rfl, n0, by omega, n2⟩, by omega⟩
  · have hc' : r * r ≤ x := by simpa using hc
    refine s_ret (e_var 1) ?_
    show Bd.val _ _ = Bd.val _ _
    rw [_root_.EP.rt_unique r0 hc' r2]

def rtO (k : Int) : Option Int := if k < 0 then none else if _root_.EP.rt k * _root_.EP.rt k = k then some (_root_.EP.rt k) else none
theorem rt_sm {k : Int} {n : Nat} (h0 : 0 ≤ k) (hs : Sm n k) : Sm n (_root_.EP.rt k) := by
  have h1 := _root_.EP.rt_le h0
  have h2 := _root_.EP.rt_nonneg k
  refine Sm.of_le ?_ hs
  have : _root_.EP.rt k ≤ k := by
    rcases Int.lt_or_le (_root_.EP.rt k) 1 with z | z
    · omega
    · have : _root_.EP.rt k * 1 ≤ _root_.EP.rt k * _root_.EP.rt k := Int.mul_le_mul_of_nonneg_left z h2
      omega
  omega
theorem b_square_root_or_none (c_square_root : Cal P w K mg base 1 "square_root" ["k"] (sp1 K (fun k => 0 ≤ k ∧ Sm 8000 k) true _root_.EP.rt)) (x : Int) (hs : Sm 8000 x) : Body P w K mg base N_square_root_or_none "square_root_or_none" s_square_root_or_none f 1 [.val false x] (RT true (rtO x)) := by
  intro cdv A outer s H E hr
  refine s_if1 (t_cmp cv_lt (e_var 0) e_int) (fun hc => ?_) (fun hc => ?_)
  · have e : rtO x = none := if_pos (by simpa using hc)
    rw [e]
    exact s_ret (e_non (α := Int)) rfl
  have h0 : ¬ x < 0 := by simpa using hc
  refine s_asg 1 sc_square_root_or_none.nd (e_call1 c_square_root (hr.mono (by decide)) rfl (e_var 0) ⟨by omega, hs⟩) ?_
  have hS := rt_sm (by omega) hs
  refine s_ret (e_if (t_cmp cv_eqI (e_mul (e_var 1) (e_var 1) (hS.ok hS)) (e_var 0)) (fun _ => (e_var 1).some) fun _ => e_non (α := Int)) ?_
  show Bd.val _ _ = Bd.val _ _
  congr 1
  unfold rtO
  rw [if_neg h0]
  by_cases z : _root_.EP.rt x * _root_.EP.rt x = x
  · rw [if_pos z, if_pos (by simpa using z)]
  · rw [if_neg z, if_neg (by simpa using z)]

include B in
theorem b_common_divisor (a b : Int) : Body P w K mg base N_common_divisor "common_divisor" s_common_divisor f k [.val false a, .val false b] (RT true ((Int.gcd a b : Nat) : Int)) := by
  intro cdv A outer s H E hr
  refine s_while (ι := Bool × Bool × Int × Int) (fun i Γ => ∃ r, Γ = [some (.val i.1 i.2.2.1), some (.val i.2.1 i.2.2.2), r] ∧ Int.gcd i.2.2.1 i.2.2.2 = Int.gcd a b) (fun i => i.2.2.2.natAbs) (false, false, a, b) ⟨none, rfl, rfl⟩ ?_
  rintro ⟨b1, b2, x, y⟩ Γ' ⟨r, rfl, hg⟩
  refine ⟨_, t_cmp cv_neI (e_var 1) e_int, fun hc => ?_, fun hc => ?_⟩
  · have hy : y ≠ 0 := by simpa using hc
    refine s_asg 2 sc_common_divisor.nd (e_mod (e_var 0) (e_var 1) hy) ?_
    refine s_asg 0 sc_common_divisor.nd (e_var 1) ?_
    refine s_asg 1 sc_common_divisor.nd (e_var 2) ?_
    exact s_nil ⟨(b2, true, y, x.fmod y), ⟨_, rfl, (_root_.EP.gcd_fmod x y).trans hg⟩, _root_.EP.fmod_lt x y hy⟩
  · have hy : y = 0 := by simpa using hc
    refine s_ret (e_abs rfl B.abs (e_var 0)) ?_
    dsimp only at hg ⊢
    rw [hy, Int.gcd_zero_right] at hg
    rw [← hg]
    show Bd.val _ _ = Bd.val _ _
    congr 1
    split <;> omega

def PFr (_ b : Int) : Prop := b ≠ 0 ∧ Sm 9000 b
theorem b_fraction (c_common_divisor : Cal P w K mg base 1 "common_divisor" ["a", "b"] (sp2 K (fun _ _ => True) true fun a b => ((Int.gcd a b : Nat) : Int))) (t b : Int) (hb : b ≠ 0) (hs : Sm 9000 b) :
    Body P w K mg base N_fraction "fraction" s_fraction f 1 [.val false t, .val false b] (RT true (fr t b)) := by
  intro cdv A outer s H E hr
  have hn := _root_.EP.fd_ne (t := t) hb
  have hz : Sm 9000 (fd t b) := Sm.of_le (_root_.EP.fd_le hb) hs
  refine s_asg 2 sc_fraction.nd (e_call2 c_common_divisor hr rfl (e_var 0) (e_var 1) True.intro) ?_
  have last : ∀ d : Int, d = fd t b → S (cx P w K mg base N_fraction "fraction" s_fraction f cdv A outer s H E) [some (.val false t), some (.val false b), some (.val true d)] [(defBody s_fraction).getD 2 (.Pass ⟨0, 0, 0, 0⟩)] (RT true (fr t b)) := by
    rintro d rfl
    exact s_ret (e_tup2 (e_fdiv (e_var 0) (e_var 2) (hz.div hn)) (e_fdiv (e_var 1) (e_var 2) (hz.div hn))) rfl
  refine s_if1 (t_cmp cv_lt (e_var 1) e_int) (fun hc => ?_) (fun hc => ?_)
  · refine s_asg 2 sc_fraction.nd (e_neg (e_var 2)) (s_nil ?_)
    exact last _ (by unfold fd; rw [if_pos (by simpa using hc)])
  · exact last _ (by unfold fd; rw [if_neg (by simpa using hc)])

theorem rs_2 {b m : Int} {i : Nat} : i < (Builtin.Range.rangeSize b m 2).toNat ↔ b + (i : Int) * 2 < m := by
  unfold Builtin.Range.rangeSize
  simp
  split <;> omega
include B in
theorem b_next_divisor (c_square_root : Cal P w K mg base 1 "square_root" ["k"] (sp1 K (fun k => 0 ≤ k ∧ Sm 8000 k) true _root_.EP.rt)) (x b e : Int) (hp : 1 ≤ x ∧ Sm 8000 x ∧ 1 ≤ b ∧ b < 2 ^ 62 ∧ -(2 ^ 62) ≤ e ∧ e < 2 ^ 62) :
    Body P w K mg base N_next_divisor "next_divisor" s_next_divisor f 1 [.val false x, .val false b, .val false e] (RT true (_root_.EP.ndv x b e)) := by
  intro cdv A outer s H E hr
  obtain ⟨h1, h2, h3, h4, h5, h6⟩ := hp
  have hrt := _root_.EP.rt_nonneg x
  have hm : -(2 ^ 62) ≤ (if _root_.EP.rt x + 1 < e then _root_.EP.rt x + 1 else e) ∧ (if _root_.EP.rt x + 1 < e then _root_.EP.rt x + 1 else e) < 2 ^ 62 := by split <;> omega
  have hv : _root_.EP.ndv x b e = _root_.EP.ndM x b (if _root_.EP.rt x + 1 < e then _root_.EP.rt x + 1 else e) := rfl
  refine s_forRange3 (fun i Γ => ∃ r, Γ = [some (.val false x), some (.val false b), some (.val false e), r] ∧ ∀ j : Nat, j < i → ¬ (b + (j : Int) * 2) ∣ x) rfl B.range (g_name 3 sc_next_divisor.nd) (e_var 1) (e_min rfl rfl B.min (e_var 2) (e_add (e_call1 c_square_root (hr.mono (by decide)) rfl (e_var 0) ⟨by omega, h2⟩) e_int)) e_int ⟨by omega, h4, hm.1, hm.2⟩ (by decide) ⟨none, rfl, fun j hj => absurd hj (Nat.not_lt_zero _)⟩ ?_ ?_
  · rintro i Γ' hi ⟨r, rfl, hj⟩
    have hi' := rs_2.mp hi
    refine s_if1 (t_cmp cv_eqI (e_mod (e_var 0) (e_var 3) (by omega)) e_int) (fun hc => ?_) (fun hc => ?_)
    · have hd : (b + (i : Int) * 2) ∣ x := _root_.EP.dvd_fmod.mp (by simpa using hc)
      refine s_ret (e_var 3).some ?_
      show Bd.val _ _ = Bd.val _ _
      rw [hv, ← _root_.EP.ndM_eq (r := some (b + (i : Int) * 2)) ⟨by omega, hi', by omega, hd, fun d' q1 q2 q3 => ?_⟩]
      have := hj ((d' - b) / 2).toNat (by omega)
      rwa [show b + ((((d' - b) / 2).toNat : Nat) : Int) * 2 = d' by omega] at this
    · have hd : ¬ (b + (i : Int) * 2) ∣ x := fun z => by
        have := _root_.EP.dvd_fmod.mpr z
        simp [this] at hc
      refine s_nil ⟨_, rfl, fun j hji => ?_⟩
      rcases Nat.lt_succ_iff_lt_or_eq.mp hji with z | z
      · exact hj j z
      · rw [z]; exact hd
  · rintro Γ' ⟨r, rfl, hj⟩
    refine s_ret (e_non (α := Int)) ?_
    show Bd.val _ _ = Bd.val _ _
    rw [hv, ← _root_.EP.ndM_eq (r := none) fun d' q1 q2 q3 => ?_]
    have := hj ((d' - b) / 2).toNat (rs_2.mpr (by omega))
    rwa [show b + ((((d' - b) / 2).toNat : Nat) : Int) * 2 = d' by omega] at this

def PDv (k e : Int) : Prop := 1 ≤ k ∧ Sm 900 k ∧ 0 ≤ e ∧ e < 2 ^ 61
theorem pp_len : ∀ {us : List (Int × Int)} {a b : Int}, 1 ≤ a → _root_.EP.Rise a us b → (2 : Int) ^ us.length ≤ _root_.EP.pp us
  | [], _, _, _, _ => by show (2 : Int) ^ 0 ≤ 1; decide
  | u :: us, a, b, ha, h => by
    have h1 := pp_len (show 1 ≤ u.1 by have := h.1; omega) h.2.2.2
    have hu : (2 : Int) ≤ u.1 ^ u.2.toNat := by
      have e : u.2.toNat = (u.2.toNat - 1) + 1 := by have := h.2.2.1; omega
      rw [e, Int.pow_succ]
      have : (0 : Int) < u.1 ^ (u.2.toNat - 1) := Int.pow_pos (by have := h.1; omega)
      have := h.1
      have : 1 * 2 ≤ u.1 ^ (u.2.toNat - 1) * u.1 := Int.mul_le_mul (by omega) (by omega) (by decide) (by omega)
      omega
    show (2 : Int) ^ (us.length + 1) ≤ u.1 ^ u.2.toNat * _root_.EP.pp us
    rw [Int.pow_succ, Int.mul_comm]
    have h0 : (0 : Int) < 2 ^ us.length := Int.pow_pos (by decide)
    exact Int.mul_le_mul hu h1 (by omega) (by omega)
theorem dv_le {k : Int} {fs : List (Int × Int)} {l b : Int} (I : _root_.EP.DvI k fs l b) : l ≤ k ∧ (2 : Int) ^ fs.length ≤ k := by
  have h1 := I.prod
  have h2 := _root_.EP.pp_pos (by decide) I.rise
  have h3 := I.pos
  have h4 := pp_len (Int.le_refl 1) I.rise
  have h5 : 1 * l ≤ _root_.EP.pp fs * l := Int.mul_le_mul_of_nonneg_right (by omega) (by omega)
  have h6 : _root_.EP.pp fs * 1 ≤ _root_.EP.pp fs * l := Int.mul_le_mul_of_nonneg_left (by omega) (by omega)
  omega
theorem len_sm {m : Nat} {k : Int} (h : (2 : Int) ^ m ≤ k) (hs : Sm 900 k) : m ≤ 900 := by
  apply Classical.byContradiction
  intro hn
  unfold Sm at hs
  have h1 : (2 : Nat) ^ 900 ≤ 2 ^ m := Nat.pow_le_pow_right (by decide) (by omega)
  have h2 : ((2 ^ m : Nat) : Int) = (2 : Int) ^ m := by rw [Int.natCast_pow]; rfl
  omega
set_option maxHeartbeats 0 in
theorem b_divided (c_taken_out : Cal P w K mg base 1 "taken_out" ["k", "divisor"] (sp2 K (fun k d => k ≠ 0 ∧ 2 ≤ d ∧ Sm 9000 d) true _root_.EP.tko)) (c_next_divisor : Cal P w K mg base 2 "next_divisor" ["k", "begin", "end"] (sp3 K (fun k b e => 1 ≤ k ∧ Sm 8000 k ∧ 1 ≤ b ∧ b < 2 ^ 62 ∧ -(2 ^ 62) ≤ e ∧ e < 2 ^ 62) true _root_.EP.ndv)) (x e : Int) (hp : PDv x e) :
    Body P w K mg base N_divided "divided" s_divided f 2 [.val false x, .val false e] (RT true (_root_.EP.dvdF x e)) := by
  intro cdv A outer s H E hr
  obtain ⟨h1, h2, h3, h4⟩ := hp
  obtain ⟨I0, hle0⟩ := _root_.EP.dvd_start h1
  have two : Sm 9000 (2 : Int) := Sm.le (m := 2) (by unfold Sm; decide) (by decide)
  refine s_asg 2 sc_divided.nd (e_call2 c_taken_out (hr.mono (by decide)) rfl (e_var 0) e_int ⟨by omega, by decide, two⟩) ?_
  refine s_deep 3 sc_divided.nd (en_if (t_cmp cv_gt (e_fst (e_var 2)) e_int) (fun _ => en_lst (α := Int × Int) (ea_cons (e_tup2 e_int (e_fst (e_var 2))) ea_nil) (Nat.le_of_ble_eq_true rfl)) fun _ => en_lst (α := Int × Int) (b := true) ea_nil (Nat.le_of_ble_eq_true rfl)) ?_
  have e0 : (if decide (0 < (_root_.EP.tko x 2).1) = true then [((2 : Int), (_root_.EP.tko x 2).1)] else []) = _root_.EP.dvd0 x := by
    unfold _root_.EP.dvd0
    by_cases z : 0 < (_root_.EP.tko x 2).1
    · rw [if_pos z, if_pos (by simpa using z)]
    · rw [if_neg z, if_neg (by simpa using z)]
  rw [e0]
  refine s_d2o (α := Int × Int) 3 true rfl ?_
  refine s_asg 4 sc_divided.nd (e_snd (e_var 2)) ?_
  have sm8 : ∀ l : Int, 0 < l → l ≤ x → Sm 8000 l := fun l a b => Sm.le (Sm.of_le (by omega) h2) (by decide)
  have hp0 := I0.pos
  refine s_asg 5 sc_divided.nd (e_call3 c_next_divisor (hr.mono (by decide)) rfl (e_var 4) e_int (e_var 1) ⟨by omega, sm8 _ hp0 hle0, by decide, by decide, by omega, by omega⟩) ?_
  refine s_while (ι := Nat × List (Int × Int) × Int × Int) (fun i Γ => ∃ r, Γ = [some (.val false x), some (.val false e), r, some (.own true i.2.1), some (.val true i.2.2.1), some (.val true (_root_.EP.ndv i.2.2.1 i.2.2.2 e))] ∧ _root_.EP.DvI x i.2.1 i.2.2.1 i.2.2.2 ∧ i.2.2.1 ≤ (i.1 : Int) ∧ _root_.EP.dvF e i.1 i.2.1 i.2.2.1 i.2.2.2 = _root_.EP.dvdF x e) (fun i => i.1) (x.toNat, _root_.EP.dvd0 x, (_root_.EP.tko x 2).2, 3) ⟨_, rfl, I0, by dsimp only; omega, rfl⟩ ?_
  rintro ⟨n, fs, l, b⟩ Γ' ⟨r, rfl, I, hn, hd⟩
  dsimp only at *
  have hl0 := I.pos
  have hb3 := I.b3
  obtain ⟨hlx, hlen⟩ := dv_le I
  cases n with
  | zero => omega
  | succ n =>
  refine ⟨_, t_nN (α := Int) (e_var 5) notNonI, fun hc => ?_, fun hc => ?_⟩
  · cases hnd : _root_.EP.ndv l b e with
    | none => rw [hnd] at hc; cases hc
    | some d =>
      obtain ⟨d1, d2, d3, d4, d5, d6⟩ := _root_.EP.ndv_some (by omega) (by omega) hnd
      obtain ⟨t1, t2, t3, t4⟩ := _root_.EP.tko_lt (show 2 ≤ d by omega) hl0 d5
      refine s_asg 2 sc_divided.nd (e_call2 c_taken_out (hr.mono (by decide)) rfl (e_var 4) (e_get (α := Int) (a := d) (e_var 5)) ⟨by omega, by omega, Sm.le (m := 62) (by unfold Sm; omega) (by decide)⟩) ?_
      refine s_append 3 rfl (e_up (b' := true) (e_tup2 (e_get (α := Int) (a := d) (e_var 5)) (e_fst (e_var 2)))) (by have := len_sm hlen h2; omega) ?_
      refine s_asg 4 sc_divided.nd (e_snd (e_var 2)) ?_
      refine s_asg 5 sc_divided.nd (e_call3 c_next_divisor (hr.mono (by decide)) rfl (e_var 4) (e_add (e_get (α := Int) (a := d) (e_var 5)) e_int) (e_var 1) ⟨by omega, sm8 _ t1 (by omega), by omega, by omega, by omega, by omega⟩) ?_
      refine s_nil ⟨(n, fs ++ [(d, (_root_.EP.tko l d).1)], (_root_.EP.tko l d).2, d + 2), ⟨_, rfl, I.step hnd, by dsimp only; omega, ?_⟩, by dsimp only; omega⟩
      rw [← hd]
      show _ = _root_.EP.dvF e (n + 1) fs l b
      rw [_root_.EP.dvF, hnd]
  · have hnd : _root_.EP.ndv l b e = none := by
      cases hz : _root_.EP.ndv l b e with
      | none => rfl
      | some d => rw [hz] at hc; cases hc
    refine s_freeze 3 rfl ?_
    have e2 : _root_.EP.dvF e (n + 1) fs l b = (fs, l) := by rw [_root_.EP.dvF, hnd]
    rw [← hd, e2]
    refine s_ret (e_tup2 (e_var 3) (e_var 4)) ?_
    rfl

theorem fmodE {a m : Int} (h : 1 ≤ m) : a.fmod m = a % m := Int.fmod_eq_emod_of_nonneg a (by omega)

noncomputable def tpF (k : Int) : Option (List (Int × Int) × Int) :=
  if 1 < (_root_.EP.dvdF k 32768).2 ∧ (_root_.EP.dvdF k 32768).2 < 1073741824 then some ((_root_.EP.dvdF k 32768).1 ++ [((_root_.EP.dvdF k 32768).2, 1)], 1) else (rtO (_root_.EP.dvdF k 32768).2).map fun q => ((_root_.EP.dvdF k 32768).1, q)
theorem b_tame_parts (g_GREAT_PRIMES_FROM : MgI mg "GREAT_PRIMES_FROM" 32768) (g_GREAT_FROM : MgI mg "GREAT_FROM" 1073741824) (c_divided : Cal P w K mg base 3 "divided" ["k", "end"] (sp2 K PDv true _root_.EP.dvdF)) (c_square_root_or_none : Cal P w K mg base 2 "square_root_or_none" ["k"] (sp1 K (fun k => Sm 8000 k) true rtO)) (x : Int) (hp : 1 ≤ x ∧ Sm 900 x) :
    Body P w K mg base N_tame_parts "tame_parts" s_tame_parts f 3 [.val false x] (RT true (tpF x)) := by
  intro cdv A outer s H E hr
  refine s_asg 1 sc_tame_parts.nd (e_call2 c_divided (hr.mono (by decide)) rfl (e_var 0) (e_glI rfl g_GREAT_PRIMES_FROM) ⟨hp.1, hp.2, by decide, by decide⟩) ?_
  obtain ⟨b, I, _⟩ := _root_.EP.dvdF_ok (e := 32768) hp.1
  obtain ⟨hle, hlen⟩ := dv_le I
  have hl := len_sm hlen hp.2
  have hpos := I.pos
  refine s_if1 (t_chain cv_lt cv_lt e_int (e_snd (e_var 1)) (e_glI rfl g_GREAT_FROM)) (fun hc => ?_) (fun hc => ?_)
  · have e : tpF x = some ((_root_.EP.dvdF x 32768).1 ++ [((_root_.EP.dvdF x 32768).2, 1)], 1) := if_pos (by simpa using hc)
    rw [e]
    exact s_ret (e_some (e_tup2 (e_cat (e_fst (e_var 1)) (e_lst (α := Int × Int) (b := true) (ea_cons (e_up (b' := true) (e_tup2 (e_snd (e_var 1)) e_int)) ea_nil) (Nat.le_of_ble_eq_true rfl)) (by show _ + 1 ≤ 1000; omega)) e_int)) rfl
  have e : tpF x = (rtO (_root_.EP.dvdF x 32768).2).map fun q => ((_root_.EP.dvdF x 32768).1, q) := if_neg (by simpa using hc)
  rw [e]
  refine s_asg 2 sc_tame_parts.nd (e_call1 c_square_root_or_none (hr.mono (by decide)) rfl (e_snd (e_var 1)) (Sm.le (Sm.of_le (by omega) hp.2) (by decide))) ?_
  cases ho : rtO (_root_.EP.dvdF x 32768).2 with
  | none => exact s_ret (e_if (α := Option (List (Int × Int) × Int)) (x := none) (y := none) (t_isN (α := Int) (x := none) (e_var 2) notNonI) (fun _ => e_non (α := List (Int × Int) × Int)) fun h => absurd h (by decide)) rfl
  | some r =>
    refine s_ret (e_if (α := Option (List (Int × Int) × Int)) (x := none) (y := some ((_root_.EP.dvdF x 32768).1, r)) (t_isN (α := Int) (x := some r) (e_var 2) notNonI) (fun h => absurd h Bool.false_ne_true) fun _ => e_some (e_tup2 (e_fst (e_var 1)) (e_get (α := Int) (a := r) (e_var 2)))) ?_
    rfl

def pwF (b e : Int) : Int := b ^ e.toNat
def PPw (b e : Int) : Prop := 1 ≤ b ∧ 0 ≤ e ∧ e < 2 ^ 62 ∧ Sm 1000 (b ^ e.toNat) ∧ Sm 1000 b
theorem pow_mono {b : Int} (hb : 1 ≤ b) {m n : Nat} (h : m ≤ n) : b ^ m ≤ b ^ n := by
  obtain ⟨d, rfl⟩ : ∃ d, n = m + d := ⟨n - m, by omega⟩
  rw [Int.pow_add]
  exact _root_.EP.mul_ge (Int.pow_pos (by omega)) (by have := Int.pow_pos (n := b) (m := d) (by omega); omega)
include B in
theorem b_power (b e : Int) (hp : PPw b e) : Body P w K mg base N_power "power" s_power f kk [.val false b, .val false e] (RT true (pwF b e)) := by
  intro cdv A outer s H E hr
  obtain ⟨h1, h2, h3, h4, h5⟩ := hp
  refine s_asg 2 sc_power.nd e_int ?_
  refine s_forRange (n := e) (fun i Γ => ∃ r, Γ = [some (.val false b), some (.val false e), some (.val true (b ^ i)), r]) rfl B.range (g_name 3 sc_power.nd) (e_var 1) (by omega) h3 ⟨none, by rw [Int.pow_zero]; rfl⟩ ?_ ?_
  · rintro i Γ' hi ⟨r, rfl⟩
    have hm : Sm 1000 (b ^ i) := by
      have := pow_mono h1 (Nat.le_of_lt hi)
      have := Int.pow_pos (n := b) (m := i) (by omega)
      exact Sm.of_le (by omega) h4
    refine s_asg 2 sc_power.nd (e_mul (e_var 2) (e_var 0) (hm.ok h5)) ?_
    exact s_nil ⟨_, by rw [Int.pow_succ]; rfl⟩
  · rintro Γ' ⟨r, rfl⟩
    exact s_ret (e_var 2) rfl
theorem notNonP {α β : Type} [Py α] [Py β] (K : PySem.W.Frag) (N : Nn) (H : Hp) (a : α × β) : ¬ Py.rp K N H .non a := fun ⟨_, _, _, e, _⟩ => nomatch e
theorem abN (i : Int) : (if i < 0 then -i else i) = (i.natAbs : Int) := by split <;> omega
def PFd (u : Int × Int) : Prop := u.1 ≠ 0 ∧ 1 ≤ u.2 ∧ Sm 400 u.1 ∧ Sm 400 u.2 ∧ _root_.EP.Tame (u.1.natAbs * u.2)
theorem tpF_tame {k : Int} (hk : 1 ≤ k) (ht : _root_.EP.Tame k) : tpF k = some (_root_.EP.tpM k) := by
  obtain ⟨h1, _, _, _⟩ := _root_.EP.tpM_ok hk ht
  obtain ⟨b, I, _⟩ := _root_.EP.dvdF_ok (k := k) (e := 32768) hk
  have hp := I.pos
  unfold tpF _root_.EP.tpM
  by_cases z : 1 < (_root_.EP.dvdF k 32768).2 ∧ (_root_.EP.dvdF k 32768).2 < 1073741824
  · rw [if_pos z, if_pos z]
  · rw [if_neg z, if_neg z]
    have h2 : _root_.EP.rt (_root_.EP.dvdF k 32768).2 * _root_.EP.rt (_root_.EP.dvdF k 32768).2 = (_root_.EP.dvdF k 32768).2 := by
      rcases h1 with h1 | h1
      · exact absurd h1 z
      · exact h1
    unfold rtO
    rw [if_neg (by omega), if_pos h2]
    rfl
set_option maxHeartbeats 1000000 in
include B in
theorem b_freed (c_power : Cal P w K mg base 1 "power" ["base", "exponent"] (sp2 K PPw true pwF)) (c_fraction : Cal P w K mg base 2 "fraction" ["top", "bottom"] (sp2 K PFr true fr)) (c_tame_parts : Cal P w K mg base 4 "tame_parts" ["k"] (sp1 K (fun k => 1 ≤ k ∧ Sm 900 k) true tpF)) (u : Int × Int) (hp : PFd u) :
    Body P w K mg base N_freed "freed" s_freed f 4 [.val false u] (RT true (_root_.EP.frd u)) := by
  intro cdv A outer s H E hr
  obtain ⟨h0, h1, s0, s1, ht⟩ := hp
  have s0' : Sm 400 (u.1.natAbs : Int) := Sm.of_le (by omega) s0
  have hk : 1 ≤ (u.1.natAbs : Int) * u.2 := by
    have : 0 < (u.1.natAbs : Int) * u.2 := Int.mul_pos (by omega) (by omega)
    omega
  have sk : Sm 800 ((u.1.natAbs : Int) * u.2) := s0'.mul s1
  refine s_asg 1 sc_freed.nd (e_call1 c_tame_parts (hr.mono (by decide)) rfl (e_eq (e_mul (e_abs rfl B.abs (e_fst (e_var 0))) (e_snd (e_var 0)) (by rw [abN]; exact s0'.ok s1)) (by rw [abN])) ⟨hk, Sm.le sk (by decide)⟩) ?_
  rw [tpF_tame hk ht]
  obtain ⟨_, ⟨b, hri⟩, hR, hprod⟩ := _root_.EP.tpM_ok hk ht
  have hfr : _root_.EP.frd u = (((_root_.EP.tpM (u.1.natAbs * u.2)).1.foldl _root_.EP.frS (if 0 < u.1 then 1 else -1, (_root_.EP.tpM (u.1.natAbs * u.2)).2)).1, fr ((_root_.EP.tpM (u.1.natAbs * u.2)).1.foldl _root_.EP.frS (if 0 < u.1 then 1 else -1, (_root_.EP.tpM (u.1.natAbs * u.2)).2)).2 u.2) := rfl
  rw [hfr]
  generalize (u.1.natAbs : Int) * u.2 = k at *
  generalize hT : _root_.EP.tpM k = T at *
  refine s_if1 (t_isN (α := List (Int × Int) × Int) (x := some T) (e_var 1) notNonP) (fun hc => absurd hc (by simp)) (fun hc => ?_)
  refine s_asg 2 sc_freed.nd (e_if (t_cmp cv_gt (e_fst (e_var 0)) e_int) (fun _ => e_int) fun _ => (e_neg e_int)) ?_
  have hsg : (if decide (0 < u.1) = true then (1 : Int) else -1) = (if 0 < u.1 then 1 else -1) := by
    by_cases z : 0 < u.1
    · rw [if_pos (by simpa using z), if_pos z]
    · rw [if_neg (by simpa using z), if_neg z]
  rw [hsg]
  have hsg' : (if 0 < u.1 then (1 : Int) else -1) = 1 ∨ (if 0 < u.1 then (1 : Int) else -1) = -1 := by split <;> simp
  generalize (if 0 < u.1 then (1 : Int) else -1) = sg at *
  refine s_asg 3 sc_freed.nd (e_snd (e_get (α := List (Int × Int) × Int) (a := T) (e_var 1))) ?_
  have bd := fun i => _root_.EP.fold_bd hri hR hsg' i
  rw [hprod] at bd
  have hTk : _root_.EP.pp T.1 ≤ k := by
    rw [← hprod]
    exact _root_.EP.mul_ge (_root_.EP.pp_pos (by decide) hri) (by have := Int.mul_pos hR hR; omega)
  refine s_for (fun i Γ => ∃ r, Γ = [some (.val false u), some (.val true (some T)), some (.val true ((T.1.take i).foldl _root_.EP.frS (sg, T.2)).1), some (.val true ((T.1.take i).foldl _root_.EP.frS (sg, T.2)).2), r]) (g_name 4 sc_freed.nd) (ei_list (e_fst (e_get (α := List (Int × Int) × Int) (a := T) (e_var 1)))) ⟨none, rfl⟩ ?_ ?_
  · rintro i v Γ' hv ⟨r, rfl⟩
    obtain ⟨b1, b2, b3⟩ := bd i
    obtain ⟨v1, v2, v3, v4, v5⟩ := _root_.EP.part_bd hri hv
    have et : (T.1.take (i + 1)).foldl _root_.EP.frS (sg, T.2) = _root_.EP.frS ((T.1.take i).foldl _root_.EP.frS (sg, T.2)) v := take_fold hv
    rw [et]
    generalize (T.1.take i).foldl _root_.EP.frS (sg, T.2) = c at *
    have sn : Sm 800 c.1 := Sm.of_le b1 sk
    have sr : Sm 800 c.2 := Sm.of_le (by omega) sk
    have sv : Sm 800 v.1 := Sm.of_le (by omega) sk
    have sp : Sm 800 (v.1 ^ (v.2 / 2).toNat) := Sm.of_le (by have := Int.pow_pos (n := v.1) (m := (v.2 / 2).toNat) (by omega); omega) sk
    have ed : v.2.fdiv 2 = v.2 / 2 := Int.fdiv_eq_ediv_of_nonneg _ (by decide)
    have v2b : v.2 < 2 ^ 62 := by
      apply Classical.byContradiction
      intro hn
      have g1 : (2 : Int) ^ 900 ≤ v.1 ^ (v.2 / 2).toNat := by
        have a1 : (2 : Int) ^ 900 ≤ 2 ^ (v.2 / 2).toNat := pow_mono (by decide) (by omega)
        have a2 : ∀ n : Nat, (2 : Int) ^ n ≤ v.1 ^ n := fun n => by
          induction n with
          | zero => rw [Int.pow_zero, Int.pow_zero]; decide
          | succ n ih =>
            rw [Int.pow_succ, Int.pow_succ]
            exact Int.mul_le_mul ih v1 (by decide) (Int.le_of_lt (Int.pow_pos (by omega)))
        have := a2 (v.2 / 2).toNat
        omega
      have g2 : (v.1 ^ (v.2 / 2).toNat).natAbs < 2 ^ 800 := sp
      have g3 : ((2 : Int) ^ 800) < 2 ^ 900 := by decide +kernel
      have g4 : ((2 ^ 800 : Nat) : Int) = (2 : Int) ^ 800 := by decide +kernel
      omega
    refine s_ifJ (fun Γ => Γ = [some (.val false u), some (.val true (some T)), some (.val true (if v.2 % 2 = 1 then c.1 * v.1 else c.1)), some (.val true c.2), some (.val true v)]) (t_cmp cv_eqI (e_mod (e_snd (e_var 4)) e_int (by decide)) e_int) (fun hc => ?_) (fun hc => ?_) ?_
    · have hc' : v.2 % 2 = 1 := by simpa [fmodE] using hc
      rw [if_pos hc']
      exact s_asg 2 sc_freed.nd (e_mul (e_var 2) (e_fst (e_var 4)) (sn.ok sv)) (s_nil rfl)
    · have hc' : ¬ v.2 % 2 = 1 := by simpa [fmodE] using hc
      rw [if_neg hc']
      exact s_nil rfl
    rintro Γ' rfl
    refine s_asg 3 sc_freed.nd (e_mul (e_var 3) (e_call2 c_power (hr.mono (by decide)) rfl (e_fst (e_var 4)) (e_fdiv (e_snd (e_var 4)) e_int cdK) ⟨by omega, by rw [ed]; omega, by rw [ed]; omega, by rw [ed]; exact Sm.le sp (by decide), Sm.le sv (by decide)⟩) (by show IntMulOk c.2 (v.1 ^ (v.2.fdiv 2).toNat); rw [ed]; exact sr.ok sp)) ?_
    refine s_nil ⟨some (.val true v), ?_⟩
    unfold _root_.EP.frS pwF
    rw [ed]
    rfl
  · rintro Γ' ⟨r, rfl⟩
    rw [List.take_length]
    refine s_ret (e_tup2 (e_var 2) (e_call2 c_fraction (hr.mono (by decide)) rfl (e_var 3) (e_snd (e_var 0)) ⟨by omega, Sm.le s1 (by decide)⟩)) ?_
    rfl
noncomputable def foF (k : Int) : Int := (_root_.EP.frd (k, 1)).1
def PFo (k : Int) : Prop := k ≠ 0 ∧ Sm 400 k ∧ _root_.EP.Tame k.natAbs
theorem b_free_of (c_freed : Cal P w K mg base 5 "freed" ["u"] (sp1 K PFd true _root_.EP.frd)) (k : Int) (hp : PFo k) : Body P w K mg base N_free_of "free_of" s_free_of f 5 [.val false k] (RT true (foF k)) := by
  intro cdv A outer s H E hr
  exact s_ret (e_fst (e_call1 c_freed (hr.mono (by decide)) rfl (e_up (b' := true) (e_tup2 (e_var 0) e_int)) ⟨hp.1, (by show (1 : Int) ≤ 1; decide), hp.2.1, Sm.le (m := 2) (by show (1 : Int).natAbs < 2 ^ 2; decide) (by decide), by rw [show ((k, (1 : Int)).1.natAbs : Int) * (k, (1 : Int)).2 = (k.natAbs : Int) from Int.mul_one _]; exact hp.2.2⟩)) rfl

include B in
theorem b_is_whole (x : Int) : Body P w K mg base N_is_whole "is_whole" s_is_whole f kk [.val false x] (RT true true) := by
  intro cdv A outer s H E hr
  exact s_ret (e_and (e_isII rfl B.isinstance rfl B.int (e_var 0)) fun _ => (e_one (e_not (e_isIB rfl B.isinstance rfl B.bool (e_var 0))))) rfl

def irn (k : Int) : Bool := decide (k ≠ 0 ∧ k.natAbs < 1073741824)
include B in
theorem b_is_row_number (g_GREAT_FROM : MgI mg "GREAT_FROM" 1073741824) (c_is_whole : Cal P w K mg base 1 "is_whole" ["k"] (sp1 K (fun (_ : Int) => True) true (fun _ => true))) (x : Int) : Body P w K mg base N_is_row_number "is_row_number" s_is_row_number f 1 [.val false x] (RT true (irn x)) := by
  intro cdv A outer s H E hr
  refine s_ret (e_and (e_call1 c_is_whole (hr.mono (by decide)) rfl (e_var 0) True.intro) fun _ => (e_and (e_cmp cv_neI (e_var 0) e_int) fun _ => (e_one (e_cmp cv_lt (e_abs rfl B.abs (e_var 0)) (e_glI rfl g_GREAT_FROM))))) ?_
  show Bd.val _ _ = Bd.val _ _
  congr 1
  unfold irn
  rw [Bool.eq_iff_iff, decide_eq_true_iff]
  simp
  intro _
  split <;> omega

def isRow (xs : List Int) : Bool := decide (1 ≤ xs.length ∧ xs.length ≤ 8) && xs.all irn
theorem isRow_len {xs : List Int} (h : isRow xs = true) : 1 ≤ xs.length ∧ xs.length ≤ 8 := by
  unfold isRow at h
  have := (Bool.and_eq_true_iff.mp h).1
  simpa using this
theorem isRow_mem {xs : List Int} (h : isRow xs = true) {x : Int} (hx : x ∈ xs) : x ≠ 0 ∧ x.natAbs < 1073741824 := by
  unfold isRow at h
  have := List.all_eq_true.mp (Bool.and_eq_true_iff.mp h).2 x hx
  unfold irn at this
  simpa using this
include B in
theorem b_is_row (g_LONGEST : MgI mg "LONGEST" 8) (c_is_row_number : Cal P w K mg base 2 "is_row_number" ["k"] (sp1 K (fun (_ : Int) => True) true irn)) (xs : List Int) (hl : xs.length ≤ 1000) : Body P w K mg base N_is_row "is_row" s_is_row f 2 [.val false xs] (RT true (isRow xs)) := by
  intro cdv A outer s H E hr
  refine s_if1 (TW.t (tw_or (t_not (t_val (e_isLL rfl B.isinstance rfl B.list (e_var 0)))) fun _ => (tw_or1 (t_not (t_chain cv_le cv_le e_int (e_lenL rfl B.len (e_var 0)) (e_glI rfl g_LONGEST)))))) (fun hc => ?_) (fun hc => ?_)
  · have hc' : ¬ (1 ≤ xs.length ∧ xs.length ≤ 8) := by
      simp at hc
      omega
    have e : isRow xs = false := by unfold isRow; rw [decide_eq_false hc']; rfl
    rw [e]
    exact s_ret e_bl rfl
  · have hc' : 1 ≤ xs.length ∧ xs.length ≤ 8 := by
      simp at hc
      omega
    refine s_ret (e_all rfl rfl B.all (e_comp (f := irn) ["k"] [] (cscope (defScope s_is_row) N_is_row rfl rfl (by decide +kernel)) (ei_list (e_var 0)) (gp_name 0) (fun C s H fp => pg_cn 0 ["k"]) lt_of_eq (fun i u hu C s H fp => e_call1 c_is_row_number (hr.mono (by decide)) rfl (e_var 0) True.intro) hl)) ?_
    show Bd.val _ _ = Bd.val _ _
    congr 1
    unfold isRow
    rw [decide_eq_true hc', Bool.true_and, List.all_map]
    rfl
theorem b_refuse_no_row (c_is_row : Cal P w K mg base 3 "is_row" ["row"] (sp1 K (fun (xs : List Int) => xs.length ≤ 1000) true isRow)) (xs : List Int) (hx : isRow xs = true) : Body P w K mg base N_refuse_no_row "refuse_no_row" s_refuse_no_row f 3 [.val false xs] RTU := by
  intro cdv A outer s H E hr
  have := isRow_len hx
  refine s_if1 (t_not (t_val (e_call1 c_is_row (hr.mono (by decide)) rfl (e_var 0) (by omega)))) (fun hc => ?_) (fun hc => ?_)
  · rw [hx] at hc; cases hc
  · exact s_nil True.intro

open _root_.EP (Sqf isP)
theorem foF_eq {k f s : Int} (hk : k ≠ 0) (hl : k.natAbs < 1073741824) (hf : Sqf f) (hs : 0 < s) (e : k = f * (s * s)) : foF k = f := by
  have t : _root_.EP.Tame (k.natAbs * 1) := by rw [Int.mul_one]; exact _root_.EP.tame_lt (by omega) (by omega)
  show (_root_.EP.frN k 1).1 = f
  rw [_root_.EP.frN_ok hk (by decide) t hf hs (by rw [Int.mul_one]; exact e)]
theorem foF_ex {k : Int} (hk : k ≠ 0) (hl : k.natAbs < 1073741824) : ∃ s, Sqf (foF k) ∧ 0 < s ∧ k = foF k * (s * s) := by
  obtain ⟨f, s, h1, h2, h3⟩ := _root_.EP.free_ex _ k hk (Nat.le_refl _)
  have e := foF_eq hk hl h1 h2 h3
  rw [e]
  exact ⟨s, h1, h2, h3⟩
theorem foF_le {k : Int} (hk : k ≠ 0) (hl : k.natAbs < 1073741824) : foF k ≠ 0 ∧ (foF k).natAbs ≤ k.natAbs := by
  obtain ⟨s, h1, h2, h3⟩ := foF_ex hk hl
  exact ⟨h1.1, _root_.EP.free_le h2 h3⟩
theorem sqf_of_primes {n : Int} (h0 : n ≠ 0) (h : ∀ q, isP q = true → ¬ q * q ∣ n) : Sqf n := ⟨h0, fun d hd z => by
  obtain ⟨q, h1, h2⟩ := _root_.EP.has_prime hd
  exact h q h1 (Int.dvd_trans (Int.mul_dvd_mul h2 h2) z)⟩

def jnF (a b : Int) : Int := a.fdiv ((Int.gcd a b : Nat) : Int) * b.fdiv ((Int.gcd a b : Nat) : Int)
def PJn (a b : Int) : Prop := a ≠ 0 ∧ b ≠ 0 ∧ Sm 400 a ∧ Sm 400 b
theorem fdiv_g {a g : Int} (h : g ∣ a) (ha : a ≠ 0) : g ≠ 0 ∧ a.fdiv g ≠ 0 ∧ (a.fdiv g).natAbs ≤ a.natAbs := by
  obtain ⟨c, rfl⟩ := h
  have hg : g ≠ 0 := fun z => ha (by rw [z, Int.zero_mul])
  have hc : c ≠ 0 := fun z => ha (by rw [z, Int.mul_zero])
  rw [Int.mul_fdiv_cancel_left c hg]
  refine ⟨hg, hc, ?_⟩
  rw [Int.natAbs_mul]
  exact Nat.le_mul_of_pos_left _ (by omega)
theorem jn_parts {a b : Int} (ha : a ≠ 0) (hb : b ≠ 0) : ((Int.gcd a b : Nat) : Int) ≠ 0 ∧ a.fdiv ((Int.gcd a b : Nat) : Int) ≠ 0 ∧ (a.fdiv ((Int.gcd a b : Nat) : Int)).natAbs ≤ a.natAbs ∧ b.fdiv ((Int.gcd a b : Nat) : Int) ≠ 0 ∧ (b.fdiv ((Int.gcd a b : Nat) : Int)).natAbs ≤ b.natAbs := by
  obtain ⟨x1, x2, x3⟩ := fdiv_g (Int.gcd_dvd_left a b) ha
  obtain ⟨_, y2, y3⟩ := fdiv_g (Int.gcd_dvd_right a b) hb
  exact ⟨x1, x2, x3, y2, y3⟩
theorem jn_ok {m n : Nat} {a b : Int} (ha : a ≠ 0) (hb : b ≠ 0) (sa : Sm m a) (sb : Sm n b) : jnF a b ≠ 0 ∧ Sm (m + n) (jnF a b) := by
  obtain ⟨_, x2, x3, y2, y3⟩ := jn_parts ha hb
  exact ⟨Int.mul_ne_zero x2 y2, (Sm.of_le x3 sa).mul (Sm.of_le y3 sb)⟩
theorem gcd_sm {n : Nat} {a b : Int} (ha : a ≠ 0) (sa : Sm n a) : Sm n ((Int.gcd a b : Nat) : Int) := by
  have : Int.gcd a b ≤ a.natAbs := Nat.le_of_dvd (by omega) (Int.natAbs_dvd_natAbs.mpr (Int.gcd_dvd_left a b))
  unfold Sm at *
  omega
theorem b_joined (c_common_divisor : Cal P w K mg base 1 "common_divisor" ["a", "b"] (sp2 K (fun _ _ => True) true fun a b => ((Int.gcd a b : Nat) : Int))) (a b : Int) (hp : PJn a b) : Body P w K mg base N_joined "joined" s_joined f 1 [.val false a, .val false b] (RT true (jnF a b)) := by
  intro cdv A outer s H E hr
  obtain ⟨ha, hb, sa, sb⟩ := hp
  obtain ⟨g0, x2, x3, y2, y3⟩ := jn_parts ha hb
  have sg := gcd_sm (b := b) ha sa
  refine s_asg 2 sc_joined.nd (e_call2 c_common_divisor (hr.mono (by decide)) rfl (e_var 0) (e_var 1) True.intro) ?_
  exact s_ret (e_mul (e_fdiv (e_var 0) (e_var 2) (sg.div g0)) (e_fdiv (e_var 1) (e_var 2) (sg.div g0)) ((Sm.of_le x3 sa).ok (Sm.of_le y3 sb))) rfl
noncomputable def fpF (row : List Int) : Int := row.foldl (fun n k => jnF n (foF k)) 1
def PFp (row : List Int) : Prop := row.length ≤ 8 ∧ ∀ k ∈ row, k ≠ 0 ∧ k.natAbs < 1073741824
theorem fp_ok {row : List Int} (h : PFp row) : ∀ i, i ≤ row.length → (row.take i).foldl (fun n k => jnF n (foF k)) 1 ≠ 0 ∧ Sm (1 + 30 * i) ((row.take i).foldl (fun n k => jnF n (foF k)) 1)
  | 0, _ => ⟨by show (1 : Int) ≠ 0; decide, by show (1 : Int).natAbs < 2 ^ 1; decide⟩
  | i + 1, hi => by
    obtain ⟨a, b⟩ := fp_ok h i (by omega)
    have hg : row[i]? = some row[i] := List.getElem?_eq_getElem (by omega)
    have e : (row.take (i + 1)).foldl (fun n k => jnF n (foF k)) 1 = jnF ((row.take i).foldl (fun n k => jnF n (foF k)) 1) (foF row[i]) := take_fold hg
    have hk := h.2 _ (List.mem_of_getElem? hg)
    obtain ⟨f1, f2⟩ := foF_le hk.1 hk.2
    obtain ⟨j1, j2⟩ := jn_ok a f1 b (show Sm 30 (foF row[i]) by unfold Sm; omega)
    rw [e]
    exact ⟨j1, j2.le (by omega)⟩
theorem pfo_of {k : Int} (h1 : k ≠ 0) (h2 : k.natAbs < 1073741824) : PFo k := ⟨h1, (show Sm 30 k by unfold Sm; omega).le (by decide), _root_.EP.tame_lt (by omega) (by omega)⟩
theorem b_free_product (c_joined : Cal P w K mg base 2 "joined" ["a", "b"] (sp2 K PJn true jnF)) (c_free_of : Cal P w K mg base 6 "free_of" ["k"] (sp1 K PFo true foF)) (row : List Int) (h : PFp row) : Body P w K mg base N_free_product "free_product" s_free_product f 6 [.val false row] (RT true (fpF row)) := by
  intro cdv A outer s H E hr
  have h8 := h.1
  refine s_asg 1 sc_free_product.nd e_int ?_
  refine s_forL (b := false) (fun i Γ => i ≤ row.length ∧ ∃ r, Γ = [some (.val false row), some (.val true ((row.take i).foldl (fun n k => jnF n (foF k)) 1)), r]) (g_name 2 sc_free_product.nd) (e_var 0) ⟨Nat.zero_le _, none, rfl⟩ ?_ ?_
  · rintro i k Γ' hk ⟨hi, r, rfl⟩
    have hi' : i < row.length := (List.getElem?_eq_some_iff.mp hk).1
    obtain ⟨a, b⟩ := fp_ok h i hi
    have hk' := h.2 _ (List.mem_of_getElem? hk)
    obtain ⟨f1, f2⟩ := foF_le hk'.1 hk'.2
    have e : (row.take (i + 1)).foldl (fun n k => jnF n (foF k)) 1 = jnF ((row.take i).foldl (fun n k => jnF n (foF k)) 1) (foF k) := take_fold hk
    refine s_asg 1 sc_free_product.nd (e_call2 c_joined (hr.mono (by decide)) rfl (e_var 1) (e_call1 c_free_of (hr.mono (by decide)) rfl (e_var 2) (pfo_of hk'.1 hk'.2)) ⟨a, f1, b.le (by omega), (show Sm 30 (foF k) by unfold Sm; omega).le (by decide)⟩) ?_
    rw [e]
    exact s_nil ⟨hi', _, rfl⟩
  · rintro Γ' ⟨hi, r, rfl⟩
    rw [List.take_length]
    exact s_ret (e_var 1) rfl

def prdL : List Int → Int
  | [] => 1
  | x :: xs => x * prdL xs
theorem prd_app : ∀ (xs ys : List Int), prdL (xs ++ ys) = prdL xs * prdL ys
  | [], ys => by show prdL ys = 1 * prdL ys; omega
  | x :: xs, ys => by
    show x * prdL (xs ++ ys) = x * prdL xs * prdL ys
    rw [prd_app xs ys, Int.mul_assoc]
def cnD : List (Int × Int) → Int
  | [] => 1
  | u :: us => u.1 ^ u.2.toNat * cnD us
def odD : List (Int × Int) → Int
  | [] => 1
  | u :: us => (if u.2 % 2 = 1 then u.1 else 1) * odD us
def hfD : List (Int × Int) → Int
  | [] => 1
  | u :: us => u.1 ^ (u.2 / 2).toNat * hfD us
structure DOk (l : List (Int × Int)) : Prop where
  nd : (l.map (·.1)).Nodup
  pr : ∀ u ∈ l, isP u.1 = true ∧ 0 ≤ u.2
  bd : ∀ u ∈ l, u.1 < 2147483648
theorem DOk.tl {u : Int × Int} {l : List (Int × Int)} (h : DOk (u :: l)) : DOk l := ⟨(List.nodup_cons.mp h.nd).2, fun v hv => h.pr v (List.mem_cons_of_mem _ hv), fun v hv => h.bd v (List.mem_cons_of_mem _ hv)⟩
theorem cn_split : ∀ {l : List (Int × Int)}, DOk l → cnD l = odD l * (hfD l * hfD l) ∧ 0 < hfD l ∧ 0 < odD l
  | [], _ => ⟨rfl, by decide, by decide⟩
  | u :: l, h => by
    obtain ⟨a, b, c⟩ := cn_split h.tl
    obtain ⟨h1, h2⟩ := h.pr u List.mem_cons_self
    have hp := _root_.EP.isP_ge h1
    have pw : ∀ m : Nat, 0 < u.1 ^ m := fun m => Int.pow_pos (by omega)
    refine ⟨?_, Int.mul_pos (pw _) b, ?_⟩
    · show u.1 ^ u.2.toNat * cnD l = (if u.2 % 2 = 1 then u.1 else 1) * odD l * ((u.1 ^ (u.2 / 2).toNat * hfD l) * (u.1 ^ (u.2 / 2).toNat * hfD l))
      rw [a]
      split
      · rename_i o
        rw [show u.2.toNat = (u.2 / 2).toNat + (u.2 / 2).toNat + 1 by omega, Int.pow_succ, Int.pow_add]
        grind
      · rename_i o
        rw [show u.2.toNat = (u.2 / 2).toNat + (u.2 / 2).toNat by omega, Int.pow_add]
        grind
    · show 0 < (if u.2 % 2 = 1 then u.1 else 1) * odD l
      refine Int.mul_pos ?_ c
      split <;> omega
theorem od_dvd {q : Int} (hq : isP q = true) : ∀ {l : List (Int × Int)}, DOk l → q ∣ odD l → q ∈ l.map (·.1)
  | [], _, h => by
    have h' : q ∣ 1 := h
    have := Int.le_of_dvd (by decide) h'
    have := _root_.EP.isP_ge hq
    omega
  | u :: l, h, hd => by
    rcases _root_.EP.euclid hq hd with z | z
    · split at z
      · rw [_root_.EP.prime_dvd_prime hq (h.pr u List.mem_cons_self).1 z]
        exact List.mem_cons_self
      · have := Int.le_of_dvd (by decide) z
        have := _root_.EP.isP_ge hq
        omega
    · exact List.mem_cons_of_mem _ (od_dvd hq h.tl z)
theorem od_sqf : ∀ {l : List (Int × Int)}, DOk l → Sqf (odD l)
  | [], _ => _root_.EP.sqf_one
  | u :: l, h => by
    show Sqf ((if u.2 % 2 = 1 then u.1 else 1) * odD l)
    have hp := (h.pr u List.mem_cons_self).1
    split
    · rw [Int.mul_comm]
      exact _root_.EP.sqf_mul_prime (od_sqf h.tl) hp fun z => (List.nodup_cons.mp h.nd).1 (od_dvd hp h.tl z)
    · rw [Int.one_mul]; exact od_sqf h.tl
def inc (d : Dc Int) (p : Int) : Dc Int := d.put p ((d.val p).getD 0 + 1)
theorem put_keys {d : Dc Int} {p c : Int} : ((d.put p c).l.map (·.1)) = if p ∈ d.l.map (·.1) then d.l.map (·.1) else d.l.map (·.1) ++ [p] := by
  have ha : (d.l.any fun u => decide (u.1 = p)) = true ↔ p ∈ d.l.map (·.1) := by
    rw [List.any_eq_true, List.mem_map]
    constructor
    · rintro ⟨u, h1, h2⟩; exact ⟨u, h1, by simpa using h2⟩
    · rintro ⟨u, h1, h2⟩; exact ⟨u, h1, by simpa using h2⟩
  unfold Dc.put
  by_cases h : p ∈ d.l.map (·.1)
  · rw [if_pos h, if_pos (ha.mpr h)]
    show (d.l.map _).map _ = _
    rw [List.map_map]
    refine List.map_congr_left fun u _ => ?_
    show (if u.1 = p then (u.1, c) else u).1 = u.1
    split <;> rfl
  · rw [if_neg h, if_neg fun z => h (ha.mp z)]
    show (d.l ++ [(p, c)]).map _ = _
    rw [List.map_append]
    rfl
theorem cn_app : ∀ (l : List (Int × Int)) (u : Int × Int), cnD (l ++ [u]) = cnD l * u.1 ^ u.2.toNat
  | [], u => by show u.1 ^ u.2.toNat * 1 = 1 * u.1 ^ u.2.toNat; omega
  | v :: l, u => by
    show v.1 ^ v.2.toNat * cnD (l ++ [u]) = v.1 ^ v.2.toNat * cnD l * u.1 ^ u.2.toNat
    rw [cn_app l u, Int.mul_assoc]
theorem cn_same {p c : Int} : ∀ {l : List (Int × Int)}, p ∉ l.map (·.1) → l.map (fun u => if u.1 = p then (u.1, c) else u) = l
  | [], _ => rfl
  | u :: l, h => by
    rw [List.map_cons, List.mem_cons] at h
    rw [List.map_cons, cn_same (fun z => h (.inr z)), if_neg fun z => h (.inl z.symm)]
theorem cn_map {p c : Int} : ∀ {l : List (Int × Int)}, DOk l → (Dc.mk l).val p = some c → cnD (l.map fun u => if u.1 = p then (u.1, c + 1) else u) = cnD l * p
  | [], _, h => by cases h
  | u :: l, h, hv => by
    by_cases e : u.1 = p
    · have hc : u.2 = c := by
        unfold Dc.val at hv
        rw [List.find?_cons] at hv
        simp [e] at hv
        exact hv
      have h0 := (h.pr u List.mem_cons_self).2
      rw [List.map_cons, if_pos e, cn_same (by rw [← e]; exact (List.nodup_cons.mp h.nd).1)]
      show u.1 ^ (c + 1).toNat * cnD l = u.1 ^ u.2.toNat * cnD l * p
      rw [hc, show (c + 1).toNat = c.toNat + 1 by omega, Int.pow_succ, e]
      grind
    · have hv' : (Dc.mk l).val p = some c := by
        unfold Dc.val at hv ⊢
        rw [List.find?_cons] at hv
        simpa [e] using hv
      rw [List.map_cons, if_neg e]
      show u.1 ^ u.2.toNat * cnD _ = u.1 ^ u.2.toNat * cnD l * p
      rw [cn_map h.tl hv', Int.mul_assoc]
theorem val_at : ∀ {l : List (Int × Int)} {i : Nat} {u : Int × Int}, (l.map (·.1)).Nodup → l[i]? = some u → (Dc.mk l).val u.1 = some u.2
  | v :: l, 0, u, _, h => by
    simp at h
    subst h
    unfold Dc.val
    rw [List.find?_cons]
    simp
  | v :: l, i + 1, u, hn, h => by
    have h' : l[i]? = some u := by simpa using h
    have ih := val_at (List.nodup_cons.mp hn).2 h'
    have ne : ¬ v.1 = u.1 := fun z => (List.nodup_cons.mp hn).1 (by show v.1 ∈ _; rw [z]; exact List.mem_map_of_mem (List.mem_of_getElem? h'))
    unfold Dc.val at ih ⊢
    rw [List.find?_cons]
    simp only [ne, decide_false]
    exact ih
theorem val_in {d : Dc Int} {p c : Int} (h : d.val p = some c) : ∃ u ∈ d.l, u.1 = p ∧ u.2 = c := by
  unfold Dc.val at h
  rw [Option.map_eq_some_iff] at h
  obtain ⟨u, h1, h2⟩ := h
  exact ⟨u, List.mem_of_find?_eq_some h1, by simpa using List.find?_some h1, h2⟩
theorem inc_ok {d : Dc Int} {p : Int} (h : DOk d.l) (hp : isP p = true) (hb : p < 2147483648) : DOk (inc d p).l ∧ cnD (inc d p).l = cnD d.l * p ∧ (inc d p).l.length ≤ d.l.length + 1 := by
  refine ⟨⟨?_, ?_, ?_⟩, ?_, Dc.put_len _ _ _⟩
  · unfold inc
    rw [put_keys]
    split
    · exact h.nd
    · rename_i hn
      exact List.nodup_append.mpr ⟨h.nd, by simp, fun a ha b hb => by rw [List.mem_singleton.mp hb]; intro z; exact hn (z ▸ ha)⟩
  · intro u hu
    unfold inc Dc.put at hu
    dsimp only at hu
    have hc : 0 ≤ (d.val p).getD 0 + 1 := by
      cases e : d.val p with
      | none => decide
      | some c =>
        obtain ⟨v, h1, _, h3⟩ := val_in e
        have := (h.pr v h1).2
        show 0 ≤ c + 1
        omega
    split at hu
    · obtain ⟨v, hv, rfl⟩ := List.mem_map.mp hu
      split
      · exact ⟨(h.pr v hv).1, hc⟩
      · exact h.pr v hv
    · rcases List.mem_append.mp hu with hu | hu
      · exact h.pr u hu
      · rw [List.mem_singleton.mp hu]; exact ⟨hp, hc⟩
  · intro u hu
    unfold inc Dc.put at hu
    dsimp only at hu
    split at hu
    · obtain ⟨v, hv, rfl⟩ := List.mem_map.mp hu
      split
      · exact h.bd v hv
      · exact h.bd v hv
    · rcases List.mem_append.mp hu with hu | hu
      · exact h.bd u hu
      · rw [List.mem_singleton.mp hu]; exact hb
  · cases e : d.val p with
    | none =>
      have hn : ¬ (d.l.any fun u => decide (u.1 = p)) = true := fun z => by
        obtain ⟨u, h1, h2⟩ := List.any_eq_true.mp z
        unfold Dc.val at e
        rw [Option.map_eq_none_iff, List.find?_eq_none] at e
        exact e u h1 h2
      unfold inc Dc.put
      rw [e, if_neg hn, cn_app]
      show cnD d.l * p ^ (0 + 1 : Int).toNat = _
      rw [show (0 + 1 : Int).toNat = 1 from rfl, Int.pow_succ, Int.pow_zero, Int.one_mul]
    | some c =>
      have hn : (d.l.any fun u => decide (u.1 = p)) = true := by
        obtain ⟨v, h1, h2, _⟩ := val_in e
        exact List.any_eq_true.mpr ⟨v, h1, by simpa using h2⟩
      unfold inc Dc.put
      rw [e, if_pos hn]
      exact cn_map h e
structure Kn (row : List Int) (d : Dc Int) : Prop where
  kr : ∀ x ∈ row, x ≠ 0 ∧ x.natAbs < 1073741824
  kd : DOk d.l
  ke : ((prdL row).natAbs : Int) = cnD d.l
def sgR : List Int → Int
  | [] => 1
  | x :: xs => if x < 0 then -sgR xs else sgR xs
theorem sg_abs : ∀ {row : List Int}, (∀ x ∈ row, x ≠ 0) → prdL row = sgR row * ((prdL row).natAbs : Int) ∧ (sgR row = 1 ∨ sgR row = -1)
  | [], _ => ⟨rfl, .inl rfl⟩
  | x :: xs, h => by
    obtain ⟨a, b⟩ := sg_abs (row := xs) fun y hy => h y (List.mem_cons_of_mem _ hy)
    have hx := h x List.mem_cons_self
    show x * prdL xs = (if x < 0 then -sgR xs else sgR xs) * ((x * prdL xs).natAbs : Int) ∧ _
    rw [Int.natAbs_mul, Int.natCast_mul]
    constructor
    · split
      · rename_i hl
        have e : x = -(x.natAbs : Int) := by omega
        generalize (x.natAbs : Int) = X at *
        generalize ((prdL xs).natAbs : Int) = Y at *
        rw [a, e]
        grind
      · rename_i hl
        have e : x = (x.natAbs : Int) := by omega
        generalize (x.natAbs : Int) = X at *
        generalize ((prdL xs).natAbs : Int) = Y at *
        rw [a, e]
        grind
    · show (if x < 0 then -sgR xs else sgR xs) = 1 ∨ (if x < 0 then -sgR xs else sgR xs) = -1
      split <;> omega
theorem jn_sqf {a b : Int} (ha : Sqf a) (hb : Sqf b) : Sqf (jnF a b) ∧ ∃ g, 0 < g ∧ a * b = jnF a b * (g * g) := by
  obtain ⟨g0, x2, _, y2, _⟩ := jn_parts ha.1 hb.1
  obtain ⟨u, hu⟩ := Int.gcd_dvd_left a b
  obtain ⟨v, hv⟩ := Int.gcd_dvd_right a b
  have eu : a.fdiv ((Int.gcd a b : Nat) : Int) = u := by
    have := Int.mul_fdiv_cancel_left u g0
    rw [← hu] at this
    exact this
  have ev : b.fdiv ((Int.gcd a b : Nat) : Int) = v := by
    have := Int.mul_fdiv_cancel_left v g0
    rw [← hv] at this
    exact this
  have ej : jnF a b = u * v := by unfold jnF; rw [eu, ev]
  rw [eu] at x2
  rw [ev] at y2
  have ua : u ∣ a := ⟨_, by rw [Int.mul_comm]; exact hu⟩
  have vb : v ∣ b := ⟨_, by rw [Int.mul_comm]; exact hv⟩
  have no : ∀ q, isP q = true → q ∣ u → q ∣ v → False := fun q hq ⟨s, hs⟩ ⟨t, ht⟩ => by
    have h1 : ((Int.gcd a b : Nat) : Int) * q ∣ a := ⟨s, by rw [Int.mul_assoc, ← hs]; exact hu⟩
    have h2 : ((Int.gcd a b : Nat) : Int) * q ∣ b := ⟨t, by rw [Int.mul_assoc, ← ht]; exact hv⟩
    have h3 := Int.dvd_coe_gcd h1 h2
    have h4 := Int.le_of_dvd (by omega) h3
    have := _root_.EP.isP_ge hq
    have := Int.mul_le_mul_of_nonneg_left (show (2 : Int) ≤ q by omega) (show (0 : Int) ≤ ((Int.gcd a b : Nat) : Int) by omega)
    omega
  refine ⟨?_, ((Int.gcd a b : Nat) : Int), by omega, ?_⟩
  · rw [ej]
    refine sqf_of_primes (Int.mul_ne_zero x2 y2) fun q hq z => ?_
    have q2 := _root_.EP.isP_ge hq
    have qq : q * q ≠ 0 := Int.mul_ne_zero (by omega) (by omega)
    by_cases w : q ∣ u
    · have w' : ¬ q ∣ v := fun t => no q hq w t
      have g : Int.gcd (q * q) v = 1 := _root_.EP.cop_of (fun r hr h1 h2 => by
        have : r ∣ q := by rcases _root_.EP.euclid hr h1 with z | z <;> exact z
        rw [_root_.EP.prime_dvd_prime hr hq this] at h2
        exact w' h2) qq
      exact ha.2 q (by omega) (Int.dvd_trans (_root_.EP.cop_dvd z g) ua)
    · have g : Int.gcd (q * q) u = 1 := _root_.EP.cop_of (fun r hr h1 h2 => by
        have : r ∣ q := by rcases _root_.EP.euclid hr h1 with z | z <;> exact z
        rw [_root_.EP.prime_dvd_prime hr hq this] at h2
        exact w h2) qq
      rw [Int.mul_comm u v] at z
      exact hb.2 q (by omega) (Int.dvd_trans (_root_.EP.cop_dvd z g) vb)
  · rw [ej, hu, hv]
    grind
theorem fp_sqf {row : List Int} (h : ∀ x ∈ row, x ≠ 0 ∧ x.natAbs < 1073741824) : ∀ (n : Int), Sqf n → Sqf (row.foldl (fun n k => jnF n (foF k)) n) ∧ ∃ s, 0 < s ∧ n * prdL row = row.foldl (fun n k => jnF n (foF k)) n * (s * s) := by
  induction row with
  | nil => intro n hn; exact ⟨hn, 1, by decide, by show n * 1 = n * (1 * 1); rfl⟩
  | cons k row ih =>
    intro n hn
    obtain ⟨k1, k2⟩ := h k List.mem_cons_self
    obtain ⟨t, f1, f2, f3⟩ := foF_ex k1 k2
    obtain ⟨j1, g, g0, j2⟩ := jn_sqf hn f1
    obtain ⟨a, s, s0, b⟩ := ih (fun x hx => h x (List.mem_cons_of_mem _ hx)) (jnF n (foF k)) j1
    refine ⟨a, g * t * s, Int.mul_pos (Int.mul_pos g0 f2) s0, ?_⟩
    show n * (k * prdL row) = (row.foldl (fun n k => jnF n (foF k)) (jnF n (foF k))) * _
    generalize row.foldl (fun n k => jnF n (foF k)) (jnF n (foF k)) = R at *
    generalize jnF n (foF k) = J at *
    generalize foF k = f at *
    rw [f3]
    have : n * (f * (t * t) * prdL row) = (n * f) * (t * t) * prdL row := by grind
    rw [this, j2]
    have : J * (g * g) * (t * t) * prdL row = (J * prdL row) * ((g * t) * (g * t)) := by grind
    rw [this, b]
    grind
theorem Kn.due {row : List Int} {d : Dc Int} (h : Kn row d) : sgR row * odD d.l = fpF row := by
  obtain ⟨c1, c2, c3⟩ := cn_split h.kd
  obtain ⟨s1, s2⟩ := sg_abs fun x hx => (h.kr x hx).1
  obtain ⟨f1, s, s0, f2⟩ := fp_sqf h.kr 1 _root_.EP.sqf_one
  have hq : Sqf (sgR row * odD d.l) := by
    rcases s2 with e | e
    · rw [e, Int.one_mul]; exact od_sqf h.kd
    · rw [e, Int.neg_one_mul]; exact _root_.EP.sqf_neg (od_sqf h.kd)
  refine (_root_.EP.sqf_uniq hq f1 c2 s0 ?_).1
  show sgR row * odD d.l * (hfD d.l * hfD d.l) = fpF row * (s * s)
  have f2' : 1 * prdL row = fpF row * (s * s) := f2
  rw [← f2', Int.one_mul, s1, h.ke, c1]
  grind
theorem prd_set {p : Int} : ∀ {l : List Int} {k : Nat}, k < l.length → prdL (l.set k (l.getD k 0 * p)) = prdL l * p
  | [], _, h => absurd h (Nat.not_lt_zero _)
  | x :: l, 0, _ => by
    show (x * p) * prdL l = x * prdL l * p
    grind
  | x :: l, k + 1, h => by
    show x * prdL (l.set k (l.getD k 0 * p)) = x * prdL l * p
    rw [prd_set (by simpa using h), Int.mul_assoc]
theorem Kn.more {l : List Int} {d : Dc Int} (h : Kn l d) {k : Nat} {p : Int} (hk : k < l.length) (hp : isP p = true) (hb : p < 2147483648) (hl : (l.getD k 0 * p).natAbs < 1073741824) : Kn (l.set k (l.getD k 0 * p)) (inc d p) := by
  obtain ⟨a, b, _⟩ := inc_ok h.kd hp hb
  have p2 := _root_.EP.isP_ge hp
  refine ⟨fun x hx => ?_, a, ?_⟩
  · rcases List.mem_or_eq_of_mem_set hx with w | w
    · exact h.kr x w
    · rw [w]
      exact ⟨Int.mul_ne_zero (h.kr _ (_root_.EP.getD_mem hk)).1 (by omega), hl⟩
  · rw [prd_set hk, Int.natAbs_mul, Int.natCast_mul, h.ke, b]
    congr 1
    omega
def sgS (s : Int) (x : Int) : Int := if x < 0 then 0 - s else s
def odS (s : Int) (u : Int × Int) : Int := if u.2.fmod 2 = 1 then s * u.1 else s
theorem sg_fold : ∀ (row : List Int) (s : Int), row.foldl sgS s = sgR row * s
  | [], s => by show s = 1 * s; omega
  | x :: row, s => by
    show row.foldl sgS (sgS s x) = (if x < 0 then -sgR row else sgR row) * s
    rw [sg_fold row]
    unfold sgS
    split
    · grind
    · rfl
theorem od_fold : ∀ (l : List (Int × Int)) (s : Int), l.foldl odS s = s * odD l
  | [], s => by show s = s * 1; omega
  | u :: l, s => by
    show l.foldl odS (odS s u) = s * ((if u.2 % 2 = 1 then u.1 else 1) * odD l)
    rw [od_fold l]
    unfold odS
    rw [Int.fmod_eq_emod_of_nonneg _ (by decide)]
    split
    · grind
    · grind
def duF (r : List Int) (d : Dc Int) : Int := d.l.foldl odS (r.foldl sgS 1)
theorem Kn.du {row : List Int} {d : Dc Int} (h : Kn row d) : duF row d = fpF row := by
  unfold duF
  rw [od_fold, sg_fold, Int.mul_one]
  exact h.due
theorem sg_take (row : List Int) (i : Nat) : (row.take i).foldl sgS 1 = 1 ∨ (row.take i).foldl sgS 1 = -1 := by
  induction i with
  | zero => exact .inl rfl
  | succ i ih =>
    cases hg : row[i]? with
    | none =>
      rw [List.take_of_length_le (by have := List.getElem?_eq_none_iff.mp hg; omega)]
      rw [List.take_of_length_le (List.getElem?_eq_none_iff.mp hg)] at ih
      exact ih
    | some x =>
      have e : (row.take (i + 1)).foldl sgS 1 = sgS ((row.take i).foldl sgS 1) x := take_fold hg
      rw [e]
      rcases ih with w | w <;> rw [w] <;> unfold sgS <;> split <;> omega

def deepS (c k j : Int) : Int := (c * (48271 + 2 * j) + (j + 5) * (j + k + 2) * 69621).fmod 2147483647
def deepL (c k : Int) : Nat → Int
  | 0 => 0
  | i + 1 => deepL c k i * 2147483659 + (deepS c k i * deepS c k i).fmod 2147483629
def dcell (xs : List Int) (k : Int) : Int := if k < (xs.length : Int) then xs.getD k.toNat 0 else 0
def deep (xs : List Int) (k : Int) : Int := if dcell xs k < 0 ∨ 10 ^ 18 ≤ dcell xs k then dcell xs k else deepL (dcell xs k) k 12
include B in
theorem b_law_deep (xs : List Int) (k : Int) (h0 : 0 ≤ k) (h1 : k ≤ 100) : Body P w K mg base N_law_deep "_law_deep" s_law_deep f kk [.val false xs, .val false k] (RT true (deep xs k)) := by
  intro cdv A outer s H E hr
  refine s_asg 2 sc_law_deep.nd e_int ?_
  have last : ∀ b c, c = dcell xs k → S (cx P w K mg base N_law_deep "_law_deep" s_law_deep f cdv A outer s H E) [some (.val false xs), some (.val false k), some (.val b c), none, none, none] ((defBody s_law_deep).drop 2) (RT true (deep xs k)) := by
    intro b c he
    refine s_if1 (TW.t (tw_or (t_cmp cv_lt (e_var 2) e_int) fun _ => (tw_or1 (t_cmp cv_ge (e_var 2) (e_pow e_int e_int cpK))))) (fun hc => ?_) (fun hc => ?_)
    · have hc' : c < 0 ∨ 10 ^ 18 ≤ c := by simpa using hc
      have e2 : c = deep xs k := by unfold deep; rw [← he, if_pos hc']
      rw [← e2]
      exact s_ret (e_up (e_var 2)) rfl
    · have hc' : ¬ (c < 0 ∨ 10 ^ 18 ≤ c) := by simpa using hc
      refine s_asg 3 sc_law_deep.nd e_int ?_
      refine s_forRange (fun i Γ => ∃ r r', Γ = [some (.val false xs), some (.val false k), some (.val b c), some (.val true (deepL c k i)), r, r']) rfl B.range (g_name 4 sc_law_deep.nd) e_int (by decide) (by decide) ⟨none, none, rfl⟩ ?_ ?_
      · rintro i Γ' hi ⟨r, r', rfl⟩
        have hi' : i < 12 := hi
        have z1 := fmod_pos (a := c * (48271 + 2 * (i : Int)) + ((i : Int) + 5) * (i + k + 2) * 69621) (b := 2147483647) (by decide)
        refine s_asg 5 sc_law_deep.nd (e_mod (e_add (e_mul (e_var 2) (e_add e_int (e_mul e_int (e_var 4) (mulL (by decide) (by decide)))) (mulR (by omega) (by omega))) (e_mul (e_mul (e_add (e_var 4) e_int) (e_add (e_add (e_var 4) (e_var 1)) e_int) (mulL (by omega) (by omega))) e_int (mulR (by decide) (by decide)))) e_int (by decide)) ?_
        refine s_asg 3 sc_law_deep.nd (e_add (e_mul (e_var 3) e_int (mulR (by decide) (by decide))) (e_mod (e_mul (e_var 5) (e_var 5) (mulL (by omega) (by omega))) e_int (by decide))) ?_
        exact s_nil ⟨_, _, rfl⟩
      · rintro Γ' ⟨r, r', rfl⟩
        have e2 : deepL c k 12 = deep xs k := by unfold deep; rw [← he, if_neg hc']
        rw [← e2]
        exact s_ret (e_var 3) rfl
  refine s_if1 (t_cmp cv_lt (e_var 1) (e_lenL rfl B.len (e_var 0))) (fun hc => ?_) (fun hc => ?_)
  · have hc' : k < (xs.length : Int) := by simpa using hc
    refine s_asg 2 sc_law_deep.nd (e_ixL (e_var 0) (e_var 1) (atGetD (d := 0) h0 hc')) (s_nil ?_)
    exact last _ _ (by unfold dcell; rw [if_pos hc'])
  · have hc' : ¬ k < (xs.length : Int) := by simpa using hc
    exact last _ _ (by unfold dcell; rw [if_neg hc'])

include B in
theorem b_law_whole (i : Int) : Body P w K mg base N_law_whole "_law_whole" s_law_whole f k [.val false i] (RT true true) := by
  intro cdv A outer s H E hr
  exact s_ret (e_and (e_isII rfl B.isinstance rfl B.int (e_var 0)) fun _ => (e_one (e_not (e_isIB rfl B.isinstance rfl B.bool (e_var 0))))) rfl

theorem isP_small {x : Int} (h : x < 4) : decide (1 < x) = _root_.EP.isP x := by
  rw [Bool.eq_iff_iff, _root_.EP.isP_iff, decide_eq_true_iff]
  constructor
  · intro z
    by_cases h2 : x = 2
    · exact .inl h2
    · refine .inr ⟨by omega, by omega, fun d h3 hd => ?_⟩
      have : 3 * 3 ≤ d * d := _root_.EP.sq_le (by decide) h3
      omega
  · rintro (z | z) <;> omega
theorem b_law_prime (x : Int) (hx : x < 2 ^ 62) : Body P w K mg base N_law_prime "_law_prime" s_law_prime f kk [.val false x] (RT true (_root_.EP.isP x)) := by
  intro cdv A outer s H E hr
  refine s_if1 (t_cmp cv_lt (e_var 0) e_int) (fun hc => ?_) (fun hc => ?_)
  · have hc' : x < 4 := by simpa using hc
    refine s_ret (e_cmp cv_gt (e_var 0) e_int) ?_
    show Bd.val _ _ = Bd.val _ _
    rw [isP_small hc']
  have h4 : 4 ≤ x := by simpa using hc
  refine s_if1 (t_cmp cv_eqI (e_mod (e_var 0) e_int (by decide)) e_int) (fun hc => ?_) (fun hc => ?_)
  · have h2 : x % 2 = 0 := by
      have : x.fmod 2 = 0 := by simpa using hc
      rwa [Int.fmod_eq_emod_of_nonneg x (by decide)] at this
    have e : _root_.EP.isP x = false := by
      cases hp : _root_.EP.isP x with
      | false => rfl
      | true => rcases _root_.EP.isP_iff.mp hp with z | z <;> omega
    rw [e]
    exact s_ret e_bl rfl
  have h2 : x % 2 = 1 := by
    have : ¬ x.fmod 2 = 0 := by simpa using hc
    rw [Int.fmod_eq_emod_of_nonneg x (by decide)] at this
    omega
  refine s_asg 1 sc_law_prime.nd e_int ?_
  refine s_while (ι := Int) (fun d Γ => Γ = [some (.val false x), some (.val true d)] ∧ 3 ≤ d ∧ d ≤ x + 2 ∧ d % 2 = 1 ∧ ∀ e : Int, 3 ≤ e → e < d → e % 2 = 1 → ¬ e ∣ x) (fun d => (x + 3 - d).toNat) 3 ⟨rfl, by decide, by omega, by decide, fun e h1 h2 => by omega⟩ ?_
  rintro d Γ' ⟨rfl, d3, dx, dodd, hn⟩
  refine ⟨_, t_cmp cv_le (e_mul (e_var 1) (e_var 1) (mulL (by omega) (by omega))) (e_var 0), fun hc => ?_, fun hc => ?_⟩
  · have hc' : d * d ≤ x := by simpa using hc
    have hdx : d ≤ x := by
      have : 3 * d ≤ d * d := Int.mul_le_mul d3 (Int.le_refl d) (by omega) (by omega)
      omega
    refine s_if1 (t_cmp cv_eqI (e_mod (e_var 0) (e_var 1) (by omega)) e_int) (fun hc => ?_) (fun hc => ?_)
    · have hd : d ∣ x := _root_.EP.dvd_fmod.mp (by simpa using hc)
      have e : _root_.EP.isP x = false := by
        cases hp : _root_.EP.isP x with
        | false => rfl
        | true =>
          rcases _root_.EP.isP_iff.mp hp with z | ⟨_, _, z⟩
          · omega
          · exact absurd hd (z d d3 hc' dodd)
      rw [e]
      exact s_ret e_bl rfl
    · have hd : ¬ d ∣ x := fun z => by
        have := _root_.EP.dvd_fmod.mpr z
        simp [this] at hc
      refine s_asg 1 sc_law_prime.nd (e_add (e_var 1) e_int) ?_
      refine s_nil ⟨d + 2, ⟨rfl, by omega, by omega, by omega, fun e h1 h2 h3 => ?_⟩, by omega⟩
      by_cases z : e = d
      · rw [z]; exact hd
      · exact hn e h1 (by omega) h3
  · have hc' : x < d * d := by simpa using hc
    have e : _root_.EP.isP x = true := _root_.EP.isP_iff.mpr (.inr ⟨by omega, h2, fun e h1 h2 h3 => hn e h1 (_root_.EP.sq_lt (by omega) (by omega) (by omega)) h3⟩)
    rw [e]
    exact s_ret e_bl rfl

theorem b_law_prime_from (c_law_prime : Cal P w K mg base 1 "_law_prime" ["_law_k"] (sp1 K (fun k => k < 2 ^ 62) true _root_.EP.isP)) (x : Int) (hx : x ≤ _root_.EP.PB) : Body P w K mg base N_law_prime_from "_law_prime_from" s_law_prime_from f 1 [.val false x] (RT true (_root_.EP.pf x)) := by
  intro cdv A outer s H E hr
  have hPB : _root_.EP.PB = 1070000011 := rfl
  refine s_if1 (t_cmp cv_lt (e_var 0) e_int) (fun hc => ?_) (fun hc => ?_)
  · have hc' : x < 3 := by simpa using hc
    have e : _root_.EP.pf x = 2 := if_pos hc'
    rw [e]
    exact s_ret e_int rfl
  have hc' : ¬ x < 3 := by simpa using hc
  have e : _root_.EP.pf x = _root_.EP.pfF 1073741824 (x + 1 - x % 2) := if_neg hc'
  rw [e]
  refine s_asg 0 sc_law_prime_from.nd (e_sub (e_add (e_var 0) e_int) (e_mod (e_var 0) e_int (by decide))) ?_
  rw [Int.fmod_eq_emod_of_nonneg x (by decide)]
  refine s_while (ι := Nat × Int) (fun i Γ => Γ = [some (.val true i.2)] ∧ _root_.EP.pfF i.1 i.2 = _root_.EP.pfF 1073741824 (x + 1 - x % 2) ∧ i.2 ≤ _root_.EP.PB ∧ i.2 % 2 = 1 ∧ _root_.EP.PB - i.2 ≤ 2 * (i.1 : Int) ∧ 3 ≤ i.2) (fun i => i.1) (1073741824, x + 1 - x % 2) ⟨rfl, rfl, by omega, by omega, by omega, by omega⟩ ?_
  rintro ⟨n, y⟩ Γ' ⟨rfl, h1, h2, h3, h4, h5⟩
  dsimp only at *
  refine ⟨_, t_not (t_val (e_call1 c_law_prime (hr.mono (by decide)) rfl (e_var 0) (by omega))), fun hc => ?_, fun hc => ?_⟩
  · have hp : _root_.EP.isP y = false := by simpa using hc
    have hne : y ≠ _root_.EP.PB := by rintro rfl; rw [_root_.EP.PB_prime] at hp; cases hp
    cases n with
    | zero => omega
    | succ n =>
      refine s_asg 0 sc_law_prime_from.nd (e_add (e_var 0) e_int) ?_
      refine s_nil ⟨(n, y + 2), ⟨rfl, ?_, by dsimp only; omega, by dsimp only; omega, by dsimp only; omega, by dsimp only; omega⟩, by dsimp only; omega⟩
      rw [← h1]
      show _ = _root_.EP.pfF (n + 1) y
      unfold _root_.EP.pfF
      rw [if_neg (by rw [hp]; decide)]
      cases n <;> rfl
  · have hp : _root_.EP.isP y = true := by simpa using hc
    have e2 : _root_.EP.pfF n y = y := by
      cases n with
      | zero => rfl
      | succ n => unfold _root_.EP.pfF; rw [if_pos hp]
    rw [← h1, e2]
    exact s_ret (e_var 0) rfl

theorem t_to {X : Cx} {Γ : GEnv} {e : Expr} {c c' : Bool} (h : T X Γ e c) (z : c = c') : T X Γ e c' := z ▸ h
theorem abI (i : Int) : (if i < 0 then -i else i) = (i.natAbs : Int) := by split <;> omega
theorem pfp_of {r : List Int} (h : isRow r = true) : PFp r := ⟨(isRow_len h).2, fun k hk => isRow_mem h hk⟩
section
variable (g_GREAT_PRODUCT_FROM : MgI mg "GREAT_PRODUCT_FROM" 1152921504606846976) (c_refuse_no_row : Cal P w K mg base 4 "refuse_no_row" ["row"] (sp1 K (fun (xs : List Int) => isRow xs = true) true unit1)) (c_free_product : Cal P w K mg base 7 "free_product" ["row"] (sp1 K PFp true fpF))
include B g_GREAT_PRODUCT_FROM c_refuse_no_row c_free_product
theorem b_number_of (r : List Int) (hR : isRow r = true) (hl : (fpF r).natAbs < 1152921504606846976) : Body P w K mg base N_number_of "number_of" s_number_of f 7 [.val false r] (RT true (fpF r)) := by
  intro cdv A outer s H E hr
  refine s_expr (e_call1 c_refuse_no_row (hr.mono (by decide)) rfl (e_var 0) hR) ?_
  refine s_asg 1 sc_number_of.nd (e_call1 c_free_product (hr.mono (by decide)) rfl (e_var 0) (pfp_of hR)) ?_
  refine s_if1 (t_cmp cv_ge (e_abs rfl B.abs (e_var 1)) (e_glI rfl g_GREAT_PRODUCT_FROM)) (fun hc => ?_) (fun _ => ?_)
  · rw [abI] at hc
    have : (1152921504606846976 : Int) ≤ ((fpF r).natAbs : Int) := by simpa using hc
    omega
  · exact s_ret (e_var 1) rfl
variable {cF cT cN cR cS : Addr} (xs : Xs K mg cF cT cN cR cS)
include xs in
theorem b_number_ofR (r : List Int) (hR : isRow r = true) (hl : ¬ (fpF r).natAbs < 1152921504606846976) : BodyR P w K mg base N_number_of "number_of" s_number_of f 7 [.val false r] cT := by
  intro cdv A outer s H E R hr hA
  refine sr_expr (e_call1 c_refuse_no_row (hr.mono (by decide)) rfl (e_var 0) hR) ?_
  refine sr_asg 1 sc_number_of.nd (e_call1 c_free_product (hr.mono (by decide)) rfl (e_var 0) (pfp_of hR)) ?_
  exact sr_ifT (t_to (t_cmp cv_ge (e_abs rfl B.abs (e_var 1)) (e_glI rfl g_GREAT_PRODUCT_FROM)) (by rw [abI]; simp; omega)) (sr_raise (hA _) rfl xs.mT xs.t.rz)
end
def sgN (r : List Int) : Int := ((r.filter fun k => decide (0 < k)).length : Int)
include B in
theorem b_signs_of (c_refuse_no_row : Cal P w K mg base 4 "refuse_no_row" ["row"] (sp1 K (fun (xs : List Int) => isRow xs = true) true unit1)) (r : List Int) (hp : isRow r = true) : Body P w K mg base N_signs_of "signs_of" s_signs_of f 4 [.val false r] (RT true (sgN r)) := by
  intro cdv A outer s H E hr
  have hl := isRow_len hp
  refine s_expr (e_call1 c_refuse_no_row (hr.mono (by decide)) rfl (e_var 0) hp) ?_
  refine s_ret (e_lenL rfl B.len (e_compF (f := fun q : Int => q) (p := fun q => decide (0 < q)) (b' := true) ["k"] [] (cscope (defScope s_signs_of) N_signs_of rfl rfl (by decide +kernel)) (ei_list (e_var 0)) (gp_name 0) (fun C s H fp => pg_cn 0 ["k"]) lt_of_eq (fun i q hi C s H fp => ft_one (t_cmp cv_gt (e_var 0) e_int)) (fun i q hi hp C s H fp => e_up (e_var 0)) (by omega))) ?_
  show Bd.val _ _ = Bd.val _ _
  congr 1
  rw [List.length_map]
  rfl
section
variable {cF cT cN cR cS : Addr} (xs : Xs K mg cF cT cN cR cS)
include B xs
theorem b_law_alone (f : Addr) (cdv : Value) (A : Around) (outer : List Env) (s : Shared) (H : Hp) (a : Addr) (L : Lie (cxH P w K mg base N_law_alone "_law_alone" s_law_alone f cdv A outer s H) a cT) :
    S (cxH P w K mg base N_law_alone "_law_alone" s_law_alone f cdv A outer s H) (gst N_law_alone [.val false (Xn.mk a)]) (defBody s_law_alone) (RT true true) := by
  refine s_asg 1 sc_law_alone.nd (e_lst (ea_cons (e_isX L xs.t.kx xs.t.iT rfl B.isinstance rfl xs.mT (e_var 0)) (ea_cons (e_isX L xs.t.kx xs.t.iN rfl B.isinstance rfl xs.mN (e_var 0)) (ea_cons (e_isX L xs.t.kx xs.t.iR rfl B.isinstance rfl xs.mR (e_var 0)) (ea_cons (e_isX L xs.t.kx xs.t.iS rfl B.isinstance rfl xs.mS (e_var 0)) ea_nil)))) (Nat.le_of_ble_eq_true rfl)) ?_
  refine s_ret (e_and (e_cmp cv_eqI (e_countT (e_var 1)) e_int) fun _ => (e_one (e_isXB L xs.t.kx xs.t.iV rfl B.isinstance rfl xs.mV PyProof.Rows.Boot.«ValueError» (e_var 0)))) ?_
  rfl
noncomputable def tdF (r : List Int) : Option Int := if (fpF r).natAbs < 1152921504606846976 then some (fpF r) else none
theorem b_law_told (c_number_of : Cal P w K mg base 8 "number_of" ["row"] (sp1 K (fun (r : List Int) => isRow r = true ∧ (fpF r).natAbs < 1152921504606846976) true fpF)) (c_number_ofR : CalR P w K mg base 8 "number_of" ["row"] (spR1 K (fun (r : List Int) => isRow r = true ∧ ¬ (fpF r).natAbs < 1152921504606846976) cT)) (c_law_alone : CalH P w K mg base 1 "_law_alone" cT true) (r : List Int) (hR : isRow r = true) : Body P w K mg base N_law_told "_law_told" s_law_told f 8 [.val false r] (RT true (tdF r)) := by
  intro cdv A outer s H E hr
  by_cases h : (fpF r).natAbs < 1152921504606846976
  · have e : tdF r = some (fpF r) := if_pos h
    rw [e]
    exact s_try_ok (s_ret (e_some (e_call1 c_number_of (hr.mono (by decide)) rfl (e_var 0) ⟨hR, h⟩)) rfl)
  · have e : tdF r = none := if_neg h
    rw [e]
    refine s_try_as (C := cT) 1 sc_law_told.nd rfl xs.mF xs.t.xF (fun Y pn R hA => ?_) (fun a vs pn hm => ?_)
    · exact sr_ret (er_call1 c_number_ofR hA (hr.mono (by decide)) rfl (e_var 0) ⟨hR, h⟩)
    · refine s_if1 (TW.t (tw_and (t_val (e_isX (lie_caught hm) xs.t.kx xs.t.iT rfl B.isinstance rfl xs.mT (e_var 1))) fun _ => (tw_and1 (t_val (e_callH c_law_alone hm (hr.mono (by decide)) rfl (e_var 1)))))) (fun _ => ?_) (fun hc => nomatch hc)
      exact s_ret e_non rfl
end
theorem atGetA {α : Type} {l : List α} {i : Int} {d : α} {n : Nat} (h0 : 0 ≤ i) (h1 : i < n) (hl : l.length = n) : atI l i = some (l.getD i.toNat d) := by
  unfold atI ixN
  rw [if_pos h0, if_pos (by omega)]
  show l[i.toNat]? = _
  rw [List.getD_eq_getElem?_getD, List.getElem?_eq_getElem (by omega)]
  rfl
def S10 : List Int := [2, 3, 5, 7, 11, 13, 17, 19, 23, 29]
theorem S10_ok (i : Nat) : isP (S10.getD i 2) = true ∧ S10.getD i 2 ≤ 29 := by
  have two := _root_.EP.isP_two
  match i with
  | 0 => exact ⟨two, by decide⟩
  | 1 => exact ⟨_root_.EP.isP_of (n := 3) (m := 0) (by decide) (by decide) (by decide) (by decide), by decide⟩
  | 2 => exact ⟨_root_.EP.isP_of (n := 5) (m := 0) (by decide) (by decide) (by decide) (by decide), by decide⟩
  | 3 => exact ⟨_root_.EP.isP_of (n := 7) (m := 0) (by decide) (by decide) (by decide) (by decide), by decide⟩
  | 4 => exact ⟨_root_.EP.isP_of (n := 11) (m := 1) (by decide) (by decide) (by decide) (by decide), by decide⟩
  | 5 => exact ⟨_root_.EP.isP_of (n := 13) (m := 5) (by decide) (by decide) (by decide) (by decide), by decide⟩
  | 6 => exact ⟨_root_.EP.isP_of (n := 17) (m := 5) (by decide) (by decide) (by decide) (by decide), by decide⟩
  | 7 => exact ⟨_root_.EP.isP_of (n := 19) (m := 5) (by decide) (by decide) (by decide) (by decide), by decide⟩
  | 8 => exact ⟨_root_.EP.isP_of (n := 23) (m := 5) (by decide) (by decide) (by decide) (by decide), by decide⟩
  | 9 => exact ⟨_root_.EP.isP_of (n := 29) (m := 5) (by decide) (by decide) (by decide) (by decide), by decide⟩
  | _ + 10 => exact ⟨two, by show (2 : Int) ≤ 29; decide⟩
def m6 (c : Int) : Nat → List Int × Int
  | 0 => ([], c)
  | i + 1 => ((m6 c i).1 ++ [S10.getD ((m6 c i).2.fmod 10).toNat 2], (m6 c i).2.fdiv 10)
def Ps (ps : List Int) : Prop := ∀ p ∈ ps, isP p = true ∧ p ≤ 1070000011
theorem m6_ok (c : Int) : ∀ i, (m6 c i).1.length = i ∧ Ps (m6 c i).1
  | 0 => ⟨rfl, fun p h => by cases h⟩
  | i + 1 => by
    obtain ⟨a, b⟩ := m6_ok c i
    refine ⟨by simp [m6, a], fun p hp => ?_⟩
    rcases List.mem_append.mp hp with hp | hp
    · exact b p hp
    · rw [List.mem_singleton.mp hp]
      obtain ⟨z1, z2⟩ := S10_ok ((m6 c i).2.fmod 10).toNat
      exact ⟨z1, by omega⟩
noncomputable def moF (w : Bool) (k c : Int) (b : List Int) : List Int := if (w && (decide (k < 3) && decide (c.fmod 2 = 1))) = true then [_root_.EP.pf ((c.fdiv 2).fmod 30000), _root_.EP.pf ((c.fdiv 60000).fmod 30000)] else b
theorem pfw_ok {c : Int} (h0 : 0 ≤ c) (h : c < 40770) : c ≤ _root_.EP.PB ∧ isP (_root_.EP.pf c) = true ∧ _root_.EP.pf c ≤ 40771 := by
  have hb : c ≤ _root_.EP.PB := by unfold _root_.EP.PB; omega
  refine ⟨hb, _root_.EP.pf_prime hb, ?_⟩
  by_cases h3 : 3 ≤ c
  · exact _root_.EP.pf_le_of (_root_.EP.isP_of (n := 40771) (m := 101) (by decide +kernel) (by decide) (by decide) (by decide)) (by omega) (by decide) (by decide) h3
  · have : _root_.EP.pf c = 2 := by unfold _root_.EP.pf; rw [if_pos (by omega)]
    rw [this]; decide
theorem moF_ok {w : Bool} {k c : Int} {b : List Int} (hb : Ps b) (hl : b.length ≤ 6) : Ps (moF w k c b) ∧ (moF w k c b).length ≤ 6 := by
  have z1 := fmod_pos (a := c.fdiv 2) (b := 30000) (by decide)
  have z2 := fmod_pos (a := c.fdiv 60000) (b := 30000) (by decide)
  unfold moF
  split
  · refine ⟨fun p hp => ?_, by show 2 ≤ 6; decide⟩
    simp only [List.mem_cons, List.not_mem_nil, or_false] at hp
    rcases hp with rfl | rfl
    · obtain ⟨_, a, b⟩ := pfw_ok z1.1 (by omega)
      exact ⟨a, by omega⟩
    · obtain ⟨_, a, b⟩ := pfw_ok z2.1 (by omega)
      exact ⟨a, by omega⟩
  · exact ⟨hb, hl⟩
def inS (u : Int × Dc Int) (p : Int) : Int × Dc Int := if u.1 * p < 1073741824 then (u.1 * p, inc u.2 p) else u
structure InOk (d0 : Dc Int) (u : Int × Dc Int) (i : Nat) : Prop where
  n0 : 0 < u.1
  n1 : u.1 < 1073741824
  ok : DOk u.2.l
  cn : cnD u.2.l = cnD d0.l * u.1
  ln : u.2.l.length ≤ d0.l.length + i
theorem InOk.step {d0 : Dc Int} {u : Int × Dc Int} {i : Nat} (h : InOk d0 u i) {p : Int} (hp : isP p = true) (hb : p < 2147483648) : InOk d0 (inS u p) (i + 1) := by
  unfold inS
  have p2 := _root_.EP.isP_ge hp
  split
  · rename_i hl
    obtain ⟨a, b, c⟩ := inc_ok h.ok hp hb
    exact ⟨Int.mul_pos h.n0 (by omega), hl, a, by show cnD (inc u.2 p).l = cnD d0.l * (u.1 * p); rw [b, h.cn, Int.mul_assoc], by have := h.ln; show (inc u.2 p).l.length ≤ _; omega⟩
  · exact ⟨h.n0, h.n1, h.ok, h.cn, by have := h.ln; omega⟩
theorem in_ok {d0 : Dc Int} (hd : DOk d0.l) {ps : List Int} (hp : Ps ps) : ∀ i, i ≤ ps.length → InOk d0 ((ps.take i).foldl inS (1, d0)) i
  | 0, _ => ⟨by show (0 : Int) < 1; decide, by show (1 : Int) < 1073741824; decide, hd, by show cnD d0.l = cnD d0.l * 1; omega, Nat.le_refl _⟩
  | i + 1, hi => by
    have ih := in_ok hd hp i (by omega)
    have hg : ps[i]? = some ps[i] := List.getElem?_eq_getElem (by omega)
    have e : (ps.take (i + 1)).foldl inS (1, d0) = inS ((ps.take i).foldl inS (1, d0)) ps[i] := take_fold hg
    rw [e]
    exact ih.step (hp _ (List.mem_of_getElem? hg)).1 (by have := (hp _ (List.mem_of_getElem? hg)).2; omega)
noncomputable def kC (w : Bool) (k c : Int) : List Int := (moF w k (m6 c 6).2 (m6 c 6).1).take (1 + ((m6 c 6).2.fdiv 2).fmod 6).toNat
noncomputable def knL (c : Int) (w : Bool) : Nat → Int × (List Int × Dc Int)
  | 0 => (c, ([], ⟨[]⟩))
  | k + 1 => ((((m6 (knL c w k).1 6).2.fdiv 2).fdiv 6).fdiv 2, ((knL c w k).2.1 ++ [((kC w k (knL c w k).1).foldl inS (1, (knL c w k).2.2)).1 * (1 - 2 * (((m6 (knL c w k).1 6).2.fdiv 2).fdiv 6).fmod 2)], ((kC w k (knL c w k).1).foldl inS (1, (knL c w k).2.2)).2))
noncomputable def knF (c n : Int) (w : Bool) : List Int × Dc Int := (knL c w n.toNat).2
theorem kC_ok (w : Bool) (k c : Int) : Ps (kC w k c) ∧ (kC w k c).length ≤ 6 := by
  obtain ⟨a, b⟩ := m6_ok c 6
  obtain ⟨x, y⟩ := moF_ok (w := w) (k := k) (c := (m6 c 6).2) b (by omega)
  unfold kC
  exact ⟨fun p hp => x p (List.mem_of_mem_take hp), by rw [List.length_take]; omega⟩
theorem kn_ok (c : Int) (w : Bool) : ∀ k, Kn (knL c w k).2.1 (knL c w k).2.2 ∧ (knL c w k).2.1.length = k ∧ (knL c w k).2.2.l.length ≤ 6 * k
  | 0 => ⟨⟨fun x h => (by cases h), ⟨List.nodup_nil, fun u h => (by cases h), fun u h => (by cases h)⟩, rfl⟩, rfl, Nat.le_refl _⟩
  | k + 1 => by
    obtain ⟨h, l, m⟩ := kn_ok c w k
    obtain ⟨p1, p2⟩ := kC_ok w k (knL c w k).1
    have hi := in_ok h.kd p1 _ (Nat.le_refl _)
    rw [List.take_length] at hi
    have z := fmod_pos (a := ((m6 (knL c w k).1 6).2.fdiv 2).fdiv 6) (b := 2) (by decide)
    have sg : ((1 - 2 * (((m6 (knL c w k).1 6).2.fdiv 2).fdiv 6).fmod 2).natAbs : Int) = 1 := by omega
    have hn : ∀ N : Int, 0 < N → N < 1073741824 → (N * (1 - 2 * (((m6 (knL c w k).1 6).2.fdiv 2).fdiv 6).fmod 2)).natAbs = N.natAbs := fun N _ _ => by rw [Int.natAbs_mul, show (1 - 2 * (((m6 (knL c w k).1 6).2.fdiv 2).fdiv 6).fmod 2).natAbs = 1 by omega, Nat.mul_one]
    refine ⟨⟨fun x hx => ?_, hi.ok, ?_⟩, by simp [knL, l], ?_⟩
    · rcases List.mem_append.mp hx with hx | hx
      · exact h.kr x hx
      · rw [List.mem_singleton.mp hx]
        have := hn _ hi.n0 hi.n1
        have := hi.n0
        have := hi.n1
        exact ⟨Int.mul_ne_zero (by omega) (by omega), by omega⟩
    · show ((prdL ((knL c w k).2.1 ++ [_])).natAbs : Int) = cnD _
      rw [prd_app, Int.natAbs_mul, Int.natCast_mul, h.ke]
      show cnD _ * (((_ * 1 : Int)).natAbs : Int) = cnD _
      have ed : (knL c w (k + 1)).2.2 = ((kC w k (knL c w k).1).foldl inS (1, (knL c w k).2.2)).2 := rfl
      rw [Int.mul_one, hn _ hi.n0 hi.n1, ed, hi.cn]
      have := hi.n0
      congr 1
      omega
    · show ((kC w k (knL c w k).1).foldl inS (1, (knL c w k).2.2)).2.l.length ≤ _
      have := hi.ln
      omega
set_option maxHeartbeats 2000000 in
include B in
theorem b_law_known (c_law_prime_from : Cal P w K mg base 2 "_law_prime_from" ["_law_k"] (sp1 K (fun k => k ≤ _root_.EP.PB) true _root_.EP.pf)) (c n : Int) (wd : Bool) (h0 : 0 ≤ n) (h8 : n ≤ 8) : Body P w K mg base N_law_known "_law_known" s_law_known f 2 [.val false c, .val false n, .val false wd] (RT true (knF c n wd)) := by
  intro cdv A outer s H E hr
  refine s_own 3 Int sc_law_known.nd ?_
  refine s_deep 4 sc_law_known.nd (en_dnew (β := Int)) ?_
  refine s_forRange (n := n) (fun k Γ => ∃ b r5 r6 r7 r8 r9 r10, Γ = [some (.val b (knL c wd k).1), some (.val false n), some (.val false wd), some (.own true (knL c wd k).2.1), some (.dpo (knL c wd k).2.2), r5, r6, r7, r8, r9, r10]) rfl B.range (g_name 5 sc_law_known.nd) (e_var 1) (by omega) (by omega) ⟨_, none, none, none, none, none, none, rfl⟩ ?_ ?_
  · rintro k Γ' hk ⟨b, r5, r6, r7, r8, r9, r10, rfl⟩
    have hk8 : k < 8 := by omega
    obtain ⟨hK, lR, lD⟩ := kn_ok c wd k
    have es : knL c wd (k + 1) = ((((m6 (knL c wd k).1 6).2.fdiv 2).fdiv 6).fdiv 2, ((knL c wd k).2.1 ++ [((kC wd k (knL c wd k).1).foldl inS (1, (knL c wd k).2.2)).1 * (1 - 2 * (((m6 (knL c wd k).1 6).2.fdiv 2).fdiv 6).fmod 2)], ((kC wd k (knL c wd k).1).foldl inS (1, (knL c wd k).2.2)).2)) := rfl
    rw [es]
    generalize knL c wd k = q at *
    obtain ⟨c0, row, d0⟩ := q
    have hK' : Kn row d0 := hK
    have lR' : row.length = k := lR
    have lD' : d0.l.length ≤ 6 * k := lD
    dsimp only
    refine s_asg 6 sc_law_known.nd e_int ?_
    refine s_asg 7 sc_law_known.nd (e_lst (b := true) (as := S10) (ea_cons e_int (ea_cons e_int (ea_cons e_int (ea_cons e_int (ea_cons e_int (ea_cons e_int (ea_cons e_int (ea_cons e_int (ea_cons e_int (ea_cons e_int ea_nil)))))))))) (Nat.le_of_ble_eq_true rfl)) ?_
    refine s_own 8 Int sc_law_known.nd ?_
    refine s_forRange (n := 6) (fun t Γ => ∃ b r9, Γ = [some (.val b (m6 c0 t).2), some (.val false n), some (.val false wd), some (.own true row), some (.dpo d0), some (.val true (k : Int)), some (.val true (1 : Int)), some (.val true S10), some (.own true (m6 c0 t).1), r9, r10]) rfl B.range (g_name 9 sc_law_known.nd) e_int (by decide) (by decide) ⟨_, _, rfl⟩ ?_ ?_
    · rintro t Γ' ht ⟨b, r9, rfl⟩
      have z := fmod_pos (a := (m6 c0 t).2) (b := 10) (by decide)
      have ht6 : t < 6 := ht
      obtain ⟨lm, _⟩ := m6_ok c0 t
      refine s_append 8 (a := S10.getD ((m6 c0 t).2.fmod 10).toNat 2) rfl (e_ixL (e_var 7) (e_mod (e_var 0) e_int (by decide)) (atGetA (d := 2) (n := 10) (by omega) (by omega) rfl)) (by omega) ?_
      refine s_asg 0 sc_law_known.nd (e_fdiv (e_var 0) e_int cdK) ?_
      exact s_nil ⟨_, _, rfl⟩
    · rintro Γ' ⟨b, r9, rfl⟩
      show S _ [some (.val b (m6 c0 6).2), some (.val false n), some (.val false wd), some (.own true row), some (.dpo d0), some (.val true (k : Int)), some (.val true (1 : Int)), some (.val true S10), some (.own true (m6 c0 6).1), r9, r10] _ _
      obtain ⟨l6, _⟩ := m6_ok c0 6
      obtain ⟨kc1, kc2⟩ := kC_ok wd k c0
      have z1 := fmod_pos (a := (m6 c0 6).2.fdiv 2) (b := 30000) (by decide)
      have z2 := fmod_pos (a := (m6 c0 6).2.fdiv 60000) (b := 30000) (by decide)
      refine s_freeze 8 rfl ?_
      refine s_ifJ (fun Γ => Γ = [some (.val b (m6 c0 6).2), some (.val false n), some (.val false wd), some (.own true row), some (.dpo d0), some (.val true (k : Int)), some (.val true (1 : Int)), some (.val true S10), some (.val true (moF wd k (m6 c0 6).2 (m6 c0 6).1)), r9, r10]) (TW.t (tw_and (t_val (e_var (a := wd) 2)) fun _ => (tw_and (t_cmp cv_lt (e_var 5) e_int) fun _ => (tw_and1 (t_cmp cv_eqI (e_mod (e_var 0) e_int (by decide)) e_int))))) (fun hc => ?_) (fun hc => ?_) ?_
      · have e : moF wd k (m6 c0 6).2 (m6 c0 6).1 = [_root_.EP.pf (((m6 c0 6).2.fdiv 2).fmod 30000), _root_.EP.pf (((m6 c0 6).2.fdiv 60000).fmod 30000)] := if_pos hc
        rw [e]
        refine s_asg 8 sc_law_known.nd (e_lst (b := true) (ea_cons (e_call1 c_law_prime_from (hr.mono (by decide)) rfl (e_mod (e_fdiv (e_var 0) e_int cdK) e_int (by decide)) (pfw_ok z1.1 (by omega)).1) (ea_cons (e_call1 c_law_prime_from (hr.mono (by decide)) rfl (e_mod (e_fdiv (e_var 0) e_int cdK) e_int (by decide)) (pfw_ok z2.1 (by omega)).1) ea_nil)) (Nat.le_of_ble_eq_true rfl)) ?_
        exact s_nil rfl
      · have e : moF wd k (m6 c0 6).2 (m6 c0 6).1 = (m6 c0 6).1 := if_neg (by rw [hc]; decide)
        rw [e]
        exact s_nil rfl
      rintro Γ' rfl
      refine s_asg 0 sc_law_known.nd (e_fdiv (e_var 0) e_int cdK) ?_
      have z6 := fmod_pos (a := (m6 c0 6).2.fdiv 2) (b := 6) (by decide)
      refine s_forL (xs := kC wd k c0) (b := true) (fun i Γ => ∃ r10, Γ = [some (.val true ((m6 c0 6).2.fdiv 2)), some (.val false n), some (.val false wd), some (.own true row), some (.dpo (((kC wd k c0).take i).foldl inS (1, d0)).2), some (.val true (k : Int)), some (.val true (((kC wd k c0).take i).foldl inS (1, d0)).1), some (.val true S10), some (.val true (moF wd k (m6 c0 6).2 (m6 c0 6).1)), r9, r10]) (g_name 10 sc_law_known.nd) (e_to (e_var 8) (e_add e_int (e_mod (e_var 0) e_int (by decide))) (by omega)) ⟨_, rfl⟩ ?_ ?_
      · rintro i p Γ' hp ⟨r10, rfl⟩
        have hi : i < (kC wd k c0).length := (List.getElem?_eq_some_iff.mp hp).1
        have hI := in_ok hK'.kd kc1 i (by omega)
        obtain ⟨pp, pl⟩ := kc1 p (List.mem_of_getElem? hp)
        have p2 := _root_.EP.isP_ge pp
        have e : ((kC wd k c0).take (i + 1)).foldl inS (1, d0) = inS (((kC wd k c0).take i).foldl inS (1, d0)) p := take_fold hp
        rw [e]
        generalize ((kC wd k c0).take i).foldl inS (1, d0) = u at *
        obtain ⟨nn, dd⟩ := u
        have i0 : 0 < nn := hI.n0
        have i1 : nn < 1073741824 := hI.n1
        have il : dd.l.length ≤ d0.l.length + i := hI.ln
        dsimp only
        have mo : IntMulOk nn p := mulL (by omega) (by omega)
        refine s_if1 (t_cmp cv_lt (e_mul (e_var 6) (e_var 10) mo) e_int) (fun hc => ?_) (fun hc => ?_)
        · have hc' : nn * p < 1073741824 := by simpa using hc
          have ei : inS (nn, dd) p = (nn * p, inc dd p) := if_pos hc'
          rw [ei]
          refine s_asg 6 sc_law_known.nd (e_mul (e_var 6) (e_var 10) mo) ?_
          refine s_dput 4 (d := dd) (k := p) (c := (dd.val p).getD 0 + 1) (hu60 hr) rfl (e_var 10) (e_add (e_dgetO 4 (d := dd) (hu60 hr) rfl (e_var 10) e_int) e_int) (by omega) (s_nil ?_)
          exact s_nil ⟨_, rfl⟩
        · have hc' : ¬ nn * p < 1073741824 := by simpa using hc
          have ei : inS (nn, dd) p = (nn, dd) := if_neg hc'
          rw [ei]
          exact s_nil ⟨_, rfl⟩
      · rintro Γ' ⟨r10, rfl⟩
        rw [List.take_length]
        have zz := fmod_pos (a := ((m6 c0 6).2.fdiv 2).fdiv 6) (b := 2) (by decide)
        refine s_asg 0 sc_law_known.nd (e_fdiv (e_var 0) e_int cdK) ?_
        refine s_append 3 (a := ((kC wd k c0).foldl inS (1, d0)).1 * (1 - 2 * (((m6 c0 6).2.fdiv 2).fdiv 6).fmod 2)) rfl (e_mul (e_var 6) (e_sub e_int (e_mul e_int (e_mod (e_var 0) e_int (by decide)) (mulL (by decide) (by decide)))) (mulR (by omega) (by omega))) (by omega) ?_
        refine s_asg 0 sc_law_known.nd (e_fdiv (e_var 0) e_int cdK) ?_
        exact s_nil ⟨_, _, _, _, _, _, _, rfl⟩
  · rintro Γ' ⟨b, r5, r6, r7, r8, r9, r10, rfl⟩
    refine s_freeze 3 rfl ?_
    refine s_thaw 4 rfl ?_
    refine s_ret (e_tup2 (e_var 3) (e_var 4)) ?_
    rfl
theorem e_atL {X : Cx} {Γ : GEnv} {e : Expr} {b : Bool} {u : AtL} (h : E X Γ e b u) : E X Γ e b u.l := e_rp h fun _ _ _ r => r.2
noncomputable def g1 (c : Int) : Int := _root_.EP.pf (32769 + c.fmod 8000)
noncomputable def g2 (c : Int) : Int := _root_.EP.pf (g1 c + 1)
noncomputable def gP (c : Int) (k : Nat) : Int := [g1 c, g2 c, g1 c, 1].getD (((c.fdiv 8000).fdiv ((k : Int) + 1)).fmod 4).toNat 1
theorem g_ok (c : Int) : (32769 + c.fmod 8000 ≤ _root_.EP.PB ∧ g1 c + 1 ≤ _root_.EP.PB) ∧ (isP (g1 c) = true ∧ g1 c ≤ 40771) ∧ (isP (g2 c) = true ∧ g2 c ≤ 1070000011) := by
  have z := fmod_pos (a := c) (b := 8000) (by decide)
  obtain ⟨a, b, d⟩ := pfw_ok (c := 32769 + c.fmod 8000) (by omega) (by omega)
  have d' : g1 c ≤ 40771 := d
  have hb : g1 c + 1 ≤ _root_.EP.PB := by unfold _root_.EP.PB; omega
  exact ⟨⟨a, hb⟩, ⟨b, d⟩, _root_.EP.pf_prime hb, _root_.EP.pf_le hb⟩
theorem gP_ok (c : Int) (k : Nat) : gP c k = 1 ∨ (isP (gP c k) = true ∧ gP c k ≤ 1070000011) := by
  obtain ⟨_, ⟨a, b⟩, d⟩ := g_ok c
  unfold gP
  match (((c.fdiv 8000).fdiv ((k : Int) + 1)).fmod 4).toNat with
  | 0 => exact .inr ⟨a, by show g1 c ≤ _; omega⟩
  | 1 => exact .inr d
  | 2 => exact .inr ⟨a, by show g1 c ≤ _; omega⟩
  | 3 => exact .inl rfl
  | _ + 4 => exact .inl rfl
noncomputable def gtS (c : Int) (u : List Int × Dc Int) (k : Nat) : List Int × Dc Int := if 1 < gP c k ∧ ((u.1.getD k 0).natAbs : Int) * gP c k < 1073741824 then (u.1.set k (u.1.getD k 0 * gP c k), inc u.2 (gP c k)) else u
noncomputable def gtL (l : List Int) (d : Dc Int) (c : Int) : Nat → List Int × Dc Int
  | 0 => (l, d)
  | k + 1 => gtS c (gtL l d c k) k
noncomputable def gtF (l : List Int) (d : Dc Int) (c : Int) : List Int × Dc Int := gtL l d c l.length
def PGt (l : List Int) (d : Dc Int) (_ : Int) : Prop := l.length ≤ 8 ∧ Kn l d ∧ d.l.length ≤ 100
theorem gt_ok {l : List Int} {d : Dc Int} (c : Int) (h : PGt l d c) : ∀ k, k ≤ l.length → Kn (gtL l d c k).1 (gtL l d c k).2 ∧ (gtL l d c k).1.length = l.length ∧ (gtL l d c k).2.l.length ≤ 100 + k
  | 0, _ => ⟨h.2.1, rfl, h.2.2⟩
  | k + 1, hk => by
    obtain ⟨a, b, e⟩ := gt_ok c h k (by omega)
    show Kn (gtS c (gtL l d c k) k).1 (gtS c (gtL l d c k) k).2 ∧ (gtS c (gtL l d c k) k).1.length = _ ∧ (gtS c (gtL l d c k) k).2.l.length ≤ _
    unfold gtS
    split
    · rename_i hc
      rcases gP_ok c k with w | ⟨w1, w2⟩
      · omega
      · have hn : ((gtL l d c k).1.getD k 0 * gP c k).natAbs < 1073741824 := by
          rw [Int.natAbs_mul]
          have e1 : (gP c k : Int) = ((gP c k).natAbs : Int) := by omega
          have h2 := hc.2
          rw [e1, ← Int.natCast_mul] at h2
          omega
        obtain ⟨_, _, i3⟩ := inc_ok a.kd w1 (by omega)
        exact ⟨a.more (by omega) w1 (by omega) hn, by show (List.set _ _ _).length = _; rw [List.length_set]; exact b, by show (inc _ _).l.length ≤ _; omega⟩
    · exact ⟨a, b, by omega⟩
set_option maxHeartbeats 2000000 in
include B in
theorem b_law_greater (c_law_prime_from : Cal P w K mg base 2 "_law_prime_from" ["_law_k"] (sp1 K (fun k => k ≤ _root_.EP.PB) true _root_.EP.pf)) (p q : Addr) (l : List Int) (d : Dc Int) (c : Int) (hp : PGt l d c) : Body P w K mg base N_law_greater "_law_greater" s_law_greater f 2 [.dpo (AtL.mk p l), .dpo (AtD.mk q d), .val false c] (RTM p q (gtF l d c)) := by
  intro cdv A outer s H E hr
  obtain ⟨⟨gb1, gb2⟩, ⟨gp1, gl1⟩, gp2, gl2⟩ := g_ok c
  have l8 := hp.1
  refine s_asg 3 sc_law_greater.nd (e_call1 c_law_prime_from (hr.mono (by decide)) rfl (e_add e_int (e_mod (e_var 2) e_int (by decide))) gb1) ?_
  refine s_asg 4 sc_law_greater.nd (e_call1 c_law_prime_from (hr.mono (by decide)) rfl (e_add (e_var 3) e_int) gb2) ?_
  refine s_forRange (n := (l.length : Int)) (fun k Γ => ∃ r5 r6, Γ = [some (.dpo (AtL.mk p (gtL l d c k).1)), some (.dpo (AtD.mk q (gtL l d c k).2)), some (.val false c), some (.val true (g1 c)), some (.val true (g2 c)), r5, r6]) rfl B.range (g_name 5 sc_law_greater.nd) (e_borrowT 0 rfl (e_lenL rfl B.len (e_atL (u := AtL.mk p l) (e_var 0)))) (by omega) (by omega) ⟨none, none, rfl⟩ ?_ ?_
  · rintro k Γ' hk ⟨r5, r6, rfl⟩
    have hk' : k < l.length := by omega
    obtain ⟨hK, hL, hD⟩ := gt_ok c hp k (by omega)
    have es : gtL l d c (k + 1) = gtS c (gtL l d c k) k := rfl
    rw [es]
    generalize gtL l d c k = u at *
    obtain ⟨lk, dk⟩ := u
    have hL' : lk.length = l.length := hL
    have hD' : dk.l.length ≤ 100 + k := hD
    have hK' : Kn lk dk := hK
    have hx := hK'.kr _ (_root_.EP.getD_mem (l := lk) (d := 0) (i := k) (by omega))
    have z4 := fmod_pos (a := (c.fdiv 8000).fdiv ((k : Int) + 1)) (b := 4) (by decide)
    have hat : atI lk (k : Int) = some (lk.getD k 0) := by
      have := atGetA (l := lk) (i := (k : Int)) (d := 0) (n := lk.length) (by omega) (by omega) rfl
      rw [Int.toNat_natCast] at this
      exact this
    dsimp only
    refine s_asg 6 sc_law_greater.nd (e_ixL (e_lst (b := true) (as := [g1 c, g2 c, g1 c, 1]) (ea_cons (e_var 3) (ea_cons (e_var 4) (ea_cons (e_var 3) (ea_cons e_int ea_nil)))) (Nat.le_of_ble_eq_true rfl)) (e_mod (e_fdiv (e_fdiv (e_var 2) e_int cdK) (e_add (e_var 5) e_int) ((show Sm 20 ((k : Int) + 1) by unfold Sm; omega).div (by omega))) e_int (by decide)) (atGetA (d := 1) (n := 4) (by omega) (by omega) rfl)) ?_
    show S _ [some (.dpo (AtL.mk p lk)), some (.dpo (AtD.mk q dk)), some (.val false c), some (.val true (g1 c)), some (.val true (g2 c)), some (.val true (k : Int)), some (.val true (gP c k))] _ _
    have hg := gP_ok c k
    have hgb : -(2 ^ 64) < gP c k ∧ gP c k < 2 ^ 64 := by
      rcases hg with w | ⟨w1, w2⟩
      · omega
      · have := _root_.EP.isP_ge w1
        omega
    refine s_if1 (c := decide (1 < gP c k ∧ ((lk.getD k 0).natAbs : Int) * gP c k < 1073741824)) (t_to (TW.t (tw_and (t_cmp cv_gt (e_var 6) e_int) fun _ => (tw_and1 (t_cmp cv_lt (e_mul (e_borrowT 0 rfl (e_abs rfl B.abs (e_ixL (e_atL (u := AtL.mk p lk) (e_var 0)) (e_var 5) hat))) (e_var 6) (mulR hgb.1 hgb.2)) e_int)))) (by rw [abI, Bool.decide_and])) (fun hc => ?_) (fun hc => ?_)
    · have hc' : 1 < gP c k ∧ ((lk.getD k 0).natAbs : Int) * gP c k < 1073741824 := of_decide_eq_true hc
      have e : gtS c (lk, dk) k = (lk.set k (lk.getD k 0 * gP c k), inc dk (gP c k)) := if_pos hc'
      rw [e]
      refine s_setAt 0 (u0 := AtL.mk p lk) (c := lk.getD k 0 * gP c k) rfl (e_var 5) (e_borrowT 0 rfl (e_mul (e_ixL (e_atL (u := AtL.mk p lk) (e_var 0)) (e_var 5) hat) (e_var 6) (mulR hgb.1 hgb.2))) (by omega) (by show (k : Int) < lk.length; omega) ?_
      refine s_dputAt 1 (u0 := AtD.mk q dk) (k := gP c k) (c := (dk.val (gP c k)).getD 0 + 1) (hu60 hr) rfl (e_var 6) (e_add (e_dgetAt 1 (u0 := AtD.mk q dk) (hu60 hr) rfl (e_var 6) e_int) e_int) (by show dk.l.length ≤ 1000; omega) (s_nil ?_)
      exact s_nil ⟨some (.val true (k : Int)), some (.val true (gP c k)), by rw [Int.toNat_natCast]; rfl⟩
    · have hc' : ¬ (1 < gP c k ∧ ((lk.getD k 0).natAbs : Int) * gP c k < 1073741824) := of_decide_eq_false hc
      have e : gtS c (lk, dk) k = (lk, dk) := if_neg hc'
      rw [e]
      exact s_nil ⟨_, _, rfl⟩
  · rintro Γ' ⟨r5, r6, rfl⟩
    rw [Int.toNat_natCast]
    exact s_nil ⟨rfl, rfl⟩
set_option maxHeartbeats 1000000 in
theorem b_law_due (r : List Int) (d : Dc Int) (h8 : r.length ≤ 8) (hK : Kn r d) (hl : d.l.length ≤ 900) : Body P w K mg base N_law_due "_law_due" s_law_due f kk [.val false r, .val false d] (RT true (duF r d)) := by
  intro cdv A outer s H E hr
  refine s_asg 2 sc_law_due.nd e_int ?_
  refine s_forL (b := false) (fun i Γ => ∃ r3, Γ = [some (.val false r), some (.val false d), some (.val true ((r.take i).foldl sgS 1)), r3, none]) (g_name 3 sc_law_due.nd) (e_var 0) ⟨none, rfl⟩ ?_ ?_
  · rintro i x Γ' hx ⟨r3, rfl⟩
    have e : (r.take (i + 1)).foldl sgS 1 = sgS ((r.take i).foldl sgS 1) x := take_fold hx
    rw [e]
    refine s_if1 (t_cmp cv_lt (e_var 3) e_int) (fun hc => ?_) (fun hc => ?_)
    · have e2 : sgS ((r.take i).foldl sgS 1) x = 0 - (r.take i).foldl sgS 1 := if_pos (by simpa using hc)
      rw [e2]
      refine s_asg 2 sc_law_due.nd (e_sub e_int (e_var 2)) (s_nil ?_)
      exact s_nil ⟨_, rfl⟩
    · have e2 : sgS ((r.take i).foldl sgS 1) x = (r.take i).foldl sgS 1 := if_neg (by simpa using hc)
      rw [e2]
      exact s_nil ⟨_, rfl⟩
  · rintro Γ' ⟨r3, rfl⟩
    rw [List.take_length]
    have s0 := sg_take r r.length
    rw [List.take_length] at s0
    have sz : ∀ i, i ≤ d.l.length → Sm (1 + 31 * i) ((d.l.take i).foldl odS (r.foldl sgS 1)) := fun i => by
      induction i with
      | zero => intro _; show (r.foldl sgS 1).natAbs < 2 ^ 1; omega
      | succ i ih =>
        intro hi
        have hg : d.l[i]? = some d.l[i] := List.getElem?_eq_getElem (by omega)
        have e : (d.l.take (i + 1)).foldl odS (r.foldl sgS 1) = odS ((d.l.take i).foldl odS (r.foldl sgS 1)) d.l[i] := take_fold hg
        have hb := hK.kd.bd _ (List.mem_of_getElem? hg)
        have hp := _root_.EP.isP_ge (hK.kd.pr _ (List.mem_of_getElem? hg)).1
        rw [e]
        unfold odS
        split
        · exact ((ih (by omega)).mul (show Sm 31 _ by unfold Sm; omega)).le (by omega)
        · exact (ih (by omega)).le (by omega)
    refine s_forD (d := d) (fun i Γ => ∃ b r3 r4, Γ = [some (.val false r), some (.val false d), some (.val b ((d.l.take i).foldl odS (r.foldl sgS 1))), r3, r4]) (g_name 4 sc_law_due.nd) (e_var 1) ⟨_, _, _, rfl⟩ ?_ ?_
    · rintro i k Γ' hk ⟨b, r3, r4, rfl⟩
      rw [List.getElem?_map, Option.map_eq_some_iff] at hk
      obtain ⟨u, hu, rfl⟩ := hk
      have hi : i < d.l.length := (List.getElem?_eq_some_iff.mp hu).1
      have hv : d.val u.1 = some u.2 := val_at hK.kd.nd hu
      have e : (d.l.take (i + 1)).foldl odS (r.foldl sgS 1) = odS ((d.l.take i).foldl odS (r.foldl sgS 1)) u := take_fold hu
      have hb := hK.kd.bd _ (List.mem_of_getElem? hu)
      have hp := _root_.EP.isP_ge (hK.kd.pr _ (List.mem_of_getElem? hu)).1
      rw [e]
      refine s_if1 (t_cmp cv_eqI (e_mod (e_dget (hu60 hr) (e_var 1) (e_var 4) hv) e_int (by decide)) e_int) (fun hc => ?_) (fun hc => ?_)
      · have e2 : odS ((d.l.take i).foldl odS (r.foldl sgS 1)) u = (d.l.take i).foldl odS (r.foldl sgS 1) * u.1 := if_pos (by simpa using hc)
        rw [e2]
        refine s_asg 2 sc_law_due.nd (e_mul (e_var 2) (e_var 4) (mulR (by omega) (by omega))) (s_nil ?_)
        exact s_nil ⟨_, _, _, rfl⟩
      · have e2 : odS ((d.l.take i).foldl odS (r.foldl sgS 1)) u = (d.l.take i).foldl odS (r.foldl sgS 1) := if_neg (by simpa using hc)
        rw [e2]
        exact s_nil ⟨_, _, _, rfl⟩
    · rintro Γ' ⟨b, r3, r4, rfl⟩
      rw [List.take_length]
      exact s_ret (e_up (b' := true) (e_var 2)) rfl
theorem rs_2z {n : Int} {i : Nat} {m : Int} (hn : n ≤ m) (h : i < (Builtin.Range.rangeSize 0 n 2).toNat) : (0 : Int) + (i : Int) * 2 < m := by
  unfold Builtin.Range.rangeSize at h
  simp at h
  split at h <;> omega
set_option maxHeartbeats 2000000 in
include B in
theorem b_law (c_law_deep : Cal P w K mg base 1 "_law_deep" ["_law_script", "_law_k"] (sp2 K (fun _ k => 0 ≤ k ∧ k ≤ 100) true deep)) (c_law_whole : Cal P w K mg base 1 "_law_whole" ["_law_found"] (sp1 K (fun (_ : Int) => True) true fun _ => true)) (c_law_known : Cal P w K mg base 3 "_law_known" ["_law_cell", "_law_size", "_law_wide"] (sp3 K (fun (_ n : Int) (_ : Bool) => 0 ≤ n ∧ n ≤ 8) true knF)) (c_law_greater : Cal P w K mg base 3 "_law_greater" ["_law_row", "_law_primes", "_law_cell"] (spM K PGt gtF))
    (c_law_due : Cal P w K mg base 1 "_law_due" ["_law_row", "_law_primes"] (sp2 K (fun (r : List Int) (d : Dc Int) => r.length ≤ 8 ∧ Kn r d ∧ d.l.length ≤ 900) true duF)) (c_law_told : Cal P w K mg base 9 "_law_told" ["_law_row"] (sp1 K (fun (r : List Int) => isRow r = true) true tdF)) (c_signs_of : Cal P w K mg base 5 "signs_of" ["row"] (sp1 K (fun (r : List Int) => isRow r = true) true sgN)) (xs : List Int) (hl : xs.length ≤ 63) :
    Body P w K mg base N_law "law" s_law f 9 [.val false xs] (RT true true) := by
  intro cdv A outer s H E hr
  have hl' : (if (xs.length : Int) < 12 then (xs.length : Int) else 12) ≤ 12 ∧ 0 ≤ (if (xs.length : Int) < 12 then (xs.length : Int) else 12) := by split <;> omega
  refine s_forRange3 (fun i Γ => ∃ r1 r2 r3 r4 r5 r6 r7, Γ = [some (.val false xs), r1, r2, r3, r4, r5, r6, r7]) rfl B.range (g_name 1 sc_law.nd) e_int (e_add (e_min rfl rfl B.min e_int (e_lenL rfl B.len (e_var 0))) e_int) e_int ⟨by decide, by decide, by omega, by omega⟩ (by decide) ⟨none, none, none, none, none, none, none, rfl⟩ ?_ ?_
  · rintro i Γ' hi ⟨r1, r2, r3, r4, r5, r6, r7, rfl⟩
    have hi' := rs_2z (m := 13) (by omega) hi
    refine s_asg 2 sc_law.nd (e_call2 c_law_deep (hr.mono (by decide)) rfl (e_var 0) (e_var 1) ⟨by omega, by omega⟩) ?_
    generalize deep xs ((0 : Int) + (i : Int) * 2) = c at *
    have z := fmod_pos (a := c) (b := 8) (by decide)
    refine s_deep2 3 4 sc_law.nd (en_call3 c_law_known (hr.mono (by decide)) rfl (e_call2 c_law_deep (hr.mono (by decide)) rfl (e_var 0) (e_add (e_var 1) e_int) ⟨by omega, by omega⟩) (e_add e_int (e_mod (e_var 2) e_int (by decide))) (e_and (e_cmp cv_lt (e_var 1) e_int) fun _ => (e_one (e_cmp cv_eqI (e_mod (e_fdiv (e_var 2) e_int cdK) e_int (by decide)) e_int))) ⟨by omega, by omega⟩) ?_
    generalize deep xs ((0 : Int) + (i : Int) * 2 + 1) = o at *
    generalize (decide ((0 : Int) + (i : Int) * 2 < 4) && decide ((c.fdiv 8).fmod 2 = 1)) = wd at *
    obtain ⟨hK, lR, lD⟩ := kn_ok o wd (1 + c.fmod 8).toNat
    have e0 : knF o (1 + c.fmod 8) wd = (knL o wd (1 + c.fmod 8).toNat).2 := rfl
    rw [e0]
    generalize (knL o wd (1 + c.fmod 8).toNat).2 = u at *
    obtain ⟨l0, d0⟩ := u
    have hK' : Kn l0 d0 := hK
    have lR' : l0.length = (1 + c.fmod 8).toNat := lR
    have lD' : d0.l.length ≤ 6 * (1 + c.fmod 8).toNat := lD
    refine s_ifJ (fun Γ => ∃ l d, Kn l d ∧ l.length = l0.length ∧ d.l.length ≤ 200 ∧ Γ = [some (.val false xs), some (.val true ((0 : Int) + (i : Int) * 2)), some (.val true c), some (.dpo l), some (.dpo d), r5, r6, r7]) (t_cmp cv_eqI (e_mod (e_fdiv (e_var 2) e_int cdK) e_int (by decide)) e_int) (fun hc => ?_) (fun hc => ?_) ?_
    · have pg : PGt l0 d0 (c.fdiv 64) := ⟨by omega, hK', by omega⟩
      obtain ⟨k1, k2, k3⟩ := gt_ok (c.fdiv 64) pg l0.length (Nat.le_refl _)
      refine s_callM 3 4 (l := l0) (d := d0) c_law_greater (hr.mono (by decide)) rfl rfl rfl (by decide) (e_fdiv (e_var 2) e_int cdK) pg ?_
      exact s_nil ⟨_, _, k1, k2, by have : (gtF l0 d0 (c.fdiv 64)).2.l.length ≤ 100 + l0.length := k3; omega, rfl⟩
    · exact s_nil ⟨l0, d0, hK', rfl, by omega, rfl⟩
    rintro Γ' ⟨row, d, hKn, hlr, hld, rfl⟩
    have hR : isRow row = true := by
      unfold isRow
      rw [decide_eq_true (by omega), Bool.true_and]
      refine List.all_eq_true.mpr fun x hx => ?_
      unfold irn
      exact decide_eq_true (hKn.kr x hx)
    refine s_thaw 3 rfl ?_
    refine s_thaw 4 rfl ?_
    refine s_asg 5 sc_law.nd (e_eq (e_call2 c_law_due (hr.mono (by decide)) rfl (e_var 3) (e_var 4) ⟨by omega, hKn, by omega⟩) hKn.du) ?_
    refine s_asg 6 sc_law.nd (e_listT rfl B.list (e_var 3)) ?_
    refine s_asg 7 sc_law.nd (e_call1 c_law_told (hr.mono (by decide)) rfl (e_var 6) hR) ?_
    refine s_ifJ (fun Γ => ∃ o7 : Option Int, Γ = [some (.val false xs), some (.val true ((0 : Int) + (i : Int) * 2)), some (.val true c), some (.val true row), some (.val true d), some (.val true (fpF row)), some (.val true row), some (.val true o7)]) (t_cmp cv_ge (e_abs rfl B.abs (e_var 5)) (e_shl e_int e_int cpK)) (fun hc => ?_) (fun hc => ?_) ?_
    · rw [abI] at hc
      have hb : ¬ (fpF row).natAbs < 1152921504606846976 := by
        have : (1 * 2 ^ (60 : Int).toNat : Int) ≤ ((fpF row).natAbs : Int) := by simpa using hc
        have e2 : (1 * 2 ^ (60 : Int).toNat : Int) = 1152921504606846976 := by decide
        omega
      have et : tdF row = none := if_neg hb
      rw [et]
      refine s_if1 (t_nN (α := Int) (x := none) (e_var 7) fun _ _ _ _ h => nomatch h) (fun hc => nomatch hc) (fun _ => ?_)
      exact s_nil ⟨_, rfl⟩
    · rw [abI] at hc
      have hb : (fpF row).natAbs < 1152921504606846976 := by
        have : ¬ (1 * 2 ^ (60 : Int).toNat : Int) ≤ ((fpF row).natAbs : Int) := by simpa using hc
        have e2 : (1 * 2 ^ (60 : Int).toNat : Int) = 1152921504606846976 := by decide
        omega
      have et : tdF row = some (fpF row) := if_pos hb
      rw [et]
      refine s_if1 (TW.t (tw_or (t_not (t_val (e_call1 c_law_whole (hr.mono (by decide)) rfl (e_get (a := fpF row) (e_var 7)) True.intro))) fun _ => (tw_or1 (t_cmp cv_neI (e_get (a := fpF row) (e_var 7)) (e_var 5))))) (fun hc => ?_) (fun _ => ?_)
      · exfalso; simp at hc
      · exact s_nil ⟨_, rfl⟩
    rintro Γ' ⟨o7, rfl⟩
    refine s_if1 (TW.t (tw_or (t_cmp cv_neI (e_call1 c_signs_of (hr.mono (by decide)) rfl (e_var 6) hR) (e_lenL rfl B.len (e_compF (f := fun q : Int => q) (p := fun q => decide (0 < q)) (b' := true) ["_law_number"] [] (cscope (defScope s_law) N_law rfl rfl (by decide +kernel)) (ei_list (e_var 3)) (gp_name 0) (fun C s H fp => pg_cn 0 ["_law_number"]) lt_of_eq (fun i q hi C s H fp => ft_one (t_cmp cv_gt (e_var 0) e_int)) (fun i q hi hp C s H fp => e_up (e_var 0)) (by omega)))) fun _ => (tw_or1 (t_cmp (cv_ne (α := List Int) (hu60 hr)) (e_var 6) (e_var 3))))) (fun hc => ?_) (fun _ => ?_)
    · exfalso
      rw [List.length_map] at hc
      unfold sgN at hc
      simp at hc
    · exact s_nil ⟨_, _, _, _, _, _, _, rfl⟩
  · rintro Γ' ⟨r1, r2, r3, r4, r5, r6, r7, rfl⟩
    refine s_ret (e_call1 c_law_whole (hr.mono (by decide)) rfl (e_call1 c_signs_of (hr.mono (by decide)) rfl (e_lst (b := true) (as := [(5 : Int)]) (ea_cons e_int ea_nil) (Nat.le_of_ble_eq_true rfl)) (by decide)) True.intro) rfl

end
end L2.EP.K

namespace L2.EP.K
open PySem PySem.Spec PyProof.Rows
open _root_.EP (fr fd)
open _root_.EP (Sqf isP)
set_option maxHeartbeats 0 in
theorem fin {lp : Program} {w : World} {K : PySem.W.Frag} {h : Heap} {mg : Str → Option Value} {fa : Addr} (X : K.In h) (G : h.Ns mainGlobals mg) (hfa : mg "law" = some (.ref fa)) (B : Bu mg)
    {cF cT cN cR cS : Addr} (xs : Xs K mg cF cT cN cR cS) (g_GREAT_PRIMES_FROM : MgI mg "GREAT_PRIMES_FROM" 32768) (g_GREAT_FROM : MgI mg "GREAT_FROM" 1073741824) (g_LONGEST : MgI mg "LONGEST" 8) (g_GREAT_PRODUCT_FROM : MgI mg "GREAT_PRODUCT_FROM" 1152921504606846976) (d_taken_out : Df K "taken_out" s_taken_out) (d_square_root : Df K "square_root" s_square_root) (d_square_root_or_none : Df K "square_root_or_none" s_square_root_or_none) (d_common_divisor : Df K "common_divisor" s_common_divisor) (d_fraction : Df K "fraction" s_fraction) (d_next_divisor : Df K "next_divisor" s_next_divisor) (d_divided : Df K "divided" s_divided) (d_tame_parts : Df K "tame_parts" s_tame_parts) (d_power : Df K "power" s_power) (d_freed : Df K "freed" s_freed) (d_free_of : Df K "free_of" s_free_of) (d_is_whole : Df K "is_whole" s_is_whole) (d_is_row_number : Df K "is_row_number" s_is_row_number) (d_is_row : Df K "is_row" s_is_row) (d_refuse_no_row : Df K "refuse_no_row" s_refuse_no_row) (d_joined : Df K "joined" s_joined) (d_free_product : Df K "free_product" s_free_product) (d_law_deep : Df K "_law_deep" s_law_deep) (d_law_whole : Df K "_law_whole" s_law_whole) (d_law_prime : Df K "_law_prime" s_law_prime) (d_law_prime_from : Df K "_law_prime_from" s_law_prime_from) (d_number_of : Df K "number_of" s_number_of) (d_signs_of : Df K "signs_of" s_signs_of) (d_law_alone : Df K "_law_alone" s_law_alone) (d_law_known : Df K "_law_known" s_law_known) (d_law_greater : Df K "_law_greater" s_law_greater) (d_law_due : Df K "_law_due" s_law_due) (d_law_told : Df K "_law_told" s_law_told) (d_law : Df K "law" s_law) :
    ∃ fd : FuncData, (∀ (s : Shared) (u : Value), BindsTo s fd ⟨[u], []⟩ [("_law_script", u)]) ∧ ∀ base : Heap, K.In base → base.Ns mainGlobals mg → FnOk lp w K mg base CX0 10 fa fd ["_law_script"] (spLaw K) := by
  refine law_end d_law X G hfa (fun _ _ _ _ _ _ s u => .of_eq rfl) fun base _ _ f fd F => ?_
  have c_taken_out : Cal lp w K mg base 1 "taken_out" ["k", "divisor"] (sp2 K (fun k d => k ≠ 0 ∧ 2 ≤ d ∧ Sm 9000 d) true _root_.EP.tko) := d_taken_out.cal X G (fun _ _ _ _ _ _ us hl => match us, hl with | [_, _], _ => rfl) fun f fd F => fn2 F sc_taken_out rfl fun a b hp => b_taken_out a b hp.1 hp.2.1 hp.2.2
  have c_square_root : Cal lp w K mg base 1 "square_root" ["k"] (sp1 K (fun k => 0 ≤ k ∧ Sm 8000 k) true _root_.EP.rt) := d_square_root.cal X G (fun _ _ _ _ _ _ us hl => match us, hl with | [_], _ => rfl) fun f fd F => fn1 F sc_square_root rfl fun a hp => b_square_root a hp.1 hp.2
  have c_square_root_or_none : Cal lp w K mg base 2 "square_root_or_none" ["k"] (sp1 K (fun k => Sm 8000 k) true rtO) := d_square_root_or_none.cal X G (fun _ _ _ _ _ _ us hl => match us, hl with | [_], _ => rfl) fun f fd F => fn1 F sc_square_root_or_none rfl fun a hp => b_square_root_or_none c_square_root a hp
  have c_common_divisor : Cal lp w K mg base 1 "common_divisor" ["a", "b"] (sp2 K (fun _ _ => True) true fun a b => ((Int.gcd a b : Nat) : Int)) := d_common_divisor.cal X G (fun _ _ _ _ _ _ us hl => match us, hl with | [_, _], _ => rfl) fun f fd F => fn2 F sc_common_divisor rfl fun a c _ => b_common_divisor B a c
  have c_fraction : Cal lp w K mg base 2 "fraction" ["top", "bottom"] (sp2 K PFr true fr) := d_fraction.cal X G (fun _ _ _ _ _ _ us hl => match us, hl with | [_, _], _ => rfl) fun f fd F => fn2 F sc_fraction rfl fun a c hp => b_fraction c_common_divisor a c hp.1 hp.2
  have c_next_divisor : Cal lp w K mg base 2 "next_divisor" ["k", "begin", "end"] (sp3 K (fun k b e => 1 ≤ k ∧ Sm 8000 k ∧ 1 ≤ b ∧ b < 2 ^ 62 ∧ -(2 ^ 62) ≤ e ∧ e < 2 ^ 62) true _root_.EP.ndv) := d_next_divisor.cal X G (fun _ _ _ _ _ _ us hl => match us, hl with | [_, _, _], _ => rfl) fun f fd F => fn3 F sc_next_divisor rfl fun a b c hp => b_next_divisor B c_square_root a b c hp
  have c_divided : Cal lp w K mg base 3 "divided" ["k", "end"] (sp2 K PDv true _root_.EP.dvdF) := d_divided.cal X G (fun _ _ _ _ _ _ us hl => match us, hl with | [_, _], _ => rfl) fun f fd F => fn2 F sc_divided rfl fun a c hp => b_divided c_taken_out c_next_divisor a c hp
  have c_tame_parts : Cal lp w K mg base 4 "tame_parts" ["k"] (sp1 K (fun k => 1 ≤ k ∧ Sm 900 k) true tpF) := d_tame_parts.cal X G (fun _ _ _ _ _ _ us hl => match us, hl with | [_], _ => rfl) fun f fd F => fn1 F sc_tame_parts rfl fun a hp => b_tame_parts g_GREAT_PRIMES_FROM g_GREAT_FROM c_divided c_square_root_or_none a hp
  have c_power : Cal lp w K mg base 1 "power" ["base", "exponent"] (sp2 K PPw true pwF) := d_power.cal X G (fun _ _ _ _ _ _ us hl => match us, hl with | [_, _], _ => rfl) fun f fd F => fn2 F sc_power rfl fun a c hp => b_power B a c hp
  have c_freed : Cal lp w K mg base 5 "freed" ["u"] (sp1 K PFd true _root_.EP.frd) := d_freed.cal X G (fun _ _ _ _ _ _ us hl => match us, hl with | [_], _ => rfl) fun f fd F => fn1 F sc_freed rfl fun a hp => b_freed B c_power c_fraction c_tame_parts a hp
  have c_free_of : Cal lp w K mg base 6 "free_of" ["k"] (sp1 K PFo true foF) := d_free_of.cal X G (fun _ _ _ _ _ _ us hl => match us, hl with | [_], _ => rfl) fun f fd F => fn1 F sc_free_of rfl fun a hp => b_free_of c_freed a hp
  have c_is_whole : Cal lp w K mg base 1 "is_whole" ["k"] (sp1 K (fun (_ : Int) => True) true (fun _ => true)) := d_is_whole.cal X G (fun _ _ _ _ _ _ us hl => match us, hl with | [_], _ => rfl) fun f fd F => fn1 F sc_is_whole rfl fun a _ => b_is_whole B a
  have c_is_row_number : Cal lp w K mg base 2 "is_row_number" ["k"] (sp1 K (fun (_ : Int) => True) true irn) := d_is_row_number.cal X G (fun _ _ _ _ _ _ us hl => match us, hl with | [_], _ => rfl) fun f fd F => fn1 F sc_is_row_number rfl fun a _ => b_is_row_number B g_GREAT_FROM c_is_whole a
  have c_is_row : Cal lp w K mg base 3 "is_row" ["row"] (sp1 K (fun (xs : List Int) => xs.length ≤ 1000) true isRow) := d_is_row.cal X G (fun _ _ _ _ _ _ us hl => match us, hl with | [_], _ => rfl) fun f fd F => fn1 F sc_is_row rfl fun a hp => b_is_row B g_LONGEST c_is_row_number a hp
  have c_refuse_no_row : Cal lp w K mg base 4 "refuse_no_row" ["row"] (sp1 K (fun (xs : List Int) => isRow xs = true) true unit1) := d_refuse_no_row.cal X G (fun _ _ _ _ _ _ us hl => match us, hl with | [_], _ => rfl) fun f fd F => fn1U F sc_refuse_no_row rfl fun a hp => b_refuse_no_row c_is_row a hp
  have c_joined : Cal lp w K mg base 2 "joined" ["a", "b"] (sp2 K PJn true jnF) := d_joined.cal X G (fun _ _ _ _ _ _ us hl => match us, hl with | [_, _], _ => rfl) fun f fd F => fn2 F sc_joined rfl fun a c hp => b_joined c_common_divisor a c hp
  have c_free_product : Cal lp w K mg base 7 "free_product" ["row"] (sp1 K PFp true fpF) := d_free_product.cal X G (fun _ _ _ _ _ _ us hl => match us, hl with | [_], _ => rfl) fun f fd F => fn1 F sc_free_product rfl fun a hp => b_free_product c_joined c_free_of a hp
  have c_law_deep : Cal lp w K mg base 1 "_law_deep" ["_law_script", "_law_k"] (sp2 K (fun _ k => 0 ≤ k ∧ k ≤ 100) true deep) := d_law_deep.cal X G (fun _ _ _ _ _ _ us hl => match us, hl with | [_, _], _ => rfl) fun f fd F => fn2 F sc_law_deep rfl fun a c hp => b_law_deep B a c hp.1 hp.2
  have c_law_whole : Cal lp w K mg base 1 "_law_whole" ["_law_found"] (sp1 K (fun (_ : Int) => True) true fun _ => true) := d_law_whole.cal X G (fun _ _ _ _ _ _ us hl => match us, hl with | [_], _ => rfl) fun f fd F => fn1 F sc_law_whole rfl fun a _ => b_law_whole B a
  have c_law_prime : Cal lp w K mg base 1 "_law_prime" ["_law_k"] (sp1 K (fun k => k < 2 ^ 62) true _root_.EP.isP) := d_law_prime.cal X G (fun _ _ _ _ _ _ us hl => match us, hl with | [_], _ => rfl) fun f fd F => fn1 F sc_law_prime rfl fun a hp => b_law_prime a hp
  have c_law_prime_from : Cal lp w K mg base 2 "_law_prime_from" ["_law_k"] (sp1 K (fun k => k ≤ _root_.EP.PB) true _root_.EP.pf) := d_law_prime_from.cal X G (fun _ _ _ _ _ _ us hl => match us, hl with | [_], _ => rfl) fun f fd F => fn1 F sc_law_prime_from rfl fun a hp => b_law_prime_from c_law_prime a hp
  have c_number_of : Cal lp w K mg base 8 "number_of" ["row"] (sp1 K (fun (r : List Int) => isRow r = true ∧ (fpF r).natAbs < 1152921504606846976) true fpF) := d_number_of.cal X G (fun _ _ _ _ _ _ us hl => match us, hl with | [_], _ => rfl) fun f fd F => fn1 F sc_number_of rfl fun a hp => b_number_of B g_GREAT_PRODUCT_FROM c_refuse_no_row c_free_product a hp.1 hp.2
  have c_number_ofR : CalR lp w K mg base 8 "number_of" ["row"] (spR1 K (fun (r : List Int) => isRow r = true ∧ ¬ (fpF r).natAbs < 1152921504606846976) cT) := d_number_of.calR X G (fun _ _ _ _ _ _ us hl => match us, hl with | [_], _ => rfl) fun f fd F => fnR1 F sc_number_of rfl fun a hp => b_number_ofR B g_GREAT_PRODUCT_FROM c_refuse_no_row c_free_product xs a hp.1 hp.2
  have c_signs_of : Cal lp w K mg base 5 "signs_of" ["row"] (sp1 K (fun (r : List Int) => isRow r = true) true sgN) := d_signs_of.cal X G (fun _ _ _ _ _ _ us hl => match us, hl with | [_], _ => rfl) fun f fd F => fn1 F sc_signs_of rfl fun a hp => b_signs_of B c_refuse_no_row a hp
  have c_law_alone : CalH lp w K mg base 1 "_law_alone" cT true := d_law_alone.calH X G sc_law_alone (fun _ _ _ _ _ _ us hl => match us, hl with | [_], _ => rfl) (fun f cdv A outer s H a L => b_law_alone B xs f cdv A outer s H a L)
  have c_law_known : Cal lp w K mg base 3 "_law_known" ["_law_cell", "_law_size", "_law_wide"] (sp3 K (fun (_ n : Int) (_ : Bool) => 0 ≤ n ∧ n ≤ 8) true knF) := d_law_known.cal X G (fun _ _ _ _ _ _ us hl => match us, hl with | [_, _, _], _ => rfl) fun f fd F => fn3 F sc_law_known rfl fun a c d hp => b_law_known B c_law_prime_from a c d hp.1 hp.2
  have c_law_greater : Cal lp w K mg base 3 "_law_greater" ["_law_row", "_law_primes", "_law_cell"] (spM K PGt gtF) := d_law_greater.cal X G (fun _ _ _ _ _ _ us hl => match us, hl with | [_, _, _], _ => rfl) fun f fd F => fnM F sc_law_greater rfl fun p q l d c hp => b_law_greater B c_law_prime_from p q l d c hp
  have c_law_due : Cal lp w K mg base 1 "_law_due" ["_law_row", "_law_primes"] (sp2 K (fun (r : List Int) (d : Dc Int) => r.length ≤ 8 ∧ Kn r d ∧ d.l.length ≤ 900) true duF) := d_law_due.cal X G (fun _ _ _ _ _ _ us hl => match us, hl with | [_, _], _ => rfl) fun f fd F => fn2 F sc_law_due rfl fun a c hp => b_law_due a c hp.1 hp.2.1 hp.2.2
  have c_law_told : Cal lp w K mg base 9 "_law_told" ["_law_row"] (sp1 K (fun (r : List Int) => isRow r = true) true tdF) := d_law_told.cal X G (fun _ _ _ _ _ _ us hl => match us, hl with | [_], _ => rfl) fun f fd F => fn1 F sc_law_told rfl fun a hp => b_law_told B xs c_number_of c_number_ofR c_law_alone a hp
  exact fn1 F sc_law rfl fun a hp => b_law B c_law_deep c_law_whole c_law_known c_law_greater c_law_due c_law_told c_signs_of a hp
end L2.EP.K
def PySem.W.Fast.tw1215317671031473060 : Nat := 0
def PySem.W.Fast.tw5333270517311417506 : Nat := 0
def PySem.W.Fast.tw13094140262326640032 : Nat := 0
def PySem.W.Fast.tw14178847930284733465 : Nat := 0
def PySem.W.Fast.tw1575408130575586415 : Nat := 0
def PySem.W.Fast.tw3828282397939316486 : Nat := 0
def PySem.W.Fast.tw10306267080537149589 : Nat := 0
def PySem.W.Fast.tw9868855527418924291 : Nat := 0
def PySem.W.Fast.tw17766409044336469194 : Nat := 0
def PySem.W.Fast.tw10230072937328438114 : Nat := 0
def PySem.W.Fast.tw16236831034994337427 : Nat := 0
def PySem.W.Fast.tw6746600273465685062 : Nat := 0
def PySem.W.Fast.tw11076852308943500203 : Nat := 0
def PySem.W.Fast.tw9249918362007038442 : Nat := 0
open PySem PySem.W PyProof.Rows
set_option maxRecDepth 100000 in
set_option maxHeartbeats 0 in
theorem PySem.Challenge.cw_everyplace_k31_numbers_and_signs_holds : PySem.Challenge.rw_everyplace_k31_numbers_and_signs.Holds := by
  w_on; o_law; k_head; (case hw => w_witness2)
  k_fill
  refine L2.walk_ofK (l := PySem.Challenge.rw_everyplace_k31_numbers_and_signs) (n := 63) (k := 10) (x := "_law_script") (CX := L2.CX0) (sp := L2.EP.spLaw) rfl (by decide) rfl ⟨rfl, by decide, by decide⟩ (fun w h Y => PySem.W.kIn_of Y) ?F ?S ?C
  case F =>
    intro w mg fa h KX G hmg
    have B : L2.EP.Bu mg := by
      refine' L2.EP.bu_mk (K := L2.KOf KX) KX G ?z1 ?z2 ?z3 ?z4 ?z5 ?z6 ?z7 ?z8 ?z9 ?z10 ?z11 ?z12 ?z13 ?z14 ?z15 ?z16 ?z17 ?z18 ?z19
      all_goals (dsimp only [L2.KOf]; k_is)
    have d_taken_out : L2.EP.Df (L2.KOf KX) "taken_out" L2.EP.K.s_taken_out := by
      dsimp only [L2.KOf]
      refine' L2.EP.Df.mk ?a ?l ?c ?k
      (case a => k_is); (case l => k_is); (case c => k_is); (case k => k_is)
    have d_square_root : L2.EP.Df (L2.KOf KX) "square_root" L2.EP.K.s_square_root := by
      dsimp only [L2.KOf]
      refine' L2.EP.Df.mk ?a ?l ?c ?k
      (case a => k_is); (case l => k_is); (case c => k_is); (case k => k_is)
    have d_square_root_or_none : L2.EP.Df (L2.KOf KX) "square_root_or_none" L2.EP.K.s_square_root_or_none := by
      dsimp only [L2.KOf]
      refine' L2.EP.Df.mk ?a ?l ?c ?k
      (case a => k_is); (case l => k_is); (case c => k_is); (case k => k_is)
    have d_common_divisor : L2.EP.Df (L2.KOf KX) "common_divisor" L2.EP.K.s_common_divisor := by
      dsimp only [L2.KOf]
      refine' L2.EP.Df.mk ?a ?l ?c ?k
      (case a => k_is); (case l => k_is); (case c => k_is); (case k => k_is)
    have d_fraction : L2.EP.Df (L2.KOf KX) "fraction" L2.EP.K.s_fraction := by
      dsimp only [L2.KOf]
      refine' L2.EP.Df.mk ?a ?l ?c ?k
      (case a => k_is); (case l => k_is); (case c => k_is); (case k => k_is)
    have d_next_divisor : L2.EP.Df (L2.KOf KX) "next_divisor" L2.EP.K.s_next_divisor := by
      dsimp only [L2.KOf]
      refine' L2.EP.Df.mk ?a ?l ?c ?k
      (case a => k_is); (case l => k_is); (case c => k_is); (case k => k_is)
    have d_divided : L2.EP.Df (L2.KOf KX) "divided" L2.EP.K.s_divided := by
      dsimp only [L2.KOf]
      refine' L2.EP.Df.mk ?a ?l ?c ?k
      (case a => k_is); (case l => k_is); (case c => k_is); (case k => k_is)
    have d_tame_parts : L2.EP.Df (L2.KOf KX) "tame_parts" L2.EP.K.s_tame_parts := by
      dsimp only [L2.KOf]
      refine' L2.EP.Df.mk ?a ?l ?c ?k
      (case a => k_is); (case l => k_is); (case c => k_is); (case k => k_is)
    have d_power : L2.EP.Df (L2.KOf KX) "power" L2.EP.K.s_power := by
      dsimp only [L2.KOf]
      refine' L2.EP.Df.mk ?a ?l ?c ?k
      (case a => k_is); (case l => k_is); (case c => k_is); (case k => k_is)
    have d_freed : L2.EP.Df (L2.KOf KX) "freed" L2.EP.K.s_freed := by
      dsimp only [L2.KOf]
      refine' L2.EP.Df.mk ?a ?l ?c ?k
      (case a => k_is); (case l => k_is); (case c => k_is); (case k => k_is)
    have d_free_of : L2.EP.Df (L2.KOf KX) "free_of" L2.EP.K.s_free_of := by
      dsimp only [L2.KOf]
      refine' L2.EP.Df.mk ?a ?l ?c ?k
      (case a => k_is); (case l => k_is); (case c => k_is); (case k => k_is)
    have d_is_whole : L2.EP.Df (L2.KOf KX) "is_whole" L2.EP.K.s_is_whole := by
      dsimp only [L2.KOf]
      refine' L2.EP.Df.mk ?a ?l ?c ?k
      (case a => k_is); (case l => k_is); (case c => k_is); (case k => k_is)
    have d_is_row_number : L2.EP.Df (L2.KOf KX) "is_row_number" L2.EP.K.s_is_row_number := by
      dsimp only [L2.KOf]
      refine' L2.EP.Df.mk ?a ?l ?c ?k
      (case a => k_is); (case l => k_is); (case c => k_is); (case k => k_is)
    have d_is_row : L2.EP.Df (L2.KOf KX) "is_row" L2.EP.K.s_is_row := by
      dsimp only [L2.KOf]
      refine' L2.EP.Df.mk ?a ?l ?c ?k
      (case a => k_is); (case l => k_is); (case c => k_is); (case k => k_is)
    have d_refuse_no_row : L2.EP.Df (L2.KOf KX) "refuse_no_row" L2.EP.K.s_refuse_no_row := by
      dsimp only [L2.KOf]
      refine' L2.EP.Df.mk ?a ?l ?c ?k
      (case a => k_is); (case l => k_is); (case c => k_is); (case k => k_is)
    have d_joined : L2.EP.Df (L2.KOf KX) "joined" L2.EP.K.s_joined := by
      dsimp only [L2.KOf]
      refine' L2.EP.Df.mk ?a ?l ?c ?k
      (case a => k_is); (case l => k_is); (case c => k_is); (case k => k_is)
    have d_free_product : L2.EP.Df (L2.KOf KX) "free_product" L2.EP.K.s_free_product := by
      dsimp only [L2.KOf]
      refine' L2.EP.Df.mk ?a ?l ?c ?k
      (case a => k_is); (case l => k_is); (case c => k_is); (case k => k_is)
    have d_law_deep : L2.EP.Df (L2.KOf KX) "_law_deep" L2.EP.K.s_law_deep := by
      dsimp only [L2.KOf]
      refine' L2.EP.Df.mk ?a ?l ?c ?k
      (case a => k_is); (case l => k_is); (case c => k_is); (case k => k_is)
    have d_law_whole : L2.EP.Df (L2.KOf KX) "_law_whole" L2.EP.K.s_law_whole := by
      dsimp only [L2.KOf]
      refine' L2.EP.Df.mk ?a ?l ?c ?k
      (case a => k_is); (case l => k_is); (case c => k_is); (case k => k_is)
    have d_law_prime : L2.EP.Df (L2.KOf KX) "_law_prime" L2.EP.K.s_law_prime := by
      dsimp only [L2.KOf]
      refine' L2.EP.Df.mk ?a ?l ?c ?k
      (case a => k_is); (case l => k_is); (case c => k_is); (case k => k_is)
    have d_law_prime_from : L2.EP.Df (L2.KOf KX) "_law_prime_from" L2.EP.K.s_law_prime_from := by
      dsimp only [L2.KOf]
      refine' L2.EP.Df.mk ?a ?l ?c ?k
      (case a => k_is); (case l => k_is); (case c => k_is); (case k => k_is)
    have d_number_of : L2.EP.Df (L2.KOf KX) "number_of" L2.EP.K.s_number_of := by
      dsimp only [L2.KOf]
      refine' L2.EP.Df.mk ?a ?l ?c ?k
      (case a => k_is); (case l => k_is); (case c => k_is); (case k => k_is)
    have d_signs_of : L2.EP.Df (L2.KOf KX) "signs_of" L2.EP.K.s_signs_of := by
      dsimp only [L2.KOf]
      refine' L2.EP.Df.mk ?a ?l ?c ?k
      (case a => k_is); (case l => k_is); (case c => k_is); (case k => k_is)
    have d_law_alone : L2.EP.Df (L2.KOf KX) "_law_alone" L2.EP.K.s_law_alone := by
      dsimp only [L2.KOf]
      refine' L2.EP.Df.mk ?a ?l ?c ?k
      (case a => k_is); (case l => k_is); (case c => k_is); (case k => k_is)
    have d_law_known : L2.EP.Df (L2.KOf KX) "_law_known" L2.EP.K.s_law_known := by
      dsimp only [L2.KOf]
      refine' L2.EP.Df.mk ?a ?l ?c ?k
      (case a => k_is); (case l => k_is); (case c => k_is); (case k => k_is)
    have d_law_greater : L2.EP.Df (L2.KOf KX) "_law_greater" L2.EP.K.s_law_greater := by
      dsimp only [L2.KOf]
      refine' L2.EP.Df.mk ?a ?l ?c ?k
      (case a => k_is); (case l => k_is); (case c => k_is); (case k => k_is)
    have d_law_due : L2.EP.Df (L2.KOf KX) "_law_due" L2.EP.K.s_law_due := by
      dsimp only [L2.KOf]
      refine' L2.EP.Df.mk ?a ?l ?c ?k
      (case a => k_is); (case l => k_is); (case c => k_is); (case k => k_is)
    have d_law_told : L2.EP.Df (L2.KOf KX) "_law_told" L2.EP.K.s_law_told := by
      dsimp only [L2.KOf]
      refine' L2.EP.Df.mk ?a ?l ?c ?k
      (case a => k_is); (case l => k_is); (case c => k_is); (case k => k_is)
    have d_law : L2.EP.Df (L2.KOf KX) "law" L2.EP.K.s_law := by
      dsimp only [L2.KOf]
      refine' L2.EP.Df.mk ?a ?l ?c ?k
      (case a => k_is); (case l => k_is); (case c => k_is); (case k => k_is)
    have g_GREAT_PRIMES_FROM : L2.EP.MgI mg "GREAT_PRIMES_FROM" 32768 := by
      refine' L2.EP.MgI.mk (K := L2.KOf KX) KX G ?ga0
      (case ga0 => dsimp only [L2.KOf]; k_is)
    have g_GREAT_FROM : L2.EP.MgI mg "GREAT_FROM" 1073741824 := by
      refine' L2.EP.MgI.mk (K := L2.KOf KX) KX G ?ga1
      (case ga1 => dsimp only [L2.KOf]; k_is)
    have g_LONGEST : L2.EP.MgI mg "LONGEST" 8 := by
      refine' L2.EP.MgI.mk (K := L2.KOf KX) KX G ?ga2
      (case ga2 => dsimp only [L2.KOf]; k_is)
    have g_GREAT_PRODUCT_FROM : L2.EP.MgI mg "GREAT_PRODUCT_FROM" 1152921504606846976 := by
      refine' L2.EP.MgI.mk (K := L2.KOf KX) KX G ?ga3
      (case ga3 => dsimp only [L2.KOf]; k_is)
    obtain ⟨cF, cT, cN, cR, cS, xs⟩ : ∃ cF cT cN cR cS, L2.EP.Xs (L2.KOf KX) mg cF cT cN cR cS := by
      refine' ⟨_, _, _, _, _, L2.EP.xs_mk (K := L2.KOf KX) KX G ?xz1 ?xz2 ?xz3 ?xz4 ?xz5 ?xz6 ?xy1 ?xy2 ?xy3 ?xy4⟩
      (case xz1 => dsimp only [L2.KOf]; k_is); (case xz2 => dsimp only [L2.KOf]; k_is); (case xz3 => dsimp only [L2.KOf]; k_is); (case xz4 => dsimp only [L2.KOf]; k_is); (case xz5 => dsimp only [L2.KOf]; k_is); (case xz6 => dsimp only [L2.KOf]; k_is)
      (case xy1 => dsimp only [L2.KOf]; kernel_rfl); (case xy2 => dsimp only [L2.KOf]; kernel_rfl); (case xy3 => dsimp only [L2.KOf]; kernel_rfl); (case xy4 => dsimp only [L2.KOf]; kernel_rfl)
    exact L2.EP.K.fin KX G hmg B xs g_GREAT_PRIMES_FROM g_GREAT_FROM g_LONGEST g_GREAT_PRODUCT_FROM d_taken_out d_square_root d_square_root_or_none d_common_divisor d_fraction d_next_divisor d_divided d_tame_parts d_power d_freed d_free_of d_is_whole d_is_row_number d_is_row d_refuse_no_row d_joined d_free_product d_law_deep d_law_whole d_law_prime d_law_prime_from d_number_of d_signs_of d_law_alone d_law_known d_law_greater d_law_due d_law_told d_law
  case S => exact fun K H a ns hl hO hS => L2.EP.law_start K H a ns hl hS
  case C => exact fun _ _ _ _ z => z

