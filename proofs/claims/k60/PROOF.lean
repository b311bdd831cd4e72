import PyProof.Rows.All
import Wide.All
import OpenK.AllK
import Wide.FinOn
import Lean
import PyProof.EqAt
import PyProof.EqKinds
import PyProof.TupleCall
import PyProof.NeData
import PyProof.P3Eq
import KE.KTryMore
import PyProof.ExcArgs
import PyProof.Rows.CountFlat
import PyProof.ExcBaseAll.ValueError
import PyProof.Conv_int_bool
import PyProof.IsiPairs
import PyProof.IsiNone
import PyProof.IsiStr
import PyProof.IsiBool
import PyProof.IsiHeapPairs
import KE.KRevIter
import PySem.Challenge.RW_everyplace_k60_how_many_pairs
set_option Elab.async false
set_option linter.all false
set_option maxRecDepth 100000
namespace L2
open PySem PySem.Spec PyProof.Rows
abbrev Key:=Sum Int Str
def keyIs:Key→Value→Bool
 | .inl k,v=>Value.isInt k v
 | .inr x,v=>Value.isStrOf x v
def keyH (w:World):Key→Int
 | .inl k=>hashInt k
 | .inr x=>hashStr w x
theorem keyIs_shape:∀ {k:Key} {v:Value},keyIs k v=true→(∃ i t,k=Sum.inl i∧v=Value.int i t)∨(∃ x t,k=Sum.inr x∧v=Value.str x t)
 | .inl i,v,h=>by
  obtain ⟨t,e⟩:=Value.isInt_shape (k:=i) (v:=v) h
  exact .inl ⟨i,t,rfl,e⟩
 | .inr x,v,h=>by
  obtain ⟨t,e⟩:=Value.isStrOf_shape (x:=x) (v:=v) h
  exact .inr ⟨x,t,rfl,e⟩
theorem key_ll (a b:Int):decide ((Sum.inl a:Key)=Sum.inl b)=(a == b):=by
 by_cases e:a=b
 ·subst e; simp
 ·have h:¬ (Sum.inl a:Key)=Sum.inl b:=fun q=>e (Sum.inl.inj q)
  rw [decide_eq_false h]
  exact (beq_eq_false_iff_ne.mpr e).symm
theorem key_rr (a b:Str):decide ((Sum.inr a:Key)=Sum.inr b)=decide (a=b):=by
 by_cases e:a=b
 ·subst e; simp
 ·have h:¬ (Sum.inr a:Key)=Sum.inr b:=fun q=>e (Sum.inr.inj q)
  rw [decide_eq_false h,decide_eq_false e]
theorem key_lr (a:Int) (b:Str):decide ((Sum.inl a:Key)=Sum.inr b)=false:=decide_eq_false (fun q=>nomatch q)
theorem key_rl (a:Str) (b:Int):decide ((Sum.inr a:Key)=Sum.inl b)=false:=decide_eq_false (fun q=>nomatch q)
def mixKind (prog:Program) (w:World):PySem.KeyKind prog w Key where
 is:=keyIs
 hash:=keyH w
 inj:=fun v a b ha hb=>by
  rcases keyIs_shape ha with ⟨i,t,rfl,rfl⟩ | ⟨x,t,rfl,rfl⟩
  ·rcases keyIs_shape hb with ⟨j,u,rfl,e⟩ | ⟨y,u,rfl,e⟩
   ·injection e with e1 _; rw [e1]
   ·exact nomatch e
  ·rcases keyIs_shape hb with ⟨j,u,rfl,e⟩ | ⟨y,u,rfl,e⟩
   ·exact nomatch e
   ·injection e with e1 _; rw [e1]
 byValue:=fun k v h=>by
  rcases keyIs_shape h with ⟨i,t,rfl,rfl⟩ | ⟨x,t,rfl,rfl⟩ <;> rfl
 pyHash:=fun hv h=>by
  rcases keyIs_shape hv with ⟨i,t,rfl,rfl⟩ | ⟨x,t,rfl,rfl⟩
  ·exact wpAny_pyHash_int h
  ·exact wpAny_pyHash_str h
 eqBool:=fun hu hv h=>by
  rcases keyIs_shape hu with ⟨i,t,rfl,rfl⟩ | ⟨x,t,rfl,rfl⟩
  ·rcases keyIs_shape hv with ⟨j,u,rfl,rfl⟩ | ⟨y,u,rfl,rfl⟩
   ·rw [key_ll] at h; exact wpAny_eqBool_int h
   ·rw [key_lr] at h; exact SeqAt.EqAt.int_str i t y u _ _ _ _ h
  ·rcases keyIs_shape hv with ⟨j,u,rfl,rfl⟩ | ⟨y,u,rfl,rfl⟩
   ·rw [key_rl] at h; exact SeqAt.EqAt.str_int x t j u _ _ _ _ h
   ·rw [key_rr] at h; exact wpAny_eqBool_str h
 «strs»:=fun k x t v h=>by
  rcases keyIs_shape h with ⟨i,u,rfl,e⟩ | ⟨y,u,rfl,e⟩
  ·exact nomatch e
  ·injection e with e1 _
   subst e1
   cases v <;> rfl
def bI (b:Bool):Int:=if b then 1 else 0
def ibIs (k:Int) (v:Value):Bool:=match v with
 | .int i _=>i == k
 | .bool b=>bI b == k
 | _=>false
theorem ibIs_shape {k:Int} {v:Value} (h:ibIs k v=true):(∃ t,v=Value.int k t)∨∃ b,k=bI b∧v=Value.bool b:=by
 cases v with
 | int i t=>exact .inl ⟨t,by rw [eq_of_beq (show (i == k)=true from h)]⟩
 | bool b=>exact .inr ⟨b,(eq_of_beq (show (bI b == k)=true from h)).symm,rfl⟩
 | _=>exact nomatch h
theorem pyHash_truth {prog:Program} {w:World} {A:Around} {E:Value→Shared→Prop} {s:Shared} {b:Bool} {Q:Int→Shared→Prop} (h:Q (hashInt (bI b)) { s with toks:=s.toks + 1 }):wpAny (model prog w) A (pyHash (.bool b)) Q E s:=by
 refine PySem.W.pyHash_slot (T:="bool") rfl F.slot_bool_hash entry_int_hash (args_int_hash _) (beq_builtin_none _) (.inl rfl) ?_
 cases b
 ·exact (show wpAny _ _ (do ret (← mkInt 0)) _ _ s from wpAny_bind (wpAny_mkInt (wpAny_pure ⟨0,_,rfl,h⟩)))
 ·exact (show wpAny _ _ (do ret (← mkInt 1)) _ _ s from wpAny_bind (wpAny_mkInt (wpAny_pure ⟨1,_,rfl,h⟩)))
theorem dec_beq (a b:Int):decide (a=b)=(a == b):=by
 by_cases e:a=b
 ·subst e; simp
 ·rw [decide_eq_false e]; exact (beq_eq_false_iff_ne.mpr e).symm
def ibKind (prog:Program) (w:World):PySem.KeyKind prog w Int where
 is:=ibIs
 hash:=hashInt
 inj:=fun v a b ha hb=>by
  rcases ibIs_shape ha with ⟨t,rfl⟩ | ⟨x,rfl,rfl⟩
  ·rcases ibIs_shape hb with ⟨u,e⟩ | ⟨y,rfl,e⟩
   ·injection e
   ·cases e
  ·rcases ibIs_shape hb with ⟨u,e⟩ | ⟨y,rfl,e⟩
   ·cases e
   ·injection e with e; rw [e]
 byValue:=fun k v h=>by
  rcases ibIs_shape h with ⟨t,rfl⟩ | ⟨x,rfl,rfl⟩ <;> rfl
 pyHash:=fun hv h=>by
  rcases ibIs_shape hv with ⟨t,rfl⟩ | ⟨x,rfl,rfl⟩
  ·exact wpAny_pyHash_int h
  ·exact pyHash_truth h
 eqBool:=fun {A E s a b u v Q} hu hv h=>by
  rw [dec_beq] at h
  rcases ibIs_shape hu with ⟨t,rfl⟩ | ⟨x,rfl,rfl⟩
  ·rcases ibIs_shape hv with ⟨t',rfl⟩ | ⟨y,rfl,rfl⟩
   ·exact wpAny_eqBool_int h
   ·exact SeqAt.EqAt.int_bool _ t y _ _ _ _ h
  ·rcases ibIs_shape hv with ⟨t',rfl⟩ | ⟨y,rfl,rfl⟩
   ·exact SeqAt.EqAt.bool_int x _ t' _ _ _ _ h
   ·refine SeqAt.EqAt.bool_bool x y _ _ _ _ ?_
    rw [show (x == y)=(bI x == bI y) by cases x <;> cases y <;> rfl]
    exact h
 «strs»:=fun k x t v h=>by
  rcases ibIs_shape h with ⟨u,e⟩ | ⟨y,_,e⟩ <;> cases e
def kl (k:Int × Bool):List Int:=[k.1,bI k.2]
theorem kl_inj {x y:Int × Bool} (h:kl x=kl y):x=y:=by
 obtain ⟨x1,x2⟩:=x
 obtain ⟨y1,y2⟩:=y
 have h1:x1=y1∧bI x2=bI y2:=by simpa [kl] using h
 obtain ⟨rfl,h2⟩:=h1
 cases x2 <;> cases y2 <;> first | rfl | exact absurd h2 (by decide)
theorem kl_dec (x y:Int × Bool):decide (kl x=kl y)=decide (x=y):=decide_eq_decide.mpr ⟨kl_inj,fun h=>by rw [h]⟩
def pairKind (prog:Program) (w:World):PySem.HeapKind prog w (Int × Bool) where
 is:=fun h k a=>IsTupleKey (ibKind prog w) h (kl k) a
 hash:=fun k=>tupleKeyHash (ibKind prog w) (kl k)
 draws:=fun _=>3
 room:=fun A=>A.units < cLine
 inj:=fun hx hy=>kl_inj (hx.inj hy)
 keeps:=fun x ho hd hs=>x.keeps ho hd hs
 pyHash:=fun hu hk h=>wpAny_pyHash_tuple hu hk h
 eqBool:=fun {A E s x y a b Q} hu hx hy h=>wpAny_eqBool_tuple hu hx hy (by rw [kl_dec]; exact h)
 quiet:=fun hk h=>wpAny_eqIsQuiet_tuple hk h
end L2
namespace L2
open PySem PySem.Spec PyProof.Rows
inductive V where
 | non | bl (b:Bool) | int (i:Int) | str (x:Str) | byt (b:Array UInt8) | flt (b:UInt64) | ref (a:Addr) | ty (n:String)
 deriving DecidableEq
def RelV:V→Value→Prop
 | .non,u=>u=Value.none
 | .bl b,u=>u=Value.bool b
 | .int i,u=>∃ t,u=Value.int i t
 | .str x,u=>∃ t,u=Value.str x t
 | .byt b,u=>∃ t,u=Value.bytes b t
 | .flt b,u=>∃ t,u=Value.float b t
 | .ref a,u=>u=Value.ref a
 | .ty n,u=>u=Value.type n
abbrev Vals:List V→List Value→Prop:=Paired RelV
theorem Vals.length {xs:List V} {us:List Value} (r:Vals xs us):xs.length=us.length:=Paired.length r
theorem Vals.get:∀ {xs:List V} {us:List Value} {i:Nat} {x:V},Vals xs us→xs[i]?=some x→∃ u,us[i]?=some u∧RelV x u
 | _,_,_,_,.nil,e=>by simp at e
 | _,_,0,_,.cons r _,e=>by simp at e; subst e; exact ⟨_,rfl,r⟩
 | _,_,i + 1,x,.cons _ t,e=>by
  obtain ⟨u,h1,h2⟩:=Vals.get (i:=i) (x:=x) t (by simpa using e)
  exact ⟨u,by simpa using h1,h2⟩
theorem Vals.set {x:V} {u:Value} (r:RelV x u):∀ {xs:List V} {us:List Value} (i:Nat),Vals xs us→Vals (xs.set i x) (us.set i u)
 | _,_,_,.nil=>.nil
 | _,_,0,.cons _ t=>.cons r t
 | _,_,i + 1,.cons q t=>.cons q (Vals.set r i t)
theorem Vals.append:∀ {xs ys:List V} {us ws:List Value},Vals xs us→Vals ys ws→Vals (xs ++ ys) (us ++ ws)
 | _,_,_,_,.nil,s=>s
 | _,_,_,_,.cons r t,s=>.cons r (Vals.append t s)
theorem Vals.take:∀ {xs:List V} {us:List Value} (n:Nat),Vals xs us→Vals (xs.take n) (us.take n)
 | _,_,0,_=>.nil
 | _,_,_ + 1,.nil=>.nil
 | _,_,n + 1,.cons r t=>.cons r (Vals.take n t)
theorem Vals.drop:∀ {xs:List V} {us:List Value} (n:Nat),Vals xs us→Vals (xs.drop n) (us.drop n)
 | _,_,0,r=>r
 | _,_,_ + 1,.nil=>.nil
 | _,_,n + 1,.cons _ t=>Vals.drop n t
def RelO:Option V→Option Value→Prop
 | some v,some u=>RelV v u
 | none,none=>True
 | _,_=>False
def KV {κ:Type}:List (κ × V)→List (κ × Value)→Prop:=Paired fun (p:κ × V) (q:κ × Value)=>p.1=q.1∧RelV p.2 q.2
def kV:Key→V
 | .inl i=>.int i
 | .inr x=>.str x
def kB (k:Int × Bool):List V:=[.int k.1,.bl k.2]
inductive HO where
 | lst (xs:List V)
 | tup (xs:List V)
 | dK (kvs:List (Key × V)) | dT (kvs:List (List Key × V))
 | dB (kvs:List ((Int × Bool) × V))
 | set (S:Int→Bool) (n:Nat)
 | ins (C dx:Addr) (fs:List (Str × V))
 | own (x:Addr)
 | xd (fs:List (Str × V))
 | met (f x:Addr)
 | rng (lo hi:Int)
 | frz (o:Obj) (u:HO)
 | tbl (ps:Array Value)
 | ext (φ:Heap→Prop)
abbrev Hp:=Addr→Option HO
def upd (H:Hp) (a:Addr) (o:HO):Hp:=fun b=>if b=a then some o else H b
theorem upd_same {H:Hp} {a:Addr} {o:HO}:upd H a o a=some o:=by unfold upd; rw [if_pos rfl]
theorem upd_ne {H:Hp} {a b:Addr} {o:HO} (h:b≠a):upd H a o b=H b:=by unfold upd; rw [if_neg h]
theorem ne_of_none {H:Hp} {a b:Addr} {o:HO} (h:H a=some o) (h':H b=none):a≠b:=by
 intro e; subst e; rw [h] at h'; cases h'
section
variable (P:Program) (w:World)
def ObjOk (H:Hp) (h:Heap) (a:Addr):HO→Prop
 | .lst xs=>xs.length≤sizeLine∧∃ (its:List Value) (n:Nat),Vals xs its∧h.get? a=some { cls:=.type "list",data:=.seq its.toArray n }
 | .tup xs=>xs.length≤sizeLine∧∃ its:List Value,Vals xs its∧IsTup h a its.toArray
 | .dK kvs=>kvs.length≤sizeLine∧(a == sysModules)=false∧∃ vs,KV kvs vs∧h.DictOf (mixKind P w) a vs
 | .dT kvs=>kvs.length≤sizeLine∧(a == sysModules)=false∧∃ xs:List (List Key × Addr × Value),
   Paired (fun (p:List Key × V) (q:List Key × Addr × Value)=>p.1=q.1∧H q.2.1=some (.tup (p.1.map kV))∧RelV p.2 q.2.2) kvs xs ∧
   ∃ o es ep,h.get? a=some o∧o.ExactDict∧o.data=.dict es ep∧es.toList=xs.map (entryOfKey (tupleKind (mixKind P w)))∧(xs.map (·.1)).Nodup
 | .dB kvs=>kvs.length≤sizeLine∧(a == sysModules)=false∧∃ xs:List ((Int × Bool) × Addr × Value),
   Paired (fun (p:(Int × Bool) × V) (q:(Int × Bool) × Addr × Value)=>p.1=q.1∧H q.2.1=some (.tup (kB p.1))∧RelV p.2 q.2.2) kvs xs ∧
   ∃ o es ep,h.get? a=some o∧o.ExactDict∧o.data=.dict es ep∧es.toList=xs.map (entryOfKey (pairKind P w))∧(xs.map (·.1)).Nodup
 | .set S n=>h.SetOf (intKind P w) a S n
 | .ins C dx fs=>H dx=some (.own a)∧fs.length≤1000∧dx≠a∧h.get? a=some (PySem.W.instObj C dx) ∧
   ∃ mA,h.Ns1 dx mA∧(∀ f,RelO (fs.lookup f) (mA f))∧PySem.Within mA (fs.map (·.1))
 | .own _=>∃ o,h.get? a=some o
 | .xd fs=>∃ mA,h.Ns1 a mA∧∀ f,RelO (fs.lookup f) (mA f)
 | .rng lo hi=>∃ t u v,h.get? a=some { cls:=.type "range",data:=.fields #[.int lo t,.int hi u,.int 1 v] }
 | .frz o u=>h.get? a=some o∧ObjOk H h a u
 | .tbl ps=>h.get? a=some { cls:=.none,data:=.fields ps }
 | .met f x=>h.get? a=some (PySem.W.methodObj (.ref f) (.ref x))
 | .ext φ=>φ h∧(∃ o,h.get? a=some o)∧∀ h1 h2:Heap,φ h1→(∀ o,h1.get? a=some o→h2.get? a=some o)→φ h2
def HOk (H:Hp) (h:Heap):Prop:=∀ a o,H a=some o→ObjOk P w H h a o
end
section
variable {P:Program} {w:World} {H H':Hp} {h h':Heap} {a:Addr} {o:HO}
theorem ObjOk.lt (x:ObjOk P w H h a o):a < h.objs.size:=by
 cases o with
 | lst xs=>obtain ⟨_,_,_,_,e⟩:=x; exact Heap.lt_size e
 | tup xs=>obtain ⟨_,_,_,p⟩:=x; exact p.lt
 | dK kvs=>obtain ⟨_,_,_,_,o,_,_,e,_⟩:=x; exact Heap.lt_size e
 | dT kvs=>obtain ⟨_,_,_,_,o,_,_,e,_⟩:=x; exact Heap.lt_size e
 | dB kvs=>obtain ⟨_,_,_,_,o,_,_,e,_⟩:=x; exact Heap.lt_size e
 | set S n=>obtain ⟨o,_,_,_,e,_⟩:=x; exact Heap.lt_size e
 | ins C dx fs=>obtain ⟨_,_,_,e,_⟩:=x; exact Heap.lt_size e
 | own y=>obtain ⟨_,e⟩:=x; exact Heap.lt_size e
 | xd fs=>obtain ⟨_,⟨_,_,_,e,_⟩,_⟩:=x; exact Heap.lt_size e
 | rng lo hi=>obtain ⟨_,_,_,e⟩:=x; exact Heap.lt_size e
 | frz ob u=>obtain ⟨e,_⟩:=x; exact Heap.lt_size e
 | tbl ps=>exact Heap.lt_size (show h.get? a=some _ from x)
 | met f y=>exact Heap.lt_size (show h.get? a=some _ from x)
 | ext φ=>obtain ⟨_,⟨_,e⟩,_⟩:=x; exact Heap.lt_size e
theorem Paired.mapP {α β:Type} {F G:α→β→Prop}:∀ {l₁:List α} {l₂:List β},Paired F l₁ l₂→(∀ a b,F a b→G a b)→Paired G l₁ l₂
 | _,_,.nil,_=>.nil
 | _,_,.cons r t,f=>.cons (f _ _ r) (Paired.mapP t f)
theorem ObjOk.stay (x:ObjOk P w H h a o) (k:∀ b u,(b=a∨H b=some (.own a))→h.get? b=some u→h'.get? b=some u)
  (ho:∀ b,H b=some (.own a)→H' b=some (.own a)) (ht:∀ b xs,H b=some (.tup xs)→H' b=some (.tup xs)):ObjOk P w H' h' a o:=by
 induction o with
 | lst xs=>obtain ⟨z,its,n,r,e⟩:=x; exact ⟨z,its,n,r,k _ _ (.inl rfl) e⟩
 | tup xs=>obtain ⟨z,its,r,ob,e,c⟩:=x; exact ⟨z,its,r,ob,k _ _ (.inl rfl) e,c⟩
 | dK kvs=>obtain ⟨z,y,vs,r,ob,es,ep,e,c⟩:=x; exact ⟨z,y,vs,r,ob,es,ep,k _ _ (.inl rfl) e,c⟩
 | dT kvs =>
  obtain ⟨z,y,xs,r,ob,es,ep,e,c⟩:=x
  exact ⟨z,y,xs,Paired.mapP r fun p q z=>⟨z.1,ht _ _ z.2.1,z.2.2⟩,ob,es,ep,k _ _ (.inl rfl) e,c⟩
 | dB kvs =>
  obtain ⟨z,y,xs,r,ob,es,ep,e,c⟩:=x
  exact ⟨z,y,xs,Paired.mapP r fun p q z=>⟨z.1,ht _ _ z.2.1,z.2.2⟩,ob,es,ep,k _ _ (.inl rfl) e,c⟩
 | set S n=>obtain ⟨ob,es,ep,t,e,c⟩:=x; exact ⟨ob,es,ep,t,k _ _ (.inl rfl) e,c⟩
 | ins C dx fs =>
  obtain ⟨d,z,ne,e,mA,⟨od,es,ep,e2,c⟩,r⟩:=x
  exact ⟨ho _ d,z,ne,k _ _ (.inl rfl) e,mA,⟨od,es,ep,k _ _ (.inr d) e2,c⟩,r⟩
 | own y=>obtain ⟨ob,e⟩:=x; exact ⟨ob,k _ _ (.inl rfl) e⟩
 | xd fs=>obtain ⟨mA,⟨od,es,ep,e,c⟩,r⟩:=x; exact ⟨mA,⟨od,es,ep,k _ _ (.inl rfl) e,c⟩,r⟩
 | rng lo hi=>obtain ⟨t,u,v,e⟩:=x; exact ⟨t,u,v,k _ _ (.inl rfl) e⟩
 | frz ob u ih=>obtain ⟨e,q⟩:=x; exact ⟨k _ _ (.inl rfl) e,ih q⟩
 | tbl ps =>
  have e:h.get? a=some { cls:=.none,data:=.fields ps }:=x
  show h'.get? a=some { cls:=.none,data:=.fields ps }
  exact k a _ (.inl rfl) e
 | met f y =>
  have e:h.get? a=some (PySem.W.methodObj (.ref f) (.ref y)):=x
  show h'.get? a=some (PySem.W.methodObj (.ref f) (.ref y))
  exact k a _ (.inl rfl) e
 | ext φ=>obtain ⟨p,⟨o,e⟩,st⟩:=x; exact ⟨st _ _ p fun o q=>k _ _ (.inl rfl) q,⟨o,k _ _ (.inl rfl) e⟩,st⟩
theorem HOk.lt (x:HOk P w H h) (e:H a=some o):a < h.objs.size:=(x a o e).lt
theorem HOk.fresh (x:HOk P w H h) (e:h.objs.size≤a):H a=none:=by
 cases q:H a with
 | none=>rfl
 | some u=>exact absurd (Nat.lt_of_lt_of_le (x.lt q) e) (Nat.lt_irrefl _)
theorem HOk.kept (x:HOk P w H h) (k:∀ b u,h.get? b=some u→h'.get? b=some u):HOk P w H h':=fun a o e =>
 (x a o e).stay (fun b u _ q=>k b u q) (fun _ q=>q) fun _ _ q=>q
theorem HOk.laid (x:HOk P w H h) (k:∀ b u,h.get? b=some u→h'.get? b=some u) (hp:h.objs.size≤a) (new:ObjOk P w (upd H a o) h' a o):HOk P w (upd H a o) h':=fun b u e=>by
 have hn:=x.fresh hp
 by_cases hb:b=a
 ·subst hb; rw [upd_same] at e; cases e; exact new
 ·rw [upd_ne hb] at e
  exact (x b u e).stay (fun c v _ q=>k c v q) (fun c q=>by rw [upd_ne (ne_of_none q hn)]; exact q) fun c xs q=>by rw [upd_ne (ne_of_none q hn)]; exact q
end
def Rd (H:Hp) (a:Addr) (u:HO):Prop:=H a=some u∨∃ o,H a=some (.frz o u)
theorem Rd.of {H:Hp} {a:Addr} {u:HO} (h:H a=some u):Rd H a u:=.inl h
theorem Rd.ok {P:Program} {w:World} {H:Hp} {h:Heap} {a:Addr} {u:HO} (r:Rd H a u) (x:HOk P w H h):ObjOk P w H h a u:=by
 rcases r with r | ⟨o,r⟩
 ·exact x a u r
 ·obtain ⟨_,q⟩:=x a _ r
  exact q
def Mut:Option HO→Prop
 | some (.lst _)=>True
 | some (.dK _)=>True
 | some (.dT _)=>True
 | some (.dB _)=>True
 | some (.set _ _)=>True
 | some (.ins _ _ _)=>True
 | some (.ext _)=>True
 | _=>False
section
variable {P:Program} {w:World} {H:Hp} {h h':Heap} {x e:Addr} {o':HO}
theorem HOk.write (ok:HOk P w H h) (mu:Mut (H x)) (he:e=x∨H e=some (.own x)) (k:∀ b u,b≠e→h.get? b=some u→h'.get? b=some u) (heo:∃ u,h'.get? e=some u)
  (new:ObjOk P w (upd H x o') h' x o'):HOk P w (upd H x o') h':=fun b u q=>by
 have nown:∀ c y,H c=some (.own y)→c≠x:=fun c y r z=>by subst z; rw [r] at mu; exact mu
 have ntup:∀ c xs,H c=some (.tup xs)→c≠x:=fun c xs r z=>by subst z; rw [r] at mu; exact mu
 by_cases hb:b=x
 ·subst hb; rw [upd_same] at q; cases q; exact new
 ·rw [upd_ne hb] at q
  by_cases hbe:b=e
  ·have q':H b=some (.own x):=by
    rcases he with z | z
    ·exact absurd (hbe.trans z) hb
    ·rw [hbe]; exact z
   rw [q] at q'; cases q'
   obtain ⟨v,hv⟩:=heo
   exact ⟨v,by rw [hbe]; exact hv⟩
  ·refine (ok b u q).stay (fun c v hc r=>k c v ?_ r) (fun c r=>by rw [upd_ne (nown c b r)]; exact r) fun c xs r=>by rw [upd_ne (ntup c xs r)]; exact r
   rcases hc with rfl | hc
   ·exact hbe
   ·rintro rfl
    rcases he with z | z
    ·exact nown c b hc z
    ·rw [hc] at z; cases z; exact hb rfl
end
structure Un (fs ex:List Addr) (H H':Hp) (h h':Heap):Prop where
 keep:∀ b o,h.get? b=some o→H b=none→b ∉ fs→b ∉ ex→h'.get? b=some o
 slot:∀ b o,h.get? b=some o→H b=none→b∈fs→b ∉ ex→∃ sl,h'.get? b=some { o with slots:=sl }
 free:∀ b o,h.get? b=some o→H b=none→b ∉ ex→H' b=none
 there:∀ b o,h.get? b=some o→b ∉ ex→∃ o',h'.get? b=some o'
 tups:∀ b xs,H b=some (.tup xs)→H' b=some (.tup xs)
 frzs:∀ b o u,H b=some (.frz o u)→H' b=some (.frz o u)
 tbls:∀ b ps,H b=some (.tbl ps)→∃ more,H' b=some (.tbl (ps ++ more))
section
variable {fs fs' ex ex':List Addr} {H H1 H2:Hp} {h h1 h2 h':Heap} {a x e:Addr} {o:HO}
theorem Un.any (u:Un fs ex H H1 h h1) {b:Addr} {ob:Obj} (q:h.get? b=some ob) (n:H b=none) (hx:b ∉ ex):∃ sl,h1.get? b=some { ob with slots:=sl }:=by
 by_cases hb:b∈fs
 ·exact u.slot b ob q n hb hx
 ·exact ⟨ob.slots,u.keep b ob q n hb hx⟩
theorem Un.trans (a:Un fs ex H H1 h h1) (b:Un fs ex H1 H2 h1 h2):Un fs ex H H2 h h2 where
 keep:=fun c ob q n hc hx=>b.keep c ob (a.keep c ob q n hc hx) (a.free c ob q n hx) hc hx
 slot:=fun c ob q n hc hx=>by
  obtain ⟨sl,e1⟩:=a.slot c ob q n hc hx
  obtain ⟨sl',e2⟩:=b.slot c _ e1 (a.free c ob q n hx) hc hx
  exact ⟨sl',e2⟩
 free:=fun c ob q n hx=>by
  obtain ⟨o',e1⟩:=a.there c ob q hx
  exact b.free c o' e1 (a.free c ob q n hx) hx
 there:=fun c ob q hx=>by
  obtain ⟨o',e1⟩:=a.there c ob q hx
  exact b.there c o' e1 hx
 tups:=fun c xs q=>b.tups c xs (a.tups c xs q)
 frzs:=fun c ob xs q=>b.frzs c ob xs (a.frzs c ob xs q)
 tbls:=fun c ps q=>by
  obtain ⟨m1,e1⟩:=a.tbls c ps q
  obtain ⟨m2,e2⟩:=b.tbls c _ e1
  exact ⟨m1 ++ m2,by rw [e2,Array.append_assoc]⟩
theorem Un.kept (k:∀ b u,h.get? b=some u→h'.get? b=some u):Un fs ex H H h h' :=
 ⟨fun b ob q _ _ _=>k b ob q,fun b ob q _ _ _=>⟨ob.slots,k b ob q⟩,fun _ _ _ n _=>n,fun b ob q _=>⟨ob,k b ob q⟩,fun _ _ q=>q,fun _ _ _ q=>q,fun _ ps q=>⟨#[],by rw [q]; simp⟩⟩
theorem Un.refl:Un fs ex H H h h:=Un.kept fun _ _ q=>q
theorem Un.laid (k:∀ b u,h.get? b=some u→h'.get? b=some u) (hp:h.objs.size≤a) (hn:H a=none):Un fs ex H (upd H a o) h h' where
 keep:=fun b u q _ _ _=>k b u q
 slot:=fun b u q _ _ _=>⟨u.slots,k b u q⟩
 free:=fun b u q n _=>by rw [upd_ne (Nat.ne_of_lt (Nat.lt_of_lt_of_le (Heap.lt_size q) hp))]; exact n
 there:=fun b u q _=>⟨u,k b u q⟩
 tups:=fun b xs q=>by rw [upd_ne (ne_of_none q hn)]; exact q
 frzs:=fun b u xs q=>by rw [upd_ne (ne_of_none q hn)]; exact q
 tbls:=fun b ps q=>⟨#[],by rw [upd_ne (ne_of_none q hn),q]; simp⟩
theorem Un.write (mu:Mut (H x)) (he:e=x∨H e=some (.own x)) (k:∀ b u,b≠e→h.get? b=some u→h'.get? b=some u) (heo:∃ u,h'.get? e=some u):Un fs ex H (upd H x o) h h':=by
 have hx:∀ b,H b=none→b≠x:=fun b n z=>by subst z; rw [n] at mu; exact mu
 have hb:∀ b,H b=none→b≠e:=fun b n z=>by
  subst z
  rcases he with r | r
  ·exact hx b n r
  ·rw [n] at r; cases r
 have hm:∀ b u,H b=some u→¬ Mut (some u)→b≠x:=fun b u q nm z=>by subst z; rw [q] at mu; exact nm mu
 refine ⟨fun b u q n _ _=>k b u (hb b n) q,fun b u q n _ _=>⟨u.slots,k b u (hb b n) q⟩,fun b u q n _=>by rw [upd_ne (hx b n)]; exact n,fun b u q _=>?_,
  fun b xs q=>by rw [upd_ne (hm b _ q fun z=>z)]; exact q,fun b u xs q=>by rw [upd_ne (hm b _ q fun z=>z)]; exact q,fun b ps q=>⟨#[],by rw [upd_ne (hm b _ q fun z=>z),q]; simp⟩⟩
 by_cases hbe:b=e
 ·subst hbe; exact heo
 ·exact ⟨u,k b u hbe q⟩
theorem Un.mono (u:Un fs ex H H1 h h1) (hs:∀ b∈fs,b∈fs') (hx:∀ b∈ex,b∈ex'):Un fs' ex' H H1 h h1 :=
 ⟨fun b ob q n hb he=>u.keep b ob q n (fun z=>hb (hs b z)) fun z=>he (hx b z),fun _ _ q n _ he=>u.any q n fun z=>he (hx _ z),fun b ob q n he=>u.free b ob q n fun z=>he (hx b z),fun b ob q he=>u.there b ob q fun z=>he (hx b z),u.tups,u.frzs,u.tbls⟩
end
def trk (h:Heap) (H:Hp):List Addr:=(List.range h.objs.size).filter fun a=>(H a).isSome
def hidT (h:Heap) (H:Hp):Heap:=PySem.W.hideAll h (trk h H)
theorem hidT_size (h:Heap) (H:Hp):(hidT h H).objs.size=h.objs.size:=PySem.W.hideAll_size _ _
theorem hidT_get {h:Heap} {H:Hp} {b:Addr} {o:Obj} (e:h.get? b=some o) (n:H b=none):(hidT h H).get? b=some o :=
 PySem.W.hideAll_get _ e fun hm=>by
  have q:(H b).isSome=true:=(List.mem_filter.mp hm).2
  rw [n] at q; simp at q
theorem of_hidT {h:Heap} {H:Hp} {b:Addr} {o:Obj} (e:(hidT h H).get? b=some o):h.get? b=some o∧H b=none:=by
 have e':h.get? b=some o:=PySem.W.of_hideAll (trk h H) e
 refine ⟨e',?_⟩
 cases q:H b with
 | none=>rfl
 | some x =>
  have hm:b∈trk h H:=List.mem_filter.mpr ⟨List.mem_range.mpr (Heap.lt_size e'),by simp [q]⟩
  have z:(hidT h H).get? b=none:=PySem.W.hideAll_none (trk h H) hm
  rw [z] at e; cases e
def allNews (g h:Heap) (L:Addr):List (Addr × Obj):=(List.range h.objs.size).filterMap fun a=>if a=L∨(g.get? a).isSome=true then none else (h.get? a).map fun o=>(a,o)
def rest (g h:Heap) (L d:Addr):List (Addr × Obj):=(allNews g h L).filter fun p=>decide (p.1≠d)
end L2
namespace L2
open PySem PySem.Spec PyProof.Rows
structure Mod (K:PySem.W.Frag) (mg:Str→Option Value) (base:Heap):Prop where
 kin:K.In base
 glob:base.Ns mainGlobals mg
 blt:∃ mb,base.Ns builtinsNs mb∧∀ x:Str,x≠"__name__"→mb x=bootBuiltins x
 nolimit:base.NoLimit
/-- the context: a def's body (or a comprehension's block) running. base: fixed through the whole law; s₀, H₀: the entry; outer: the frames whose slots others may change (a def's callers); stack: all frames that run;
   ex: iterators that were made ahead of the entry and are walked here (a comprehension's); fn: the names whose cells were made at the entry (a def: all; a comprehension's block: its own); calm: not within an except suite; pn: pins that every state bears; xe: what is wanted of an exception that leaves the code -/
structure Cx where
 prog:Program
 w:World
 K:PySem.W.Frag
 mg:Str→Option Value
 base:Heap
 A:Around
 N:List Str
 s₀:Shared
 H₀:Hp
 env:Env
 outer:List Env
 stack:List Env
 ex:List Addr
 fn:Str→Bool
 calm:Bool
 pn:List (Addr × Obj)
 xe:Value→Shared→Prop
def frs (l:List Env):List Addr:=l.filterMap (·.frame)
abbrev Cx.fs (X:Cx):List Addr:=frs X.outer
def Vis (sc:Scope) (x:Str):Prop:=sc.names.lookup x=some .local∨sc.names.lookup x=some .cell∨sc.names.lookup x=some .free
def Loc (sc:Scope) (x:Str):Prop:=sc.names.lookup x=some .local∨sc.names.lookup x=some .cell
def Look (env:Env) (h:Heap) (m:Str→Option Value) (x:Str) (u:Value):Prop :=
 (env.kindOf x=some .local∧m x=some u)∨((env.kindOf x=some .cell∨env.kindOf x=some .free)∧∃ c,env.cells.lookup x=some c∧h.IsCell c (some u))
structure Cx.Ok (X:Cx):Prop where
 mod:Mod X.K X.mg X.base
 kind:X.env.scope.kind=.function
 glob:X.env.globals=mainGlobals
 blt:X.env.builtins=builtinsNs
 above:X.s₀.heap.objs.size≤X.env.locals
 inj:∀ x y c,X.env.cells.lookup x=some c→X.env.cells.lookup y=some c→x=y
 has:∀ x,(X.env.kindOf x=some .cell∨X.env.kindOf x=some .free)→∃ c,X.env.cells.lookup x=some c
 cab:∀ x c,X.fn x=true→X.env.cells.lookup x=some c→X.s₀.heap.objs.size≤c
 hd:X.calm=true→X.A.handled=none
 frames:X.A.frames=some X.stack
 stk:X.stack=X.outer∨(X.stack=X.env :: X.outer∧X.env.frame=some X.env.locals)
 exf:∀ b∈X.ex,b≠X.env.locals∧∀ x c,X.env.cells.lookup x=some c→c≠b
 bs:∀ b o,X.base.get? b=some o→X.s₀.heap.get? b=some o∧X.H₀ b=none
 bsz:X.base.objs.size≤X.s₀.heap.objs.size
 noex:∀ b o,X.base.get? b=some o→b ∉ X.ex
 exfs:∀ b∈X.ex,b ∉ X.fs
 funs:X.s₀.heap.FunFrames X.base X.outer
 frf:∀ b∈X.fs,X.H₀ b=none
structure Inv (X:Cx) (pins:List (Addr × Obj)) (σ:List (Option V)) (H:Hp) (s:Shared):Prop where
 ok:X.Ok
 os:s.os=X.s₀.os
 bare:AllBare s.gens
 base:Un X.fs X.ex X.H₀ H X.s₀.heap s.heap
 loc:∃ m,s.heap.Ns X.env.locals m∧∀ (i:Nat) (x:Str) (v:V),X.N[i]?=some x→σ[i]?=some (some v)→Vis X.env.scope x→∃ u,RelV v u∧Look X.env s.heap m x u
 cell:∀ x c,X.env.cells.lookup x=some c→∃ v,s.heap.IsCell c v
 free:H X.env.locals=none
 freeC:∀ x c,X.env.cells.lookup x=some c→H c=none
 pin:∀ p∈X.pn ++ pins,s.heap.get? p.1=some p.2∧H p.1=none∧p.1≠X.env.locals∧p.1 ∉ X.fs∧∀ v,p.2.data≠.cell v
 hok:HOk X.prog X.w H s.heap
 len:σ.length=X.N.length
section
variable {X:Cx} {pins:List (Addr × Obj)} {σ:List (Option V)} {H H':Hp} {s:Shared} {h':Heap}
theorem Cx.Ok.nofr (ok:X.Ok) {b:Addr} {o:Obj} (e:X.base.get? b=some o):b ∉ X.fs:=fun hb=>by
 have:=(ok.funs.mem hb).1
 rw [e] at this; cases this
theorem Inv.bs (I:Inv X pins σ H s):∀ b o,X.base.get? b=some o→s.heap.get? b=some o∧H b=none:=fun b o e =>
 ⟨I.base.keep b o (I.ok.bs b o e).1 (I.ok.bs b o e).2 (I.ok.nofr e) (I.ok.noex b o e),I.base.free b o (I.ok.bs b o e).1 (I.ok.bs b o e).2 (I.ok.noex b o e)⟩
theorem Inv.bk (I:Inv X pins σ H s):∀ b o,X.base.get? b=some o→s.heap.get? b=some o:=fun b o e=>(I.bs b o e).1
theorem Inv.mod (I:Inv X pins σ H s):Mod X.K X.mg X.base:=I.ok.mod
theorem Inv.kIn (I:Inv X pins σ H s):X.K.In s.heap:=I.ok.mod.kin.keeps I.bk
theorem Inv.nolimit (I:Inv X pins σ H s):s.heap.NoLimit:=I.ok.mod.nolimit.keeps I.bk
theorem Inv.fr (I:Inv X pins σ H s):∃ m,Fr X.base X.env.locals s.heap m :=
 let ⟨m,hn,_⟩:=I.loc
 ⟨m,hn,I.bk,Nat.le_trans I.ok.bsz I.ok.above⟩
theorem Inv.lt (I:Inv X pins σ H s):X.env.locals < s.heap.objs.size:=let ⟨_,hn,_⟩:=I.loc; hn.lt
theorem Inv.sz (I:Inv X pins σ H s):X.s₀.heap.objs.size≤s.heap.objs.size:=Nat.le_trans I.ok.above (Nat.le_of_lt I.lt)
theorem Inv.nofs (I:Inv X pins σ H s) {a:Addr} (h:s.heap.objs.size≤a):a ∉ X.fs:=fun hb=>by
 obtain ⟨_,o,ho,_⟩:=I.ok.funs.mem hb
 exact absurd (Nat.lt_of_lt_of_le (Heap.lt_size ho) (Nat.le_trans I.sz h)) (Nat.lt_irrefl _)
theorem Inv.cne (I:Inv X pins σ H s):∀ x c,X.env.cells.lookup x=some c→c≠X.env.locals:=fun x c e z=>by
 obtain ⟨v,o,ho,hd⟩:=I.cell x c e
 obtain ⟨m,⟨o',es,ep,ho',hd',_⟩,_⟩:=I.loc
 rw [z,ho'] at ho; cases ho; rw [hd'] at hd; cases hd
theorem Inv.funs (I:Inv X pins σ H s):s.heap.FunFrames X.base X.outer:=by
 have all:∀ (l:List Env),(∀ b∈frs l,b∈X.fs)→X.s₀.heap.FunFrames X.base l→s.heap.FunFrames X.base l:=by
  intro l
  induction l with
  | nil=>intro _ _; trivial
  | cons env r ih =>
   intro hs hl
   obtain ⟨hk,⟨L,o,hf,hn,ho,hd⟩,hr⟩:=hl
   have hL:L∈X.fs:=hs L (by unfold frs; rw [List.filterMap_cons,hf]; exact List.mem_cons_self)
   obtain ⟨sl,e⟩:=I.base.slot L o ho (I.ok.frf L hL) hL fun z=>I.ok.exfs L z hL
   exact ⟨hk,⟨L,_,hf,hn,e,hd⟩,ih (fun b hb=>hs b (by unfold frs; rw [List.filterMap_cons,hf]; exact List.mem_cons_of_mem _ hb)) hr⟩
 exact all X.outer (fun _ hb=>hb) I.ok.funs
theorem Inv.stack (I:Inv X pins σ H s):s.heap.FunFrames X.base X.stack:=by
 rcases I.ok.stk with e | ⟨e,hf⟩
 ·rw [e]; exact I.funs
 ·rw [e]
  obtain ⟨m,hn,_⟩:=I.loc
  refine .cons (by rw [I.ok.kind]; decide) hf hn ?_ I.funs
  exact Heap.get?_none_of_le (Nat.le_trans I.ok.bsz I.ok.above)
theorem Inv.stkSub (I:Inv X pins σ H s):∀ b∈frs X.stack,b∈X.env.locals :: X.fs:=fun b hb=>by
 rcases I.ok.stk with e | ⟨e,hf⟩
 ·rw [e] at hb; exact List.mem_cons_of_mem _ hb
 ·rw [e] at hb
  unfold frs at hb
  rw [List.filterMap_cons,hf] at hb
  exact hb
theorem Inv.stkFree (I:Inv X pins σ H s):∀ b∈frs X.stack,H b=none:=fun b hb=>by
 rcases List.mem_cons.mp (I.stkSub b hb) with e | hb
 ·rw [e]; exact I.free
 ·obtain ⟨_,o,ho,_⟩:=I.ok.funs.mem hb
  exact I.base.free b o ho (I.ok.frf b hb) fun z=>I.ok.exfs b z hb
theorem Inv.step {g':Array GenState} {t':Nat} {d':Drawn} {ch:List Addr} (I:Inv X pins σ H s)
  (hch:∀ b∈ch,(b∈X.ex∨X.s₀.heap.objs.size≤b)∧b≠X.env.locals∧(∀ x c,X.env.cells.lookup x=some c→c≠b)∧∀ p∈X.pn ++ pins,p.1≠b)
  (keep:∀ b o,b≠X.env.locals→b ∉ X.fs→b ∉ ch→s.heap.get? b=some o→H b=none→h'.get? b=some o)
  (slot:∀ b o,b≠X.env.locals→b∈X.fs→b ∉ ch→s.heap.get? b=some o→H b=none→∃ sl,h'.get? b=some { o with slots:=sl }) (free:∀ b o,b ∉ ch→s.heap.get? b=some o→H b=none→H' b=none)
  (there:∀ b o,b ∉ ch→s.heap.get? b=some o→∃ o',h'.get? b=some o')
  (tups:∀ b xs,H b=some (.tup xs)→H' b=some (.tup xs)) (frzs:∀ b o u,H b=some (.frz o u)→H' b=some (.frz o u)) (tbls:∀ b ps,H b=some (.tbl ps)→∃ more,H' b=some (.tbl (ps ++ more)))
  (ns:∀ m,s.heap.Ns X.env.locals m→h'.Ns X.env.locals m) (hok:HOk X.prog X.w H' h') (hg:AllBare g') :
  Inv X pins σ H' { s with heap:=h',gens:=g',drawn:=d',toks:=t' }:=by
 have neL:∀ b o,X.s₀.heap.get? b=some o→b≠X.env.locals:=fun b o e=>Nat.ne_of_lt (Nat.lt_of_lt_of_le (Heap.lt_size e) I.ok.above)
 have neC:∀ b o,X.s₀.heap.get? b=some o→b ∉ X.ex→b ∉ ch:=fun b o e hx hb=>by
  rcases (hch b hb).1 with z | z
  ·exact hx z
  ·exact absurd (Nat.lt_of_lt_of_le (Heap.lt_size e) z) (Nat.lt_irrefl _)
 have cellK:∀ x c,X.env.cells.lookup x=some c→∀ v,s.heap.IsCell c v→h'.IsCell c v:=fun x c e v ⟨o,ho,hd⟩=>by
  have nch:c ∉ ch:=fun z=>(hch c z).2.2.1 x c e rfl
  by_cases hc:c∈X.fs
  ·obtain ⟨sl,q⟩:=slot c o (I.cne x c e) hc nch ho (I.freeC x c e)
   exact ⟨_,q,hd⟩
  ·exact ⟨o,keep c o (I.cne x c e) hc nch ho (I.freeC x c e),hd⟩
 refine ⟨I.ok,I.os,hg,⟨fun b o e n hb hx=>?_,fun b o e n hb hx=>?_,fun b o e n hx=>?_,fun b o e hx=>?_,fun b xs e=>tups b xs (I.base.tups b xs e),fun b o xs e=>frzs b o xs (I.base.frzs b o xs e),fun b ps e=>?_⟩,?_,fun x c e=>?_,?_,fun x c e=>?_,fun p hp=>?_,hok,I.len⟩
 ·exact keep b o (neL b o e) hb (neC b o e hx) (I.base.keep b o e n hb hx) (I.base.free b o e n hx)
 ·obtain ⟨sl,e1⟩:=I.base.slot b o e n hb hx
  obtain ⟨sl',e2⟩:=slot b _ (neL b o e) hb (neC b o e hx) e1 (I.base.free b o e n hx)
  exact ⟨sl',e2⟩
 ·obtain ⟨o',e1⟩:=I.base.there b o e hx
  exact free b o' (neC b o e hx) e1 (I.base.free b o e n hx)
 ·obtain ⟨o',e1⟩:=I.base.there b o e hx
  exact there b o' (neC b o e hx) e1
 ·obtain ⟨m1,e1⟩:=I.base.tbls b ps e
  obtain ⟨m2,e2⟩:=tbls b _ e1
  exact ⟨m1 ++ m2,by rw [e2,Array.append_assoc]⟩
 ·obtain ⟨m,hn,hl⟩:=I.loc
  refine ⟨m,ns m hn,fun i x v e1 e2 e3=>?_⟩
  obtain ⟨u,r,l⟩:=hl i x v e1 e2 e3
  refine ⟨u,r,?_⟩
  rcases l with l | ⟨k,c,e,z⟩
  ·exact .inl l
  ·exact .inr ⟨k,c,e,cellK x c e _ z⟩
 ·obtain ⟨v,z⟩:=I.cell x c e
  exact ⟨v,cellK x c e v z⟩
 ·obtain ⟨m,⟨o,_,_,ho,_⟩,_⟩:=I.loc
  exact free _ o (fun z=>(hch _ z).2.1 rfl) ho I.free
 ·obtain ⟨v,o,ho,hd⟩:=I.cell x c e
  exact free c o (fun z=>(hch c z).2.2.1 x c e rfl) ho (I.freeC x c e)
 ·obtain ⟨e,n,ne,nf,d⟩:=I.pin p hp
  have nch:p.1 ∉ ch:=fun z=>(hch p.1 z).2.2.2 p hp rfl
  exact ⟨keep p.1 p.2 ne nf nch e n,free p.1 p.2 nch e n,ne,nf,d⟩
theorem Inv.un {t':Nat} (I:Inv X pins σ H s) (u:Un X.fs [] H H' s.heap h') (hok:HOk X.prog X.w H' h'):Inv X pins σ H' { s with heap:=h',toks:=t' }:=by
 obtain ⟨m,⟨o,es,ep,ho,r⟩,_⟩:=id I.loc
 obtain ⟨sl,hL⟩:=u.any ho I.free (by simp)
 exact I.step (g':=s.gens) (d':=s.drawn) (ch:=[]) (fun _ z=>nomatch z) (fun b o _ hb _ e n=>u.keep b o e n hb (by simp)) (fun b o _ hb _ e n=>u.slot b o e n hb (by simp)) (fun b o _ e n=>u.free b o e n (by simp)) (fun b o _ e=>u.there b o e (by simp)) u.tups u.frzs u.tbls (fun m' hm=>by
  obtain ⟨o',es',ep',ho',r'⟩:=hm
  rw [ho] at ho'; cases ho'
  exact ⟨_,es',ep',hL,r'⟩) hok I.bare
theorem Inv.call {g':Array GenState} {t':Nat} {d':Drawn} {ch:List Addr} (I:Inv X pins σ H s) (u:Un (frs X.stack) ch H H' s.heap h') (hok:HOk X.prog X.w H' h') (hg:AllBare g')
  (hch:∀ b∈ch,(b∈X.ex∨X.s₀.heap.objs.size≤b)∧b≠X.env.locals∧(∀ x c,X.env.cells.lookup x=some c→c≠b)∧∀ p∈X.pn ++ pins,p.1≠b) :
  Inv X pins σ H' { s with heap:=h',gens:=g',drawn:=d',toks:=t' }:=by
 obtain ⟨m,⟨o,es,ep,ho,r⟩,_⟩:=id I.loc
 obtain ⟨sl,hL⟩:=u.any ho I.free fun z=>(hch _ z).2.1 rfl
 exact I.step (ch:=ch) hch (fun b o hL hb hc e n=>u.keep b o e n (fun z=>(List.mem_cons.mp (I.stkSub b z)).elim hL hb) hc) (fun b o _ _ hc e n=>u.any e n hc) (fun b o hc e n=>u.free b o e n hc) (fun b o hc e=>u.there b o e hc) u.tups u.frzs u.tbls (fun m' hm=>by
  obtain ⟨o',es',ep',ho',r'⟩:=hm
  rw [ho] at ho'; cases ho'
  exact ⟨_,es',ep',hL,r'⟩) hok hg
theorem Inv.turned {t':Nat} {it:Addr} (I:Inv X pins σ H s) (k:∀ b o,b≠it→s.heap.get? b=some o→h'.get? b=some o) (hn:H it=none) (hL:it≠X.env.locals)
  (h1:it∈X.ex∨X.s₀.heap.objs.size≤it) (h2:∀ x c,X.env.cells.lookup x=some c→c≠it) (h3:∀ p∈X.pn ++ pins,p.1≠it):Inv X pins σ H { s with heap:=h',toks:=t' }:=by
 have nit:∀ b u,H b=some u→b≠it:=fun b u e z=>by rw [z,hn] at e; cases e
 refine I.step (g':=s.gens) (d':=s.drawn) (ch:=[it]) (fun b hb=>?_) (fun b o _ _ hc e _=>k b o (fun z=>hc (by simp [z])) e) (fun b o _ _ hc e _=>⟨o.slots,k b o (fun z=>hc (by simp [z])) e⟩) (fun _ _ _ _ n=>n)
  (fun b o hc e=>⟨o,k b o (fun z=>hc (by simp [z])) e⟩) (fun _ _ e=>e) (fun _ _ _ e=>e) (fun b ps e=>⟨#[],by rw [e]; simp⟩) (fun m hm=>?_) (fun b u e=>?_) I.bare
 ·have e:b=it:=by simpa using hb
  subst e
  exact ⟨h1,hL,h2,h3⟩
 ·obtain ⟨o,es,ep,ho,r⟩:=hm
  exact ⟨o,es,ep,k _ o (Ne.symm hL) ho,r⟩
 ·refine (I.hok b u e).stay (fun c v hc q=>k c v ?_ q) (fun _ q=>q) fun _ _ q=>q
  rcases hc with z | z
  ·rw [z]; exact nit b u e
  ·exact nit c _ z
theorem Inv.tok (I:Inv X pins σ H s) (t:Nat):Inv X pins σ H { s with toks:=t }:=I.un (h':=s.heap) (t':=t) Un.refl I.hok
theorem Inv.kept {t':Nat} (I:Inv X pins σ H s) (k:∀ b u,s.heap.get? b=some u→h'.get? b=some u):Inv X pins σ H { s with heap:=h',toks:=t' }:=I.un (Un.kept k) (I.hok.kept k)
theorem Inv.laid {a:Addr} {o:HO} {t':Nat} (I:Inv X pins σ H s) (k:∀ b u,s.heap.get? b=some u→h'.get? b=some u) (hp:s.heap.objs.size≤a) (new:ObjOk X.prog X.w (upd H a o) h' a o) :
  Inv X pins σ (upd H a o) { s with heap:=h',toks:=t' }:=I.un (Un.laid k hp (I.hok.fresh hp)) (I.hok.laid k hp new)
theorem Inv.write {x e:Addr} {o:HO} {t':Nat} (I:Inv X pins σ H s) (mu:Mut (H x)) (he:e=x∨H e=some (.own x)) (k:∀ b u,b≠e→s.heap.get? b=some u→h'.get? b=some u) (heo:∃ u,h'.get? e=some u)
  (new:ObjOk X.prog X.w (upd H x o) h' x o):Inv X pins σ (upd H x o) { s with heap:=h',toks:=t' }:=I.un (Un.write mu he k heo) (I.hok.write mu he k heo new)
theorem Inv.weak {σ':List (Option V)} (I:Inv X pins σ H s) (hl:σ'.length=σ.length) (w:∀ (i:Nat) v,σ'[i]?=some (some v)→σ[i]?=some (some v)):Inv X pins σ' H s :=
 ⟨I.ok,I.os,I.bare,I.base,let ⟨m,hn,hl'⟩:=I.loc; ⟨m,hn,fun i x v e1 e2 e3=>hl' i x v e1 (w i v e2) e3⟩,I.cell,I.free,I.freeC,I.pin,I.hok,hl.trans I.len⟩
theorem Inv.pins_of {pins':List (Addr × Obj)} (I:Inv X pins σ H s) (h:∀ p∈pins',s.heap.get? p.1=some p.2∧H p.1=none∧p.1≠X.env.locals∧p.1 ∉ X.fs∧∀ v,p.2.data≠.cell v):Inv X pins' σ H s :=
 ⟨I.ok,I.os,I.bare,I.base,I.loc,I.cell,I.free,I.freeC,fun p hp=>(List.mem_append.mp hp).elim (fun z=>I.pin p (List.mem_append_left _ z)) (h p),I.hok,I.len⟩
theorem nodup_ix {N:List Str} (hN:N.Nodup) {i j:Nat} {x:Str} (a:N[i]?=some x) (b:N[j]?=some x):i=j:=by
 obtain ⟨h1,e1⟩:=List.getElem?_eq_some_iff.mp a
 obtain ⟨h2,e2⟩:=List.getElem?_eq_some_iff.mp b
 exact (List.getElem_inj hN).mp (e1.trans e2.symm)
theorem store_ok2 {M:Model} {A:Around} {E:Value→Shared→Prop} {i:Nat} {x:Str} {v:V} {u:Value} {Q:Unit→Shared→Prop} (I:Inv X pins σ H s) (hN:X.N.Nodup) (hi:X.N[i]?=some x) (hx:Loc X.env.scope x) (r:RelV v u)
  (h:∀ s',Inv X pins (σ.set i (some v)) H s'→(∃ a,Heap.SameBut a s.heap s'.heap∧(a=X.env.locals∨X.env.cells.lookup x=some a))→Q () s') (hf:X.fn x=true∨X.env.scope.names.lookup x=some .local:=by first | exact .inl rfl | exact .inr rfl | assumption):wpAny M A (storeName X.env x u) Q E s:=by
 obtain ⟨m,hn,hl⟩:=id I.loc
 have hcls:(X.env.scope.kind == .class || (X.env.scope.kind == .module && X.env.locals != X.env.globals))=false:=by rw [I.ok.kind]; rfl
 have hiσ:i < σ.length:=by rw [I.len]; exact (List.getElem?_eq_some_iff.mp hi).1
 have cne:=I.cne
 have tracked:∀ {a:Addr} {h':Heap},(∃ o,s.heap.get? a=some o∧H a=none)→Heap.SameBut a s.heap h'→HOk X.prog X.w H h':=fun {a h'} ha hs b ob e=>by
  obtain ⟨_,_,hfree⟩:=ha
  refine (I.hok b ob e).stay (fun c w' hc q=>(hs.2 c ?_).trans q) (fun _ q=>q) fun _ _ q=>q
  rintro rfl
  rcases hc with rfl | hc
  ·rw [hfree] at e; cases e
  ·rw [hfree] at hc; cases hc
 rcases hx with hk | hk
 ·refine wpAny_storeName_local hk hn (fun h' hn' hs=>?_) hcls
  obtain ⟨oL,_,_,hoL,_⟩:=id hn
  refine h _ ⟨I.ok,I.os,I.bare,⟨fun b o e n hb hx=>?_,fun b o e n hb hx=>?_,I.base.free,fun b o e hx=>?_,I.base.tups,I.base.frzs,I.base.tbls⟩,⟨_,hn',fun j y v' e1 e2 e3=>?_⟩,fun y c e=>?_,I.free,I.freeC,fun p hp=>?_,tracked ⟨oL,hoL,I.free⟩ hs,by simpa using I.len⟩ ⟨_,hs,.inl rfl⟩
  ·exact (hs.2 b (Nat.ne_of_lt (Nat.lt_of_lt_of_le (Heap.lt_size e) I.ok.above))).trans (I.base.keep b o e n hb hx)
  ·obtain ⟨sl,e1⟩:=I.base.slot b o e n hb hx
   exact ⟨sl,(hs.2 b (Nat.ne_of_lt (Nat.lt_of_lt_of_le (Heap.lt_size e) I.ok.above))).trans e1⟩
  ·obtain ⟨o',e1⟩:=I.base.there b o e hx
   exact ⟨o',(hs.2 b (Nat.ne_of_lt (Nat.lt_of_lt_of_le (Heap.lt_size e) I.ok.above))).trans e1⟩
  ·by_cases hj:j=i
   ·subst hj
    rw [hi] at e1; cases e1
    rw [List.getElem?_set_self hiσ] at e2
    cases e2
    exact ⟨u,r,.inl ⟨hk,by simp⟩⟩
   ·rw [List.getElem?_set_ne (Ne.symm hj)] at e2
    obtain ⟨u',r',q⟩:=hl j y v' e1 e2 e3
    refine ⟨u',r',?_⟩
    rcases q with ⟨k,e⟩ | ⟨k,c,e,z⟩
    ·refine .inl ⟨k,?_⟩
     have:y≠x:=fun e=>hj (nodup_ix hN e1 (e ▸ hi))
     simp [this,e]
    ·exact .inr ⟨k,c,e,z.sameBut hs (cne y c e)⟩
  ·obtain ⟨w',z⟩:=I.cell y c e
   exact ⟨w',z.sameBut hs (cne y c e)⟩
  ·obtain ⟨e,n,ne,nf,d⟩:=I.pin p hp
   exact ⟨(hs.2 p.1 ne).trans e,n,ne,nf,d⟩
 ·have hfn:X.fn x=true:=by
   rcases hf with z | z
   ·exact z
   ·rw [z] at hk; cases hk
  obtain ⟨c,hc⟩:=I.ok.has x (.inl hk)
  obtain ⟨w',z⟩:=I.cell x c hc
  refine wpAny_storeName_cell I.ok.kind hk hc z (fun h' hc' hs=>?_)
  obtain ⟨oc,hoc,hocd⟩:=id z
  refine h { s with heap:=h' } ⟨I.ok,I.os,I.bare,⟨fun b o e n hb hx=>?_,fun b o e n hb hx=>?_,I.base.free,fun b o e hx=>?_,I.base.tups,I.base.frzs,I.base.tbls⟩,⟨m,hn.sameBut hs (Ne.symm (cne x c hc)),fun j y v' e1 e2 e3=>?_⟩,fun y c' e=>?_,I.free,I.freeC,fun p hp=>?_,tracked ⟨oc,hoc,I.freeC x c hc⟩ hs,by simpa using I.len⟩ ⟨c,hs,.inr hc⟩
  ·exact (hs.2 b (Nat.ne_of_lt (Nat.lt_of_lt_of_le (Heap.lt_size e) (I.ok.cab x c hfn hc)))).trans (I.base.keep b o e n hb hx)
  ·obtain ⟨sl,e1⟩:=I.base.slot b o e n hb hx
   exact ⟨sl,(hs.2 b (Nat.ne_of_lt (Nat.lt_of_lt_of_le (Heap.lt_size e) (I.ok.cab x c hfn hc)))).trans e1⟩
  ·obtain ⟨o',e1⟩:=I.base.there b o e hx
   exact ⟨o',(hs.2 b (Nat.ne_of_lt (Nat.lt_of_lt_of_le (Heap.lt_size e) (I.ok.cab x c hfn hc)))).trans e1⟩
  ·by_cases hj:j=i
   ·subst hj
    rw [hi] at e1; cases e1
    rw [List.getElem?_set_self hiσ] at e2
    cases e2
    exact ⟨u,r,.inr ⟨.inl hk,c,hc,hc'⟩⟩
   ·rw [List.getElem?_set_ne (Ne.symm hj)] at e2
    obtain ⟨u',r',q⟩:=hl j y v' e1 e2 e3
    refine ⟨u',r',?_⟩
    rcases q with q | ⟨k,c',e,z'⟩
    ·exact .inl q
    ·refine .inr ⟨k,c',e,z'.sameBut hs ?_⟩
     rintro rfl
     exact hj (nodup_ix hN e1 (I.ok.inj _ _ _ e hc ▸ hi))
  ·by_cases hcc:c'=c
   ·subst hcc; exact ⟨_,hc'⟩
   ·obtain ⟨w2,z2⟩:=I.cell y c' e
    exact ⟨w2,z2.sameBut hs hcc⟩
  ·obtain ⟨e,n,ne,nf,d⟩:=I.pin p hp
   refine ⟨(hs.2 p.1 ?_).trans e,n,ne,nf,d⟩
   intro q
   rw [q,hoc] at e
   have q':oc=p.2:=Option.some.inj e
   exact d w' (by rw [← q']; exact hocd)
theorem store_ok {M:Model} {A:Around} {E:Value→Shared→Prop} {i:Nat} {x:Str} {v:V} {u:Value} {Q:Unit→Shared→Prop} (I:Inv X pins σ H s) (hN:X.N.Nodup) (hi:X.N[i]?=some x) (hx:Loc X.env.scope x) (r:RelV v u)
  (h:∀ s',Inv X pins (σ.set i (some v)) H s'→Q () s') (hf:X.fn x=true∨X.env.scope.names.lookup x=some .local:=by first | exact .inl rfl | exact .inr rfl | assumption):wpAny M A (storeName X.env x u) Q E s :=
 store_ok2 I hN hi hx r (fun s' I' _=>h s' I') hf
theorem Inv.call' {s':Shared} {ch:List Addr} (I:Inv X pins σ H s) (ho:s'.os=s.os) (u:Un (frs X.stack) ch H H' s.heap s'.heap) (hok:HOk X.prog X.w H' s'.heap) (hg:AllBare s'.gens)
  (hch:∀ b∈ch,(b∈X.ex∨X.s₀.heap.objs.size≤b)∧b≠X.env.locals∧(∀ x c,X.env.cells.lookup x=some c→c≠b)∧∀ p∈X.pn ++ pins,p.1≠b):Inv X pins σ H' s':=by
 obtain ⟨h',g',d',t',o'⟩:=s'
 have e:o'=s.os:=ho
 subst e
 exact I.call (g':=g') (t':=t') (d':=d') u hok hg hch
end
abbrev XK:=Value→Option Addr→Hp→Prop
abbrev St:=List (Option V)
abbrev VK:=V→Hp→Prop
abbrev TE:=St→Hp→VK→Prop
abbrev TT:=St→Hp→(Bool→Hp→Prop)→Prop
abbrev TA:=St→Hp→(List V→Hp→Prop)→Prop
structure Ends where
 nx:St→Hp→Prop
 rt:VK
 bk:St→Hp→Prop:=fun _ _=>False
 ct:St→Hp→Prop:=fun _ _=>False
abbrev TS:=Ends→St→Hp→Prop
def EP (X:Cx) (pins:List (Addr × Obj)) (σ:St) (Q:VK) (u:Value) (s':Shared):Prop:=∃ v H',Inv X pins σ H' s'∧RelV v u∧Q v H'
def TP (X:Cx) (pins:List (Addr × Obj)) (σ:St) (Q:Bool→Hp→Prop) (b:Bool) (s':Shared):Prop:=∃ H',Inv X pins σ H' s'∧Q b H'
def AP (X:Cx) (pins:List (Addr × Obj)) (σ:St) (Q:List V→Hp→Prop) (us:List Value) (s':Shared):Prop:=∃ vs H',Inv X pins σ H' s'∧Vals vs us∧Q vs H'
def SP (X:Cx) (pins:List (Addr × Obj)) (D:Ends) (f:Flow) (s':Shared):Prop :=
 match f with
 | .next=>∃ σ' H',Inv X pins σ' H' s'∧D.nx σ' H'
 | .brk=>∃ σ' H',Inv X pins σ' H' s'∧D.bk σ' H'
 | .cont=>∃ σ' H',Inv X pins σ' H' s'∧D.ct σ' H'
 | .ret u=>∃ v σ' H',Inv X pins σ' H' s'∧RelV v u∧D.rt v H'
def PE (X:Cx) (e:Expr) (t:TE):Prop :=
 ∀ (pins:List (Addr × Obj)) (s:Shared) (σ:St) (H:Hp) (Q:VK),Inv X pins σ H s→t σ H Q→wpAny (model X.prog X.w) X.A (eval e X.env) (EP X pins σ Q) X.xe s
def PT (X:Cx) (e:Expr) (t:TT):Prop :=
 ∀ (pins:List (Addr × Obj)) (s:Shared) (σ:St) (H:Hp) (Q:Bool→Hp→Prop),Inv X pins σ H s→t σ H Q→wpAny (model X.prog X.w) X.A (isTrue e X.env (eval e X.env)) (TP X pins σ Q) X.xe s
def PW (X:Cx) (e:Expr) (t:TT):Prop :=
 ∀ (whole:Sem Value) (pins:List (Addr × Obj)) (s:Shared) (σ:St) (H:Hp) (Q:Bool→Hp→Prop),Inv X pins σ H s→t σ H Q→wpAny (model X.prog X.w) X.A (isTrue e X.env whole) (TP X pins σ Q) X.xe s
theorem PW.pt {X:Cx} {e:Expr} {t:TT} (h:PW X e t):PT X e t:=h _
def PA (X:Cx) (es:List Expr) (t:TA):Prop :=
 ∀ (pos:Pos) (pins:List (Addr × Obj)) (s:Shared) (σ:St) (H:Hp) (Q:List V→Hp→Prop),Inv X pins σ H s→t σ H Q→wpAny (model X.prog X.w) X.A (spliced (backTo pos (starEach es X.env))) (AP X pins σ Q) X.xe s
def PS (X:Cx) (st:Stmt) (t:TS):Prop :=
 ∀ (pins:List (Addr × Obj)) (s:Shared) (σ:St) (H:Hp) (D:Ends),Inv X pins σ H s→t D σ H→wpAny (model X.prog X.w) X.A (exec st X.env) (SP X pins D) X.xe s
def PSs (X:Cx) (st:List Stmt) (t:TS):Prop :=
 ∀ (pins:List (Addr × Obj)) (s:Shared) (σ:St) (H:Hp) (D:Ends),Inv X pins σ H s→t D σ H→wpAny (model X.prog X.w) X.A (execs st X.env) (SP X pins D) X.xe s
theorem thn {α:Type} {t:Sem α} {Q Q':α→Shared→Prop} {M:Model} {A:Around} {E:Value→Shared→Prop} {s:Shared} (h:wpAny M A t Q E s) (hQ:∀ a s,Q a s→Q' a s):wpAny M A t Q' E s:=wpAny_mono h hQ fun _ _ x=>x
end L2
namespace L2
open PySem PySem.Spec PyProof.Rows
section
variable {X:Cx}
def tVar (i:Nat):TE:=fun σ H Q=>∃ v,σ[i]?=some (some v)∧Q v H
def tC (v:V):TE:=fun _ H Q=>Q v H
theorem pe_var {i:Nat} {x:Str} {pos:Pos} (hN:X.N[i]?=some x) (hv:Vis X.env.scope x) (hd:(x == ("__debug__":Str))=false:=by decide) (hcd:(x == ("__classdict__":Str))=false:=by decide):PE X (.Name x pos) (tVar i):=by
 intro pins s σ H Q I h
 obtain ⟨v,e,h⟩:=h
 obtain ⟨m,hn,hl⟩:=I.loc
 obtain ⟨u,r,l⟩:=hl i x v hN e hv
 have fin:EP X pins σ Q u s:=⟨v,H,I,r,h⟩
 rcases l with ⟨hk,hm⟩ | ⟨hk,c,hc,hcell⟩
 ·exact wpAny_Name (wpAny_loadName_local I.ok.kind hk hn hm fin) hd
 ·rcases hk with hk | hk
  ·exact wpAny_Name (wpAny_loadName_cell I.ok.kind hk hc hcell fin) hd
  ·exact wpAny_Name (wpAny_loadName_free I.ok.kind hk hc hcell fin hcd) hd
theorem pe_int {i j pos}:PE X (.Constant (.int i) j pos) (tC (.int i)):=fun _ _ _ H _ I h=>wpAny_Constant_int ⟨.int i,H,I.tok _,⟨_,rfl⟩,h⟩
theorem pe_bl {b j pos}:PE X (.Constant (.bool b) j pos) (tC (.bl b)):=fun _ _ _ H _ I h=>Constant_bool ⟨.bl b,H,I,rfl,h⟩
theorem pe_non {j pos}:PE X (.Constant .none j pos) (tC .non):=fun _ _ _ H _ I h=>Constant_none ⟨.non,H,I,rfl,h⟩
def Gl (X:Cx) (x:Str):Prop:=X.env.kindOf x=some .globalImplicit
theorem ld_glob {E:Value→Shared→Prop} {pins:List (Addr × Obj)} {s:Shared} {σ:St} {H:Hp} {x:Str} {u:Value} {pos:Pos} {Q:Value→Shared→Prop} (I:Inv X pins σ H s) (hg:Gl X x) (hm:X.mg x=some u) (h:Q u s)
  (hd:(x == ("__debug__":Str))=false:=by decide):wpAny (model X.prog X.w) X.A (eval (.Name x pos) X.env) Q E s :=
 Calls.Name_function_global I.ok.kind hg (Calls.loadGlobal_global (by rw [I.ok.glob]; exact I.mod.glob.keeps I.bk) hm h) hd
theorem ld_blt {E:Value→Shared→Prop} {pins:List (Addr × Obj)} {s:Shared} {σ:St} {H:Hp} {x:Str} {u:Value} {pos:Pos} {Q:Value→Shared→Prop} (I:Inv X pins σ H s) (hg:Gl X x) (hm:X.mg x=none) (hv:bootBuiltins x=some u) (h:Q u s)
  (hn:x≠"__name__":=by decide) (hd:(x == ("__debug__":Str))=false:=by decide):wpAny (model X.prog X.w) X.A (eval (.Name x pos) X.env) Q E s:=by
 obtain ⟨mb,h1,h2⟩:=I.mod.blt
 exact Calls.Name_function_global I.ok.kind hg (Calls.loadGlobal_builtin (by rw [I.ok.glob]; exact I.mod.glob.keeps I.bk) hm (by rw [I.ok.blt]; exact h1.keeps I.bk) ((h2 x hn).trans hv) h) hd
theorem pe_glob {x:Str} {v:V} {u:Value} {pos:Pos} (hg:Gl X x) (hm:X.mg x=some u) (r:RelV v u) (hd:(x == ("__debug__":Str))=false:=by decide):PE X (.Name x pos) (tC v) :=
 fun _ _ _ H _ I h=>ld_glob I hg hm ⟨v,H,I,r,h⟩ hd
theorem pe_bltn {x:Str} {v:V} {u:Value} {pos:Pos} (hg:Gl X x) (hm:X.mg x=none) (hv:bootBuiltins x=some u) (r:RelV v u) (hn:x≠"__name__":=by decide) (hd:(x == ("__debug__":Str))=false:=by decide):PE X (.Name x pos) (tC v) :=
 fun _ _ _ H _ I h=>ld_blt I hg hm hv ⟨v,H,I,r,h⟩ hn hd
variable {a b:Expr} {ta tb:TE} {pos:Pos}
def PC (X:Cx) (op:CmpOp) (a b:Expr) (t:TE):Prop :=
 ∀ (pins:List (Addr × Obj)) (s:Shared) (σ:St) (H:Hp) (Q:VK),Inv X pins σ H s→t σ H Q →
  wpAny (model X.prog X.w) X.A (eval a X.env) (fun v s₁=>wpAny (model X.prog X.w) X.A (eval b X.env) (fun u s₂=>wpAny (model X.prog X.w) X.A (compareOp op v u) (EP X pins σ Q) X.xe s₂) X.xe s₁) X.xe s
theorem nobehind (b:Expr) {op:CmpOp} (h:op≠.In) (h2:op≠.NotIn):behindInMarks op b=false:=by
 have e1:(op == CmpOp.In)=false:=by cases op <;> first | rfl | exact absurd rfl h
 have e2:(op == CmpOp.NotIn)=false:=by cases op <;> first | rfl | exact absurd rfl h2
 cases b <;> simp [behindInMarks,e1,e2]
def tIsN (ta:TE):TE:=fun σ H Q=>ta σ H fun x H1=>Q (.bl (decide (x=.non))) H1
def tNotN (ta:TE):TE:=fun σ H Q=>ta σ H fun x H1=>Q (.bl (!decide (x=.non))) H1
theorem RelV.none_iff {x:V} {v:Value} (r:RelV x v):(v == Value.none)=decide (x=.non):=by
 cases x with
 | non=>cases r; rfl
 | bl _=>cases r; rfl
 | int _=>obtain ⟨t,rfl⟩:=r; rfl
 | str _=>obtain ⟨t,rfl⟩:=r; rfl
 | byt _=>obtain ⟨t,rfl⟩:=r; rfl
 | flt _=>obtain ⟨t,rfl⟩:=r; rfl
 | ref _=>cases r; rfl
 | ty _=>cases r; rfl
theorem pc_isN {j pos'} (ha:PE X a ta):PC X .Is a (.Constant .none j pos') (tIsN ta):=by
 intro pins s σ H Q I h
 refine thn (ha pins s σ H _ I h) fun v s1 ⟨x,H1,I1,r1,q1⟩=>?_
 exact Constant_none (is_none_gen ⟨.bl _,H1,I1,by rw [r1.none_iff]; rfl,q1⟩)
theorem pc_notN {j pos'} (ha:PE X a ta):PC X .IsNot a (.Constant .none j pos') (tNotN ta):=by
 intro pins s σ H Q I h
 refine thn (ha pins s σ H _ I h) fun v s1 ⟨x,H1,I1,r1,q1⟩=>?_
 exact Constant_none (isnot_none_gen ⟨.bl _,H1,I1,by rw [r1.none_iff]; rfl,q1⟩)
def tB (t:TE):TT:=fun σ H Q=>t σ H fun x H1=>∃ c,x=.bl c∧Q c H1
theorem pe_cmp {op:CmpOp} {t:TE} (h:PC X op a b t) (h1:behindInMarks op b=false:=by first | exact nobehind _ (by decide) (by decide) | rfl):PE X (.Compare a [op] [b] pos) t:=fun pins s σ H Q I hw=>wpAny_Compare1 (h pins s σ H Q I hw) h1
theorem pt_cmp {op:CmpOp} {t:TE} (h:PC X op a b t) (h1:behindInMarks op b=false:=by first | exact nobehind _ (by decide) (by decide) | rfl):PT X (.Compare a [op] [b] pos) (tB t):=by
 intro pins s σ H Q I hw
 refine wpAny_isTrue_Compare1 (thn (h pins s σ H _ I hw) fun v s1 h1=>thn h1 fun u s2 h2=>thn h2 fun c s3 ⟨x,H1,I1,r1,q1⟩=>?_) h1
 obtain ⟨d,rfl,q⟩:=q1
 cases r1
 exact wpAny_truthy_bool ⟨H1,I1,q⟩
theorem pt_val {e:Expr} {t:TE} (h:PE X e t) (he:∀ whole,isTrue e X.env whole=(do let v ← whole; standAt e.pos; holding [v] (truthy v)):=by intro _; rfl):PT X e (tB t):=by
 intro pins s σ H Q I hw
 refine isTrue_plain (thn (h pins s σ H _ I hw) fun v s1 ⟨x,H1,I1,r1,q1⟩=>?_) (he _)
 obtain ⟨d,rfl,q⟩:=q1
 cases r1
 exact wpAny_truthy_bool ⟨H1,I1,q⟩
variable {tA tB':TT} {rest:List Expr}
def tAnd (t u:TT):TT:=fun σ H Q=>t σ H fun c H1=>if c=true then u σ H1 Q else Q false H1
def tOr (t u:TT):TT:=fun σ H Q=>t σ H fun c H1=>if c=true then Q true H1 else u σ H1 Q
def tNot (t:TT):TT:=fun σ H Q=>t σ H fun c H1=>Q (!c) H1
theorem pw_and1 (ha:PT X a tA):PW X (.BoolOp .And [a] pos) tA:=by
 intro wh pins s σ H Q I h
 refine isTrue_and (thn (ha pins s σ H Q I h) fun c s1 e=>?_)
 cases c with
 | true=>exact isTrue_and_nil e
 | false=>exact e
theorem pw_or1 (ha:PT X a tA):PW X (.BoolOp .Or [a] pos) tA:=by
 intro wh pins s σ H Q I h
 refine isTrue_or (thn (ha pins s σ H Q I h) fun c s1 e=>?_)
 cases c with
 | false=>exact isTrue_or_nil e
 | true=>exact e
theorem pw_and (ha:PT X a tA) (hb:PW X (.BoolOp .And (b :: rest) pos) tB'):PW X (.BoolOp .And (a :: b :: rest) pos) (tAnd tA tB'):=by
 intro wh pins s σ H Q I h
 refine isTrue_and (thn (ha pins s σ H _ I h) fun c s1 ⟨H1,I1,q1⟩=>?_)
 cases c with
 | true=>exact hb wh pins s1 σ H1 Q I1 q1
 | false=>exact ⟨H1,I1,q1⟩
theorem pw_or (ha:PT X a tA) (hb:PW X (.BoolOp .Or (b :: rest) pos) tB'):PW X (.BoolOp .Or (a :: b :: rest) pos) (tOr tA tB'):=by
 intro wh pins s σ H Q I h
 refine isTrue_or (thn (ha pins s σ H _ I h) fun c s1 ⟨H1,I1,q1⟩=>?_)
 cases c with
 | true=>exact ⟨H1,I1,q1⟩
 | false=>exact hb wh pins s1 σ H1 Q I1 q1
theorem pt_not (ha:PT X a tA):PT X (.UnaryOp .Not a pos) (tNot tA):=by
 intro pins s σ H Q I h
 exact isTrue_not (ha pins s σ H (fun c H1=>Q (!c) H1) I h)
def tAndV (ta tb:TE):TE:=fun σ H Q=>ta σ H fun x H1=>∃ c,x=.bl c∧if c=true then tb σ H1 Q else Q (.bl false) H1
def tOrV (ta tb:TE):TE:=fun σ H Q=>ta σ H fun x H1=>∃ c,x=.bl c∧if c=true then Q (.bl true) H1 else tb σ H1 Q
def tNotV (ta:TE):TE:=fun σ H Q=>ta σ H fun x H1=>∃ c,x=.bl c∧Q (.bl (!c)) H1
theorem pe_one {op} {t:TE} (h:PE X a t):PE X (.BoolOp op [a] pos) t:=fun pins s σ H Q I hw=>BoolOp_one (h pins s σ H Q I hw)
theorem pe_and (ha:PE X a ta) (hb:PE X (.BoolOp .And (b :: rest) pos) tb):PE X (.BoolOp .And (a :: b :: rest) pos) (tAndV ta tb):=by
 intro pins s σ H Q I h
 refine BoolOp_and (thn (ha pins s σ H _ I h) fun v s1 ⟨x,H1,I1,r1,q1⟩=>?_)
 obtain ⟨c,rfl,q1⟩:=q1
 cases r1
 refine wpAny_truthy_bool ?_
 cases c with
 | true=>exact hb pins s1 σ H1 Q I1 q1
 | false=>exact ⟨.bl false,H1,I1,rfl,q1⟩
theorem pe_or (ha:PE X a ta) (hb:PE X (.BoolOp .Or (b :: rest) pos) tb):PE X (.BoolOp .Or (a :: b :: rest) pos) (tOrV ta tb):=by
 intro pins s σ H Q I h
 refine BoolOp_or (thn (ha pins s σ H _ I h) fun v s1 ⟨x,H1,I1,r1,q1⟩=>?_)
 obtain ⟨c,rfl,q1⟩:=q1
 cases r1
 refine wpAny_truthy_bool ?_
 cases c with
 | false=>exact hb pins s1 σ H1 Q I1 q1
 | true=>exact ⟨.bl true,H1,I1,rfl,q1⟩
theorem pe_not (ha:PE X a ta):PE X (.UnaryOp .Not a pos) (tNotV ta):=by
 intro pins s σ H Q I h
 refine UnaryOp_ (thn (ha pins s σ H _ I h) fun v s1 ⟨x,H1,I1,r1,q1⟩=>?_)
 obtain ⟨c,rfl,q1⟩:=q1
 cases r1
 exact not_of (wpAny_truthy_bool ⟨.bl (!c),H1,I1,rfl,q1⟩)
def tIf (t:TT) (ta tb:TE):TE:=fun σ H Q=>t σ H fun c H1=>if c=true then ta σ H1 Q else tb σ H1 Q
theorem pe_ifExp {c:Expr} (hc:PT X c tA) (ha:PE X a ta) (hb:PE X b tb):PE X (.IfExp c a b pos) (tIf tA ta tb):=by
 intro pins s σ H Q I h
 refine wpAny_IfExp (thn (hc pins s σ H _ I h) fun d s1 ⟨H1,I1,q1⟩=>?_)
 cases d with
 | true=>exact ha pins s1 σ H1 Q I1 q1
 | false=>exact hb pins s1 σ H1 Q I1 q1
end
end L2
namespace L2
open PySem PySem.Spec PyProof.Rows
def SqL (K:PySem.W.Frag) (H:Hp) (a:Addr) (xs:List V):Prop :=
 Rd H a (.lst xs) ∨
  ∃ (o:Obj) (its:Array Value) (n:Nat),K.lookup a=some o∧o.cls=.type "list"∧o.dict=none∧o.data=.seq its n∧its.size≤sizeLine∧Vals xs its.toList
def SqT (K:PySem.W.Frag) (H:Hp) (a:Addr) (xs:List V):Prop :=
 Rd H a (.tup xs) ∨
  ∃ (o:Obj) (its:Array Value) (n:Nat),K.lookup a=some o∧o.cls=.type "tuple"∧o.data=.seq its n∧its.size≤sizeLine∧Vals xs its.toList
def absV:Value→Option V
 | .none=>some .non
 | .bool b=>some (.bl b)
 | .int i _=>some (.int i)
 | .str x _=>some (.str x)
 | .bytes b _=>some (.byt b)
 | .float b _=>some (.flt b)
 | .ref a=>some (.ref a)
 | .type n=>some (.ty n)
 | _=>none
theorem RelV.abs {x:V} {u:Value} (r:RelV x u):absV u=some x:=by
 cases x with
 | non=>cases r; rfl
 | bl _=>cases r; rfl
 | int _=>obtain ⟨t,rfl⟩:=r; rfl
 | str _=>obtain ⟨t,rfl⟩:=r; rfl
 | byt _=>obtain ⟨t,rfl⟩:=r; rfl
 | flt _=>obtain ⟨t,rfl⟩:=r; rfl
 | ref _=>cases r; rfl
 | ty _=>cases r; rfl
theorem RelV.inj {x y:V} {u:Value} (r:RelV x u) (q:RelV y u):x=y:=Option.some.inj (r.abs.symm.trans q.abs)
theorem Vals.inj:∀ {xs ys:List V} {us:List Value},Vals xs us→Vals ys us→xs=ys
 | _,_,_,.nil,.nil=>rfl
 | _,_,_,.cons r t,.cons r' t'=>by rw [r.inj r',Vals.inj t t']
section
variable {X:Cx} {pins:List (Addr × Obj)} {σ:St} {H:Hp} {s:Shared} {a:Addr} {xs ys:List V}
theorem SqL.of {K:PySem.W.Frag} (h:H a=some (.lst xs)):SqL K H a xs:=.inl (.inl h)
theorem SqT.of {K:PySem.W.Frag} (h:H a=some (.tup xs)):SqT K H a xs:=.inl (.inl h)
theorem Inv.list (I:Inv X pins σ H s) (h:SqL X.K H a xs):∃ its:List Value,Vals xs its∧PlainL s.heap a its.toArray∧xs.length≤sizeLine:=by
 rcases h with h | ⟨o,its,n,hk,hc,hd,hs,hz,r⟩
 ·obtain ⟨z,its,n,r,e⟩:=h.ok I.hok
  exact ⟨its,r,⟨_,n,e,rfl,rfl,rfl⟩,z⟩
 ·refine ⟨its.toList,r,⟨o,n,I.kIn a o hk,hc,hd,by simpa using hs⟩,?_⟩
  have e:=r.length
  simp only [Array.length_toList] at e
  omega
theorem Inv.tuple (I:Inv X pins σ H s) (h:SqT X.K H a xs):∃ its:List Value,Vals xs its∧IsTup s.heap a its.toArray∧xs.length≤sizeLine:=by
 rcases h with h | ⟨o,its,n,hk,hc,hs,hz,r⟩
 ·obtain ⟨z,its,r,p⟩:=h.ok I.hok
  exact ⟨its,r,p,z⟩
 ·refine ⟨its.toList,r,⟨o,I.kIn a o hk,hc,n,by simpa using hs⟩,?_⟩
  have e:=r.length
  simp only [Array.length_toList] at e
  omega
theorem Inv.list_inj (I:Inv X pins σ H s) (h:SqL X.K H a xs) (h':SqL X.K H a ys):xs=ys:=by
 obtain ⟨its,r,⟨o,n,e,_,_,d⟩,_⟩:=I.list h
 obtain ⟨its',r',⟨o',n',e',_,_,d'⟩,_⟩:=I.list h'
 rw [e] at e'; cases e'
 rw [d] at d'
 injection d' with d1 _
 have:its=its':=by simpa using congrArg Array.toList d1
 subst this
 exact r.inj r'
end
abbrev Cx.wish (X:Cx) (E:Value→Shared→Prop):Cx:={ X with xe:=E }
abbrev Cx.nox (X:Cx):Cx:=X.wish fun _ _=>False
theorem Cx.Ok.wish {X:Cx} (ok:X.Ok) (E:Value→Shared→Prop):(X.wish E).Ok :=
 ⟨ok.mod,ok.kind,ok.glob,ok.blt,ok.above,ok.inj,ok.has,ok.cab,ok.hd,ok.frames,ok.stk,ok.exf,ok.bs,ok.bsz,ok.noex,ok.exfs,ok.funs,ok.frf⟩
theorem Cx.Ok.unwish {X:Cx} {E:Value→Shared→Prop} (ok:(X.wish E).Ok):X.Ok :=
 ⟨ok.mod,ok.kind,ok.glob,ok.blt,ok.above,ok.inj,ok.has,ok.cab,ok.hd,ok.frames,ok.stk,ok.exf,ok.bs,ok.bsz,ok.noex,ok.exfs,ok.funs,ok.frf⟩
section
variable {X:Cx} {pins:List (Addr × Obj)} {σ:St} {H:Hp} {s:Shared} {E:Value→Shared→Prop}
theorem Inv.wish (I:Inv X pins σ H s) (E:Value→Shared→Prop):Inv (X.wish E) pins σ H s:=⟨I.ok.wish E,I.os,I.bare,I.base,I.loc,I.cell,I.free,I.freeC,I.pin,I.hok,I.len⟩
theorem Inv.unwish (I:Inv (X.wish E) pins σ H s):Inv X pins σ H s:=⟨I.ok.unwish,I.os,I.bare,I.base,I.loc,I.cell,I.free,I.freeC,I.pin,I.hok,I.len⟩
theorem SP.unwish {D:Ends} {f:Flow} {s':Shared} (h:SP (X.wish E) pins D f s'):SP X pins D f s':=by
 cases f with
 | next=>obtain ⟨σ',H',I,q⟩:=h; exact ⟨σ',H',I.unwish,q⟩
 | brk=>obtain ⟨σ',H',I,q⟩:=h; exact ⟨σ',H',I.unwish,q⟩
 | cont=>obtain ⟨σ',H',I,q⟩:=h; exact ⟨σ',H',I.unwish,q⟩
 | ret u=>obtain ⟨v,σ',H',I,r,q⟩:=h; exact ⟨v,σ',H',I.unwish,r,q⟩
theorem PE.nox {e:Expr} {t:TE} (h:PE X.nox e t):PE X e t:=fun pins s σ H Q I hw =>
 wpAny_mono (h pins s σ H Q (I.wish _) hw) (fun _ _ ⟨v,H',I',r,q⟩=>⟨v,H',I'.unwish,r,q⟩) fun _ _ z=>False.elim z
theorem PT.nox {e:Expr} {t:TT} (h:PT X.nox e t):PT X e t:=fun pins s σ H Q I hw =>
 wpAny_mono (h pins s σ H Q (I.wish _) hw) (fun _ _ ⟨H',I',q⟩=>⟨H',I'.unwish,q⟩) fun _ _ z=>False.elim z
theorem PSs.nox {st:List Stmt} {t:TS} (h:PSs X.nox st t):PSs X st t:=fun pins s σ H D I hw =>
 wpAny_mono (h pins s σ H D (I.wish _) hw) (fun _ _ q=>q.unwish) fun _ _ z=>False.elim z
end
section
variable {X:Cx} {st:Stmt} {rest:List Stmt} {t u:TS} {e:Expr} {te:TE} {pos:Pos}
def tNext:TS:=fun D σ H=>D.nx σ H
def tSeq (t u:TS):TS:=fun D σ H=>t { D with nx:=u D } σ H
theorem pss_nil:PSs X [] tNext:=fun _ _ σ H _ I h=>wpAny_execs_nil ⟨σ,H,I,h⟩
theorem pss_cons (h1:PS X st t) (h2:PSs X rest u):PSs X (st :: rest) (tSeq t u):=by
 intro pins s σ H D I h
 refine wpAny_execs_cons (thn (h1 pins s σ H { D with nx:=u D } I h) fun f s1 q=>?_)
 cases f with
 | next =>
  obtain ⟨σ',H',I',q⟩:=q
  exact h2 pins s1 σ' H' D I' q
 | ret v=>exact q
 | brk=>exact q
 | cont=>exact q
theorem Inv.quiet {pins:List (Addr × Obj)} {σ:St} {H:Hp} {s:Shared} (I:Inv X pins σ H s):interactive X.env=false:=by simp [interactive,I.ok.kind]
def tDrop (te:TE):TS:=fun D σ H=>te σ H fun _ H1=>D.nx σ H1
theorem ps_expr (he:PE X e te) (hs:swapsWith e none pos.line X.env=pure false:=by rfl):PS X (.Expr e pos) (tDrop te):=by
 intro pins s σ H D I h
 exact wpAny_Expr_any (thn (he pins s σ H _ I h) fun v s1 ⟨x,H1,I1,r1,q1⟩=>⟨σ,H1,I1,q1⟩) I.quiet hs
def tRet (te:TE):TS:=fun D σ H=>te σ H D.rt
theorem ps_ret (he:PE X e te):PS X (.Return (some e) pos) (tRet te):=by
 intro pins s σ H D I h
 exact wpAny_Return_some (thn (he pins s σ H _ I h) fun v s1 ⟨x,H1,I1,r1,q1⟩=>⟨x,σ,H1,I1,r1,q1⟩)
def tIfS (c:TT) (t u:TS):TS:=fun D σ H=>c σ H fun b H1=>if b=true then t D σ H1 else u D σ H1
theorem ps_if {c:Expr} {a b:List Stmt} {tc:TT} (hc:PT X c tc) (ha:PSs X a t) (hb:PSs X b u):PS X (.If c a b pos) (tIfS tc t u):=by
 intro pins s σ H D I h
 refine wpAny_If (thn (hc pins s σ H _ I h) fun d s1 ⟨H1,I1,q1⟩=>?_)
 cases d with
 | true=>exact ha pins s1 σ H1 D I1 q1
 | false=>exact hb pins s1 σ H1 D I1 q1
def tNever:TS:=fun _ _ _=>False
theorem pss_never {sts:List Stmt}:PSs X sts tNever:=fun _ _ _ _ _ _ h=>h.elim
end
abbrev TG:=V→St→Hp→(St→Hp→Prop)→Prop
abbrev TGs:=List V→St→Hp→(St→Hp→Prop)→Prop
def PG (X:Cx) (target:Expr) (t:TG):Prop :=
 ∀ (pins:List (Addr × Obj)) (s:Shared) (σ:St) (H:Hp) (v:V) (u:Value) (Q:St→Hp→Prop),Inv X pins σ H s→RelV v u→t v σ H Q →
  wpAny (model X.prog X.w) X.A (assign target X.env u) (fun _ s'=>∃ σ' H',Inv X pins σ' H' s'∧Q σ' H') X.xe s
def PGs (X:Cx) (ts:List Expr) (t:TGs):Prop :=
 ∀ (pins:List (Addr × Obj)) (s:Shared) (σ:St) (H:Hp) (vs:List V) (us:List Value) (Q:St→Hp→Prop),Inv X pins σ H s→Vals vs us→t vs σ H Q →
  wpAny (model X.prog X.w) X.A (assignInOrder ((assignEach ts X.env).map (·.2)) us) (fun _ s'=>∃ σ' H',Inv X pins σ' H' s'∧Q σ' H') X.xe s
abbrev TSet:=V→V→V→Hp→(Hp→Prop)→Prop
def PSet (X:Cx) (t:TSet):Prop :=
 ∀ (pins:List (Addr × Obj)) (s:Shared) (σ:St) (H:Hp) (o i v:V) (ov iv u:Value) (Q:Hp→Prop),Inv X pins σ H s→RelV o ov→RelV i iv→RelV v u→t o i v H Q →
  wpAny (model X.prog X.w) X.A (setItem ov iv u) (fun _ s'=>∃ H',Inv X pins σ H' s'∧Q H') X.xe s
section
variable {X:Cx} {pos:Pos}
def gName (i:Nat):TG:=fun v σ H Q=>Q (σ.set i (some v)) H
theorem pg_name {i:Nat} {x:Str} (hN:X.N.Nodup) (hi:X.N[i]?=some x) (hx:Loc X.env.scope x) (hf:X.fn x=true∨X.env.scope.names.lookup x=some .local:=by first | exact .inl rfl | exact .inr rfl | assumption):PG X (.Name x pos) (gName i):=by
 intro pins s σ H v u Q I r h
 exact wpAny_assign_Name (store_ok I hN hi hx r (fun s' I'=>⟨_,H,I',h⟩) hf)
def gNil:TGs:=fun vs σ H Q=>vs=[]∧Q σ H
def gCons (t:TG) (u:TGs):TGs:=fun vs σ H Q=>∃ v r,vs=v :: r∧t v σ H fun σ' H'=>u r σ' H' Q
theorem pgs_nil:PGs X [] gNil:=by
 intro pins s σ H vs us Q I r h
 obtain ⟨e,h⟩:=h
 subst e
 cases r
 exact assignInOrder_nil ⟨σ,H,I,h⟩
theorem pgs_cons {e:Expr} {es:List Expr} {t:TG} {u:TGs} (h1:PG X e t) (h2:PGs X es u)
  (hs:(assignEach (e :: es) X.env).map (·.2)=assign e X.env :: (assignEach es X.env).map (·.2):=by rfl):PGs X (e :: es) (gCons t u):=by
 intro pins s σ H vs us Q I r h
 obtain ⟨v,vr,e1,h⟩:=h
 subst e1
 cases r with
 | cons r rr =>
  rw [hs]
  refine assignInOrder_cons (thn (h1 pins s σ H _ _ _ I r h) fun _ s1 ⟨σ1,H1,I1,q1⟩=>?_)
  exact h2 pins s1 σ1 H1 _ _ Q I1 rr q1
def gTup (K:PySem.W.Frag) (n:Nat) (t:TGs):TG:=fun v σ H Q=>∃ a xs,v=.ref a∧SqT K H a xs∧xs.length=n∧t xs σ H Q
theorem pg_tup {es:List Expr} {k:Nat} {t:TGs} {n:Nat} (hc:X.calm=true) (h:PGs X es t)
  (hn:(assignEach es X.env).length=n:=by rfl) (hst:(assignEach es X.env).findIdx? (·.1)=none:=by rfl):PG X (.Tuple es k pos) (gTup X.K n t):=by
 intro pins s σ H v u Q I r hw
 obtain ⟨a,xs,e1,hq,hl,hw⟩:=hw
 subst e1
 cases r
 obtain ⟨its,rv,ht,hz⟩:=I.tuple hq
 refine assign_Tuple_tuple (I.ok.hd hc) ht (by simp [hn,← hl,rv.length]) hst fun h' hx=>?_
 have I1:Inv X pins σ H { s with heap:=h' }:=I.kept (t':=s.toks) fun b o e=>hx b o (Nat.ne_of_lt (Heap.lt_size e)) e
 exact h pins _ σ H xs _ Q I1 (by simpa using rv) hw
def gSub (to ti:TE) (t:TSet):TG:=fun v σ H Q=>to σ H fun o H1=>ti σ H1 fun i H2=>t o i v H2 fun H3=>Q σ H3
theorem pg_sub {o i:Expr} {to ti:TE} {t:TSet} (ho:PE X o to) (hi:PE X i ti) (hs:PSet X t)
  (ha:∀ v,assign (.Subscript o i pos) X.env v=(do
   let ov ← holding [v] (eval o X.env)
   let iv ← holding [v,ov] (eval i X.env)
   standAt pos
   holding [v,ov,iv] (setItem ov iv v)
   release [v,ov,iv] []):=by intro _; rfl):PG X (.Subscript o i pos) (gSub to ti t):=by
 intro pins s σ H v u Q I r h
 rw [ha]
 refine wpAny_bind (wpAny_holding (thn (ho pins s σ H _ I h) fun ov s1 ⟨x,H1,I1,r1,q1⟩=>?_))
 refine wpAny_bind (wpAny_holding (thn (hi pins s1 σ H1 _ I1 q1) fun iv s2 ⟨y,H2,I2,r2,q2⟩=>?_))
 refine wpAny_bind (wpAny_standAt (wpAny_bind (wpAny_holding (thn (hs pins s2 σ H2 x y v ov iv u _ I2 r1 r2 r q2) fun _ s3 ⟨H3,I3,q3⟩=>?_))))
 exact wpAny_release ⟨σ,H3,I3,q3⟩
def tAsg (te:TE) (g:TG):TS:=fun D σ H=>te σ H fun x H1=>g x σ H1 D.nx
theorem ps_asg {tg e:Expr} {te:TE} {g:TG} (he:PE X e te) (hg:PG X tg g) (hs:swapsWithSole [tg] e pos.line X.env=pure false:=by rfl) (hw:swappedStores [tg] e X.env=pure none:=by rfl)
  (h1:(assignEach [tg] X.env).map (·.2)=[assign tg X.env]:=by rfl):PS X (.Assign [tg] e pos) (tAsg te g):=by
 intro pins s σ H D I h
 refine wpAny_Assign_stores (thn (he pins s σ H _ I h) fun v s1 ⟨x,H1,I1,r1,q1⟩=>?_) hs hw
 rw [h1]
 exact thn (hg pins s1 σ H1 x v _ I1 r1 q1) fun _ s2 q=>q
theorem ps_set {i:Nat} {x:Str} {e:Expr} {te:TE} {pos':Pos} (hN:X.N.Nodup) (hi:X.N[i]?=some x) (hx:Loc X.env.scope x) (he:PE X e te) (hs:swapsWith e (some (.Name x pos')) pos.line X.env=pure false:=by rfl) (hf:X.fn x=true∨X.env.scope.names.lookup x=some .local:=by first | exact .inl rfl | exact .inr rfl | assumption) :
  PS X (.Assign [.Name x pos'] e pos) (tAsg te (gName i)):=by
 intro pins s σ H D I h
 refine wpAny_Assign_Name (thn (he pins s σ H _ I h) fun v s1 ⟨y,H1,I1,r1,q1⟩=>?_) hs
 exact store_ok I1 hN hi hx r1 (fun s2 I2=>⟨_,H1,I2,q1⟩) hf
end
section
variable {X:Cx} {pos:Pos}
def tWhile (c:TT) (tb:TS):TS:=fun D σ H=>∃ W:Nat→St→Hp→Prop,(∃ m,W m σ H)∧∀ m σ H,W m σ H →
 c σ H fun b H1=>if b=true then ∃ N:St→Hp→Prop,(∀ σ' H',N σ' H'→∃ m',m' < m∧W m' σ' H')∧tb { D with nx:=N,ct:=N,bk:=D.nx } σ H1 else D.nx σ H1
theorem ps_while {c:Expr} {body:List Stmt} {tc:TT} {tb:TS} (hp:PassesOwn (model X.prog X.w) X.A X.env X.xe) (hc:PT X c tc) (hb:PSs X body tb):PS X (.While c body [] pos) (tWhile tc tb):=by
 intro pins s σ H D I h
 obtain ⟨W,⟨m0,w0⟩,turn⟩:=h
 refine wpAny_While (codeAny_whileLoop (fun n s'=>∃ σ' H',Inv X pins σ' H' s'∧W n σ' H') ?_ m0 ⟨σ,H,I,w0⟩)
 rintro n s1 ⟨σ1,H1,I1,w1⟩
 refine wpAny_passesOwn hp (thn (hc pins s1 σ1 H1 _ I1 (turn n σ1 H1 w1)) fun b s2 ⟨H2,I2,q2⟩=>?_)
 cases b with
 | true =>
  obtain ⟨N,hN,q2⟩:=q2
  rw [if_pos rfl]
  refine wpAny_passesOwn hp (thn (hb pins s2 σ1 H2 _ I2 q2) fun f s3 q3=>?_)
  cases f with
  | next =>
   obtain ⟨σ3,H3,I3,n3⟩:=q3
   obtain ⟨m',hm,w3⟩:=hN σ3 H3 n3
   exact ⟨m',hm,σ3,H3,I3,w3⟩
  | cont =>
   obtain ⟨σ3,H3,I3,n3⟩:=q3
   obtain ⟨m',hm,w3⟩:=hN σ3 H3 n3
   exact ⟨m',hm,σ3,H3,I3,w3⟩
  | brk=>exact q3
  | ret v=>exact q3
 | false =>
  rw [if_neg Bool.false_ne_true]
  exact wpAny_execs_nil ⟨σ1,H2,I2,q2⟩
end
structure It where
 go:Nat→Hp→Prop
 yld:Nat→Hp→V→Hp→Prop
 stop:Nat→Hp→Prop
def FpOk (X:Cx) (pins:List (Addr × Obj)) (H:Hp) (b:Addr):Prop :=
 H b=none∧b≠X.env.locals∧b ∉ X.fs∧(b∈X.ex∨X.s₀.heap.objs.size≤b)∧(∀ x c,X.env.cells.lookup x=some c→c≠b)∧∀ p∈X.pn ++ pins,p.1≠b
theorem Inv.fpOk {X:Cx} {pins:List (Addr × Obj)} {σ:St} {H H':Hp} {s:Shared} {b:Addr} (I:Inv X pins σ H s) (hb:s.heap.objs.size≤b) (hn:H' b=none):FpOk X pins H' b:=by
 refine ⟨hn,Nat.ne_of_gt (Nat.lt_of_lt_of_le I.lt hb),I.nofs hb,.inr (Nat.le_trans I.sz hb),fun x c e z=>?_,fun p hp z=>?_⟩
 ·obtain ⟨v,q⟩:=I.cell x c e
  exact absurd (Nat.lt_of_lt_of_le q.lt (by rw [z]; exact hb)) (Nat.lt_irrefl _)
 ·exact absurd (Nat.lt_of_lt_of_le (Heap.lt_size (I.pin p hp).1) (by rw [z]; exact hb)) (Nat.lt_irrefl _)
structure Turn (P:Program) (w:World) (K:PySem.W.Frag) (tg:Expr) (J:It) (fp:List Addr) (it:Addr) (tn:Nat→Heap→Prop):Prop where
 mem:it∈fp
 obj:∀ i h,tn i h→∀ b∈fp,∃ o,h.get? b=some o∧∀ v,o.data≠.cell v
 keep:∀ i h h',tn i h→(∀ b∈fp,∀ o,h.get? b=some o→h'.get? b=some o)→tn i h'
 item:∀ (X:Cx),X.prog=P→X.w=w→X.K=K→X.calm=true→∀ (i:Nat) (pins:List (Addr × Obj)) (s:Shared) (σ:St) (H:Hp) (E:Value→Shared→Prop),Inv X pins σ H s→(∀ b∈fp,FpOk X pins H b)→tn i s.heap→J.go i H →
  wpAny (model P w) X.A (pyNext (.ref it)) (fun r s1=>∃ u,r=some u ∧
   wpAny (model P w) X.A (letOwnedTupleGo tg (.ref it) u) (fun _ s2=>∃ x H',Inv X pins σ H' s2∧RelV x u∧J.yld i H x H'∧tn (i + 1) s2.heap∧∀ b∈fp,H' b=none) E s1) E s
 done:∀ (X:Cx),X.prog=P→X.w=w→X.K=K→X.calm=true→∀ (i:Nat) (pins:List (Addr × Obj)) (s:Shared) (σ:St) (H:Hp) (E:Value→Shared→Prop),Inv X pins σ H s→(∀ b∈fp,FpOk X pins H b)→tn i s.heap→J.stop i H →
  wpAny (model P w) X.A (pyNext (.ref it)) (fun r s1=>r=none∧Inv X pins σ H s1) E s
 self:∀ (A:Around) (i:Nat) (s:Shared) (Q:Value→Shared→Prop) (E:Value→Shared→Prop),tn i s.heap→Q (.ref it) s→wpAny (model P w) A (pyIter (.ref it)) Q E s
abbrev TI:=St→Hp→(It→Hp→Prop)→Prop
def PIE (X:Cx) (pins:List (Addr × Obj)) (σ:St) (tg:Expr) (R:It→Hp→Prop) (itv:Value) (s2:Shared):Prop :=
 ∃ (it:Addr) (fp:List Addr) (tn:Nat→Heap→Prop) (J:It) (H':Hp),itv=.ref it∧Inv X pins σ H' s2∧Turn X.prog X.w X.K tg J fp it tn∧tn 0 s2.heap∧(∀ b∈fp,FpOk X pins H' b)∧R J H'
def PI (X:Cx) (tg iter:Expr) (wi:TI):Prop :=
 ∀ (pins:List (Addr × Obj)) (s:Shared) (σ:St) (H:Hp) (R:It→Hp→Prop),Inv X pins σ H s→wi σ H R →
  wpAny (model X.prog X.w) X.A (eval iter X.env) (fun v s1=>wpAny (model X.prog X.w) X.A (pyIter v) (PIE X pins σ tg R) X.xe s1) X.xe s
theorem go_of {M : Model} {A : Around} {E : Value → Shared → Prop} {s : Shared} {tg : Expr} {it : Addr} {u : Value} {o : Obj} {n : String} {vs : Array Value} {Q : Unit → Shared → Prop} (ho : s.heap.get? it = some o) (hc : o.cls = .type n) (hd : o.data = .fields vs)
    (hn : ["enumerate", "zip", "dict_itemiterator", "dict_reverseitemiterator", "odict_iterator", "itertools.zip_longest", "itertools.pairwise"].contains n = false) (hQ : Q () s) : wpAny M A (letOwnedTupleGo tg (.ref it) u) Q E s := by
  unfold letOwnedTupleGo
  cases tg <;> first
    | exact wpAny_pure hQ
    | (cases u <;> first
        | exact wpAny_pure hQ
        | (refine wpAny_bind (wpAny_load ho ?_)
           rw [hc, hd]
           show wpAny M A (if (["enumerate", "zip", "dict_itemiterator", "dict_reverseitemiterator", "odict_iterator", "itertools.zip_longest", "itertools.pairwise"].contains n && vs[0]? == some (rawInt _)) = true then _ else _) Q E s
           rw [if_neg (by intro h; rw [hn, Bool.false_and] at h; cases h)]
           exact wpAny_pure hQ))
def Itl (K:PySem.W.Frag) (a:Addr):It :=
 ⟨fun i H=>∃ xs x,SqL K H a xs∧xs[i]?=some x,fun i H x H'=>H'=H∧∀ xs,SqL K H a xs→xs[i]?=some x,fun i H=>∃ xs,SqL K H a xs∧xs.length≤i⟩
def Itr (lo:Int) (n:Nat):It:=⟨fun i _=>i < n,fun i H x H'=>H'=H∧x=.int (lo + i),fun i _=>n≤i⟩
theorem turn_list {P:Program} {w:World} {K:PySem.W.Frag} {tg:Expr} (a it:Addr):Turn P w K tg (Itl K a) [it] it (fun i h=>h.IsListIter it a i) where
 mem:=by simp
 obj:=fun i h st b hb=>by
  have e:b=it:=by simpa using hb
  subst e
  obtain ⟨o,e,c,d⟩:=st
  exact ⟨o,e,fun v z=>by rw [d] at z; cases z⟩
 keep:=fun i h h' st k=>st.at fun o e=>k it (by simp) o e
 item:=by
  intro X hP hw hK hc i pins s σ H E I hf st hg
  subst hP hw hK
  obtain ⟨xs,x,hq,hx⟩:=hg
  obtain ⟨its,rv,p,hz⟩:=I.list hq
  obtain ⟨u,hu,ru⟩:=rv.get hx
  obtain ⟨f0,f1,f2,f3,f4,f5⟩:=hf it (by simp)
  refine wpAny_pyNext_list_item st p.isList (x:=u) (by simpa using hu) fun h' st' sb=>?_
  have I1:Inv X pins σ H { s with heap:=h' }:=I.turned (t':=s.toks) (fun b o hb e=>(sb.2 b hb).trans e) f0 f1 f3 f4 f5
  obtain ⟨o,e,c,d⟩:=id st'
  exact ⟨u,rfl,go_of (s:={ s with heap:=h' }) e c d (by decide) ⟨x,H,I1,ru,⟨rfl,fun ys hy=>by rw [I.list_inj hy hq]; exact hx⟩,st',fun b hb=>(hf b hb).1⟩⟩
 done:=by
  intro X hP hw hK hc i pins s σ H E I hf st hg
  subst hP hw hK
  obtain ⟨xs,hq,hx⟩:=hg
  obtain ⟨its,rv,p,hz⟩:=I.list hq
  obtain ⟨f0,f1,f2,f3,f4,f5⟩:=hf it (by simp)
  have hl:=rv.length
  exact wpAny_pyNext_list_end (I.ok.hd hc) st p.isList (by simp; omega) fun h' eb=>⟨rfl,I.turned (t':=s.toks) (fun b o hb e=>eb b o hb e) f0 f1 f3 f4 f5⟩
 self:=fun _ _ _ _ _ st h=>wpAny_pyIter_listiter st h
theorem turn_range {P:Program} {w:World} {K:PySem.W.Frag} {tg:Expr} (it:Addr) (lo:Int) (n:Nat):Turn P w K tg (Itr lo n) [it] it (fun i h=>IsRangeIter h it (lo + (i:Nat) * 1) ((n:Int) - (i:Nat)) 1) where
 mem:=by simp
 obj:=fun i h st b hb=>by
  have e:b=it:=by simpa using hb
  subst e
  exact ⟨_,st,fun v z=>by
   have z':Data.fields _=Data.cell v:=z
   cases z'⟩
 keep:=fun i h h' st k=>k it (by simp) _ st
 item:=by
  intro X hP hw hK hc i pins s σ H E I hf st hg
  subst hP hw hK
  obtain ⟨f0,f1,f2,f3,f4,f5⟩:=hf it (by simp)
  have W:=Walks.range (prog:=X.prog) (w:=X.w) (I.ok.hd hc) it lo 1 n
  refine W.item i s _ _ hg st fun v h' tk hv st' kk=>?_
  obtain ⟨t,rfl⟩:=hv
  have I1:Inv X pins σ H { s with heap:=h',toks:=tk }:=I.turned (fun b o hb e=>kk b o (by simpa using hb) e) f0 f1 f3 f4 f5
  refine ⟨_,rfl,go_of (s:={ s with heap:=h',toks:=tk }) (n:="range_iterator") st' rfl rfl (by decide) ⟨.int (lo + i),H,I1,⟨t,?_⟩,⟨rfl,rfl⟩,st',fun b hb=>(hf b hb).1⟩⟩
  rw [Int.mul_one]
 done:=by
  intro X hP hw hK hc i pins s σ H E I hf st hg
  subst hP hw hK
  obtain ⟨f0,f1,f2,f3,f4,f5⟩:=hf it (by simp)
  exact wpAny_pyNext_range_end (I.ok.hd hc) st (by have:n≤i:=hg; omega) fun h' eb=>⟨rfl,I.turned (t':=s.toks) (fun b o hb e=>eb b o hb e) f0 f1 f3 f4 f5⟩
 self:=fun _ _ _ _ _ st h=>wpAny_pyIter_rangeiter st h
end L2
namespace L2
open PySem PySem.Spec PyProof.Rows
section
variable {X:Cx} {tg:Expr}
def iList (K:PySem.W.Frag) (tl:TE):TI:=fun σ H R=>tl σ H fun x H1=>∃ a,x=.ref a∧(∃ xs,SqL K H1 a xs)∧R (Itl K a) H1
theorem pi_list {l:Expr} {tl:TE} (hl:PE X l tl):PI X tg l (iList X.K tl):=by
 intro pins s σ H R I h
 refine thn (hl pins s σ H _ I h) fun v s1 ⟨x,H1,I1,r1,q1⟩=>?_
 obtain ⟨a,e,⟨xs,hq⟩,q⟩:=q1
 subst e
 cases r1
 obtain ⟨its,rv,p,hz⟩:=I1.list hq
 refine wpAny_pyIter_list p.isList ?_
 refine ⟨s1.heap.objs.size,[s1.heap.objs.size],_,_,H1,rfl,I1.kept (t':=s1.toks) fun b o e=>Heap.get?_push_of_some _ e,turn_list a _,⟨_,Heap.get?_push_size _ rfl,rfl,rfl⟩,fun b hb=>?_,q⟩
 have e:b=s1.heap.objs.size:=by simpa using hb
 subst e
 exact I1.fpOk (Nat.le_refl _) (I1.hok.fresh (Nat.le_refl _))
theorem range_it {pins:List (Addr × Obj)} {σ:St} {H:Hp} {s:Shared} {R:It→Hp→Prop} {E:Value→Shared→Prop} {lo hi:Int} {t u v:Tok} {tk:Nat} (I:Inv X pins σ H s) (h1:-(2 ^ 62)≤lo) (h2:lo < 2 ^ 62) (h3:-(2 ^ 62)≤hi) (h4:hi < 2 ^ 62)
  (q:R (Itr lo (hi - lo).toNat) H):wpAny (model X.prog X.w) X.A (pyIter (.ref s.heap.objs.size)) (PIE X pins σ tg R) E { s with heap:=s.heap.push { cls:=.type "range",data:=.fields #[.int lo t,.int hi u,.int 1 v] },toks:=tk }:=by
 refine wpAny_pyIter_range (IsRange.new ..) (small_one h1 h2 h3 h4) ?_
 have I1:Inv X pins σ H { s with heap:=s.heap.push { cls:=.type "range",data:=.fields #[.int lo t,.int hi u,.int 1 v] },toks:=tk }:=I.kept fun b o e=>Heap.get?_push_of_some _ e
 refine ⟨(s.heap.push { cls:=.type "range",data:=.fields #[.int lo t,.int hi u,.int 1 v] }).objs.size,[(s.heap.push { cls:=.type "range",data:=.fields #[.int lo t,.int hi u,.int 1 v] }).objs.size],_,_,H,rfl,
  I1.kept (t':=tk) fun b o e=>Heap.get?_push_of_some _ e,turn_range _ lo (hi - lo).toNat,?_,fun b hb=>?_,q⟩
 ·have e1:lo + ((0:Nat):Int) * 1=lo:=by simp
  have e2:(((hi - lo).toNat:Nat):Int) - ((0:Nat):Int)=Builtin.Range.rangeSize lo hi 1:=by rw [rangeSize_one]; split <;> omega
  show IsRangeIter _ _ (lo + ((0:Nat):Int) * 1) ((((hi - lo).toNat:Nat):Int) - ((0:Nat):Int)) 1
  rw [e1,e2]
  exact Heap.get?_push_size _ rfl
 ·have e:b=(s.heap.push { cls:=.type "range",data:=.fields #[.int lo t,.int hi u,.int 1 v] }).objs.size:=by simpa using hb
  subst e
  exact I1.fpOk (Nat.le_refl _) (I1.hok.fresh (Nat.le_refl _))
def iRng1 (ta:TA):TI:=fun σ H R=>ta σ H fun vs H1=>∃ j:Int,vs=[.int j]∧-(2 ^ 62)≤j∧j < 2 ^ 62∧R (Itr 0 j.toNat) H1
theorem pi_range1 {a:Expr} {ta:TA} {p pos:Pos} (hg:Gl X "range") (hm:X.mg "range"=none) (ha:PA X [a] ta) (hs:starEach [a] X.env=[(false,eval a X.env)]:=by rfl):PI X tg (.Call (.Name "range" p) [a] [] pos) (iRng1 ta):=by
 intro pins s σ H R I h
 refine Call_ (ld_blt I hg hm boot_range (PyProof.Rows.callWith_type1 (thn (ha pos pins s σ H _ I h) fun us s1 ⟨vs,H1,I1,r1,q1⟩=>?_) hs rfl))
 obtain ⟨j,e,q1,q2,q⟩:=q1
 subst e
 cases r1 with
 | cons r rr =>
  cases rr
  obtain ⟨t,rfl⟩:=r
  exact call_range_1 (range_it I1 (by omega) (by omega) q1 q2 (by simpa using q))
def tFor (wi:TI) (g:TG) (tb:TS):TS:=fun D σ H=>wi σ H fun J H1=>∃ W:Nat→Nat→St→Hp→Prop,(∃ m,W 0 m σ H1)∧∀ i m σ H,W i m σ H →
 (J.stop i H∧D.nx σ H)∨(J.go i H∧∃ N:St→Hp→Prop,(∀ σ' H',N σ' H'→∃ m',m' < m∧W (i + 1) m' σ' H')∧∀ x H',J.yld i H x H'→g x σ H' fun σ2 H2=>tb { D with nx:=N,ct:=N,bk:=D.nx } σ2 H2)
def pinsAt (fp:List Addr) (h:Heap):List (Addr × Obj):=fp.filterMap fun b=>(h.get? b).map fun o=>(b,o)
theorem mem_pinsAt {fp:List Addr} {h:Heap} {b:Addr} {o:Obj} (hb:b∈fp) (e:h.get? b=some o):(b,o)∈pinsAt fp h:=List.mem_filterMap.mpr ⟨b,hb,by rw [e]; rfl⟩
theorem of_pinsAt {fp:List Addr} {h:Heap} {p:Addr × Obj} (hp:p∈pinsAt fp h):p.1∈fp∧h.get? p.1=some p.2:=by
 obtain ⟨b,hb,e⟩:=List.mem_filterMap.mp hp
 cases q:h.get? b with
 | none=>rw [q] at e; cases e
 | some o =>
  rw [q] at e
  have e':(b,o)=p:=Option.some.inj e
  subst e'
  exact ⟨hb,q⟩
theorem Inv.pinned {pins:List (Addr × Obj)} {σ:St} {H:Hp} {s:Shared} {fp:List Addr} (I:Inv X pins σ H s) (hf:∀ b∈fp,FpOk X pins H b) (ho:∀ b∈fp,∃ o,s.heap.get? b=some o∧∀ v,o.data≠.cell v):Inv X (pins ++ pinsAt fp s.heap) σ H s :=
 I.pins_of fun p hp=>(List.mem_append.mp hp).elim (fun z=>I.pin p (List.mem_append_right _ z)) fun z=>by
  obtain ⟨hb,e⟩:=of_pinsAt z
  obtain ⟨f0,f1,f2,_⟩:=hf p.1 hb
  obtain ⟨o,e',d⟩:=ho p.1 hb
  rw [e] at e'; cases e'
  exact ⟨e,f0,f1,f2,d⟩
theorem Inv.unpinned {pins pl:List (Addr × Obj)} {σ:St} {H:Hp} {s:Shared} (I:Inv X (pins ++ pl) σ H s):Inv X pins σ H s:=I.pins_of fun p hp=>I.pin p (List.mem_append_right _ (List.mem_append_left _ hp))
theorem ps_for {iter:Expr} {body:List Stmt} {wi:TI} {g:TG} {tb:TS} {pos:Pos} (hp:PassesOwn (model X.prog X.w) X.A X.env X.xe) (hc:X.calm=true) (hi:PI X tg iter wi) (hg:PG X tg g) (hb:PSs X body tb)
  (hs:∀ x,foldedSetIterable iter X.env x=pure x:=by intro _; rfl):PS X (.For tg iter body [] pos) (tFor wi g tb):=by
 intro pins s σ H D I h
 refine wpAny_For (thn (hi pins s σ H _ I h) fun v s1 h1=>thn h1 fun itv s2 h2=>?_) hs
 obtain ⟨it,fp,tn,J,H2,e,I2,T,st2,f2,W,⟨m0,w0⟩,turn⟩:=h2
 subst e
 -- what stays true of the iterator's objects through the loop
 have stat:∀ {H':Hp},(∀ b∈fp,H' b=none)→∀ b∈fp,FpOk X pins H' b:=fun hn b hb=>⟨hn b hb,(f2 b hb).2⟩
 refine codeAny_forLoop_any (fun n s'=>∃ i σ' H',Inv X pins σ' H' s'∧tn i s'.heap∧(∀ b∈fp,H' b=none)∧W i n σ' H') ?_ m0 ⟨0,σ,H2,I2,st2,fun b hb=>(f2 b hb).1,w0⟩
 rintro n s3 ⟨i,σ3,H3,I3,st3,fr3,w3⟩
 rcases turn i n σ3 H3 w3 with ⟨stop,qn⟩ | ⟨go,N,hN,step⟩
 ·refine wpAny_passesOwn hp (thn (T.done X rfl rfl rfl hc i pins s3 σ3 H3 X.xe I3 (stat fr3) st3 stop) fun r s4 ⟨hr,I4⟩=>?_)
  subst hr
  exact wpAny_execs_nil ⟨σ3,H3,I4,qn⟩
 ·refine wpAny_passesOwn hp (thn (T.item X rfl rfl rfl hc i pins s3 σ3 H3 X.xe I3 (stat fr3) st3 go) fun r s4 ⟨u,hr,h4⟩=>?_)
  subst hr
  refine wpAny_passesOwn hp (thn h4 fun _ s5 ⟨x,H5,I5,r5,y5,st5,fr5⟩=>?_)
  have I5':=I5.pinned (stat fr5) (T.obj _ _ st5)
  refine wpAny_passesOwn hp (thn (hg _ s5 σ3 H5 x u _ I5' r5 (step x H5 y5)) fun _ s6 ⟨σ6,H6,I6,q6⟩=>?_)
  refine wpAny_passesOwn hp (thn (hb _ s6 σ6 H6 _ I6 q6) fun f s7 q7=>?_)
  have again:∀ {σ7:St} {H7:Hp},Inv X (pins ++ pinsAt fp s5.heap) σ7 H7 s7→N σ7 H7→∃ m,m < n∧∃ i σ' H',Inv X pins σ' H' s7∧tn i s7.heap∧(∀ b∈fp,H' b=none)∧W i m σ' H':=fun {σ7 H7} I7 n7=>by
   obtain ⟨m',hm,w7⟩:=hN σ7 H7 n7
   refine ⟨m',hm,i + 1,σ7,H7,I7.unpinned,T.keep _ _ _ st5 fun b hb o e=>(I7.pin (b,o) (List.mem_append_right _ (List.mem_append_right _ (mem_pinsAt hb e)))).1,fun b hb=>?_,w7⟩
   obtain ⟨o,e,d⟩:=T.obj _ _ st5 b hb
   exact (I7.pin (b,o) (List.mem_append_right _ (List.mem_append_right _ (mem_pinsAt hb e)))).2.1
  cases f with
  | next=>obtain ⟨σ7,H7,I7,n7⟩:=q7; exact again I7 n7
  | cont=>obtain ⟨σ7,H7,I7,n7⟩:=q7; exact again I7 n7
  | brk=>obtain ⟨σ7,H7,I7,q7⟩:=q7; exact ⟨σ7,H7,I7.unpinned,q7⟩
  | ret v=>obtain ⟨x7,σ7,H7,I7,r7,q7⟩:=q7; exact ⟨x7,σ7,H7,I7.unpinned,r7,q7⟩
end
theorem for_list {K:PySem.W.Frag} {a:Addr} {xs:List V} {g:TG} {tb:TS} {D:Ends} {σ:St} {H:Hp} (Pv:Nat→St→Hp→Prop) (h0:Pv 0 σ H) (hl:∀ i σ H,i≤xs.length→Pv i σ H→SqL K H a xs)
  (hs:∀ i x σ H,xs[i]?=some x→Pv i σ H→g x σ H fun σ2 H2=>tb { D with nx:=Pv (i + 1),ct:=Pv (i + 1),bk:=D.nx } σ2 H2) (hd:∀ σ H,Pv xs.length σ H→D.nx σ H) :
  ∃ W:Nat→Nat→St→Hp→Prop,(∃ m,W 0 m σ H)∧∀ i m σ H,W i m σ H →
   ((Itl K a).stop i H∧D.nx σ H)∨((Itl K a).go i H∧∃ N:St→Hp→Prop,(∀ σ' H',N σ' H'→∃ m',m' < m∧W (i + 1) m' σ' H')∧∀ x H',(Itl K a).yld i H x H'→g x σ H' fun σ2 H2=>tb { D with nx:=N,ct:=N,bk:=D.nx } σ2 H2):=by
 refine ⟨fun i m σ H=>m=xs.length - i∧i≤xs.length∧Pv i σ H,⟨xs.length,by simp,Nat.zero_le _,h0⟩,?_⟩
 rintro i m σ H ⟨rfl,hi,p⟩
 have q:=hl i σ H hi p
 by_cases hlt:i < xs.length
 ·refine .inr ⟨⟨xs,xs[i],q,by simp [hlt]⟩,Pv (i + 1),fun σ' H' p'=>⟨xs.length - (i + 1),by omega,rfl,hlt,p'⟩,fun x H' y=>?_⟩
  obtain ⟨e,y⟩:=y
  subst e
  exact hs i x σ _ (y xs q) p
 ·have e:i=xs.length:=by omega
  subst e
  exact .inl ⟨⟨xs,q,Nat.le_refl _⟩,hd σ H p⟩
theorem for_range {lo:Int} {n:Nat} {g:TG} {tb:TS} {D:Ends} {σ:St} {H:Hp} (Pv:Nat→St→Hp→Prop) (h0:Pv 0 σ H)
  (hs:∀ i σ H,i < n→Pv i σ H→g (.int (lo + i)) σ H fun σ2 H2=>tb { D with nx:=Pv (i + 1),ct:=Pv (i + 1),bk:=D.nx } σ2 H2) (hd:∀ σ H,Pv n σ H→D.nx σ H) :
  ∃ W:Nat→Nat→St→Hp→Prop,(∃ m,W 0 m σ H)∧∀ i m σ H,W i m σ H →
   ((Itr lo n).stop i H∧D.nx σ H)∨((Itr lo n).go i H∧∃ N:St→Hp→Prop,(∀ σ' H',N σ' H'→∃ m',m' < m∧W (i + 1) m' σ' H')∧∀ x H',(Itr lo n).yld i H x H'→g x σ H' fun σ2 H2=>tb { D with nx:=N,ct:=N,bk:=D.nx } σ2 H2):=by
 refine ⟨fun i m σ H=>m=n - i∧i≤n∧Pv i σ H,⟨n,by simp,Nat.zero_le _,h0⟩,?_⟩
 rintro i m σ H ⟨rfl,hi,p⟩
 by_cases hlt:i < n
 ·refine .inr ⟨hlt,Pv (i + 1),fun σ' H' p'=>⟨n - (i + 1),by omega,rfl,hlt,p'⟩,fun x H' y=>?_⟩
  obtain ⟨e,y⟩:=y
  subst e y
  exact hs i σ _ hlt p
 ·have e:i=n:=by omega
  subst e
  exact .inl ⟨Nat.le_refl _,hd σ H p⟩
end L2
namespace L2
open PySem PySem.Spec PyProof.Rows
abbrev R2:=V→V→Hp→VK→Prop
def OpR (X:Cx) (f:Value→Value→Sem Value) (r:R2):Prop :=
 ∀ (pins:List (Addr × Obj)) (s:Shared) (σ:St) (H:Hp) (x y:V) (v u:Value) (Q:VK),Inv X pins σ H s→RelV x v→RelV y u→r x y H Q →
  wpAny (model X.prog X.w) X.A (f v u) (EP X pins σ Q) X.xe s
def UnR (X:Cx) (f:Value→Sem Value) (r:V→Hp→VK→Prop):Prop :=
 ∀ (pins:List (Addr × Obj)) (s:Shared) (σ:St) (H:Hp) (x:V) (v:Value) (Q:VK),Inv X pins σ H s→RelV x v→r x H Q →
  wpAny (model X.prog X.w) X.A (f v) (EP X pins σ Q) X.xe s
def CallR (X:Cx) (f:Value) (r:List V→Hp→VK→Prop):Prop :=
 ∀ (pins:List (Addr × Obj)) (s:Shared) (σ:St) (H:Hp) (xs:List V) (us:List Value) (Q:VK),Inv X pins σ H s→Vals xs us→r xs H Q →
  wpAny (model X.prog X.w) X.A (call f us) (EP X pins σ Q) X.xe s
def tOp (r:R2) (ta tb:TE):TE:=fun σ H Q=>ta σ H fun x H1=>tb σ H1 fun y H2=>r x y H2 Q
def tUn (r:V→Hp→VK→Prop) (ta:TE):TE:=fun σ H Q=>ta σ H fun x H1=>r x H1 Q
def rI (C:Int→Int→Prop) (g:Int→Int→V):R2:=fun x y H Q=>∃ i j,x=.int i∧y=.int j∧C i j∧Q (g i j) H
def rI0 (g:Int→Int→V):R2:=fun x y H Q=>∃ i j,x=.int i∧y=.int j∧Q (g i j) H
def rU (g:Int→V):V→Hp→VK→Prop:=fun x H Q=>∃ i,x=.int i∧Q (g i) H
section
variable {X:Cx} {a b c:Expr} {ta tb tc:TE} {pos:Pos}
theorem binT (ha:PE X a ta) (hb:PE X b tb) {pins:List (Addr × Obj)} {s:Shared} {σ:St} {H:Hp} {R:V→V→Hp→Prop} (I:Inv X pins σ H s)
  (h:ta σ H fun x H1=>tb σ H1 fun y H2=>R x y H2) {Q:Value→Shared→Prop} {f:Value→Value→Sem Value}
  (hf:∀ v u s2 x y H2,Inv X pins σ H2 s2→RelV x v→RelV y u→R x y H2→wpAny (model X.prog X.w) X.A (f v u) Q X.xe s2) :
  wpAny (model X.prog X.w) X.A (eval a X.env) (fun v s₁=>wpAny (model X.prog X.w) X.A (eval b X.env) (fun u s₂=>wpAny (model X.prog X.w) X.A (f v u) Q X.xe s₂) X.xe s₁) X.xe s:=by
 refine thn (ha pins s σ H _ I h) fun v s1 ⟨x,H1,I1,r1,q1⟩=>?_
 refine thn (hb pins s1 σ H1 _ I1 q1) fun u s2 ⟨y,H2,I2,r2,q2⟩=>?_
 exact hf v u s2 x y H2 I2 r1 r2 q2
theorem pe_op {op:Operator} {r:R2} (ho:OpR X (binaryOp op) r) (ha:PE X a ta) (hb:PE X b tb):PE X (.BinOp a op b pos) (tOp r ta tb):=by
 intro pins s σ H Q I h
 exact wpAny_BinOp (binT ha hb I h fun v u s2 x y H2 I2 rx ry q=>ho pins s2 σ H2 x y v u Q I2 rx ry q)
theorem pe_un {op:UnaryOp} {r:V→Hp→VK→Prop} (ho:UnR X (unaryOp op) r) (ha:PE X a ta):PE X (.UnaryOp op a pos) (tUn r ta):=by
 intro pins s σ H Q I h
 exact UnaryOp_ (thn (ha pins s σ H _ I h) fun v s1 ⟨x,H1,I1,r1,q1⟩=>ho pins s1 σ H1 x v Q I1 r1 q1)
theorem opI {f:Value→Value→Sem Value} {C:Int→Int→Prop} {g:Int→Int→Int}
  (rule:∀ (i j:Int) (t u:Tok) (s:Shared) (Q:Value→Shared→Prop) (E:Value→Shared→Prop),C i j→Q (.int (g i j) s.toks) { s with toks:=s.toks + 1 }→wpAny (model X.prog X.w) X.A (f (.int i t) (.int j u)) Q E s) :
  OpR X f (rI C fun i j=>.int (g i j)):=by
 intro pins s σ H x y v u Q I rx ry h
 obtain ⟨i,j,rfl,rfl,hc,q⟩:=h
 obtain ⟨t,rfl⟩:=rx
 obtain ⟨t',rfl⟩:=ry
 exact rule i j t t' s _ _ hc ⟨.int (g i j),H,I.tok _,⟨_,rfl⟩,q⟩
theorem opI0 {f:Value→Value→Sem Value} {g:Int→Int→Int}
  (rule:∀ (i j:Int) (t u:Tok) (s:Shared) (Q:Value→Shared→Prop) (E:Value→Shared→Prop),Q (.int (g i j) s.toks) { s with toks:=s.toks + 1 }→wpAny (model X.prog X.w) X.A (f (.int i t) (.int j u)) Q E s) :
  OpR X f (rI0 fun i j=>.int (g i j)):=by
 intro pins s σ H x y v u Q I rx ry h
 obtain ⟨i,j,rfl,rfl,q⟩:=h
 obtain ⟨t,rfl⟩:=rx
 obtain ⟨t',rfl⟩:=ry
 exact rule i j t t' s _ _ ⟨.int (g i j),H,I.tok _,⟨_,rfl⟩,q⟩
theorem opB0 {f:Value→Value→Sem Value} {g:Int→Int→Bool}
  (rule:∀ (i j:Int) (t u:Tok) (s:Shared) (Q:Value→Shared→Prop) (E:Value→Shared→Prop),Q (.bool (g i j)) s→wpAny (model X.prog X.w) X.A (f (.int i t) (.int j u)) Q E s) :
  OpR X f (rI0 fun i j=>.bl (g i j)):=by
 intro pins s σ H x y v u Q I rx ry h
 obtain ⟨i,j,rfl,rfl,q⟩:=h
 obtain ⟨t,rfl⟩:=rx
 obtain ⟨t',rfl⟩:=ry
 exact rule i j t t' s _ _ ⟨.bl (g i j),H,I,rfl,q⟩
def CPow (i j:Int):Prop:=0≤j∧j≤1000000∧i.natAbs < 2 ^ 64
def CMul (i j:Int):Prop:=(-(2 ^ 64) < i∧i < 2 ^ 64)∨(-(2 ^ 64) < j∧j < 2 ^ 64)
theorem CMul.ok {i j:Int} (h:CMul i j):IntMulOk i j:=by
 rcases h with ⟨h1,h2⟩ | ⟨h1,h2⟩
 ·exact .of_left (intBits_le_64 h1 h2)
 ·exact .of_right (intBits_le_64 h1 h2)
theorem op_add:OpR X (binaryOp .Add) (rI0 fun i j=>.int (i + j)):=opI0 fun _ _ _ _ _ _ _ q=>add_int q
theorem op_sub:OpR X (binaryOp .Sub) (rI0 fun i j=>.int (i - j)):=opI0 fun _ _ _ _ _ _ _ q=>sub_int q
theorem op_modN:OpR X (binaryOp .Mod) (rI (fun _ j=>j≠0) fun i j=>.int (i.fmod j)):=opI fun _ _ _ _ _ _ _ hc q=>mod_int' hc q
theorem op_pow:OpR X (binaryOp .Pow) (rI CPow fun i j=>.int (i ^ j.toNat)):=opI fun _ _ _ _ _ _ _ hc q=>pow_int_small hc.1 hc.2.1 hc.2.2 q
theorem op_shl:OpR X (binaryOp .LShift) (rI CPow fun i j=>.int (i * 2 ^ j.toNat)):=opI fun _ _ _ _ _ _ _ hc q=>lshift_int_small hc.1 hc.2.1 hc.2.2 q
theorem unI {f:Value→Sem Value} {g:Int→Int}
  (rule:∀ (i:Int) (t:Tok) (s:Shared) (Q:Value→Shared→Prop) (E:Value→Shared→Prop),Q (.int (g i) s.toks) { s with toks:=s.toks + 1 }→wpAny (model X.prog X.w) X.A (f (.int i t)) Q E s) :
  UnR X f (rU fun i=>.int (g i)):=by
 intro pins s σ H x v Q I rx h
 obtain ⟨i,rfl,q⟩:=h
 obtain ⟨t,rfl⟩:=rx
 exact rule i t s _ _ ⟨.int (g i),H,I.tok _,⟨_,rfl⟩,q⟩
theorem un_neg:UnR X (unaryOp .USub) (rU fun i=>.int (-i)):=unI fun _ _ _ _ _ q=>neg_int q
end
def scal:V→V→Bool
 | .non,.non=>true | .non,.int _=>true | .int _,.non=>true | .non,.bl _=>true | .bl _,.non=>true | .non,.str _=>true | .str _,.non=>true
 | .int _,.int _=>true | .bl _,.bl _=>true | .str _,.str _=>true | .byt _,.byt _=>true
 | .int _,.str _=>true | .str _,.int _=>true | .bl _,.str _=>true | .str _,.bl _=>true
 | _,_=>false
def rEq:R2:=fun x y H Q=>scal x y=true∧Q (.bl (decide (x=y))) H
def rNe:R2:=fun x y H Q=>scal x y=true∧Q (.bl (!decide (x=y))) H
theorem dec_int {i j:Int}:decide (V.int i=V.int j)=(i == j):=by
 rw [Bool.eq_iff_iff]
 simp
theorem dec_bl {i j:Bool}:decide (V.bl i=V.bl j)=(i == j):=by
 rw [Bool.eq_iff_iff]
 simp
theorem dec_str {i j:Str}:decide (V.str i=V.str j)=(i == j):=by
 rw [Bool.eq_iff_iff]
 simp
theorem dec_byt {i j:Array UInt8}:decide (V.byt i=V.byt j)=(i.toList == j.toList):=by
 rw [Bool.eq_iff_iff]
 cases i
 cases j
 simp
section
variable {X:Cx} {a b c:Expr} {ta tb tc:TE} {pos:Pos}
theorem fin_bl {pins:List (Addr × Obj)} {σ:St} {H:Hp} {s:Shared} {Q:VK} {k k':Bool} (I:Inv X pins σ H s) (q:Q (.bl k) H) (e:k=k'):EP X pins σ Q (.bool k') s:=by
 subst e
 exact ⟨.bl k,H,I,rfl,q⟩
theorem op_eq:OpR X (compareOp .Eq) rEq:=by
 intro pins s σ H x y v u Q I rx ry h
 obtain ⟨hs,q⟩:=h
 cases x with
 | non =>
  cases rx
  cases y with
  | non=>cases ry; exact PySem.EqNone.eq_none_none (fin_bl I q (by simp))
  | bl j=>cases ry; exact PySem.EqNone.eq_none_bool (fin_bl I q (by simp))
  | int j=>obtain ⟨t',rfl⟩:=ry; exact PySem.EqNone.eq_none_int (fin_bl I q (by simp))
  | str j=>obtain ⟨t',rfl⟩:=ry; exact PySem.EqNone.eq_none_str (fin_bl I q (by simp))
  | _=>exact absurd (show false=true from hs) Bool.false_ne_true
 | bl i =>
  cases rx
  cases y with
  | non=>cases ry; exact PySem.EqNone.eq_bool_none (fin_bl I q (by simp))
  | bl j=>cases ry; exact eq_bool (fin_bl I q dec_bl)
  | str j=>obtain ⟨t',rfl⟩:=ry; exact PySem.EqMixed.eq_bool_str (fin_bl I q (by simp))
  | _=>exact absurd (show false=true from hs) Bool.false_ne_true
 | int i =>
  obtain ⟨t,rfl⟩:=rx
  cases y with
  | non=>cases ry; exact PySem.EqNone.eq_int_none (fin_bl I q (by simp))
  | int j=>obtain ⟨t',rfl⟩:=ry; exact eq_int (fin_bl I q dec_int)
  | str j=>obtain ⟨t',rfl⟩:=ry; exact PySem.EqMixed.eq_int_str (fin_bl I q (by simp))
  | _=>exact absurd (show false=true from hs) Bool.false_ne_true
 | str i =>
  obtain ⟨t,rfl⟩:=rx
  cases y with
  | non=>cases ry; exact PySem.EqNone.eq_str_none (fin_bl I q (by simp))
  | bl j=>cases ry; exact PySem.EqMixed.eq_str_bool (fin_bl I q (by simp))
  | int j=>obtain ⟨t',rfl⟩:=ry; exact PySem.EqMixed.eq_str_int (fin_bl I q (by simp))
  | str j=>obtain ⟨t',rfl⟩:=ry; exact eq_str (fin_bl I q dec_str)
  | _=>exact absurd (show false=true from hs) Bool.false_ne_true
 | byt i =>
  obtain ⟨t,rfl⟩:=rx
  cases y with
  | byt j=>obtain ⟨t',rfl⟩:=ry; exact PySem.W.eq_bytes (fin_bl I q dec_byt)
  | _=>exact absurd (show false=true from hs) Bool.false_ne_true
 | _=>cases y <;> exact absurd (show false=true from hs) Bool.false_ne_true
theorem op_ne:OpR X (compareOp .NotEq) rNe:=by
 intro pins s σ H x y v u Q I rx ry h
 obtain ⟨hs,q⟩:=h
 cases x with
 | non =>
  cases rx
  cases y with
  | non=>cases ry; exact PySem.EqNone.ne_none_none (fin_bl I q (by simp))
  | bl j=>cases ry; exact PySem.EqNone.ne_none_bool (fin_bl I q (by simp))
  | int j=>obtain ⟨t',rfl⟩:=ry; exact PySem.EqNone.ne_none_int (fin_bl I q (by simp))
  | str j=>obtain ⟨t',rfl⟩:=ry; exact PySem.EqNone.ne_none_str (fin_bl I q (by simp))
  | _=>exact absurd (show false=true from hs) Bool.false_ne_true
 | bl i =>
  cases rx
  cases y with
  | non=>cases ry; exact PySem.EqNone.ne_bool_none (fin_bl I q (by simp))
  | bl j=>cases ry; exact ne_bool (fin_bl I q (congrArg not dec_bl))
  | str j=>obtain ⟨t',rfl⟩:=ry; exact PySem.EqMixed.ne_bool_str (fin_bl I q (by simp))
  | _=>exact absurd (show false=true from hs) Bool.false_ne_true
 | int i =>
  obtain ⟨t,rfl⟩:=rx
  cases y with
  | non=>cases ry; exact PySem.EqNone.ne_int_none (fin_bl I q (by simp))
  | int j=>obtain ⟨t',rfl⟩:=ry; exact ne_int (fin_bl I q (congrArg not dec_int))
  | str j=>obtain ⟨t',rfl⟩:=ry; exact PySem.EqMixed.ne_int_str (fin_bl I q (by simp))
  | _=>exact absurd (show false=true from hs) Bool.false_ne_true
 | str i =>
  obtain ⟨t,rfl⟩:=rx
  cases y with
  | non=>cases ry; exact PySem.EqNone.ne_str_none (fin_bl I q (by simp))
  | bl j=>cases ry; exact PySem.EqMixed.ne_str_bool (fin_bl I q (by simp))
  | int j=>obtain ⟨t',rfl⟩:=ry; exact PySem.EqMixed.ne_str_int (fin_bl I q (by simp))
  | str j=>obtain ⟨t',rfl⟩:=ry; exact ne_str (fin_bl I q (congrArg not dec_str))
  | _=>exact absurd (show false=true from hs) Bool.false_ne_true
 | byt i =>
  obtain ⟨t,rfl⟩:=rx
  cases y with
  | byt j=>obtain ⟨t',rfl⟩:=ry; exact PySem.W.ne_bytes (fin_bl I q (congrArg not dec_byt))
  | _=>exact absurd (show false=true from hs) Bool.false_ne_true
 | _=>cases y <;> exact absurd (show false=true from hs) Bool.false_ne_true
theorem op_lt:OpR X (compareOp .Lt) (rI0 fun i j=>.bl (decide (i < j))):=opB0 fun _ _ _ _ _ _ _ q=>lt_int q
theorem op_le:OpR X (compareOp .LtE) (rI0 fun i j=>.bl (decide (i≤j))):=opB0 fun _ _ _ _ _ _ _ q=>le_int q
theorem op_gt:OpR X (compareOp .Gt) (rI0 fun i j=>.bl (decide (j < i))):=opB0 fun _ _ _ _ _ _ _ q=>gt_int q
theorem op_ge:OpR X (compareOp .GtE) (rI0 fun i j=>.bl (decide (j≤i))):=opB0 fun _ _ _ _ _ _ _ q=>ge_int q
theorem nomark (b:Expr) {op:CmpOp} (h:op≠.In:=by decide) (h2:op≠.NotIn:=by decide):behindInMarks op b=false:=by
 have e1:(op == CmpOp.In)=false:=by cases op <;> first | rfl | exact absurd rfl h
 have e2:(op == CmpOp.NotIn)=false:=by cases op <;> first | rfl | exact absurd rfl h2
 cases b <;> simp [behindInMarks,e1,e2]
theorem pe_cmpR {op:CmpOp} {r:R2} (ho:OpR X (compareOp op) r) (ha:PE X a ta) (hb:PE X b tb) (hm:behindInMarks op b=false):PE X (.Compare a [op] [b] pos) (tOp r ta tb):=by
 intro pins s σ H Q I h
 exact wpAny_Compare1 (binT ha hb I h fun v u s2 x y H2 I2 rx ry q=>ho pins s2 σ H2 x y v u Q I2 rx ry q) hm
def tTest (t:TE):TT:=fun σ H Q=>t σ H fun x H'=>∃ k,x=.bl k∧Q k H'
theorem pt_cmpR {op:CmpOp} {r:R2} (ho:OpR X (compareOp op) r) (ha:PE X a ta) (hb:PE X b tb) (hm:behindInMarks op b=false):PT X (.Compare a [op] [b] pos) (tTest (tOp r ta tb)):=by
 intro pins s σ H Q I h
 refine wpAny_isTrue_Compare1 (thn (ha pins s σ H _ I h) fun v s1 ⟨x,H1,I1,r1,q1⟩=>thn (hb pins s1 σ H1 _ I1 q1) fun u s2 ⟨y,H2,I2,r2,q2⟩ =>
  thn (ho pins s2 σ H2 x y v u _ I2 r1 r2 q2) fun c s3 ⟨z,H3,I3,r3,k,e,q3⟩=>?_) hm
 subst e
 cases r3
 exact wpAny_truthy_bool ⟨H3,I3,q3⟩
def tChain (r r':R2) (ta tb tc:TE):TE:=fun σ H Q=>ta σ H fun x H1=>tb σ H1 fun y H2=>r x y H2 fun z H3=>∃ k,z=.bl k ∧
 (if k=true then tc σ H3 fun w' H4=>r' y w' H4 Q else Q (.bl false) H3)
theorem pe_chain {op op':CmpOp} {r r':R2} (ho:OpR X (compareOp op) r) (ho':OpR X (compareOp op') r') (ha:PE X a ta) (hb:PE X b tb) (hc:PE X c tc)
  (hm:lastMarks [op,op'] [b,c]=false:=by with_unfolding_all rfl):PE X (.Compare a [op,op'] [b,c] pos) (tChain r r' ta tb tc):=by
 intro pins s σ H Q I h
 refine Compare_chain (thn (ha pins s σ H _ I h) fun v s1 ⟨x,H1,I1,r1,q1⟩=>chain_link (thn (hb pins s1 σ H1 _ I1 q1) fun u s2 ⟨y,H2,I2,r2,q2⟩ =>
  thn (ho pins s2 σ H2 x y v u _ I2 r1 r2 q2) fun d s3 ⟨z,H3,I3,r3,k,e,q3⟩=>?_)) hm
 subst e
 cases r3
 refine wpAny_truthy_bool ?_
 cases k with
 | false=>exact ite_ff ⟨.bl false,H3,I3,rfl,q3⟩
 | true=>exact ite_tt (chain_last (thn (hc pins s3 σ H3 _ I3 q3) fun w' s4 ⟨z',H4,I4,r4,q4⟩=>ho' pins s4 σ H4 y z' u w' Q I4 r2 r4 q4))
theorem pt_chain {op op':CmpOp} {r r':R2} (ho:OpR X (compareOp op) r) (ho':OpR X (compareOp op') r') (ha:PE X a ta) (hb:PE X b tb) (hc:PE X c tc)
  (hm:lastMarks [op,op'] [b,c]=false:=by with_unfolding_all rfl):PT X (.Compare a [op,op'] [b,c] pos) (tTest (tChain r r' ta tb tc)):=by
 intro pins s σ H Q I h
 refine isTrue_chain (thn (ha pins s σ H _ I h) fun v s1 ⟨x,H1,I1,r1,q1⟩=>test_link (thn (hb pins s1 σ H1 _ I1 q1) fun u s2 ⟨y,H2,I2,r2,q2⟩ =>
  thn (ho pins s2 σ H2 x y v u _ I2 r1 r2 q2) fun d s3 ⟨z,H3,I3,r3,k,e,q3⟩=>?_)) hm
 subst e
 cases r3
 refine wpAny_truthy_bool ?_
 cases k with
 | false =>
  obtain ⟨k',e',q'⟩:=q3
  cases e'
  exact ite_ff ⟨H3,I3,q'⟩
 | true =>
  refine ite_tt (test_last (thn (hc pins s3 σ H3 _ I3 q3) fun w' s4 ⟨z',H4,I4,r4,q4⟩=>thn (ho' pins s4 σ H4 y z' u w' _ I4 r2 r4 q4) fun d' s5 ⟨z2,H5,I5,r5,k2,e2,q5⟩=>?_))
  subst e2
  cases r5
  exact wpAny_truthy_bool ⟨H5,I5,q5⟩
theorem line63:(sizeLine:Nat) < 2 ^ 63:=by rw [sizeLine_eq]; decide
theorem vals1 {x:V} {us:List Value} (r:Vals [x] us):∃ u,us=[u]∧RelV x u:=by
 cases r with
 | cons r1 r2=>cases r2; exact ⟨_,rfl,r1⟩
theorem vals2 {x y:V} {us:List Value} (r:Vals [x,y] us):∃ u w',us=[u,w']∧RelV x u∧RelV y w':=by
 cases r with
 | cons r1 r2 =>
  cases r2 with
  | cons r3 r4=>cases r4; exact ⟨_,_,rfl,r1,r3⟩
theorem call_abs:CallR X (.builtin "abs") (fun xs H Q=>∃ i,xs=[.int i]∧Q (.int (if i < 0 then -i else i)) H):=by
 intro pins s σ H xs us Q I r h
 obtain ⟨i,rfl,q⟩:=h
 obtain ⟨u,rfl,t,rfl⟩:=vals1 r
 exact call_abs_int fun u tk=>⟨.int (if i < 0 then -i else i),H,I.tok _,⟨_,rfl⟩,q⟩
theorem call_min2 (hc:X.calm=true):CallR X (.builtin "min") (fun xs H Q=>∃ i j,xs=[.int i,.int j]∧Q (.int (if j < i then j else i)) H):=by
 intro pins s σ H xs us Q I r h
 obtain ⟨i,j,rfl,q⟩:=h
 obtain ⟨u,w',rfl,⟨t,rfl⟩,⟨t',rfl⟩⟩:=vals2 r
 refine min_two_ints (I.ok.hd hc) fun h' tk k=>⟨_,H,I.kept k,?_,q⟩
 by_cases hj:j < i
 ·rw [if_pos hj,if_pos hj]; exact ⟨_,rfl⟩
 ·rw [if_neg hj,if_neg hj]; exact ⟨_,rfl⟩
end
end L2
namespace L2
open PySem PySem.Spec PyProof.Rows
structure ObjM (h:Heap) (x dx C:Addr) (mA:Str→Option Value):Prop where
 obj:h.get? x=some (PySem.W.instObj C dx)
 ns:h.Ns1 dx mA
 ne:dx≠x
section
variable {prog:Program} {w:World} {A:Around} {E:Value→Shared→Prop} {s:Shared} {K:PySem.W.Frag} {x dx C f:Addr} {mA:Str→Option Value} {name:Str} {v:Value}
end
section
variable {P:Program} {w:World} {H H':Hp} {h h':Heap} {a C dx:Addr} {fs fs':List (Str × V)}
end
structure Cls (K:PySem.W.Frag) (C:Addr):Prop where
 pg:PySem.W.plainGet K C Str.empty=true
 hd:PySem.W.hasDictIn K C=true
 po:PySem.W.plainOver K C=true
 sa:PySem.W.findIn K (.ref C) "__setattr__"=some (some (.builtin "object.__setattr__"))
theorem Cls.get {K:PySem.W.Frag} {C:Addr} (c:Cls K C) (f:Str):PySem.W.plainGet K C f=true:=c.pg
structure Con (K:PySem.W.Frag) (C:Addr) (f:Str) (v:V) (u:Value):Prop where
 at_:PySem.W.findIn K (.ref C) f=some (some u)
 rel:RelV v u
 get:PySem.W.specialIn K u "__get__"=some none
 cp:PySem.W.copiedNames.contains f=false
structure Meth (K:PySem.W.Frag) (C:Addr) (m:Str) (f:Addr):Prop where
 at_:PySem.W.findIn K (.ref C) m=some (some (.ref f))
 fn:PySem.W.isFn K (.ref f)=true
 kp:PySem.W.keepIn K (.ref f)=true
section
variable {X:Cx} {pins:List (Addr × Obj)} {σ:St} {H:Hp} {s:Shared} {a C dx:Addr} {fs:List (Str × V)} {f:Str} {v:V} {A:Around} {E:Value→Shared→Prop}
theorem Inv.made (I:Inv X pins σ H s):Inv X pins σ (upd (upd H s.heap.objs.size (.own (s.heap.objs.size + 1))) (s.heap.objs.size + 1) (.ins C s.heap.objs.size []))
  { s with heap:=(s.heap.push PySem.W.emptyDict).push (PySem.W.instObj C s.heap.objs.size) }:=by
 have e1:(s.heap.push PySem.W.emptyDict).get? s.heap.objs.size=some PySem.W.emptyDict:=Heap.get?_push_size s.heap rfl
 have e2:((s.heap.push PySem.W.emptyDict).push (PySem.W.instObj C s.heap.objs.size)).get? (s.heap.objs.size + 1)=some (PySem.W.instObj C s.heap.objs.size):=by
  have:=Heap.get?_push_size (s.heap.push PySem.W.emptyDict) (o:=PySem.W.instObj C s.heap.objs.size) rfl
  rwa [Heap.size_push] at this
 have e3:(s.heap.push PySem.W.emptyDict).Ns s.heap.objs.size (fun _=>none):=⟨PySem.W.emptyDict,#[],_,e1,rfl,(fun e he=>absurd he (by simp)),fun _=>rfl⟩
 have I1:=I.laid (a:=s.heap.objs.size) (o:=.own (s.heap.objs.size + 1)) (h':=s.heap.push PySem.W.emptyDict) (t':=s.toks) (fun b u q=>Heap.get?_push_of_some _ q) (Nat.le_refl _) ⟨_,e1⟩
 refine I1.laid (a:=s.heap.objs.size + 1) (o:=.ins C s.heap.objs.size []) (t':=s.toks) (fun b u q=>Heap.get?_push_of_some _ q) (Nat.le_of_eq (Heap.size_push _ _)) ?_
 have ne:s.heap.objs.size≠s.heap.objs.size + 1:=Nat.ne_of_lt (Nat.lt_succ_self _)
 refine ⟨by rw [upd_ne ne,upd_same],Nat.zero_le _,ne,e2,fun _=>none,(Heap.Ns1.of_empty e3).at fun o q=>Heap.get?_push_of_some _ q,fun _=>True.intro,fun y hy=>absurd rfl hy⟩
end
section
variable {X:Cx} {o e value:Expr} {f:Str} {pos pos' tpos:Pos} {ta tv:TE}
end
section
variable {X:Cx} {pins:List (Addr × Obj)} {σ:St} {H:Hp} {s:Shared} {A:Around} {E:Value→Shared→Prop} {Q:Value→Shared→Prop} {c:Value} {b:Bool}
inductive TyOf (K:PySem.W.Frag) (H:Hp):V→Value→Prop where
 | non:TyOf K H .non (.type "NoneType")
 | bl (x:Bool):TyOf K H (.bl x) (.type "bool")
 | int (i:Int):TyOf K H (.int i) (.type "int")
 | str (x:Str):TyOf K H (.str x) (.type "str")
 | flt (x:UInt64):TyOf K H (.flt x) (.type "float")
 | lst {a:Addr} {xs:List V} (e:H a=some (.lst xs)):TyOf K H (.ref a) (.type "list")
 | frz {a:Addr} {o:Obj} {xs:List V} (e:H a=some (.frz o (.lst xs))):TyOf K H (.ref a) (.type "list")
 | tup {a:Addr} {xs:List V} (e:H a=some (.tup xs)):TyOf K H (.ref a) (.type "tuple")
 | dK {a:Addr} {kvs:List (Key × V)} (e:H a=some (.dK kvs)):TyOf K H (.ref a) (.type "dict")
 | dT {a:Addr} {kvs:List (List Key × V)} (e:H a=some (.dT kvs)):TyOf K H (.ref a) (.type "dict")
 | ins {a C dx:Addr} {fs:List (Str × V)} (e:H a=some (.ins C dx fs)) (cl:Cls K C) (ha:PySem.W.findIn K (.ref C) "__class__"=some (some (.builtin "object.__class__")))
   (hn:PySem.W.specialIn K (.builtin "object.__class__") "__get__"=some (some (.builtin "getset_descriptor.__get__"))) (htk:PySem.W.takesIn K (.builtin "object.__class__")=some true)
   (hm:PySem.W.mroIn K C (.type "object")=some true):TyOf K H (.ref a) (.ref C)
end
end L2
namespace L2
open PySem PySem.Spec PyProof.Rows
structure Room (k:Nat) (A:Around):Prop where
 hd:A.handled=none
 dp:A.depth + 3 * k + 5 < recursionLimit
 un:A.units + 16 * k + 200 < cLine
theorem Room.mono {j k:Nat} {A:Around} (r:Room k A) (h:j≤k):Room j A:=⟨r.hd,by have:=r.dp; omega,by have:=r.un; omega⟩
theorem Room.deeper {k:Nat} {A:Around} (r:Room (k + 1) A) (env:Env):Room k (A.deeper env) :=
 ⟨r.hd,by have:=r.dp; show A.depth + 1 + 3 * k + 5 < _; omega,by have:=r.un; show A.units + 3 + 16 * k + 200 < _; omega⟩
theorem Room.in1 {k:Nat} {A:Around} (r:Room (k + 1) A):Room k A.in1 :=
 ⟨r.hd,by have:=r.dp; show A.depth + 3 * k + 5 < _; omega,by have:=r.un; show A.units + 1 + 16 * k + 200 < _; omega⟩
theorem Room.depth {k:Nat} {A:Around} (r:Room k A):A.depth < recursionLimit:=by have:=r.dp; omega
theorem Room.units {k:Nat} {A:Around} (r:Room k A):A.units + 64 < cLine:=by have:=r.un; omega
def tNil:TA:=fun _ H Q=>Q [] H
def tCons (ta:TE) (tr:TA):TA:=fun σ H Q=>ta σ H fun x H1=>tr σ H1 fun xs H2=>Q (x :: xs) H2
section
variable {X:Cx} {e:Expr} {es:List Expr} {te:TE} {t:TA} {pos:Pos}
theorem pa_nil:PA X [] tNil:=fun _ _ _ _ H Q I h=>Calls.spliced_nil ⟨[],H,I,.nil,h⟩
theorem pa_cons (ha:PE X e te) (hr:PA X es t) (hs:starEach (e :: es) X.env=(false,eval e X.env) :: starEach es X.env:=by rfl):PA X (e :: es) (tCons te t):=by
 intro pos pins s σ H Q I h
 rw [hs]
 show wpAny _ _ (spliced ((false,eval e X.env) :: backTo pos (starEach es X.env))) _ _ s
 refine Calls.spliced_cons (thn (ha pins s σ H _ I h) fun u s1 ⟨x,H1,I1,r1,q1⟩=>?_)
 exact thn (hr pos pins s1 σ H1 _ I1 q1) fun us s2 ⟨xs,H2,I2,r2,q2⟩=>⟨x :: xs,H2,I2,.cons r1 r2,q2⟩
def tTup (t:TA):TE:=fun σ H Q=>t σ H fun xs H1=>xs.length≤sizeLine∧∀ p,H1 p=none→Q (.ref p) (upd H1 p (.tup xs))
def tLst (t:TA):TE:=fun σ H Q=>t σ H fun xs H1=>xs.length≤sizeLine∧∀ p,H1 p=none→Q (.ref p) (upd H1 p (.lst xs))
theorem pe_tup {x1} (h:PA X es t):PE X (.Tuple es x1 pos) (tTup t):=by
 intro pins s σ H Q I hq
 refine wpAny_Tuple_spliced (thn (h pos pins s σ H _ I hq) fun us s1 ⟨xs,H1,I1,r,z,q⟩=>⟨by rw [← r.length]; exact z,?_⟩)
 have hf:H1 s1.heap.objs.size=none:=I1.hok.fresh (Nat.le_refl _)
 refine ⟨.ref s1.heap.objs.size,upd H1 s1.heap.objs.size (.tup xs),I1.laid (t':=s1.toks) (fun b u e=>Heap.get?_push_of_some _ e) (Nat.le_refl _) ?_,rfl,q _ hf⟩
 exact ⟨z,us,r,⟨_,Heap.get?_push_size _ rfl,rfl,_,rfl⟩⟩
theorem pe_lst (h:PA X es t):PE X (.List es pos) (tLst t):=by
 intro pins s σ H Q I hq
 refine wpAny_List_spliced (thn (h pos pins s σ H _ I hq) fun us s1 ⟨xs,H1,I1,r,z,q⟩=>⟨by rw [← r.length]; exact z,?_⟩)
 have hf:H1 s1.heap.objs.size=none:=I1.hok.fresh (Nat.le_refl _)
 refine ⟨.ref s1.heap.objs.size,upd H1 s1.heap.objs.size (.lst xs),I1.laid (t':=s1.toks) (fun b u e=>Heap.get?_push_of_some _ e) (Nat.le_refl _) ?_,rfl,q _ hf⟩
 exact ⟨z,us,0,r,Heap.get?_push_size _ rfl⟩
end
abbrev Sp:=List V→Hp→VK→XK→Prop
abbrev CXT:=List Env→Hp→Shared→XK→Value→Shared→Prop
structure Env0 (P:Program) (w:World) (K:PySem.W.Frag) (mg:Str→Option Value) (base:Heap) (A:Around) (outer:List Env) (s:Shared) (H:Hp):Prop where
 frames:A.frames=some outer
 mod:Mod K mg base
 bs:∀ b o,base.get? b=some o→s.heap.get? b=some o∧H b=none
 bsz:base.objs.size≤s.heap.objs.size
 funs:s.heap.FunFrames base outer
 frf:∀ b∈frs outer,H b=none
 hok:HOk P w H s.heap
 bare:AllBare s.gens
def CE (outer:List Env) (P:Program) (w:World) (H:Hp) (s:Shared) (Q:VK) (u:Value) (s':Shared):Prop :=
 ∃ v H',s'.os=s.os∧AllBare s'.gens∧Un (frs outer) [] H H' s.heap s'.heap∧HOk P w H' s'.heap∧RelV v u∧Q v H'
def CR (CX:CXT) (outer:List Env) (P:Program) (w:World) (H:Hp) (s:Shared) (Q:VK) (E:XK) (r:Result) (s':Shared):Prop :=
 match r with
 | .ok (.ret u)=>CE outer P w H s Q u s'
 | .ok _=>False
 | .error e=>CX outer H s E e s'
structure FnOk (P:Program) (w:World) (K:PySem.W.Frag) (mg:Str→Option Value) (base:Heap) (CX:CXT) (k:Nat) (f:Addr) (fd:FuncData) (ps:List Str) (sp:Sp):Prop where
 len:∀ vs H Q E,sp vs H Q E→vs.length=ps.length
 run:∀ (A:Around) (outer:List Env) (s:Shared) (H:Hp) (args:Args) (us:List Value) (vs:List V) (Q:VK) (E:XK),Room k A→Env0 P w K mg base A outer s H→BindsTo s fd args (ps.zip us)→Vals vs us→sp vs H Q E →
  codeAny (model P w) A (.call (.ref f) args) (CR CX outer P w H s Q E) s
theorem FnOk.mono {P:Program} {w:World} {K:PySem.W.Frag} {mg:Str→Option Value} {base:Heap} {CX:CXT} {j k:Nat} {f:Addr} {fd:FuncData} {ps:List Str} {sp:Sp} (F:FnOk P w K mg base CX j f fd ps sp) (h:j≤k) :
  FnOk P w K mg base CX k f fd ps sp:=⟨F.len,fun A outer s H args us vs Q E hr=>F.run A outer s H args us vs Q E (hr.mono h)⟩
theorem FnOk.imp {P:Program} {w:World} {K:PySem.W.Frag} {mg:Str→Option Value} {base:Heap} {CX:CXT} {k:Nat} {f:Addr} {fd:FuncData} {ps:List Str} {sp sp':Sp} (F:FnOk P w K mg base CX k f fd ps sp)
  (h:∀ vs H Q E,sp' vs H Q E→sp vs H Q E):FnOk P w K mg base CX k f fd ps sp' :=
 ⟨fun vs H Q E q=>F.len vs H Q E (h _ _ _ _ q),fun A outer s H args us vs Q E hr he hb hv hs=>F.run A outer s H args us vs Q E hr he hb hv (h _ _ _ _ hs)⟩
theorem Env0.in1 {P:Program} {w:World} {K:PySem.W.Frag} {mg:Str→Option Value} {base:Heap} {A:Around} {outer:List Env} {s:Shared} {H:Hp} (e:Env0 P w K mg base A outer s H) :
  Env0 P w K mg base A.in1 outer s H:=⟨e.frames,e.mod,e.bs,e.bsz,e.funs,e.frf,e.hok,e.bare⟩
section
variable {X:Cx} {pins:List (Addr × Obj)} {σ:St} {H:Hp} {s s':Shared}
theorem Inv.env0 (I:Inv X pins σ H s):Env0 X.prog X.w X.K X.mg X.base X.A X.stack s H :=
 ⟨I.ok.frames,I.ok.mod,I.bs,Nat.le_trans I.ok.bsz I.sz,I.stack,I.stkFree,I.hok,I.bare⟩
theorem Inv.after {Q:VK} {u:Value} (I:Inv X pins σ H s) (h:CE X.stack X.prog X.w H s Q u s'):EP X pins σ Q u s':=by
 obtain ⟨v,H',os,bare,un,hok,r,q⟩:=h
 obtain ⟨hh,g,d,t,os'⟩:=s'
 obtain rfl:os'=s.os:=os
 exact ⟨v,H',I.call (h':=hh) (g':=g) (d':=d) (t':=t) (ch:=[]) un hok bare (fun b z=>absurd z (by simp)),r,q⟩
end
def tCall (sp:Sp) (dvs:List V) (E:XK) (t:TA):TE:=fun σ H Q=>t σ H fun vs H1=>sp (vs ++ dvs) H1 Q E
def Binds (K:PySem.W.Frag) (fd:FuncData) (ps:List Str) (ds:List Value):Prop :=
 ∀ (s:Shared) (us:List Value),K.In s.heap→(us ++ ds).length=ps.length→BindsTo s fd ⟨us,[]⟩ (ps.zip (us ++ ds))
theorem Binds.all {K:PySem.W.Frag} {fd:FuncData} {ps:List Str} (h:∀ us:List Value,us.length=ps.length→bindArgs fd ⟨us,[]⟩=pure (ps.zip us)):Binds K fd ps []:=fun s us _ hl=>by
 rw [List.append_nil] at hl ⊢
 exact .of_eq (h us hl)
def Passes (CX:CXT) (X:Cx) (E:XK):Prop:=∀ (pins:List (Addr × Obj)) (σ:St) (H:Hp) (s:Shared) (e:Value) (s':Shared),Inv X pins σ H s→CX X.stack H s E e s'→X.xe e s'
section
variable {X:Cx} {CX:CXT} {k:Nat} {f C:Addr} {fd:FuncData} {ps:List Str} {sp:Sp} {dvs:List V} {ds:List Value} {E:XK} {x m:Str} {p pos apos:Pos} {e o:Expr} {es:List Expr} {ta:TE} {t:TA}
theorem run_fn {pins:List (Addr × Obj)} {σ:St} {H:Hp} {s:Shared} {Q:VK} {us:List Value} {vs:List V} (F:FnOk X.prog X.w X.K X.mg X.base CX k f fd ps sp) (hr:Room k X.A) (hb:Binds X.K fd ps ds) (hd:Vals dvs ds) (hx:Passes CX X E)
  (I:Inv X pins σ H s) (r:Vals vs us) (h:sp (vs ++ dvs) H Q E):wpAny (model X.prog X.w) X.A (call (.ref f) us) (EP X pins σ Q) X.xe s:=by
 have r2:Vals (vs ++ dvs) (us ++ ds):=r.append hd
 have hl:(us ++ ds).length=ps.length:=by rw [← r2.length]; exact F.len _ _ _ _ h
 refine wpAny_call (codeAny_mono (F.run X.A X.stack s H ⟨us,[]⟩ (us ++ ds) (vs ++ dvs) Q E hr I.env0 (hb s us I.kIn hl) r2 h) fun r s' hq=>?_)
 cases r with
 | error e=>exact hx pins σ H s e s' I hq
 | ok fl =>
  cases fl with
  | ret u=>exact I.after hq
  | next=>exact False.elim hq
  | brk=>exact False.elim hq
  | cont=>exact False.elim hq
theorem pe_call (F:FnOk X.prog X.w X.K X.mg X.base CX k f fd ps sp) (hr:Room k X.A) (hg:Gl X x) (hm:X.mg x=some (.ref f)) (hk:PySem.W.keepIn X.K (.ref f)=true) (hb:Binds X.K fd ps ds) (hd:Vals dvs ds) (hx:Passes CX X E)
  (ha:PA X (e :: es) t) (hdb:(x == ("__debug__":Str))=false:=by decide) (he:starEach (e :: es) X.env=(false,eval e X.env) :: starEach es X.env:=by rfl) (hpl:(backTo pos (starEach es X.env)).any (·.1)=false:=by rfl) :
  PE X (.Call (.Name x p) (e :: es) [] pos) (tCall sp dvs E t):=by
 intro pins s σ H Q I h
 refine wpAny_Call_Name_kw (ld_glob I hg hm ?_ hdb)
 refine PySem.W.callWith_K (h₀:=X.base) I.ok.mod.kin hk (thn (ha pos pins s σ H _ I h) fun us s1 ⟨vs,H1,I1,r,q⟩=>⟨I1.kIn,?_⟩) he hpl
 exact run_fn F hr hb hd hx I1 r q
structure Mk (K:PySem.W.Frag) (C f:Addr):Prop where
 makes:PySem.W.makesIn K C=true
 init:PySem.W.findIn K (.ref C) "__init__"=some (some (.ref f))
 fn:PySem.W.isFn K (.ref f)=true
 kp:PySem.W.keepIn K (.ref C)=true
end
section
variable {X:Cx} {CX:CXT} {k:Nat} {f C:Addr} {fd:FuncData} {ps ks:List Str} {sp:Sp} {E:XK} {x m:Str} {p pos apos kpos:Pos} {e o:Expr} {es:List Expr} {kws:List Keyword} {te ta:TE} {t tk:TA} {nm:Option Str}
structure KBinds (K:PySem.W.Frag) (fd:FuncData) (ps ks:List Str) (g:List Value→List Value→List Value) (gV:List V→List V→List V):Prop where
 to:∀ (s:Shared) (us ws:List Value),K.In s.heap→(g us ws).length=ps.length→BindsTo s fd ⟨us,ks.zip ws⟩ (ps.zip (g us ws))
 rel:∀ {vs:List V} {us:List Value} {zs:List V} {ws:List Value},Vals vs us→Vals zs ws→Vals (gV vs zs) (g us ws)
variable {g:List Value→List Value→List Value} {gV:List V→List V→List V}
end
structure FnScope (N P:List Str) (sc:Scope):Prop where
 kind:sc.kind=.function
 co:sc.isCoroutine=false
 gen:sc.isGenerator=false
 nd:N.Nodup
 pre:N.take P.length=P
 par:∀ x∈P,sc.names.lookup x=some .local∨sc.names.lookup x=some .cell
 nofree:∀ y∈sc.names,y.2≠.free
theorem bindL_out {kindOf:Str→Option NameKind} {x:Str}:∀ {binds:List (Str × Value)} {m:Str→Option Value},(∀ v,(x,v) ∉ binds)→bindL kindOf binds m x=m x
 | [],_,_=>rfl
 | (n,v) :: r,m,h=>by
  unfold bindL
  rw [bindL_out fun w hw=>h w (List.mem_cons_of_mem _ hw)]
  split
  ·have:x≠n:=by rintro rfl; exact h v List.mem_cons_self
   simp [this]
  ·rfl
theorem bindC_out {kindOf:Str→Option NameKind} {x:Str}:∀ {binds:List (Str × Value)} {m:Str→Option Value},(∀ v,(x,v) ∉ binds)→bindC kindOf binds m x=m x
 | [],_,_=>rfl
 | (n,v) :: r,m,h=>by
  unfold bindC
  rw [bindC_out fun w hw=>h w (List.mem_cons_of_mem _ hw)]
  split
  ·rfl
  ·have:x≠n:=by rintro rfl; exact h v List.mem_cons_self
   simp [this]
theorem bindL_get {kindOf:Str→Option NameKind} {x:Str} {v:Value}:∀ {P:List Str} {vs:List Value} {i:Nat} {m:Str→Option Value},P.Nodup→P[i]?=some x→vs[i]?=some v→kindOf x=some .local →
  bindL kindOf (P.zip vs) m x=some v
 | [],_,_,_,_,h,_,_=>by simp at h
 | _ :: _,[],_,_,_,_,h,_=>by simp at h
 | p :: P,w :: vs,0,m,nd,h1,h2,hk=>by
  simp at h1 h2; subst h1; subst h2
  show bindL kindOf ((p,w) :: P.zip vs) m p=_
  unfold bindL
  rw [bindL_out fun v hv=>(List.nodup_cons.mp nd).1 (List.of_mem_zip hv).1,if_pos hk]
  simp
 | p :: P,w :: vs,i + 1,m,nd,h1,h2,hk=>by
  show bindL kindOf ((p,w) :: P.zip vs) m x=_
  unfold bindL
  exact bindL_get (i:=i) (List.nodup_cons.mp nd).2 (by simpa using h1) (by simpa using h2) hk
theorem bindC_get {kindOf:Str→Option NameKind} {x:Str} {v:Value}:∀ {P:List Str} {vs:List Value} {i:Nat} {m:Str→Option Value},P.Nodup→P[i]?=some x→vs[i]?=some v→kindOf x≠some .local →
  bindC kindOf (P.zip vs) m x=some v
 | [],_,_,_,_,h,_,_=>by simp at h
 | _ :: _,[],_,_,_,_,h,_=>by simp at h
 | p :: P,w :: vs,0,m,nd,h1,h2,hk=>by
  simp at h1 h2; subst h1; subst h2
  show bindC kindOf ((p,w) :: P.zip vs) m p=_
  unfold bindC
  rw [bindC_out fun v hv=>(List.nodup_cons.mp nd).1 (List.of_mem_zip hv).1,if_neg hk]
  simp
 | p :: P,w :: vs,i + 1,m,nd,h1,h2,hk=>by
  show bindC kindOf ((p,w) :: P.zip vs) m x=_
  unfold bindC
  exact bindC_get (i:=i) (List.nodup_cons.mp nd).2 (by simpa using h1) (by simpa using h2) hk
def start (N:List Str) (vs:List V):St:=vs.map some ++ List.replicate (N.length - vs.length) none
def cxOf (CX:CXT) (P:Program) (w:World) (K:PySem.W.Frag) (mg:Str→Option Value) (base:Heap) (N:List Str) (qual:Str) (scope:Scope) (f:Addr) (cd:Value) (A:Around) (outer:List Env) (s:Shared) (H:Hp) (E:XK):Cx where
 prog:=P
 w:=w
 K:=K
 mg:=mg
 base:=base
 A:=A.deeper (envOfC qual scope s.heap.objs.size f cd)
 N:=N
 s₀:=s
 H₀:=H
 env:=envOfC qual scope s.heap.objs.size f cd
 outer:=outer
 stack:=envOfC qual scope s.heap.objs.size f cd :: outer
 ex:=[]
 calm:=true
 fn:=fun _=>true
 pn:=[]
 xe:=fun e s'=>wpAny (model P w) (A.deeper (envOfC qual scope s.heap.objs.size f cd)) (leaving (envOfC qual scope s.heap.objs.size f cd) e) (fun _ s''=>CX outer H s E e s'') (fun e' s''=>CX outer H s E e' s'') s'
theorem cell_has {sc:Scope} {n:Nat} {x:Str} (h:sc.names.lookup x=some .cell):∃ c,(cellsFrom n sc.names []).lookup x=some c:=by
 have q:=PySem.W.cellsFrom_some sc.names n [] (.inl h)
 exact Option.isSome_iff_exists.mp q
theorem inv_start {CX:CXT} {P:Program} {w:World} {K:PySem.W.Frag} {mg:Str→Option Value} {base:Heap} {N ps:List Str} {qual:Str} {scope:Scope} {f:Addr} {cd:Value} {A:Around} {outer:List Env} {s s1:Shared} {H:Hp} {E:XK} {us:List Value} {vs:List V}
  (S:FnScope N ps scope) (hd:A.handled=none) (e0:Env0 P w K mg base A outer s H) (hl:vs.length=ps.length) (r:Vals vs us)
  (x:InCallC s s.heap.objs.size (bindL (envOfC qual scope s.heap.objs.size f cd).kindOf (ps.zip us) fun _=>none) (cellsFrom (s.heap.objs.size + 1) scope.names []) (bindC (envOfC qual scope s.heap.objs.size f cd).kindOf (ps.zip us) fun _=>none) s1) :
  Inv (cxOf CX P w K mg base N qual scope f cd A outer s H E) [] (start N vs) H s1:=by
 have hpl:ps.length≤N.length:=by have:=congrArg List.length S.pre; rw [List.length_take] at this; omega
 obtain ⟨h1,tk,rfl,hk⟩:=x.done
 have noA:∀ b:Addr,b ∉ (cxOf CX P w K mg base N qual scope f cd A outer s H E).ex:=fun b z=>absurd (show b∈([]:List Addr) from z) (by simp)
 refine ⟨⟨e0.mod,S.kind,rfl,rfl,Nat.le_refl _,fun y z c h1 h2=>?_,fun y hy=>?_,fun y c _ h=>?_,fun _=>hd,Around.frames_deeper e0.frames,.inr ⟨rfl,rfl⟩,fun b z=>absurd z (noA b),e0.bs,e0.bsz,fun b _ _=>noA b,fun b z=>absurd z (noA b),e0.funs,e0.frf⟩,
  rfl,e0.bare,Un.kept hk,⟨_,x.toInCall.ns,fun i y v h1 h2 h3=>?_⟩,fun y c h=>⟨_,x.cell y c h⟩,e0.hok.fresh (Nat.le_refl _),fun y c h=>?_,fun p hp=>absurd (show p∈([]:List (Addr × Obj)) from hp) (by simp),e0.hok.kept hk,?_⟩
 ·exact name_of_addr x.apart (PySem.mem_of_lookup h1) (PySem.mem_of_lookup h2)
 ·have hy:scope.names.lookup y=some .cell∨scope.names.lookup y=some .free:=hy
  rcases hy with hy | hy
  ·exact cell_has hy
  ·exact absurd rfl (S.nofree _ (PySem.mem_of_lookup hy))
 ·exact Nat.le_of_lt (x.above y c (PySem.mem_of_lookup h))
 ·have hi:i < vs.length:=by
   unfold start at h2
   by_cases hi:i < vs.length
   ·exact hi
   ·rw [List.getElem?_append_right (by simpa using hi)] at h2
    rw [List.getElem?_replicate] at h2
    split at h2 <;> cases h2
  have ha:vs[i]?=some v:=by
   unfold start at h2
   rw [List.getElem?_append_left (by simpa using hi),List.getElem?_map] at h2
   cases e:vs[i]? with
   | none=>rw [e] at h2; cases h2
   | some a=>rw [e] at h2; cases h2; rfl
  obtain ⟨u,hu,rv⟩:=r.get ha
  have hp:ps[i]?=some y:=by
   rw [← S.pre,List.getElem?_take_of_lt (by omega)]; exact h1
  have ndP:ps.Nodup:=by rw [← S.pre]; exact S.nd.sublist (List.take_sublist _ _)
  refine ⟨u,rv,?_⟩
  rcases S.par y (List.mem_of_getElem? hp) with k | k
  ·exact .inl ⟨k,bindL_get ndP hp hu k⟩
  ·obtain ⟨c,e⟩:=cell_has (n:=s.heap.objs.size + 1) k
   refine .inr ⟨.inl k,c,e,?_⟩
   have q:=x.cell y c e
   rw [bindC_get ndP hp hu (by show scope.names.lookup y≠_; rw [k]; decide)] at q
   exact q
 ·exact e0.hok.fresh (Nat.le_of_lt (x.above y c (PySem.mem_of_lookup h)))
 ·unfold start
  show _=N.length
  rw [List.length_append,List.length_map,List.length_replicate]
  omega
theorem fn_of {CX:CXT} {P:Program} {w:World} {K:PySem.W.Frag} {mg:Str→Option Value} {base:Heap} {k:Nat} {f:Addr} {name qual:Str} {params:Arguments} {body:List Stmt} {scope:Scope} {dV kV doc pm cdv ct oc:Value} {an od:Option Addr}
  {osl:Array (Option Value)} {N ps:List Str} {sp:Sp} (lk:K.lookup f=some ⟨oc,od,.func (PySem.W.fnOf name qual params body scope dV kV doc pm an cdv ct),osl⟩) (hcd:PySem.W.codeIn K cdv qual=true) (S:FnScope N ps scope)
  (len:∀ vs H Q E,sp vs H Q E→vs.length=ps.length)
  (hbody:∀ (A:Around) (outer:List Env) (s:Shared) (H:Hp) (vs:List V) (Q:VK) (E:XK),Room k (A.deeper (envOfC qual scope s.heap.objs.size f cdv))→sp vs H Q E →
   ∃ t,PSs (cxOf CX P w K mg base N qual scope f cdv A outer s H E) body t∧t { nx:=fun _ H'=>Q .non H',rt:=Q } (start N vs) H) :
  FnOk P w K mg base CX (k + 1) f (PySem.W.fnOf name qual params body scope dV kV doc pm an cdv ct) ps sp:=by
 refine ⟨len,fun A outer s H args us vs Q E hr e0 hb r hsp=>?_⟩
 have hl:=len _ _ _ _ hsp
 have KX:K.In s.heap:=e0.mod.kin.keeps fun b o e=>(e0.bs b o e).1
 have lim:s.heap.NoLimit:=e0.mod.nolimit.keeps fun b o e=>(e0.bs b o e).1
 have hkind:∀ y∈ps.zip us,scope.names.lookup y.1=some .local∨(scope.names.lookup y.1=some .cell∧((cellsFrom (s.heap.objs.size + 1) scope.names []).lookup y.1).isSome=true):=fun ⟨n,v⟩ hy=>by
  rcases S.par n (List.of_mem_zip hy).1 with q | q
  ·exact .inl q
  ·exact .inr ⟨q,PySem.W.cellsFrom_some _ _ _ (.inl q)⟩
 refine codeAny_call_function hr.depth (KX _ _ lk) rfl S.co S.gen rfl (PySem.W.codeRec_of KX hcd) (hb _ _ _ _ ?_)
 refine wpAny_newFunctionEnv_cells S.kind hkind fun env he s1 x=>?_
 subst he
 refine ⟨lim.keeps x.toInCall.keep,codeAny_func ?_⟩
 obtain ⟨t,ht,hq⟩:=hbody A outer s H vs Q E (hr.deeper _) hsp
 have I:Inv (cxOf CX P w K mg base N qual scope f cdv A outer s H E) [] (start N vs) H s1:=inv_start S hr.hd e0 hl r x
 refine wpAny_mono (ht [] s1 (start N vs) H _ I hq) (fun fl s' hs=>?_) fun e s' hs=>hs
 have fin:∀ {σ':St} {H':Hp} {v:V} {u:Value},Inv (cxOf CX P w K mg base N qual scope f cdv A outer s H E) [] σ' H' s'→RelV v u→Q v H'→CE outer P w H s Q u s' :=
  fun {σ' H' v u} J rv q=>⟨v,H',J.os,J.bare,J.base,J.hok,rv,q⟩
 cases fl with
 | ret u =>
  obtain ⟨v,σ',H',J,rv,q⟩:=hs
  exact fin J rv q
 | next =>
  obtain ⟨σ',H',J,q⟩:=hs
  exact fin (v:=V.non) (u:=Value.none) J rfl q
 | brk =>
  obtain ⟨_,_,_,q⟩:=hs
  exact False.elim q
 | cont =>
  obtain ⟨_,_,_,q⟩:=hs
  exact False.elim q
end L2
namespace L2
open PySem PySem.Spec PyProof.Rows
section
variable {X:Cx} {x:Str} {p pos:Pos} {e:Expr} {es:List Expr} {t:TA} {id T:String} {r:List V→Hp→VK→Prop}
def tCB (r:List V→Hp→VK→Prop) (t:TA):TE:=fun σ H Q=>t σ H fun vs H1=>r vs H1 Q
theorem pe_callB (hc:CallR X (.builtin id) r) (hg:Gl X x) (hm:X.mg x=none) (hv:bootBuiltins x=some (.builtin id)) (ha:PA X (e :: es) t) (hn:x≠"__name__":=by decide) (hdb:(x == ("__debug__":Str))=false:=by decide)
  (he:starEach (e :: es) X.env=(false,eval e X.env) :: starEach es X.env:=by rfl) (hpl:(backTo pos (starEach es X.env)).any (·.1)=false:=by rfl):PE X (.Call (.Name x p) (e :: es) [] pos) (tCB r t):=by
 intro pins s σ H Q I h
 refine wpAny_Call_Name_kw (ld_blt I hg hm hv ?_ hn hdb)
 exact PyProof.Rows.callWith_builtin1 (thn (ha pos pins s σ H _ I h) fun us s1 ⟨vs,H1,I1,r1,q1⟩=>hc pins s1 σ H1 vs us Q I1 r1 q1) he hpl
theorem pe_callTy (hc:CallR X (.type T) r) (hg:Gl X x) (hm:X.mg x=none) (hv:bootBuiltins x=some (.type T)) (ha:PA X (e :: es) t) (hn:x≠"__name__":=by decide) (hdb:(x == ("__debug__":Str))=false:=by decide)
  (he:starEach (e :: es) X.env=(false,eval e X.env) :: starEach es X.env:=by rfl) (hpl:(backTo pos (starEach es X.env)).any (·.1)=false:=by rfl):PE X (.Call (.Name x p) (e :: es) [] pos) (tCB r t):=by
 intro pins s σ H Q I h
 refine wpAny_Call_Name_kw (ld_blt I hg hm hv ?_ hn hdb)
 exact PyProof.Rows.callWith_type1 (thn (ha pos pins s σ H _ I h) fun us s1 ⟨vs,H1,I1,r1,q1⟩=>hc pins s1 σ H1 vs us Q I1 r1 q1) he hpl
end
end L2
namespace HT
open PySem PyProof.Rows
section
open PySem.SeqAt
open PySem.AutoSeq1 (wpAny_loadPart')
open PySem.MeetsSeq PySem.MeetsSeq2 PySem.MeetsSeq3
end
section
variable {prog:Program} {w:World} {A:Around} {E:Value→Shared→Prop} {s:Shared}
def sIx (n d:Nat):Option Int→Nat
 | none=>d
 | some v=>if v < 0 then (v + (n:Int)).toNat else min v.toNat n
theorem sIx_none (n d:Nat):sIx n d none=d:=rfl
theorem sIx_nat (n d k:Nat):sIx n d (some (k:Int))=min k n:=by
 show (if (k:Int) < 0 then ((k:Int) + (n:Int)).toNat else min (k:Int).toNat n)=min k n
 rw [if_neg (by omega),Int.toNat_natCast]
end
end HT
namespace L2
open PySem PySem.Spec PyProof.Rows
abbrev TO:=St→Hp→(Option Int→Hp→Prop)→Prop
def PO (X:Cx) (e:Option Expr) (t:TO):Prop :=
 ∀ (pins:List (Addr × Obj)) (s:Shared) (σ:St) (H:Hp) (Q:Option Int→Hp→Prop),Inv X pins σ H s→t σ H Q →
  wpAny (model X.prog X.w) X.A (evalPart e X.env) (fun u s'=>∃ o H',Inv X pins σ H' s'∧IsPart u o∧Q o H') X.xe s
def tNoPart:TO:=fun _ H Q=>Q none H
def tPart (t:TE):TO:=fun σ H Q=>t σ H fun x H1=>∃ i,x=.int i∧Q (some i) H1
theorem intsAre_of {ns:List Int}:∀ {us:List Value},Vals (ns.map V.int) us→IntsAre us ns:=by
 induction ns with
 | nil=>intro us r; rw [List.map_nil] at r; cases r; exact .nil
 | cons n ns ih =>
  intro us r
  rw [List.map_cons] at r
  cases r with
  | cons r1 r2 =>
   obtain ⟨t,e⟩:=r1
   subst e
   exact .cons n t (ih r2)
section
variable {X:Cx} {e:Expr} {te:TE} {lo hi:Option Expr} {tl th:TO} {pos p2:Pos}
theorem po_none:PO X none tNoPart:=by
 intro pins s σ H Q I h
 rw [evalPart_none]
 exact wpAny_pure ⟨none,H,I,.none,h⟩
theorem po_some (h:PE X e te):PO X (some e) (tPart te):=by
 intro pins s σ H Q I hw
 rw [evalPart_some]
 refine thn (h pins s σ H _ I hw) fun u s1 ⟨x,H1,I1,r1,q1⟩=>?_
 obtain ⟨i,rfl,q⟩:=q1
 obtain ⟨t,rfl⟩:=r1
 exact ⟨some i,H1,I1,.int i t,q⟩
def SlR (X:Cx) (r:V→Option Int→Option Int→Hp→VK→Prop):Prop :=
 ∀ (pins:List (Addr × Obj)) (s:Shared) (σ:St) (H:Hp) (x:V) (v vl vu:Value) (lo hi:Option Int) (sl:Addr) (Q:VK),Inv X pins σ H s→RelV x v→s.heap.IsSliceOf sl vl vu .none→IsPart vl lo→IsPart vu hi→r x lo hi H Q →
  ∃ T id,typeLookup (.type T) "__getitem__"=pure (some (.builtin id))∧s.TypeIs v T∧wpAny (model X.prog X.w) X.A (getItem v (.ref sl)) (EP X pins σ Q) X.xe s
def tSl (r:V→Option Int→Option Int→Hp→VK→Prop) (te:TE) (tl th:TO):TE:=fun σ H Q=>te σ H fun x H1=>tl σ H1 fun l H2=>th σ H2 fun u H3=>r x l u H3 Q
theorem pe_slice {r:V→Option Int→Option Int→Hp→VK→Prop} (hr:SlR X r) (he:PE X e te) (hl:PO X lo tl) (hu:PO X hi th):PE X (.Subscript e (.Slice lo hi none p2) pos) (tSl r te tl th):=by
 intro pins s σ H Q I h
 refine Subscript_ (thn (he pins s σ H _ I h) fun v s1 ⟨x,H1,I1,r1,q1⟩=>?_)
 refine wpAny_Slice (thn (hl pins s1 σ H1 _ I1 q1) fun vl s2 ⟨l,H2,I2,pl,q2⟩=>thn (hu pins s2 σ H2 _ I2 q2) fun vu s3 ⟨u,H3,I3,pu,q3⟩=>?_)
 rw [evalPart_none]
 refine wpAny_pure ?_
 have I4:Inv X pins σ H3 { s3 with heap:=s3.heap.push { cls:=.type "slice",data:=.fields #[vl,vu,.none] } }:=I3.kept (t':=s3.toks) fun b ob q=>Heap.get?_push_of_some _ q
 obtain ⟨T,id,hT,ht,hg⟩:=hr pins { s3 with heap:=s3.heap.push { cls:=.type "slice",data:=.fields #[vl,vu,.none] } } σ H3 x v vl vu l u s3.heap.objs.size Q I4 r1 (Heap.IsSliceOf.new ..) pl pu q3
 show wpAny (model X.prog X.w) X.A (subscriptTail e (.Slice lo hi none p2) v (.ref s3.heap.objs.size)) (EP X pins σ Q) X.xe { s3 with heap:=s3.heap.push { cls:=.type "slice",data:=.fields #[vl,vu,.none] } }
 exact tail_any (ops:=[.ref s3.heap.objs.size,v]) ht hT hg (by with_unfolding_all rfl)
def cutV (xs:List V) (lo hi:Option Int):List V:=(xs.drop (HT.sIx xs.length 0 lo)).take (HT.sIx xs.length xs.length hi - HT.sIx xs.length 0 lo)
theorem cutV_length (xs:List V) (lo hi:Option Int):(cutV xs lo hi).length≤xs.length:=by
 unfold cutV
 rw [List.length_take,List.length_drop]
 omega
end
end L2
namespace L2
open PySem PySem.Spec PyProof.Rows
def ixN (n:Nat) (i:Int):Option Nat:=if 0≤i then (if i < n then some i.toNat else none) else if -(n:Int)≤i then some (i + n).toNat else none
def atI {α:Type} (xs:List α) (i:Int):Option α:=(ixN xs.length i).bind fun j=>xs[j]?
theorem ixN_seq {n:Nat} {i:Int} {j:Nat} (h:ixN n i=some j):seqIndex? i n=some j∧j < n∧-(n:Int)≤i∧i < n:=by
 unfold ixN at h
 by_cases h0:0≤i
 ·rw [if_pos h0] at h
  by_cases h1:i < n
  ·rw [if_pos h1] at h
   have e:i.toNat=j:=Option.some.inj h
   exact ⟨by rw [seqIndex_of h0 h1,e],by omega,by omega,h1⟩
  ·rw [if_neg h1] at h; cases h
 ·rw [if_neg h0] at h
  by_cases h1:-(n:Int)≤i
  ·rw [if_pos h1] at h
   have e:(i + n).toNat=j:=Option.some.inj h
   exact ⟨by rw [seqIndex_neg (by omega) h1,e],by omega,h1,by omega⟩
  ·rw [if_neg h1] at h; cases h
theorem atI_get {α:Type} {xs:List α} {i:Int} {v:α} (h:atI xs i=some v):∃ j,seqIndex? i xs.length=some j∧xs[j]?=some v∧j < xs.length∧-(xs.length:Int)≤i∧i < xs.length:=by
 unfold atI at h
 cases e:ixN xs.length i with
 | none=>rw [e] at h; cases h
 | some j =>
  rw [e] at h
  obtain ⟨h1,h2,h3,h4⟩:=ixN_seq e
  exact ⟨j,h1,h,h2,h3,h4⟩
theorem atI_nat {α:Type} {xs:List α} {j:Nat} {v:α} (h:xs[j]?=some v):atI xs (j:Int)=some v:=by
 have hj:j < xs.length:=(List.getElem?_eq_some_iff.mp h).1
 have e:ixN xs.length (j:Int)=some j:=by
  unfold ixN
  rw [if_pos (by omega),if_pos (by omega)]; simp
 unfold atI; rw [e]; exact h
def PlainIx (b:Expr):Prop:=∀ o i,subscripted b false o i=operate [o,i] (getItem o i)
def IxR (X:Cx) (r:R2):Prop :=
 ∀ (value slice:Expr) (pins:List (Addr × Obj)) (s:Shared) (σ:St) (H:Hp) (x y:V) (v u:Value) (Q:VK),Inv X pins σ H s→RelV x v→RelV y u→r x y H Q →
  subscripted slice false v u=operate [v,u] (getItem v u)→wpAny (model X.prog X.w) X.A (subscriptTail value slice v u) (EP X pins σ Q) X.xe s
def MtR (X:Cx) (id:String) (r:V→List V→Hp→VK→Prop):Prop :=
 ∀ (pins:List (Addr × Obj)) (s:Shared) (σ:St) (H:Hp) (x:V) (xs:List V) (v:Value) (us:List Value) (Q:VK),Inv X pins σ H s→RelV x v→Vals xs us→r x xs H Q →
  wpAny (model X.prog X.w) X.A (call (.builtin id) (v :: us)) (EP X pins σ Q) X.xe s
section
variable {X:Cx} {a b:Expr} {ta tb:TE} {pos:Pos}
theorem pe_ix {r:R2} (hr:IxR X r) (ha:PE X a ta) (hb:PE X b tb) (hs:PlainIx b):PE X (.Subscript a b pos) (tOp r ta tb):=by
 intro pins s σ H Q I h
 exact Subscript_ (binT ha hb I h fun v u s2 x y H2 I2 rx ry q=>hr a b pins s2 σ H2 x y v u Q I2 rx ry q (hs _ _))
def rIxL (K:PySem.W.Frag):R2:=fun x y H Q=>∃ p xs i v,x=.ref p∧y=.int i∧SqL K H p xs∧atI xs i=some v∧Q v H
def rIxT (K:PySem.W.Frag):R2:=fun x y H Q=>∃ p xs i v,x=.ref p∧y=.int i∧SqT K H p xs∧atI xs i=some v∧Q v H
theorem ix_list:IxR X (rIxL X.K):=by
 intro value slice pins s σ H x y v u Q I rx ry h hs
 obtain ⟨p,xs,i,z,rfl,rfl,hq,he,q⟩:=h
 cases rx
 obtain ⟨t,rfl⟩:=ry
 obtain ⟨its,r,pl,hz⟩:=I.list hq
 obtain ⟨j,h1,h2,h3,h4,h5⟩:=atI_get he
 obtain ⟨w,ew,rw'⟩:=r.get h2
 have hl:=r.length
 have hn:=line63
 have fin:EP X pins σ Q w s:=⟨z,H,I,rw',q⟩
 by_cases h0:0≤i
 ·have hj:i.toNat=j:=by
   rw [seqIndex_of h0 h5] at h1
   exact Option.some.inj h1
  exact item_listR pl.isList h0 (by omega) (by rw [hj]; simpa using ew) fin hs
 ·have hj:(i + (its.toArray.size:Int)).toNat=j:=by
   rw [seqIndex_neg (by omega) h4] at h1
   rw [List.size_toArray,← hl]
   exact Option.some.inj h1
  exact subscriptTail_builtinR (x:=w) pl.isList.typeIs slot_list_getitem.lookup
   (wpAny_getItem_list_neg (Q:=fun r s'=>r=w∧EP X pins σ Q r s') pl.isList (by omega) (by rw [List.size_toArray] <;> omega) (by omega) (by rw [hj]; simpa using ew) ⟨rfl,fin⟩) hs
theorem ix_tup:IxR X (rIxT X.K):=by
 intro value slice pins s σ H x y v u Q I rx ry h hs
 obtain ⟨p,xs,i,z,rfl,rfl,hq,he,q⟩:=h
 cases rx
 obtain ⟨t,rfl⟩:=ry
 obtain ⟨its,r,pl,hz⟩:=I.tuple hq
 obtain ⟨j,h1,h2,h3,h4,h5⟩:=atI_get he
 obtain ⟨w,ew,rw'⟩:=r.get h2
 have hl:=r.length
 have hn:=line63
 have fin:EP X pins σ Q w s:=⟨z,H,I,rw',q⟩
 exact subscriptTail_builtinR (x:=w) pl.typeIs slot_tuple_getitem.lookup
  (getItem_tuple (j:=j) (Q:=fun r s'=>r=w∧EP X pins σ Q r s') pl (by omega) (by omega) (by rw [List.size_toArray,← hl]; exact h1) (by simpa using ew) ⟨rfl,fin⟩) hs
theorem mapSeq_set (its:List Value) (n j:Nat) (u:Value):Obj.mapSeq (·.setIfInBounds j u) { cls:=.type "list",data:=.seq its.toArray n }={ cls:=.type "list",data:=.seq (its.set j u).toArray n }:=by
 simp [Obj.mapSeq]
theorem Inv.lst {pins:List (Addr × Obj)} {σ:St} {H:Hp} {s:Shared} {p:Addr} {xs:List V} (I:Inv X pins σ H s) (h:H p=some (.lst xs)) :
  ∃ (its:List Value) (n:Nat),Vals xs its∧s.heap.get? p=some { cls:=.type "list",data:=.seq its.toArray n }∧xs.length≤sizeLine:=by
 obtain ⟨z,its,n,r,e⟩:=I.hok p _ h
 exact ⟨its,n,r,e,z⟩
theorem Inv.lstUpd {pins:List (Addr × Obj)} {σ:St} {H:Hp} {s:Shared} {p:Addr} {xs ys:List V} {its its':List Value} {n n':Nat} {f:Obj→Obj} (I:Inv X pins σ H s) (h:H p=some (.lst xs))
  (ho:s.heap.get? p=some { cls:=.type "list",data:=.seq its.toArray n }) (hf:f { cls:=.type "list",data:=.seq its.toArray n }={ cls:=.type "list",data:=.seq its'.toArray n' }) (r:Vals ys its') (hz:ys.length≤sizeLine) (t:Nat) :
  Inv X pins σ (upd H p (.lst ys)) { s with heap:=s.heap.update p f,toks:=t }:=by
 have e:(s.heap.update p f).get? p=some { cls:=.type "list",data:=.seq its'.toArray n' }:=by
  rw [Heap.get?_update_self f ho (by rw [hf] <;> rfl),hf]
 refine I.write (x:=p) (e:=p) (by rw [h]; trivial) (.inl rfl) (fun b u hb q=>(Heap.get?_update_other _ _ (Ne.symm hb)).trans q) ⟨_,e⟩ ?_
 exact ⟨hz,its',n',r,e⟩
def rSetL:V→V→V→Hp→(Hp→Prop)→Prop:=fun o i v H Q=>∃ p xs k j,o=.ref p∧i=.int k∧H p=some (.lst xs)∧ixN xs.length k=some j∧Q (upd H p (.lst (xs.set j v)))
theorem set_list:PSet X rSetL:=by
 intro pins s σ H o i v ov iv u Q I ro ri rv h
 obtain ⟨p,xs,k,j,rfl,rfl,hp,hj,q⟩:=h
 cases ro
 obtain ⟨t,rfl⟩:=ri
 obtain ⟨its,n,r,ho,hz⟩:=I.lst hp
 obtain ⟨h1,h2,h3,h4⟩:=ixN_seq hj
 have hl:=r.length
 have hn:=line63
 have I':Inv X pins σ (upd H p (.lst (xs.set j v))) { s with heap:=s.heap.update p (Obj.mapSeq (·.setIfInBounds j u)) } :=
  I.lstUpd hp ho (mapSeq_set its n j u) (r.set rv j) (by rw [List.length_set]; exact hz) s.toks
 by_cases h0:0≤k
 ·have hk:k.toNat=j:=by
   rw [seqIndex_of h0 h4] at h1
   exact Option.some.inj h1
  exact PySem.W.ki_setAt ho h0 (by omega) (by rw [List.size_toArray,← hl]; exact h4) (by rw [hk]; exact ⟨_,I',q⟩)
 ·have hk:(k + (its.toArray.size:Int)).toNat=j:=by
   rw [seqIndex_neg (by omega) h3] at h1
   rw [List.size_toArray,← hl]
   exact Option.some.inj h1
  exact PySem.W.ki_setBack ho (by omega) (by rw [List.size_toArray,← hl]; exact h3) (by omega) (by rw [hk]; exact ⟨_,I',q⟩)
theorem slice_bounds (lo hi:Option Int) (n:Nat):(sliceBounds lo hi none n).1=((HT.sIx n 0 lo:Nat):Int)∧(sliceBounds lo hi none n).2.1=((HT.sIx n n hi:Nat):Int)∧(sliceBounds lo hi none n).2.2=1:=by
 refine ⟨?_,?_,rfl⟩
 ·cases lo with
  | none=>simp [sliceBounds,HT.sIx]
  | some i =>
   simp only [sliceBounds,HT.sIx,Option.getD_none,show (1:Int) > 0 by decide,if_true]
   by_cases h:i < 0
   ·simp only [h,if_true] <;> omega
   ·simp only [h,if_false] <;> omega
 ·cases hi with
  | none=>simp [sliceBounds,HT.sIx]
  | some i =>
   simp only [sliceBounds,HT.sIx,Option.getD_none,show (1:Int) > 0 by decide,if_true]
   by_cases h:i < 0
   ·simp only [h,if_true] <;> omega
   ·simp only [h,if_false] <;> omega
theorem slicePick_cut (its:List Value) (lo hi:Option Int):slicePick its.toArray lo hi none=((its.drop (HT.sIx its.length 0 lo)).take (HT.sIx its.length its.length hi - HT.sIx its.length 0 lo)).toArray:=by
 obtain ⟨h1,h2,h3⟩:=slice_bounds lo hi its.toArray.size
 unfold slicePick
 rw [h1,h2,h3]
 simp only [sliceRange_one,pick_run,List.size_toArray] <;> rfl
def rSlL (K:PySem.W.Frag):V→Option Int→Option Int→Hp→VK→Prop:=fun x lo hi H Q=>∃ a xs,x=.ref a∧SqL K H a xs∧∀ p,H p=none→Q (.ref p) (upd H p (.lst (cutV xs lo hi)))
theorem sl_list:SlR X (rSlL X.K):=by
 intro pins s σ H x v vl vu lo hi sl Q I rx hs pl pu h
 obtain ⟨a,xs,rfl,hx,q⟩:=h
 cases rx
 obtain ⟨its,r,ht,hz⟩:=I.list hx
 have hlen:=r.length
 refine ⟨"list",_,slot_list_getitem.lookup,ht.isList.typeIs,?_⟩
 refine wpAny_getItem_list_slice ht.isList hs pl pu .none (by simp) ?_ (by rw [List.size_toArray] <;> omega)
 rw [slicePick_cut,← hlen]
 refine ⟨.ref s.heap.objs.size,_,I.laid (t':=s.toks) (o:=.lst (cutV xs lo hi)) (fun b ob q=>Heap.get?_push_of_some _ q) (Nat.le_refl _) ?_,rfl,q _ (I.hok.fresh (Nat.le_refl _))⟩
 exact ⟨Nat.le_trans (cutV_length xs lo hi) hz,_,0,(r.drop (HT.sIx xs.length 0 lo)).take (HT.sIx xs.length xs.length hi - HT.sIx xs.length 0 lo),Heap.get?_push_size _ rfl⟩
def flatV:V→Bool
 | .non=>true
 | .bl _=>true
 | .int _=>true
 | .str _=>true
 | _=>false
def eqV:V→V→Bool
 | .non,.non=>true
 | .bl a,.bl b=>a == b
 | .bl a,.int b=>(if a then 1 else 0) == b
 | .int a,.bl b=>a == (if b then 1 else 0)
 | .int a,.int b=>a == b
 | .str a,.str b=>a == b
 | _,_=>false
theorem eqAt_V {A:Around} {s:Shared} {y x:V} {u v:Value} (ry:RelV y u) (rx:RelV x v) (fy:flatV y=true) (fx:flatV x=true):SeqAt.EqAt A s u v (eqV y x):=by
 cases y with
 | non =>
  cases ry
  cases x with
  | non=>cases rx; exact SeqAt.EqAt.same _
  | bl b=>cases rx; exact SeqAt.EqAt.none_bool b
  | int b=>obtain ⟨t,rfl⟩:=rx; exact SeqAt.EqAt.none_int b t
  | str b=>obtain ⟨t,rfl⟩:=rx; exact SeqAt.EqAt.none_str b t
  | _=>exact absurd (show false=true from fx) Bool.false_ne_true
 | bl a =>
  cases ry
  cases x with
  | non=>cases rx; exact SeqAt.EqAt.bool_none a
  | bl b=>cases rx; exact SeqAt.EqAt.bool_bool a b
  | int b=>obtain ⟨t,rfl⟩:=rx; exact SeqAt.EqAt.bool_int a b t
  | str b=>obtain ⟨t,rfl⟩:=rx; exact SeqAt.EqAt.bool_str a b t
  | _=>exact absurd (show false=true from fx) Bool.false_ne_true
 | int a =>
  obtain ⟨t',rfl⟩:=ry
  cases x with
  | non=>cases rx; exact SeqAt.EqAt.int_none a t'
  | bl b=>cases rx; exact SeqAt.EqAt.int_bool a t' b
  | int b=>obtain ⟨t,rfl⟩:=rx; exact SeqAt.EqAt.int_int a t' b t
  | str b=>obtain ⟨t,rfl⟩:=rx; exact SeqAt.EqAt.int_str a t' b t
  | _=>exact absurd (show false=true from fx) Bool.false_ne_true
 | str a =>
  obtain ⟨t',rfl⟩:=ry
  cases x with
  | non=>cases rx; exact SeqAt.EqAt.str_none a t'
  | bl b=>cases rx; exact SeqAt.EqAt.str_bool a t' b
  | int b=>obtain ⟨t,rfl⟩:=rx; exact SeqAt.EqAt.str_int a t' b t
  | str b=>obtain ⟨t,rfl⟩:=rx; exact SeqAt.EqAt.str_str a t' b t
  | _=>exact absurd (show false=true from fx) Bool.false_ne_true
 | _=>exact absurd (show false=true from fy) Bool.false_ne_true
def eqU (x:V) (u:Value):Bool:=match u with
 | .none=>eqV .non x
 | .bool b=>eqV (.bl b) x
 | .int i _=>eqV (.int i) x
 | .str z _=>eqV (.str z) x
 | _=>false
theorem eqU_of {x y:V} {u:Value} (r:RelV y u) (f:flatV y=true):eqU x u=eqV y x:=by
 cases y with
 | non=>cases r; rfl
 | bl b=>cases r; rfl
 | int i=>obtain ⟨t,rfl⟩:=r; rfl
 | str z=>obtain ⟨t,rfl⟩:=r; rfl
 | _=>exact absurd (show false=true from f) Bool.false_ne_true
theorem any_eqU {x:V}:∀ {xs:List V} {us:List Value},Vals xs us→xs.all flatV=true→us.any (eqU x)=xs.any fun y=>eqV y x
 | _,_,.nil,_=>rfl
 | y :: xs,u :: us,.cons r t,f=>by
  rw [List.all_cons,Bool.and_eq_true] at f
  rw [List.any_cons,List.any_cons,eqU_of r f.1,any_eqU t f.2]
theorem mem_eqAt {A:Around} {s:Shared} {x:V} {v:Value} (rx:RelV x v) (fx:flatV x=true):∀ {xs:List V} {us:List Value},Vals xs us→xs.all flatV=true→∀ u∈us,SeqAt.EqAt A s u v (eqU x u)
 | _,_,.nil,_=>fun u hu=>by cases hu
 | y :: xs,u :: us,.cons r t,f=>fun u' hu=>by
  rw [List.all_cons,Bool.and_eq_true] at f
  rcases List.mem_cons.mp hu with rfl | hu
  ·rw [eqU_of r f.1]; exact eqAt_V r rx f.1 fx
  ·exact mem_eqAt rx fx t f.2 u' hu
def inV (x:V) (xs:List V):Bool:=xs.any fun y=>eqV y x
def rIn (K:PySem.W.Frag) (neg:Bool):R2:=fun x y H Q=>∃ p xs,y=.ref p∧(SqL K H p xs∨SqT K H p xs)∧flatV x=true∧xs.all flatV=true∧Q (.bl (if neg then !inV x xs else inV x xs)) H
theorem op_in_seq:OpR X (compareOp .In) (rIn X.K false):=by
 intro pins s σ H x y v u Q I rx ry h
 obtain ⟨p,xs,rfl,hq,fx,fs,q⟩:=h
 cases ry
 rcases hq with hq | hq
 ·obtain ⟨its,r,pl,hz⟩:=I.list hq
  refine SeqAt.in_listAt (eqU x) pl.isList (fun w hw=>mem_eqAt rx fx r fs w (by simpa using hw)) ⟨.bl _,H,I,rfl,?_⟩
  rw [show its.toArray.any (eqU x)=its.any (eqU x) by simp,any_eqU r fs]
  exact q
 ·obtain ⟨its,r,pl,hz⟩:=I.tuple hq
  refine SeqAt.in_tupleAt (eqU x) pl (fun w hw=>mem_eqAt rx fx r fs w (by simpa using hw)) ⟨.bl _,H,I,rfl,?_⟩
  rw [show its.toArray.any (eqU x)=its.any (eqU x) by simp,any_eqU r fs]
  exact q
theorem call_len_seq:CallR X (.builtin "len") (fun xs H Q=>∃ p ys,xs=[.ref p]∧(SqL X.K H p ys∨SqT X.K H p ys)∧Q (.int ys.length) H):=by
 intro pins s σ H xs us Q I r h
 obtain ⟨p,ys,rfl,hq,q⟩:=h
 obtain ⟨u,rfl,rx⟩:=vals1 r
 cases rx
 have hn:=line63
 rcases hq with hq | hq
 ·obtain ⟨its,r',pl,hz⟩:=I.list hq
  have hlen:=r'.length
  exact Calls.call_len_list pl.isList (by simp only [List.size_toArray] <;> omega) ⟨.int ys.length,H,I.tok _,⟨s.toks + 1,by rw [List.size_toArray,hlen]⟩,q⟩
 ·obtain ⟨its,r',pl,hz⟩:=I.tuple hq
  have hlen:=r'.length
  exact len_tuple pl (by simp only [List.size_toArray] <;> omega) ⟨.int ys.length,H,I.tok _,⟨s.toks + 1,by rw [List.size_toArray,hlen]⟩,q⟩
theorem call_list_of:CallR X (.type "list") (fun xs H Q=>∃ p ys,xs=[.ref p]∧(SqL X.K H p ys∨SqT X.K H p ys)∧∀ l,H l=none→Q (.ref l) (upd H l (.lst ys))):=by
 intro pins s σ H xs us Q I r h
 obtain ⟨p,ys,rfl,hq,q⟩:=h
 obtain ⟨u,rfl,rx⟩:=vals1 r
 cases rx
 have fin:∀ (its:List Value),Vals ys its→ys.length≤sizeLine→∀ (h':Heap) (c':Nat),(∀ b o',s.heap.get? b=some o'→h'.get? b=some o') →
   h'.get? s.heap.objs.size=some { cls:=.type "list",dict:=none,data:=.seq its.toArray c',slots:=#[] }→EP X pins σ Q (.ref s.heap.objs.size) { s with heap:=h' }:=fun its r' hz h' c' kp e =>
  ⟨.ref s.heap.objs.size,_,I.laid (t':=s.toks) kp (Nat.le_refl _) (show ObjOk X.prog X.w _ h' _ (.lst ys) from ⟨hz,its,c',r',e⟩),rfl,q _ (I.hok.fresh (Nat.le_refl _))⟩
 rcases hq with hq | hq
 ·obtain ⟨its,r',pl,hz⟩:=I.list hq
  have hlen:=r'.length
  obtain ⟨o,ho,hc,n,hd⟩:=pl.isList
  exact call_list_seq p (.inl rfl) ho hc hd (fun h' c' kp e=>fin its r' hz h' c' kp e) (by simp only [List.size_toArray] <;> omega)
 ·obtain ⟨its,r',pl,hz⟩:=I.tuple hq
  have hlen:=r'.length
  obtain ⟨o,ho,hc,n,hd⟩:=pl
  exact call_list_seq p (.inr rfl) ho hc hd (fun h' c' kp e=>fin its r' hz h' c' kp e) (by simp only [List.size_toArray] <;> omega)
def tyV (K:PySem.W.Frag) (T:String) (x:V) (H:Hp):Prop:=match x with
 | .str _=>T="str"
 | .int _=>T="int"
 | .ref p=>(T="list"∧∃ xs,SqL K H p xs)∨(T="tuple"∧∃ o,K.lookup p=some o∧o.cls=.type "tuple"∧o.dict=none) ∨
   (T="dict"∧((∃ kvs,H p=some (.dK kvs))∨∃ kvs,H p=some (.dT kvs)))∨(T="set"∧∃ S n,H p=some (.set S n))
 | _=>False
theorem tyV_is {pins:List (Addr × Obj)} {σ:St} {H:Hp} {s:Shared} {T:String} {x:V} {v:Value} (I:Inv X pins σ H s) (r:RelV x v) (ty:tyV X.K T x H) :
  s.TypeIs v T∧∀ a,v=.ref a→∃ ob,s.heap.get? a=some ob∧ob.dict=none:=by
 cases x with
 | str z =>
  obtain ⟨t,rfl⟩:=r
  cases (show T="str" from ty)
  exact ⟨typeIs_str s z t,fun _ e=>nomatch e⟩
 | int i =>
  obtain ⟨t,rfl⟩:=r
  cases (show T="int" from ty)
  exact ⟨typeIs_int s i t,fun _ e=>nomatch e⟩
 | ref p =>
  cases r
  rcases ty with ⟨rfl,xs,hq⟩ | ⟨rfl,o,hk,hc,hd⟩ | ⟨rfl,hk⟩ | ⟨rfl,S,n,hk⟩
  ·obtain ⟨its,_,pl,_⟩:=I.list hq
   refine ⟨pl.isList.typeIs,fun a e=>?_⟩
   cases e
   obtain ⟨o,n,e,c,hd,_⟩:=pl
   exact ⟨o,e,hd⟩
  ·refine ⟨⟨o,I.kIn p o hk,hc⟩,fun a e=>?_⟩
   cases e
   exact ⟨o,I.kIn _ o hk,hd⟩
  ·have z:∃ o,s.heap.get? p=some o∧o.ExactDict:=by
    rcases hk with ⟨kvs,hk⟩ | ⟨kvs,hk⟩
    ·obtain ⟨_,_,_,_,o,_,_,e,ex,_⟩:=I.hok p _ hk
     exact ⟨o,e,ex⟩
    ·obtain ⟨_,_,_,_,o,_,_,e,ex,_⟩:=I.hok p _ hk
     exact ⟨o,e,ex⟩
   obtain ⟨o,e,ex⟩:=z
   refine ⟨⟨o,e,ex.1⟩,fun a e2=>?_⟩
   cases e2
   exact ⟨o,e,ex.2.1⟩
  ·obtain ⟨o,_,_,_,e,ex,_⟩:=I.hok p _ hk
   refine ⟨⟨o,e,ex.1⟩,fun a e2=>?_⟩
   cases e2
   exact ⟨o,e,ex.2.1⟩
 | _=>exact False.elim ty
def tBM0 (K:PySem.W.Frag) (T:String) (r:V→List V→Hp→VK→Prop) (to:TE):TE:=fun σ H Q=>to σ H fun x H1=>tyV K T x H1∧r x [] H1 Q
def tBM (K:PySem.W.Frag) (T:String) (r:V→List V→Hp→VK→Prop) (to:TE) (t:TA):TE:=fun σ H Q=>to σ H fun x H1=>tyV K T x H1∧t σ H1 fun xs H2=>r x xs H2 Q
variable {o e:Expr} {es:List Expr} {to:TE} {t:TA} {name:Str} {apos cpos:Pos} {T id:String} {r:V→List V→Hp→VK→Prop}
theorem pe_bm0 (pa:PlainAttrs T) (slot:Slot T name id) (hty:typeOf (.builtin id)=pure (.type "method_descriptor")) (hm:MtR X id r) (ho:PE X o to)
  (hbase:attributeBase o name X.env (eval o X.env)=eval o X.env:=by rfl) (hline:(apos.endLine == cpos.line)=true:=by rfl):PE X (.Call (.Attribute o name apos) [] [] cpos) (tBM0 X.K T r to):=by
 intro pins s σ H Q I h
 refine wpAny_Call_method0_late hbase hline (thn (ho pins s σ H _ I h) fun v s1 ⟨x,H1,I1,r1,ty,q1⟩=>?_)
 obtain ⟨h1,h2⟩:=tyV_is I1 r1 ty
 exact ⟨T,id,pa,slot,hty,h1,h2,Calls.callWith_builtin rfl (PySem.evalArgs_none (hm pins s1 σ H1 x [] v [] Q I1 r1 .nil q1))⟩
theorem pe_bm (pa:PlainAttrs T) (slot:Slot T name id) (hty:typeOf (.builtin id)=pure (.type "method_descriptor")) (hm:MtR X id r) (ho:PE X o to) (ha:PA X (e :: es) t)
  (hbase:attributeBase o name X.env (eval o X.env)=eval o X.env:=by rfl)
  (hfew:((backTo cpos (starEach (e :: es) X.env)).all (fun x=>!x.1) && (backToKw cpos (keywordEach [] X.env)).all (fun x=>x.1.isSome)
   && decide ((e :: es).length + ([]:List Keyword).length + (if ([]:List Keyword).isEmpty then 0 else 1) < 30))=true:=by rfl)
  (hline:(apos.endLine == cpos.line)=true:=by rfl) (hs:starEach (e :: es) X.env=(false,eval e X.env) :: starEach es X.env:=by rfl) (hplain:(backTo cpos (starEach es X.env)).any (·.1)=false:=by rfl) :
  PE X (.Call (.Attribute o name apos) (e :: es) [] cpos) (tBM X.K T r to t):=by
 intro pins s σ H Q I h
 refine wpAny_Call_method_late hbase hfew hline rfl (thn (ho pins s σ H _ I h) fun v s1 ⟨x,H1,I1,r1,ty,q1⟩=>?_)
 obtain ⟨h1,h2⟩:=tyV_is I1 r1 ty
 refine ⟨T,id,pa,slot,hty,h1,h2,?_⟩
 have hA:=ha cpos pins s1 σ H1 _ I1 q1
 rw [hs] at hA ⊢
 refine Calls.callWith_builtin (by show (false || (backTo cpos (starEach es X.env)).any (·.1))=false; rw [hplain] <;> rfl) (Calls.evalArgs_plain ?_)
 exact thn hA fun us s2 ⟨vs,H2,I2,r2,q2⟩=>hm pins s2 σ H2 x vs v us Q I2 r1 r2 q2
end
end L2
namespace L2
open PySem PySem.Spec PyProof.Rows
def MtM (X:Cx) (id:String) (r:V→List V→Hp→VK→Prop):Prop :=
 ∀ (pins:List (Addr × Obj)) (s:Shared) (σ:St) (H:Hp) (x:V) (xs:List V) (v:Value) (us:List Value) (Q:VK),Inv X pins σ H s→RelV x v→Vals xs us→r x xs H Q →
  wpAny (model X.prog X.w) X.A (call (.builtin id) (v :: us)) (EP X pins σ Q) X.xe s
theorem Vals.one:∀ {x:V} {us:List Value},Vals [x] us→∃ u,us=[u]∧RelV x u
 | _,_,.cons r .nil=>⟨_,rfl,r⟩
theorem Vals.two:∀ {x y:V} {us:List Value},Vals [x,y] us→∃ u v,us=[u,v]∧RelV x u∧RelV y v
 | _,_,_,.cons r (.cons q .nil)=>⟨_,_,rfl,r,q⟩
theorem Vals.eraseIdx:∀ {xs:List V} {us:List Value} (i:Nat),Vals xs us→Vals (xs.eraseIdx i) (us.eraseIdx i)
 | _,_,_,.nil=>.nil
 | _,_,0,.cons _ t=>t
 | _,_,i + 1,.cons r t=>.cons r (Vals.eraseIdx i t)
theorem Vals.reverse {xs:List V} {us:List Value} (h:Vals xs us):Vals xs.reverse us.reverse:=by
 induction h with
 | nil=>exact .nil
 | cons r t ih=>rw [List.reverse_cons,List.reverse_cons]; exact Vals.append ih (.cons r .nil)
section
variable {X:Cx} {pins:List (Addr × Obj)} {σ:St} {H:Hp} {s:Shared} {l b:Addr} {xs ys zs:List V}
theorem Inv.lset {its its':List Value} {n:Nat} {f:Array Value→Array Value} {t':Nat} (I:Inv X pins σ H s) (hH:H l=some (.lst xs))
  (e:s.heap.get? l=some { cls:=.type "list",data:=.seq its.toArray n }) (hf:f its.toArray=its'.toArray) (hv:Vals ys its') (hz:ys.length≤sizeLine) :
  Inv X pins σ (upd H l (.lst ys)) { s with heap:=s.heap.update l (Obj.mapSeq f),toks:=t' }:=by
 have q:=PySem.IsL.update e f
 rw [hf] at q
 refine I.write (x:=l) (e:=l) (by rw [hH]; exact trivial) (.inl rfl) (fun b' u hb hu=>(Heap.get?_update_other s.heap (Obj.mapSeq f) (Ne.symm hb)).trans hu) ⟨_,q⟩ ?_
 exact ⟨hz,its',_,hv,q⟩
theorem Inv.lnew {its:List Value} {t':Nat} (I:Inv X pins σ H s) (hv:Vals ys its) (hz:ys.length≤sizeLine) :
  Inv X pins σ (upd H s.heap.objs.size (.lst ys)) { s with heap:=s.heap.push { cls:=.type "list",data:=.seq its.toArray },toks:=t' } :=
 I.laid (fun _ _ q=>Heap.get?_push_of_some _ q) (Nat.le_refl _) ⟨hz,its,0,hv,Heap.get?_push_size _ rfl⟩
theorem Inv.fresh (I:Inv X pins σ H s):H s.heap.objs.size=none:=I.hok.fresh (Nat.le_refl _)
theorem Inv.lstM (I:Inv X pins σ H s) (hH:H l=some (.lst xs)):xs.length≤sizeLine∧∃ (its:List Value) (n:Nat),Vals xs its∧xs.length=its.length∧s.heap.get? l=some { cls:=.type "list",data:=.seq its.toArray n }:=by
 obtain ⟨z,its,n,r,e⟩:=I.hok l _ hH
 exact ⟨z,its,n,r,r.length,e⟩
end
section
variable {X:Cx}
def rAppend:V→List V→Hp→VK→Prop:=fun x vs H Q=>∃ l xs y,x=.ref l∧vs=[y]∧H l=some (.lst xs)∧xs.length < sizeLine∧Q .non (upd H l (.lst (xs ++ [y])))
theorem mt_append:MtM X "list.append" rAppend:=by
 intro pins s σ H x vs v us Q I rx rv h
 obtain ⟨l,xs,y,rfl,rfl,hH,hz,q⟩:=h
 cases rx
 obtain ⟨u,rfl,ru⟩:=rv.one
 obtain ⟨z,its,n,r,hl,e⟩:=I.lstM hH
 refine call_meets F.slot_list_append ⟨_,e,rfl⟩ F.entry_list_append (F.args_list_append_2 _ _) (PySem.list_append l its.toArray n u (by rw [List.size_toArray]; omega)) ⟨e,?_⟩
 refine ⟨.non,_,I.lset (its':=its ++ [u]) hH e (by simp) (r.append (.cons ru .nil)) ?_,rfl,q⟩
 rw [List.length_append,List.length_singleton]
 omega
def rCat:R2:=fun x y H Q=>∃ l b xs zs,x=.ref l∧y=.ref b∧H l=some (.lst xs)∧H b=some (.lst zs)∧xs.length + zs.length≤sizeLine∧∀ p,H p=none→Q (.ref p) (upd H p (.lst (xs ++ zs)))
theorem op_cat:OpR X (binaryOp .Add) rCat:=by
 intro pins s σ H x y v u Q I rx ry h
 obtain ⟨l,b,xs,zs,rfl,rfl,hH,hB,hz,q⟩:=h
 cases rx
 cases ry
 obtain ⟨z,its,n,r,hl,e⟩:=I.lstM hH
 obtain ⟨z2,its2,n2,r2,hl2,e2⟩:=I.lstM hB
 refine PySem.P.add_list e e2 ?_ (by rw [List.size_toArray,List.size_toArray]; omega)
 have ea:its.toArray ++ its2.toArray=(its ++ its2).toArray:=by simp
 rw [ea]
 exact ⟨.ref _,_,I.lnew (t':=s.toks) (r.append r2) (by rw [List.length_append]; omega),rfl,q _ I.fresh⟩
end
section
variable {prog:Program} {w:World} {A:Around} {E:Value→Shared→Prop} {s:Shared}
end
section
variable {X:Cx}
end
end L2
namespace Att
open PySem PySem.W PySem.Calls PyProof.Rows
theorem ints_of_wellAll {P:Params} {h:Heap}:∀ (ns:List Int) (vs:List Value),WellAll P h vs (ns.map WData.int)→IntsAre vs ns:=by
 intro ns
 induction ns with
 | nil =>
  intro vs w
  rw [List.map_nil] at w
  cases w
  exact .nil
 | cons n ns ih =>
  intro vs w
  rw [List.map_cons] at w
  cases w with
  | cons a b =>
   cases a
   exact .cons _ _ (ih _ b)
theorem script_of {l:OpenLaw} {n:Nat} (hn:l.most=some n) {P:Params} {h:Heap} {args:List WData} {vals:List Value}
  (hpre:l.row.toRowW.claim.pre args=true) (hwl:WellAll P h vals args) :
  ∃ a vs ns,vals=[Value.ref a]∧args=[WData.list (ns.map WData.int)]∧h.get? a=some { cls:=.type "list",data:=.seq vs.toArray }∧IntsAre vs ns∧ns.length≤n:=by
 have hsh:WShape.hasAll [] args [.list .int]=true:=(pre_splitW hpre).1
 have hc:l.pre.holds [] { args:=args }=true:=(pre_splitW hpre).2
 obtain ⟨d,r,rfl,h1,h2⟩:=hasAllW_cons hsh
 obtain rfl:=hasAllW_nil h2
 obtain ⟨xs,rfl,h3⟩:=hasW_list h1
 obtain ⟨ns,rfl⟩:=items_int h3
 have hlen:ns.length≤n:=by
  unfold OpenLaw.pre at hc
  have h4:(WTm.not (.lt (.lit (.int (n:Int))) (.len (.arg 0)))).holds [] { args:=[.list (ns.map .int)] }=true:=by
   have h4:=(holds_andW hc).1
   rw [hn] at h4
   exact h4
  have h5:=condW_of h4 (w_not (w_lt w_lit (w_len_list (w_arg rfl))))
  rw [List.length_map] at h5
  refine Nat.le_of_not_lt fun q=>?_
  have q':(n:Int) < ((ns.length:Nat):Int):=by omega
  first
   | (rw [decide_eq_true q'] at h5; exact absurd h5 (by decide))
   | (simp at h5; omega)
 cases hwl with
 | cons w1 w2 =>
  cases w2
  cases w1 with
  | list ho hall=>exact ⟨_,_,ns,rfl,rfl,ho,ints_of_wellAll ns _ hall,hlen⟩
theorem post_true (l:OpenLaw) (args:List WData):l.row.toRowW.claim.post args (.bool true) args=true :=
 postW_of (r:=l.row.toRowW) (X:=(true == true))
  (show WShape.has [] (.bool true) .bool=true by first | rfl | decide | simp [WShape.has,WShape.arms,WShape.armsAll])
  (show (WTm.eq .res (.lit (.bool true))).value [] { args:=args,res:=some (.bool true),after:=args }=some (.bool (true == true)) from w_eq_bool (w_res rfl) w_lit) rfl
theorem attach_call {l:OpenLaw} {n:Nat} {q:Program} {loose:List Str} {XP:(Str→Option Value)→Heap→Prop} {YP:World→Heap→Prop} {d:DefRec}
  (hn:l.most=some n) (hdf:d.params.defaults=[])
  (call:∀ (w:World) (s₀ s₁:Shared) (mg mb:Str→Option Value) (fa:Addr) (o:Obj) (pm cd doc:Value) (a:Addr) (vs:List Value) (ns:List Int),
   Ground q loose [] XP w s₀ mg mb s₁.heap→YP w s₁.heap →
   s₁.heap.get? fa=some o→o.data=.func (docDef d.name d.params d.body d.scope pm cd doc)→s₁.heap.CodeRec cd d.name→mg d.name=some (.ref fa) →
   s₁.heap.get? a=some { cls:=.type "list",data:=.seq vs.toArray }→IntsAre vs ns→ns.length≤n→s₁.gens=#[] →
   codeAny (model l.prog w) callerA (.call (.ref fa) ⟨[.ref a],[]⟩) (fun r s'=>r=.ok (.ret (.bool true))∧OldK s₁.heap s'.heap∧s'.os=s₁.os∧AllBare s'.gens) s₁) :
  WalkO q loose XP YP l.row.toRowW d [] (fun f vs=>PySem.call f vs):=by
 intro w s₀ s₁ mg mb G Y fa o pm cd doc dV kV ho hd hcd hD hmg hg args vals as hpre hlay hrd hwl hlo
 obtain rfl:dV=.none:=Dflts.none hD hdf
 obtain rfl:kV=.none:=Dflts.noKw hD
 obtain ⟨a,vs,ns,rfl,rfl,hobj,hints,hlen⟩:=script_of hn hpre hwl
 refine enter_call (codeAny_mono (call w s₀ s₁ mg mb fa o pm cd doc a vs ns G Y ho (fd_plain hd) hcd hmg hobj hints hlen hg) fun r s' hq=>?_)
 obtain ⟨rfl,h2,h3,h4⟩:=hq
 exact ⟨.inl ⟨.bool true,.bool true,[],rfl,fun _=>rfl,.bool true,post_true l _,fun _=>⟨List.Pairwise.nil,fun _ hm=>(nomatch hm)⟩⟩,h2,h3,h4⟩
section
variable {prog:Program} {w:World} {A:Around} {E:Value→Shared→Prop} {s:Shared} {K:Frag}
end
end Att
namespace L2
open PySem PySem.Spec PyProof.Rows
theorem vals_ints:∀ {vs:List Value} {ns:List Int},IntsAre vs ns→Vals (ns.map V.int) vs
 | _,_,.nil=>.nil
 | _,_,.cons n t h=>.cons ⟨t,rfl⟩ (vals_ints h)
def Only (H:Hp):Prop:=∀ b,H b=none∨∃ o xs,H b=some (.frz o (.lst xs))
theorem law_call {P:Program} {w:World} {K:PySem.W.Frag} {mg mb:Str→Option Value} {CX:CXT} {k:Nat} {fa a:Addr} {fd:FuncData} {x:Str} {sp:Sp} {s₁:Shared} {vs:List Value} {ns:List Int}
  (KX:K.In s₁.heap) (hns:s₁.heap.Ns mainGlobals mg) (hb:s₁.heap.Ns builtinsNs mb) (hbb:∀ x:Str,x≠"__name__"→mb x=bootBuiltins x) (hlim:s₁.heap.NoLimit) (hg:s₁.gens=#[])
  (ha:s₁.heap.get? a=some { cls:=.type "list",data:=.seq vs.toArray }) (hi:IntsAre vs ns) (hl:ns.length≤sizeLine) (hr:Room k callerA)
  (F:∀ base:Heap,K.In base→base.Ns mainGlobals mg→FnOk P w K mg base CX k fa fd [x] sp) (hbind:∀ (s:Shared) (u:Value),BindsTo s fd ⟨[u],[]⟩ [(x,u)])
  (hsp:∀ H:Hp,Only H→SqL K H a (ns.map V.int)→sp [.ref a] H (fun v _=>v=.bl true) fun _ _ _=>False)
  (hCX:∀ H e s',CX [] H s₁ (fun _ _ _=>False) e s'→False) :
  codeAny (model P w) callerA (.call (.ref fa) ⟨[.ref a],[]⟩) (fun r s'=>r=.ok (.ret (.bool true))∧OldK s₁.heap s'.heap∧s'.os=s₁.os∧AllBare s'.gens) s₁:=by
 have rv:=vals_ints hi
 have lenV:=hi.length
 -- from an abstract heap in which nothing but the script may be tracked
 have core:∀ H:Hp,Only H→SqL K H a (ns.map V.int)→HOk P w H s₁.heap→(∀ b,H b≠none→b=a)→(H a≠none→K.lookup a=none) →
   codeAny (model P w) callerA (.call (.ref fa) ⟨[.ref a],[]⟩) (fun r s'=>r=.ok (.ret (.bool true))∧OldK s₁.heap s'.heap∧s'.os=s₁.os∧AllBare s'.gens) s₁:=by
  intro H hO hS hok hA hK
  have base_of:∀ {b:Addr} {o:Obj},s₁.heap.get? b=some o→H b=none→(hidT s₁.heap H).get? b=some o:=fun e n=>hidT_get e n
  have noA:∀ {b:Addr} {o:Obj} {es:Array DictEntry} {ep:Nat},s₁.heap.get? b=some o→o.data=.dict es ep→H b=none:=fun {b o es ep} e d=>by
   cases q:H b with
   | none=>rfl
   | some u =>
    have e':b=a:=hA b (by rw [q]; simp)
    subst e'
    rw [ha] at e; cases e
    have d':Data.seq vs.toArray _=Data.dict es ep:=d
    cases d'
  have nsK:∀ {b:Addr} {m:Str→Option Value},s₁.heap.Ns b m→(hidT s₁.heap H).Ns b m:=fun {b m} ⟨o,es,ep,e,d,r⟩=>⟨o,es,ep,base_of e (noA e d),d,r⟩
  have hKb:K.In (hidT s₁.heap H):=fun b o e=>base_of (KX b o e) (by
   cases q:H b with
   | none=>rfl
   | some u =>
    have e':b=a:=hA b (by rw [q]; simp)
    subst e'
    rw [hK (by rw [q]; simp)] at e; cases e)
  have hM:Mod K mg (hidT s₁.heap H):=⟨hKb,nsK hns,⟨mb,nsK hb,hbb⟩,let ⟨mc,h1,h2⟩:=hlim; ⟨mc,nsK h1,h2⟩⟩
  have e0:Env0 P w K mg (hidT s₁.heap H) callerA [] s₁ H:=⟨rfl,hM,fun b o e=>of_hidT e,Nat.le_of_eq (hidT_size _ _),trivial,fun b hb=>absurd (show b∈([]:List Addr) from hb) (by simp),hok,.of_eq hg⟩
  refine codeAny_mono ((F _ hKb (nsK hns)).run callerA [] s₁ H ⟨[.ref a],[]⟩ [.ref a] [.ref a] _ _ hr e0 (hbind s₁ (.ref a)) (.cons rfl .nil) (hsp H hO hS)) fun r s' h=>?_
  cases r with
  | error e=>exact (hCX H e s' h).elim
  | ok fl =>
   cases fl with
   | next=>exact False.elim h
   | brk=>exact False.elim h
   | cont=>exact False.elim h
   | ret u =>
    obtain ⟨v,H',os,bare,un,hok',r',q⟩:=h
    have q':v=.bl true:=q
    subst q'
    obtain rfl:u=Value.bool true:=r'
    refine ⟨rfl,OldK.of_keep fun b o e=>?_,os,bare⟩
    cases q:H b with
    | none=>exact un.keep b o e q (by intro z; exact absurd (show b∈([]:List Addr) from z) (by simp)) (by simp)
    | some u =>
     rcases hO b with z | ⟨ob,xs,z⟩
     ·rw [q] at z; cases z
     ·have z2:=un.frzs b ob _ z
      obtain ⟨e1,_⟩:=hok b _ z
      obtain ⟨e2,_⟩:=hok' b _ z2
      rw [e] at e1; cases e1
      exact e2
 cases hk:K.lookup a with
 | some o =>
  -- the script is one of the module's own objects
  have e:=KX a o hk
  rw [ha] at e
  cases e
  refine core (fun _=>none) (fun _=>.inl rfl) (.inr ⟨_,vs.toArray,_,hk,rfl,rfl,rfl,by rw [List.size_toArray,lenV]; exact hl,by simpa using rv⟩) (fun b u z=>by have z':(none:Option HO)=some u:=z; cases z') (fun b z=>absurd rfl z) fun z=>absurd rfl z
 | none =>
  refine core (fun b=>if b=a then some (.frz { cls:=.type "list",data:=.seq vs.toArray } (.lst (ns.map V.int))) else none) (fun b=>?_) (.inl (.inr ⟨{ cls:=.type "list",data:=.seq vs.toArray },if_pos rfl⟩)) (fun b u z=>?_) (fun b z=>?_) fun _=>hk
  ·by_cases hb:b=a
   ·exact .inr ⟨_,_,if_pos hb⟩
   ·exact .inl (if_neg hb)
  ·by_cases hb:b=a
   ·have z':=(if_pos hb).symm.trans z
    cases z'
    subst hb
    exact ⟨ha,by rw [List.length_map]; exact hl,vs,_,rv,ha⟩
   ·have z':=(if_neg hb).symm.trans z
    cases z'
  ·by_cases hb:b=a
   ·exact hb
   ·exact absurd (if_neg hb) z
end L2
namespace L2
open PySem PySem.Spec PyProof.Rows
abbrev KOf {K:PySem.W.Frag} {h:Heap} (_:K.In h):PySem.W.Frag:=K
theorem walk_of {l:PySem.W.OpenLaw} {n k:Nat} {q:Program} {loose:List Str} {XP:(Str→Option Value)→Heap→Prop} {YP:World→Heap→Prop} {d:DefRec} {K:Params→PySem.W.Frag} {CX:World→CXT} {sp:World→Sp} {x:Str}
  (hn:l.most=some n) (hn2:n≤sizeLine) (hdf:d.params.defaults=[]) (hr:Room k callerA)
  (hY:∀ (w:World) (h:Heap),YP w h→(K w.params).In h)
  (F:∀ (w:World) (mg:Str→Option Value) (fa:Addr) (h:Heap),(K w.params).In h→h.Ns mainGlobals mg→mg d.name=some (.ref fa) →
   ∃ fd:FuncData,(∀ (s:Shared) (u:Value),BindsTo s fd ⟨[u],[]⟩ [(x,u)]) ∧
    ∀ base:Heap,(K w.params).In base→base.Ns mainGlobals mg→FnOk l.prog w (K w.params) mg base (CX w) k fa fd [x] (sp w))
  (hsp:∀ (w:World) (H:Hp) (a:Addr) (ns:List Int),ns.length≤n→Only H→SqL (K w.params) H a (ns.map V.int)→sp w [.ref a] H (fun v _=>v=.bl true) fun _ _ _=>False)
  (hCX:∀ (w:World) (H:Hp) (s:Shared) (e:Value) (s':Shared),CX w [] H s (fun _ _ _=>False) e s'→False) :
  PySem.W.WalkO q loose XP YP l.row.toRowW d [] (fun f vs=>PySem.call f vs):=by
 refine Att.attach_call hn hdf fun w s₀ s₁ mg mb fa o pm cd doc a vs ns G Y ho hd hcd hmg hobj hints hlen hg=>?_
 have KX:=hY w _ Y
 obtain ⟨fd,hb,hF⟩:=F w mg fa _ KX G.T.g hmg
 exact law_call KX G.T.g G.T.b G.T.builtins G.T.nolimit hg hobj hints (Nat.le_trans hlen hn2) hr hF hb (fun H hO hS=>hsp w H a ns hlen hO hS) fun H e s'=>hCX w H s₁ e s'
theorem walk_ofK {l:PySem.W.OpenLaw} {n k:Nat} {q:Program} {loose:List Str} {XP:(Str→Option Value)→Heap→Prop} {YP:World→Heap→Prop} {d:DefRec} {K:Params→PySem.W.Frag} {CX:CXT} {sp:PySem.W.Frag→Sp} {x:Str}
  (hn:l.most=some n) (hn2:n≤sizeLine) (hdf:d.params.defaults=[]) (hr:Room k callerA)
  (hY:∀ (w:World) (h:Heap),YP w h→(K w.params).In h)
  (F:∀ (w:World) (mg:Str→Option Value) (fa:Addr) (h:Heap),(K w.params).In h→h.Ns mainGlobals mg→mg d.name=some (.ref fa) →
   ∃ fd:FuncData,(∀ (s:Shared) (u:Value),BindsTo s fd ⟨[u],[]⟩ [(x,u)]) ∧
    ∀ base:Heap,(K w.params).In base→base.Ns mainGlobals mg→FnOk l.prog w (K w.params) mg base CX k fa fd [x] (sp (K w.params)))
  (hsp:∀ (K:PySem.W.Frag) (H:Hp) (a:Addr) (ns:List Int),ns.length≤n→Only H→SqL K H a (ns.map V.int)→sp K [.ref a] H (fun v _=>v=.bl true) fun _ _ _=>False)
  (hCX:∀ (H:Hp) (s:Shared) (e:Value) (s':Shared),CX [] H s (fun _ _ _=>False) e s'→False) :
  PySem.W.WalkO q loose XP YP l.row.toRowW d [] (fun f vs=>PySem.call f vs) :=
 walk_of (K:=K) (CX:=fun _=>CX) (sp:=fun w=>sp (K w.params)) hn hn2 hdf hr hY F (fun w H a ns h1 h2 h3=>hsp (K w.params) H a ns h1 h2 h3) fun _ H s e s'=>hCX H s e s'
end L2
namespace L2
open PySem PySem.Spec PyProof.Rows
def defArgs (s:Stmt):Arguments:=match s with
 | .FunctionDef _ a _ _ _ _ _ _ _ _=>a
 | _=>{ posonlyargs:=[],args:=[],vararg:=none,kwonlyargs:=[],kw_defaults:=[],kwarg:=none,defaults:=[] }
def defBody (s:Stmt):List Stmt:=match s with
 | .FunctionDef _ _ b _ _ _ _ _ _ _=>b
 | _=>[]
def defScope (s:Stmt):Scope:=match s with
 | .FunctionDef _ _ _ _ _ _ sc _ _ _=>sc
 | _=>{ kind:=.function,names:=[],isGenerator:=false,isCoroutine:=false }
abbrev CX0:CXT:=fun _ _ _ _ _ _=>False
abbrev E0:XK:=fun _ _ _=>False
theorem pass0 {X:Cx}:Passes CX0 X E0:=fun _ _ _ _ _ _ _ h=>h.elim
structure Fun (K:PySem.W.Frag) (x qual:Str) (st:Stmt) (f:Addr) (fd:FuncData):Prop where
 ex:∃ (oc:Value) (od:Option Addr) (kV doc pm:Value) (an:Option Addr) (cdv ct:Value) (osl:Array (Option Value)),
  fd=PySem.W.fnOf x qual (defArgs st) (defBody st) (defScope st) .none kV doc pm an cdv ct∧K.lookup f=some ⟨oc,od,.func fd,osl⟩∧PySem.W.codeIn K cdv qual=true
 kp:PySem.W.keepIn K (.ref f)=true
section
variable {P:Program} {w:World} {K:PySem.W.Frag} {mg:Str→Option Value} {base:Heap}
theorem Fun.ok {x qual:Str} {st:Stmt} {f:Addr} {fd:FuncData} {N ps:List Str} {k:Nat} {sp:Sp} (F:Fun K x qual st f fd) (S:FnScope N ps (defScope st)) (len:∀ vs H Q E,sp vs H Q E→vs.length=ps.length)
  (hbody:∀ (cdv:Value) (A:Around) (outer:List Env) (s:Shared) (H:Hp) (vs:List V) (Q:VK) (E:XK),Room k (A.deeper (envOfC qual (defScope st) s.heap.objs.size f cdv))→sp vs H Q E →
   ∃ t,PSs (cxOf CX0 P w K mg base N qual (defScope st) f cdv A outer s H E).nox (defBody st) t∧t { nx:=fun _ H'=>Q .non H',rt:=Q } (start N vs) H):FnOk P w K mg base CX0 (k + 1) f fd ps sp:=by
 obtain ⟨oc,od,kV,doc,pm,an,cdv,ct,osl,rfl,lk,hcd⟩:=F.ex
 refine fn_of lk hcd S len fun A outer s H vs Q E hr hsp=>?_
 obtain ⟨t,h,q⟩:=hbody cdv A outer s H vs Q E hr hsp
 exact ⟨t,h.nox,q⟩
theorem Fun.binds {x qual:Str} {st:Stmt} {f:Addr} {fd:FuncData} {ps:List Str} (F:Fun K x qual st f fd)
  (h:∀ (kV doc pm:Value) (an:Option Addr) (cdv ct:Value) (us:List Value),us.length=ps.length→bindArgs (PySem.W.fnOf x qual (defArgs st) (defBody st) (defScope st) .none kV doc pm an cdv ct) ⟨us,[]⟩=pure (ps.zip us)):Binds K fd ps []:=by
 obtain ⟨oc,od,kV,doc,pm,an,cdv,ct,osl,rfl,lk,hcd⟩:=F.ex
 exact .all (h kV doc pm an cdv ct)
theorem fun_mk {x qual:Str} {st:Stmt} {f:Addr} {oc:Value} {od an:Option Addr} {osl:Array (Option Value)} {kV doc pm cdv ct:Value} (l:K.lookup f=some ⟨oc,od,.func (PySem.W.fnOf x qual (defArgs st) (defBody st) (defScope st) .none kV doc pm an cdv ct),osl⟩)
  (c:PySem.W.codeIn K cdv qual=true) (k:PySem.W.keepIn K (.ref f)=true):Fun K x qual st f (PySem.W.fnOf x qual (defArgs st) (defBody st) (defScope st) .none kV doc pm an cdv ct):=⟨⟨oc,od,kV,doc,pm,an,cdv,ct,osl,rfl,l,c⟩,k⟩
end
theorem small1000 {n:Nat} (h:n≤1000):n < sizeLine:=Nat.lt_of_le_of_lt h (by decide)
section
variable {X:Cx}
theorem pv (i:Nat) {x:Str} {pos:Pos} (hN:X.N[i]?=some x:=by rfl) (hv:Vis X.env.scope x:=by first | exact Or.inl rfl | exact Or.inr (Or.inl rfl) | exact Or.inr (Or.inr rfl)) (hd:(x == ("__debug__":Str))=false:=by decide)
  (hcd:(x == ("__classdict__":Str))=false:=by decide):PE X (.Name x pos) (tVar i):=pe_var hN hv hd hcd
end
theorem iteF {A B:Prop} (h:B):if false=true then A else B:=by
 rw [if_neg Bool.false_ne_true]
 exact h
theorem iteT {A B:Prop} (h:A):if true=true then A else B:=by
 rw [if_pos rfl]
 exact h
def Same (H H':Hp):Prop:=∀ b o,H b=some o→H' b=some o
theorem Same.refl (H:Hp):Same H H:=fun _ _ h=>h
theorem Same.trans {H H1 H2:Hp} (a:Same H H1) (b:Same H1 H2):Same H H2:=fun c o h=>b c o (a c o h)
theorem Same.free {H H':Hp} (e:Same H H') {l:Addr} (h:H' l=Option.none):H l=Option.none:=by
 cases q:H l with
 | none=>rfl
 | some o =>
  rw [e l o q] at h
  cases h
theorem Same.seq {K:PySem.W.Frag} {H H':Hp} {a:Addr} {xs:List V} (e:Same H H') (h:SqL K H a xs):SqL K H' a xs:=by
 rcases h with (h | ⟨o,h⟩) | h
 ·exact .inl (.inl (e _ _ h))
 ·exact .inl (.inr ⟨o,e _ _ h⟩)
 ·exact .inr h
end L2
namespace L2
open PySem PySem.Spec PyProof.Rows
def CInj (acc:List (Str × Addr)):Prop:=∀ x y c,acc.lookup x=some c→acc.lookup y=some c→x=y
theorem lookup_cons_some {α:Type} {x n:Str} {a c:α} {r:List (Str × α)} (h:List.lookup x ((n,a) :: r)=some c):(x=n∧a=c)∨(x≠n∧r.lookup x=some c):=by
 rw [List.lookup_cons] at h
 cases hb:x == n with
 | true=>rw [hb] at h; cases h; exact .inl ⟨beq_iff_eq.mp hb,rfl⟩
 | false=>rw [hb] at h; exact .inr ⟨(fun z=>by (rw [z,beq_self_eq_true] at hb; cases hb)),h⟩
theorem cf_ok:∀ (names:List (Str × NameKind)) (n:Nat) (acc:List (Str × Addr)),CInj acc→(∀ x c,acc.lookup x=some c→c < n) →
  CInj (cellsFrom n names acc)∧∀ x c,(cellsFrom n names acc).lookup x=some c→acc.lookup x=some c∨n≤c
 | [],_,_,hi,_=>⟨hi,fun _ _ h=>.inl h⟩
 | (y,k) :: r,n,acc,hi,hb=>by
  unfold cellsFrom
  by_cases hk:(k == NameKind.cell)=true
  ·rw [if_pos hk]
   have h1:CInj ((y,n) :: acc):=fun a b c e1 e2=>by
    rcases lookup_cons_some e1 with ⟨q1,q2⟩ | ⟨q1,q2⟩ <;> rcases lookup_cons_some e2 with ⟨p1,p2⟩ | ⟨p1,p2⟩
    ·rw [q1,p1]
    ·exact absurd (hb _ _ p2) (by rw [← q2]; exact Nat.lt_irrefl _)
    ·exact absurd (hb _ _ q2) (by rw [← p2]; exact Nat.lt_irrefl _)
    ·exact hi a b c q2 p2
   have h2:∀ x c,List.lookup x ((y,n) :: acc)=some c→c < n + 1:=fun x c e=>by
    rcases lookup_cons_some e with ⟨_,q2⟩ | ⟨_,q2⟩
    ·rw [← q2]; exact Nat.lt_succ_self _
    ·exact Nat.lt_succ_of_lt (hb _ _ q2)
   obtain ⟨i1,i2⟩:=cf_ok r (n + 1) ((y,n) :: acc) h1 h2
   refine ⟨i1,fun x c e=>?_⟩
   rcases i2 x c e with q | q
   ·rcases lookup_cons_some q with ⟨_,q2⟩ | ⟨_,q2⟩
    ·exact .inr (Nat.le_of_eq q2)
    ·exact .inl q2
   ·exact .inr (Nat.le_of_succ_le q)
  ·rw [if_neg hk]
   exact cf_ok r n acc hi hb
theorem cf_cell:∀ (names:List (Str × NameKind)) (h:Heap) (acc:List (Str × Addr)) (x:Str) (c:Addr),(cellsFrom h.objs.size names acc).lookup x=some c→acc.lookup x=some c∨(pushCells h names).IsCell c none
 | [],_,_,_,_,e=>.inl e
 | (y,k) :: r,h,acc,x,c,e=>by
  unfold cellsFrom at e
  unfold pushCells
  by_cases hk:(k == NameKind.cell)=true
  ·rw [if_pos hk] at e ⊢
   have e':(cellsFrom (h.push { cls:=.type "cell",data:=.cell none }).objs.size r ((y,h.objs.size) :: acc)).lookup x=some c:=by rw [Heap.size_push]; exact e
   rcases cf_cell r (h.push { cls:=.type "cell",data:=.cell none }) ((y,h.objs.size) :: acc) x c e' with q | q
   ·rcases lookup_cons_some q with ⟨_,q2⟩ | ⟨_,q2⟩
    ·refine .inr ?_
     subst q2
     exact ⟨_,pushCells_keeps _ _ _ _ (Heap.get?_push_size _ rfl),rfl⟩
    ·exact .inl q2
   ·exact .inr q
  ·rw [if_neg hk] at e ⊢
   exact cf_cell r h acc x c e
theorem cf_keep:∀ (names:List (Str × NameKind)) (n:Nat) (acc:List (Str × Addr)) (x:Str),(∀ y∈names,y.1=x→y.2≠.cell)→(cellsFrom n names acc).lookup x=acc.lookup x
 | [],_,_,_,_=>rfl
 | (y,k) :: r,n,acc,x,h=>by
  unfold cellsFrom
  by_cases hk:(k == NameKind.cell)=true
  ·rw [if_pos hk,cf_keep r (n + 1) _ x fun z hz=>h z (List.mem_cons_of_mem _ hz),List.lookup_cons]
   have hx:(x == y)=false:=by
    cases hb:x == y with
    | false=>rfl
    | true=>exact absurd (by simpa using hk) (h (y,k) List.mem_cons_self (beq_iff_eq.mp hb).symm)
   rw [hx]
  ·rw [if_neg hk]
   exact cf_keep r n acc x fun z hz=>h z (List.mem_cons_of_mem _ hz)
def clOf (env:Env):List (Str × NameKind)→List (Str × Addr)→List (Str × Addr)
 | [],acc=>acc
 | (n,k) :: r,acc=>clOf env r (if k == .free then (n,(env.cells.lookup n).getD 0) :: acc else acc)
theorem clos_go {env:Env}:∀ (names:List (Str × NameKind)) (acc:List (Str × Addr)),(∀ x∈names,x.2=.free→∃ c,env.cells.lookup x.1=some c) →
  (forIn names acc fun x cs=>(if (x.2 == NameKind.free)=true then (do let a ← cellOf env x.1; pure (ForInStep.yield ((x.1,a) :: cs))) else pure (ForInStep.yield cs):Sem (ForInStep (List (Str × Addr)))))=pure (clOf env names acc)
 | [],_,_=>rfl
 | (n,k) :: r,acc,h=>by
  rw [List.forIn_cons]
  have hr:=fun acc=>clos_go r acc fun x hx=>h x (List.mem_cons_of_mem _ hx)
  unfold clOf
  by_cases hk:(k == NameKind.free)=true
  ·obtain ⟨c,hc⟩:=h (n,k) List.mem_cons_self (by simpa using hk)
   have hc':env.cells.lookup n=some c:=hc
   have e:cellOf env n=pure c:=by unfold cellOf; rw [hc']
   simp only [hk,if_true,e,hc',Option.getD_some,pure_bind]
   exact hr _
  ·simp only [hk,if_false,pure_bind]
   exact hr _
theorem closureFor_clOf {env:Env} {scope:Scope} (h:∀ x∈scope.names,x.2=.free→∃ c,env.cells.lookup x.1=some c):closureFor scope env=pure (clOf env scope.names []):=by
 have:=clos_go (env:=env) scope.names [] h
 unfold closureFor
 simp only [bind_pure_comp]
 first | exact this | simpa using this
theorem clOf_lookup {env:Env} {x:Str}:∀ (names:List (Str × NameKind)) (acc:List (Str × Addr)) (c:Addr),(∀ y∈names,y.2=.free→∃ c,env.cells.lookup y.1=some c)→(clOf env names acc).lookup x=some c→acc.lookup x=some c∨env.cells.lookup x=some c
 | [],_,_,_,e=>.inl e
 | (n,k) :: r,acc,c,h,e=>by
  unfold clOf at e
  have hr:=fun acc=>clOf_lookup (x:=x) r acc c fun y hy=>h y (List.mem_cons_of_mem _ hy)
  by_cases hk:(k == NameKind.free)=true
  ·rw [if_pos hk] at e
   rcases hr _ e with q | q
   ·rcases lookup_cons_some q with ⟨q1,q2⟩ | ⟨_,q2⟩
    ·obtain ⟨c',hc'⟩:=h (n,k) List.mem_cons_self (by simpa using hk)
     have hc2:env.cells.lookup n=some c':=hc'
     rw [hc2] at q2
     right
     rw [q1,hc2]
     exact congrArg some q2
    ·exact .inl q2
   ·exact .inr q
  ·rw [if_neg hk] at e
   exact hr _ e
theorem clOf_has {env:Env} {x:Str}:∀ (names:List (Str × NameKind)) (acc:List (Str × Addr)),((x,NameKind.free)∈names∨∃ c,acc.lookup x=some c)→∃ c,(clOf env names acc).lookup x=some c
 | [],_,h=>h.elim (fun z=>nomatch z) id
 | (n,k) :: r,acc,h=>by
  unfold clOf
  refine clOf_has r _ ?_
  rcases h with h | ⟨c,h⟩
  ·rcases List.mem_cons.mp h with e | h
   ·cases e
    right
    rw [if_pos (by decide)]
    exact ⟨_,by rw [List.lookup_cons,beq_self_eq_true]⟩
   ·exact .inl h
  ·right
   split
   ·rw [List.lookup_cons]
    split
    ·exact ⟨_,rfl⟩
    ·exact ⟨c,h⟩
   ·exact ⟨c,h⟩
end L2
namespace L2
open PySem PySem.Spec PyProof.Rows
def blk (X:Cx) (N:List Str) (scope:Scope) (C:Addr) (s:Shared) (H:Hp) (fp:List Addr):Cx where
 prog:=X.prog
 w:=X.w
 K:=X.K
 mg:=X.mg
 base:=X.base
 A:=X.A
 N:=N
 s₀:=s
 H₀:=H
 env:={ scope:=relabel scope X.env,locals:=C,globals:=X.env.globals,cells:=cellsFrom (C + 1) scope.names (clOf X.env scope.names []),qual:=X.env.qual,func:=none,code:=X.env.code,frame:=X.env.frame,builtins:=X.env.builtins }
 outer:=X.stack
 stack:=X.stack
 ex:=fp
 fn:=fun x=>match scope.names.lookup x with | some .cell=>true | _=>false
 calm:=X.calm
 pn:=[]
 xe:=fun _ _=>False
theorem relabel_lookup {env:Env}:∀ {names:List (Str × NameKind)} {x:Str} {k:NameKind},(names.map fun (n,k)=>if (k == NameKind.free && env.scope.kind == .function && env.kindOf n == some .cell) then (n,NameKind.cell) else (n,k)).lookup x=some k →
  ∃ k0,names.lookup x=some k0∧(k=k0∨k0=.free)
 | [],_,_,h=>by simp at h
 | (n,q) :: r,x,k,h=>by
  rw [List.map_cons] at h
  have h':List.lookup x ((if (q == NameKind.free && env.scope.kind == .function && env.kindOf n == some .cell)=true then (n,NameKind.cell) else (n,q)) :: _)=some k:=h
  have fstn:∀ b:Bool,(if b=true then (n,NameKind.cell) else (n,q))=(n,if b=true then NameKind.cell else q):=fun b=>by cases b <;> rfl
  rw [fstn] at h'
  rw [List.lookup_cons]
  rcases lookup_cons_some h' with ⟨e1,e2⟩ | ⟨e1,e2⟩
  ·rw [e1,beq_self_eq_true]
   refine ⟨q,rfl,?_⟩
   rw [← e2]
   by_cases hb:(q == NameKind.free && env.scope.kind == .function && env.kindOf n == some .cell)=true
   ·right
    have:=(Bool.and_eq_true_iff.mp (Bool.and_eq_true_iff.mp hb).1).1
    simpa using this
   ·left; rw [if_neg hb]
  ·have hx:(x == n)=false:=by
    cases hb:x == n with
    | false=>rfl
    | true=>exact absurd (beq_iff_eq.mp hb) e1
   rw [hx]
   exact relabel_lookup e2
structure CScope (X:Cx) (scope:Scope) (tn:List Str) (js:List Nat):Prop where
 kind:scope.kind=.function
 loc:∀ x∈scope.names,x.2=.local→scope.names.lookup x.1=some .local
 fre:∀ x∈scope.names,x.2=.free→scope.names.lookup x.1=some .free∧(X.env.kindOf x.1=some .cell∨X.env.kindOf x.1=some .free)
 one:∀ x∈scope.names,∀ y∈scope.names,x.1=y.1→x.2=y.2
 js:∀ j∈js,∃ x,X.N[j]?=some x∧scope.names.lookup x=some .free
def cN (X:Cx) (tn:List Str) (js:List Nat):List Str:=tn ++ js.map fun j=>(X.N[j]?).getD ("":Str)
def cσ (σ:St) (tn:List Str) (js:List Nat):St:=tn.map (fun _=>none) ++ js.map fun j=>(σ[j]?).getD none
theorem mem_of_lookup_kind {names:List (Str × NameKind)} {x:Str} {k:NameKind} (h:names.lookup x=some k):(x,k)∈names:=PySem.mem_of_lookup h
section
variable {X:Cx} {pins:List (Addr × Obj)} {σ:St} {H:Hp} {s:Shared} {scope:Scope} {tn:List Str} {js:List Nat} {fp:List Addr}
theorem has_cell (ok:X.Ok) (S:CScope X scope tn js):∀ x∈scope.names,x.2=.free→∃ c,X.env.cells.lookup x.1=some c:=fun x hx hf=>ok.has x.1 (S.fre x hx hf).2
theorem blk_cells (ok:X.Ok) (S:CScope X scope tn js) {n:Nat} (hb:∀ x c,X.env.cells.lookup x=some c→c < n) :
  CInj (cellsFrom n scope.names (clOf X.env scope.names []))∧∀ x c,(cellsFrom n scope.names (clOf X.env scope.names [])).lookup x=some c→X.env.cells.lookup x=some c∨n≤c:=by
 have hc:∀ x c,(clOf X.env scope.names []).lookup x=some c→X.env.cells.lookup x=some c:=fun x c e=>by
  rcases clOf_lookup scope.names [] c (has_cell ok S) e with q | q
  ·cases q
  ·exact q
 obtain ⟨h1,h2⟩:=cf_ok scope.names n (clOf X.env scope.names []) (fun x y c e1 e2=>ok.inj x y c (hc x c e1) (hc y c e2)) (fun x c e=>hb x c (hc x c e))
 exact ⟨h1,fun x c e=>(h2 x c e).imp (hc x c) id⟩
theorem inv_block {h4:Heap} {m:Str→Option Value} {t':Nat} (I:Inv X pins σ H s) (S:CScope X scope tn js) (hf:∀ b∈fp,FpOk X pins H b∧b < s.heap.objs.size) (hns:h4.Ns s.heap.objs.size m)
  (hk:∀ b o,s.heap.get? b=some o→h4.get? b=some o) (hcell:∀ x c,(cellsFrom (s.heap.objs.size + 1) scope.names (clOf X.env scope.names [])).lookup x=some c→X.env.cells.lookup x=some c∨h4.IsCell c none) :
  Inv (blk X (cN X tn js) scope s.heap.objs.size s H fp) [] (cσ σ tn js) H { s with heap:=h4,toks:=t' }:=by
 have hlt:∀ x c,X.env.cells.lookup x=some c→c < s.heap.objs.size + 1:=fun x c e=>by
  obtain ⟨v,q⟩:=I.cell x c e
  exact Nat.lt_succ_of_lt q.lt
 obtain ⟨hinj,hcs⟩:=blk_cells I.ok S hlt
 have hC:H s.heap.objs.size=none:=I.hok.fresh (Nat.le_refl _)
 refine ⟨⟨I.ok.mod,S.kind,I.ok.glob,I.ok.blt,Nat.le_refl _,hinj,fun x hx=>?_,fun x c hx e=>?_,I.ok.hd,I.ok.frames,.inl rfl,fun b hb=>⟨Nat.ne_of_lt (hf b hb).2,fun x c e z=>?_⟩,I.bs,Nat.le_trans I.ok.bsz I.sz,fun b o e hb=>?_,fun b hb z=>?_,I.stack,I.stkFree⟩,
  rfl,I.bare,Un.kept hk,⟨m,hns,fun i x v h1 h2 h3=>?_⟩,fun x c e=>?_,hC,fun x c e=>?_,(fun p hp=>nomatch hp),I.hok.kept hk,?_⟩
 ·-- has
  have hx':(relabel scope X.env).names.lookup x=some .cell∨(relabel scope X.env).names.lookup x=some .free:=hx
  have own:scope.names.lookup x=some .cell→∃ c,(cellsFrom (s.heap.objs.size + 1) scope.names (clOf X.env scope.names [])).lookup x=some c:=fun q =>
   Option.isSome_iff_exists.mp (PySem.W.cellsFrom_some scope.names _ _ (.inl q))
  have fre:scope.names.lookup x=some .free→∃ c,(cellsFrom (s.heap.objs.size + 1) scope.names (clOf X.env scope.names [])).lookup x=some c:=fun q =>
   Option.isSome_iff_exists.mp (PySem.W.cellsFrom_some scope.names _ _ (.inr (Option.isSome_iff_exists.mpr (clOf_has scope.names [] (.inl (mem_of_lookup_kind q))))))
  rcases hx' with q | q
  ·obtain ⟨k0,q1,q2⟩:=relabel_lookup q
   rcases q2 with q2 | q2
   ·subst q2; exact own q1
   ·subst q2; exact fre q1
  ·obtain ⟨k0,q1,q2⟩:=relabel_lookup q
   rcases q2 with q2 | q2
   ·subst q2; exact fre q1
   ·subst q2; exact fre q1
 ·-- cab
  rcases hcs x c e with q | q
  ·exfalso
   have hx':(match scope.names.lookup x with | some .cell=>true | _=>false)=true:=hx
   split at hx'
   ·rename_i hl
    -- an own cell is new
    have hb:∀ y c',(clOf X.env scope.names []).lookup y=some c'→c' < s.heap.objs.size + 1:=fun y c' e'=>by
     rcases clOf_lookup scope.names [] c' (has_cell I.ok S) e' with z | z
     ·cases z
     ·exact hlt y c' z
    have nof:(clOf X.env scope.names []).lookup x=none:=by
     cases z:(clOf X.env scope.names []).lookup x with
     | none=>rfl
     | some c' =>
      exfalso
      have mem:∀ (names:List (Str × NameKind)) (acc:List (Str × Addr)),(∃ c',(clOf X.env names acc).lookup x=some c')→(x,NameKind.free)∈names∨∃ c',acc.lookup x=some c':=by
       intro names
       induction names with
       | nil=>exact fun acc z=>.inr z
       | cons p r ih =>
        obtain ⟨n,k⟩:=p
        intro acc z
        unfold clOf at z
        rcases ih _ z with z | ⟨c',z⟩
        ·exact .inl (List.mem_cons_of_mem _ z)
        ·split at z
         ·rename_i hk
          rcases lookup_cons_some z with ⟨e1,_⟩ | ⟨_,e2⟩
          ·left
           have:k=NameKind.free:=by simpa using hk
           rw [e1,this]; exact List.mem_cons_self
          ·exact .inr ⟨c',e2⟩
         ·exact .inr ⟨c',z⟩
      rcases mem scope.names [] ⟨c',z⟩ with z | ⟨_,z⟩
      ·have:=S.one _ z _ (mem_of_lookup_kind hl) rfl
       cases this
      ·cases z
    have hh:=cf_ok scope.names (s.heap.objs.size + 1) (clOf X.env scope.names []) (fun a b c' e1 e2=>by
     rcases clOf_lookup scope.names [] c' (has_cell I.ok S) e1 with z | z
     ·cases z
     ·rcases clOf_lookup scope.names [] c' (has_cell I.ok S) e2 with z' | z'
      ·cases z'
      ·exact I.ok.inj a b c' z z') hb
    rcases hh.2 x c e with z | z
    ·rw [nof] at z; cases z
    ·exact absurd (hlt x c q) (Nat.not_lt.mpr z)
   ·cases hx'
  ·exact Nat.le_of_succ_le q
 ·-- exf
  obtain ⟨⟨f0,f1,f2,f3,f4,f5⟩,hbl⟩:=hf b hb
  rcases hcs x c e with q | q
  ·exact f4 x c q z
  ·rw [z] at q; exact absurd hbl (Nat.not_lt.mpr (Nat.le_of_succ_le q))
 ·-- noex
  obtain ⟨⟨f0,f1,f2,f3,f4,f5⟩,hbl⟩:=hf b hb
  rcases f3 with q | q
  ·exact I.ok.noex b o e q
  ·exact absurd (Nat.lt_of_lt_of_le (Heap.lt_size e) (Nat.le_trans I.ok.bsz q)) (Nat.lt_irrefl _)
 ·-- exfs
  obtain ⟨⟨f0,f1,f2,f3,f4,f5⟩,hbl⟩:=hf b hb
  rcases List.mem_cons.mp (I.stkSub b z) with q | q
  ·exact f1 q
  ·exact f2 q
 ·-- the names
  have h2':(cσ σ tn js)[i]?=some (some v):=h2
  have h1':(cN X tn js)[i]?=some x:=h1
  unfold cσ at h2'
  unfold cN at h1'
  by_cases hi:i < tn.length
  ·rw [List.getElem?_append_left (by simpa using hi),List.getElem?_map] at h2'
   cases q:tn[i]? with
   | none=>rw [q] at h2'; cases h2'
   | some y=>rw [q] at h2'; cases h2'
  ·rw [List.getElem?_append_right (by simpa using hi),List.getElem?_map,List.length_map] at h2'
   rw [List.getElem?_append_right (by simpa using hi),List.getElem?_map] at h1'
   cases q:js[i - tn.length]? with
   | none=>rw [q] at h2'; cases h2'
   | some j =>
    rw [q] at h2' h1'
    obtain ⟨y,hy1,hy2⟩:=S.js j (List.mem_of_getElem? q)
    have exy:y=x:=by
     have:some ((X.N[j]?).getD ("":Str))=some x:=h1'
     rw [hy1] at this
     exact Option.some.inj this
    subst exy
    have hv:σ[j]?=some (some v):=by
     have:some ((σ[j]?).getD none)=some (some v):=h2'
     cases z:σ[j]? with
     | none=>rw [z] at this; cases this
     | some o=>rw [z] at this; exact congrArg some (Option.some.inj this)
    have kfr:=(S.fre _ (mem_of_lookup_kind hy2) rfl).2
    have vis:Vis X.env.scope y:=kfr.elim (fun z=>.inr (.inl z)) fun z=>.inr (.inr z)
    obtain ⟨m0,hn0,hl0⟩:=I.loc
    obtain ⟨u,ru,lk⟩:=hl0 j y v hy1 hv vis
    refine ⟨u,ru,.inr ⟨?_,?_⟩⟩
    ·have h3':(relabel scope X.env).names.lookup y=some .local∨(relabel scope X.env).names.lookup y=some .cell∨(relabel scope X.env).names.lookup y=some .free:=h3
     rcases h3' with z | z | z
     ·obtain ⟨k0,z1,z2⟩:=relabel_lookup z
      rw [hy2] at z1; cases z1
      rcases z2 with z2 | z2
      ·cases z2
      ·exfalso
       -- free is relabelled to cell or stays
       have:=z
       have nolocal:∀ {names:List (Str × NameKind)},(∀ p∈names,p.1=y→p.2=.free)→(names.map fun (n,k)=>if (k == NameKind.free && X.env.scope.kind == .function && X.env.kindOf n == some .cell) then (n,NameKind.cell) else (n,k)).lookup y≠some .local:=by
        intro names
        induction names with
        | nil=>intro _ w; simp at w
        | cons p r ih =>
         obtain ⟨n,k⟩:=p
         intro hp w
         rw [List.map_cons] at w
         have w':List.lookup y ((if (k == NameKind.free && X.env.scope.kind == .function && X.env.kindOf n == some .cell)=true then (n,NameKind.cell) else (n,k)) :: _)=some .local:=w
         have fstn:∀ b:Bool,(if b=true then (n,NameKind.cell) else (n,k))=(n,if b=true then NameKind.cell else k):=fun b=>by cases b <;> rfl
         rw [fstn] at w'
         rcases lookup_cons_some w' with ⟨e1,e2⟩ | ⟨e1,e2⟩
         ·have hk:k=.free:=hp (n,k) List.mem_cons_self e1.symm
          subst hk
          split at e2 <;> cases e2
         ·exact ih (fun p hp'=>hp p (List.mem_cons_of_mem _ hp')) e2
       exact nolocal (fun p hp e=>S.one p hp _ (mem_of_lookup_kind hy2) e) z
     ·exact .inl z
     ·exact .inr z
    ·have lk':∃ c,X.env.cells.lookup y=some c∧s.heap.IsCell c (some u):=by
      rcases lk with ⟨z,_⟩ | ⟨_,z⟩
      ·exfalso
       rcases kfr with q | q
       ·rw [q] at z; cases z
       ·rw [q] at z; cases z
      ·exact z
     obtain ⟨c,hc1,hc2⟩:=lk'
     refine ⟨c,?_,hc2.keeps hk⟩
     show (cellsFrom (s.heap.objs.size + 1) scope.names (clOf X.env scope.names [])).lookup y=some c
     rw [cf_keep scope.names _ _ y fun p hp e=>by (rw [S.one p hp _ (mem_of_lookup_kind hy2) e]; intro z; cases z)]
     obtain ⟨c',hc'⟩:=clOf_has (env:=X.env) scope.names [] (.inl (mem_of_lookup_kind hy2))
     rcases clOf_lookup scope.names [] c' (has_cell I.ok S) hc' with z | z
     ·cases z
     ·rw [hc1] at z; cases z; exact hc'
 ·-- cells are there
  rcases hcell x c e with q | q
  ·obtain ⟨v,z⟩:=I.cell x c q
   exact ⟨v,z.keeps hk⟩
  ·exact ⟨none,q⟩
 ·-- and free
  rcases hcs x c e with q | q
  ·exact I.freeC x c q
  ·exact I.hok.fresh (Nat.le_of_succ_le q)
 ·show (cσ σ tn js).length=(cN X tn js).length
  unfold cσ cN
  simp
end
end L2
namespace L2
open PySem PySem.Spec PyProof.Rows
section
variable {M:Model} {A:Around} {E:Value→Shared→Prop} {s:Shared}
theorem newEnv_comp {scope:Scope} {globals:Addr} {cl:List (Str × Addr)} {qual:Str} {env:Env} {Q:Env→Shared→Prop}
  (hQ:∀ h',h'.Ns s.heap.objs.size (fun _=>none)→(∀ b o,s.heap.get? b=some o→h'.get? b=some o)→(∀ x c,(cellsFrom (s.heap.objs.size + 1) scope.names cl).lookup x=some c→cl.lookup x=some c∨h'.IsCell c none) →
   Q { scope,locals:=s.heap.objs.size,globals,cells:=cellsFrom (s.heap.objs.size + 1) scope.names cl,qual,func:=none,code:=env.code,frame:=env.frame,builtins:=env.builtins } { s with heap:=h' }) :
  wpAny M A (newFunctionEnv scope globals cl [] qual none .none (some env)) Q E s:=by
 simp only [newFunctionEnv,Option.isSome_some,if_true]
 refine wpAny_bind (wpAny_alloc ?_)
 refine wpAny_bind (wpAny_layCells _ (fun name kind cells=>by cases hkc:kind == NameKind.cell <;> simp [hkc]) _ _ _ _ ?_)
 rw [show ({ s with heap:=s.heap.push { cls:=.type "dict",data:=.dict #[] } }:Shared).heap.objs.size=s.heap.objs.size + 1 from Heap.size_push ..]
 refine wpAny_bind ?_
 rw [List.forIn_nil]
 refine wpAny_pure (wpAny_pure ?_)
 refine hQ _ ((Heap.Ns.new s.heap (.type "dict")).keeps (pushCells_keeps _ _)) (fun b o e=>pushCells_keeps _ _ b o (Heap.get?_push_of_some _ e)) fun x c e=>?_
 refine cf_cell scope.names _ cl x c ?_
 rw [Heap.size_push]; exact e
end
section
variable {prog:Program} {w:World} {A:Around} {R:Result→Shared→Prop} {s:Shared}
theorem comp_loop {elt target iter:Expr} {ifs:List Expr} {scope:Scope} {pos:Pos} {it acc:Value} {env:Env} (I:Nat→Shared→Prop)
  (turn:∀ n s,I n s→wpAny (model prog w) A (pyNext it) (fun r s₁=>match r with
   | none=>R (.ok .next) s₁
   | some v=>wpAny (model prog w) A (letOwnedTupleGo target it v) (fun _ s₂'=>wpAny (model prog w) A (assign target env v) (fun _ s₂ =>
     wpAny (model prog w) A (forIn ifs true fun c r=>if r=true then do let ok ← isTrue c env (eval c env); pure (ForInStep.yield ok) else pure (ForInStep.yield r)) (fun ok s₃ =>
      if ok=true then wpAny (model prog w) A (eval elt env) (fun x s₄ =>
       wpAny (model prog w) A (call (.builtin "list.append") [acc,x]) (fun _ s₅=>∃ m,m < n∧I m s₅) (fun _ _=>False) s₄) (fun _ _=>False) s₃
      else ∃ m,m < n∧I m s₃) (fun _ _=>False) s₂) (fun _ _=>False) s₂') (fun _ _=>False) s₁) (fun _ _=>False) s)
  (n:Nat) (h:I n s) :
  codeAny (model prog w) A (.compLoop (.ListComp elt [⟨target,iter,ifs,0⟩] scope pos) 0 it acc env) R s:=by
 refine codeAny_loop rfl I (fun n s hI=>?_) n h
 show wpAny _ A ((compTurn (.ListComp elt [⟨target,iter,ifs,0⟩] scope pos) 0 it acc env).onRaise (fun x=>do noteFrame x env; theTreesLotGoes x)) _ _ s
 refine wpAny_noted ?_
 rw [compTurn_list]
 refine wpAny_bind (wpAny_standAt (wpAny_bind (wpAny_mono (turn n s hI) (fun r s₁ h₁=>?_) fun _ _ z=>z.elim)))
 cases r with
 | none=>exact wpAny_pure h₁
 | some v =>
  refine wpAny_bind (wpAny_mono h₁ (fun _ s₂' h₂'=>?_) fun _ _ z=>z.elim)
  refine wpAny_bind (wpAny_mono h₂' (fun _ s₂ h₂=>wpAny_bind (wpAny_mono h₂ (fun ok s₃ h₃=>?_) fun _ _ z=>z.elim)) fun _ _ z=>z.elim)
  cases ok with
  | false=>exact wpAny_pure ⟨rfl,h₃⟩
  | true =>
   exact wpAny_bind (wpAny_bind (wpAny_mono h₃ (fun x s₄ h₄=>wpAny_bind (wpAny_mono h₄ (fun _ s₅ h₅=>wpAny_pure (wpAny_pure ⟨rfl,h₅⟩)) fun _ _ z=>z.elim)) fun _ _ z=>z.elim))
end
def PF (X:Cx) (ifs:List Expr) (t:TT):Prop :=
 ∀ (pins:List (Addr × Obj)) (s:Shared) (σ:St) (H:Hp) (Q:Bool→Hp→Prop),Inv X pins σ H s→t σ H Q →
  wpAny (model X.prog X.w) X.A (forIn ifs true fun c r=>if r=true then do let ok ← isTrue c X.env (eval c X.env); pure (ForInStep.yield ok) else pure (ForInStep.yield r)) (TP X pins σ Q) X.xe s
theorem pf_nil {X:Cx}:PF X [] (fun _ H Q=>Q true H):=fun pins s σ H Q I q=>wpAny_tests_nil ⟨H,I,q⟩
theorem pf_one {X:Cx} {c:Expr} {t:TT} (h:PT X c t):PF X [c] t:=fun pins s σ H Q I q=>wpAny_tests_one (h pins s σ H Q I q)
def KeepC (σ:St) (tn:List Str) (js:List Nat) (σ':St):Prop:=(∀ (j:Nat) (v:V),tn.length≤j→(cσ σ tn js)[j]?=some (some v)→σ'[j]?=some (some v))∧σ'.length=(cσ σ tn js).length
def tLC (wi:TI) (tn:List Str) (js:List Nat) (g:TG) (tt:TT) (te:TE):TE:=fun σ H Q=>wi σ H fun J H1=>∀ D,H1 D=none→∃ W:Nat→Nat→Hp→List V→Prop,(∃ m,W 0 m (upd H1 D (.lst [])) []) ∧
 ∀ i m H xs,W i m H xs→H D=some (.lst xs)∧((J.stop i H∧Q (.ref D) H)∨(J.go i H∧∀ x H',J.yld i H x H'→g x (cσ σ tn js) H' fun σ2 H2=>KeepC σ tn js σ2∧tt σ2 H2 fun ok H3 =>
  if ok=true then te σ2 H3 fun y H4=>H4 D=some (.lst xs)∧xs.length < sizeLine∧∃ m',m' < m∧W (i + 1) m' (upd H4 D (.lst (xs ++ [y]))) (xs ++ [y])
  else ∃ m',m' < m∧W (i + 1) m' H3 xs))
section
variable {X:Cx} {pins:List (Addr × Obj)} {σ:St} {H:Hp} {s:Shared} {scope:Scope} {tn:List Str} {js:List Nat} {elt target iter:Expr} {ifs:List Expr} {pos:Pos} {wi:TI} {g:TG} {tt:TT} {te:TE}
theorem comp_core {Q:VK} {RR:Value→Addr→Result→Shared→Prop} (S:CScope X scope tn js) (hc:X.calm=true) (hi:PI X target iter wi)
  (hb:∀ C s H fp,PG (blk X (cN X tn js) scope C s H fp) target g∧PF (blk X (cN X tn js) scope C s H fp) ifs tt∧PE (blk X (cN X tn js) scope C s H fp) elt te)
  (I:Inv X pins σ H s) (h:tLC wi tn js g tt te σ H Q)
  (hRR:∀ D C s' H' oC m,Inv X (pins ++ [(C,oC)]) σ H' s'→s'.heap.get? C=some oC→s'.heap.Ns C m→X.s₀.heap.objs.size≤C→C≠X.env.locals→(∀ x c,X.env.cells.lookup x=some c→c≠C)→(∀ p∈X.pn ++ pins,p.1≠C)→Q (.ref D) H'→RR (.ref D) C (.ok .next) s') :
  wpAny (model X.prog X.w) X.A (eval iter X.env) (fun x s₁=>wpAny (model X.prog X.w) X.A (pyIter x) (fun it s₂=>wpAny (model X.prog X.w) X.A (newList []) (fun acc s₃ =>
   wpAny (model X.prog X.w) X.A (newFunctionEnv scope X.env.globals (clOf X.env scope.names []) [] X.env.qual none .none (some X.env)) (fun cenv s₄ =>
    codeAny (model X.prog X.w) X.A (.compStart (.ListComp elt [⟨target,iter,ifs,0⟩] scope pos) 0 it acc { cenv with scope:=relabel scope X.env }) (RR acc cenv.locals) s₄) X.xe s₃) X.xe s₂) X.xe s₁) X.xe s:=by
 refine thn (hi pins s σ H _ I h) fun v s1 h1=>thn h1 fun itv s2 h2=>?_
 obtain ⟨it,fp,tnn,J,H2,e,I2,T,st2,f2,hJ⟩:=h2
 subst e
 refine wpAny_newList ?_
 have D0:H2 s2.heap.objs.size=none:=I2.hok.fresh (Nat.le_refl _)
 obtain ⟨W,⟨m0,w0⟩,turn⟩:=hJ s2.heap.objs.size D0
 have I3:Inv X pins σ (upd H2 s2.heap.objs.size (.lst [])) { s2 with heap:=s2.heap.push { cls:=.type "list",data:=.seq ([]:List Value).toArray },toks:=s2.toks }:=I2.lnew .nil (Nat.zero_le _)
 generalize hs3:({ s2 with heap:=s2.heap.push { cls:=.type "list",data:=.seq ([]:List Value).toArray },toks:=s2.toks }:Shared)=s3 at I3
 have s3s:s3.heap.objs.size=s2.heap.objs.size + 1:=by rw [← hs3]; exact Heap.size_push ..
 have k23:∀ b o,s2.heap.get? b=some o→s3.heap.get? b=some o:=fun b o e=>by rw [← hs3]; exact Heap.get?_push_of_some _ e
 have u23:Un (frs X.stack) fp H2 (upd H2 s2.heap.objs.size (.lst [])) s2.heap s3.heap:=Un.laid k23 (Nat.le_refl _) D0
 generalize hH3:upd H2 s2.heap.objs.size (.lst [])=H3 at I3 u23 w0
 generalize hD:s2.heap.objs.size=D at *
 have fpl:∀ b∈fp,b < D:=fun b hb=>by
  obtain ⟨o,e,_⟩:=T.obj 0 _ st2 b hb
  rw [← hD]; exact Heap.lt_size e
 have f3:∀ b∈fp,FpOk X pins H3 b∧b < s3.heap.objs.size:=fun b hb=>by
  obtain ⟨q0,q⟩:=f2 b hb
  refine ⟨⟨?_,q⟩,by have:=fpl b hb; rw [s3s]; exact Nat.lt_succ_of_lt this⟩
  rw [← hH3,upd_ne (Nat.ne_of_lt (fpl b hb))]; exact q0
 refine newEnv_comp fun h4 hns hk hcell=>?_
 have cl0:∀ x c,(clOf X.env scope.names []).lookup x=some c→X.env.cells.lookup x=some c:=fun x c e=>by
  rcases clOf_lookup scope.names [] c (has_cell I.ok S) e with q | q
  ·cases q
  ·exact q
 have I4:Inv (blk X (cN X tn js) scope s3.heap.objs.size s3 H3 fp) [] (cσ σ tn js) H3 { s3 with heap:=h4,toks:=s3.toks }:=inv_block I3 S f3 hns hk fun x c e=>(hcell x c e).imp (cl0 x c) id
 have st4:tnn 0 h4:=T.keep 0 _ _ st2 fun b hb o e=>hk b o (k23 b o e)
 have fpk:∀ {H':Hp},(∀ b∈fp,H' b=none)→∀ b∈fp,FpOk (blk X (cN X tn js) scope s3.heap.objs.size s3 H3 fp) [] H' b:=fun hn b hb=>by
  obtain ⟨⟨q0,q1,q2,q3,q4,q5⟩,ql⟩:=f3 b hb
  refine ⟨hn b hb,Nat.ne_of_lt ql,fun z=>?_,.inl hb,fun x c e z=>?_,fun p hp=>nomatch hp⟩
  ·rcases List.mem_cons.mp (I3.stkSub b z) with q | q
   ·exact q1 q
   ·exact q2 q
  ·exact (I4.ok.exf b hb).2 x c e z
 have loop:codeAny (model X.prog X.w) X.A (.compLoop (.ListComp elt [⟨target,iter,ifs,0⟩] scope pos) 0 (.ref it) (.ref D) (blk X (cN X tn js) scope s3.heap.objs.size s3 H3 fp).env) (RR (.ref D) s3.heap.objs.size) { s3 with heap:=h4,toks:=s3.toks }:=by
  refine comp_loop (fun n s'=>∃ i σ' H' xs,Inv (blk X (cN X tn js) scope s3.heap.objs.size s3 H3 fp) [] σ' H' s'∧tnn i s'.heap∧(∀ b∈fp,H' b=none)∧W i n H' xs∧KeepC σ tn js σ') ?_ m0
   ⟨0,_,H3,[],I4,st4,fun b hb=>(f3 b hb).1.1,w0,fun _ _ _ z=>z,rfl⟩
  rintro n s5 ⟨i,σ5,H5,xs,I5,st5,fr5,w5,kσ,lσ⟩
  -- the state with the targets forgotten
  have I5':Inv (blk X (cN X tn js) scope s3.heap.objs.size s3 H3 fp) [] (cσ σ tn js) H5 s5:=I5.weak lσ.symm fun j v e=>by
   by_cases hj:tn.length≤j
   ·exact kσ j v hj e
   ·exfalso
    unfold cσ at e
    rw [List.getElem?_append_left (by simpa using Nat.lt_of_not_le hj),List.getElem?_map] at e
    cases q:tn[j]? with
    | none=>rw [q] at e; cases e
    | some y=>rw [q] at e; cases e
  obtain ⟨hDx,hturn⟩:=turn i n H5 xs w5
  rcases hturn with ⟨stop,q⟩ | ⟨go,step⟩
  ·refine thn (T.done (blk X (cN X tn js) scope s3.heap.objs.size s3 H3 fp) rfl rfl rfl hc i [] s5 _ H5 (fun _ _=>False) I5' (fpk fr5) st5 stop) fun r s6 ⟨hr,I6⟩=>?_
   subst hr
   -- back to the def's own state
   have u36:Un (frs X.stack) fp H3 H5 s3.heap s6.heap:=I6.base
   have u26:Un (frs X.stack) fp H2 H5 s2.heap s6.heap:=u23.trans u36
   have I6X:Inv X pins σ H5 s6:=I2.call' (I6.os.trans (show s3.os=s2.os by rw [← hs3])) u26 I6.hok I6.bare fun b hb=>⟨(f2 b hb).2.2.2.1,(f2 b hb).2.1,(f2 b hb).2.2.2.2.1,(f2 b hb).2.2.2.2.2⟩
   obtain ⟨mm,hnn,_⟩:=I6.loc
   obtain ⟨oC,es,ep,hoC,rC⟩:=id hnn
   have Cge:D≤s3.heap.objs.size:=by rw [s3s]; exact Nat.le_succ _
   have lt2:∀ {b:Addr} {o:Obj},s2.heap.get? b=some o→b≠s3.heap.objs.size:=fun e z=>absurd (Heap.lt_size e) (Nat.not_lt.mpr (by rw [hD,z]; exact Cge))
   have cC:∀ x c,X.env.cells.lookup x=some c→c≠s3.heap.objs.size:=fun x c e z=>by
    obtain ⟨v,o,q1,_⟩:=I2.cell x c e
    exact lt2 q1 z
   have pC:∀ p∈X.pn ++ pins,p.1≠s3.heap.objs.size:=fun p hp=>lt2 (I2.pin p hp).1
   have lC:s3.heap.objs.size≠X.env.locals:=fun z=>by
    have:=I2.lt
    rw [hD,← z] at this
    exact absurd this (Nat.not_lt.mpr Cge)
   refine hRR D s3.heap.objs.size s6 H5 oC mm (I6X.pins_of fun p hp=>?_) hoC hnn (Nat.le_trans I2.sz (by rw [hD]; exact Cge)) lC cC pC q
   rcases List.mem_append.mp hp with hp | hp
   ·exact I6X.pin p (List.mem_append_right _ hp)
   ·have:p=(s3.heap.objs.size,oC):=by simpa using hp
    subst this
    refine ⟨hoC,I6.free,lC,fun z=>?_,fun v z=>?_⟩
    ·have:=I2.ok.funs.mem z
     have hz:=I2.funs.mem z
     obtain ⟨_,o,hz,_⟩:=hz
     exact lt2 hz rfl
    ·have:=rC.1
     rw [z] at this; cases this
  ·refine thn (T.item (blk X (cN X tn js) scope s3.heap.objs.size s3 H3 fp) rfl rfl rfl hc i [] s5 _ H5 (fun _ _=>False) I5' (fpk fr5) st5 go) fun r s6 ⟨u,hr,h6⟩=>?_
   subst hr
   refine thn h6 fun _ s7 ⟨x,H7,I7,r7,y7,st7,fr7⟩=>?_
   have I7':=I7.pinned (fpk fr7) (T.obj _ _ st7)
   refine thn ((hb s3.heap.objs.size s3 H3 fp).1 _ s7 _ H7 x u _ I7' r7 (step x H7 y7)) fun _ s8 ⟨σ8,H8,I8,kc8,q8⟩=>?_
   -- what the pins say of the iterator,later
   have again:∀ {σ':St} {H':Hp} {s':Shared} {xs':List V} {m':Nat},Inv (blk X (cN X tn js) scope s3.heap.objs.size s3 H3 fp) ([] ++ pinsAt fp s7.heap) σ' H' s'→m' < n→W (i + 1) m' H' xs'→KeepC σ tn js σ' →
     ∃ m,m < n∧∃ i σ' H' xs,Inv (blk X (cN X tn js) scope s3.heap.objs.size s3 H3 fp) [] σ' H' s'∧tnn i s'.heap∧(∀ b∈fp,H' b=none)∧W i m H' xs∧KeepC σ tn js σ':=fun {σ' H' s' xs' m'} I' hm w' k'=>by
    refine ⟨m',hm,i + 1,σ',H',xs',I'.unpinned,T.keep _ _ _ st7 fun b hb o e=>(I'.pin (b,o) (List.mem_append_right _ (List.mem_append_right _ (mem_pinsAt hb e)))).1,fun b hb=>?_,w',k'⟩
    obtain ⟨o,e,d⟩:=T.obj _ _ st7 b hb
    exact (I'.pin (b,o) (List.mem_append_right _ (List.mem_append_right _ (mem_pinsAt hb e)))).2.1
   refine thn ((hb s3.heap.objs.size s3 H3 fp).2.1 _ s8 σ8 H8 _ I8 q8) fun ok s9 ⟨H9,I9,q9⟩=>?_
   cases ok with
   | false =>
    have q9':∃ m',m' < n∧W (i + 1) m' H9 xs:=by
     have z:=q9
     rw [if_neg Bool.false_ne_true] at z
     exact z
    obtain ⟨m',hm,w9⟩:=q9'
    exact again I9 hm w9 kc8
   | true =>
    rw [if_pos rfl] at q9 ⊢
    refine thn ((hb s3.heap.objs.size s3 H3 fp).2.2 _ s9 σ8 H9 _ I9 q9) fun yv s10 ⟨y,H10,I10,r10,hD10,hz,m',hm,w10⟩=>?_
    exact thn (mt_append _ s10 σ8 H10 (.ref D) [y] (.ref D) [yv] (fun _ H'=>H'=upd H10 D (.lst (xs ++ [y]))) I10 rfl (.cons r10 .nil) ⟨D,xs,y,rfl,rfl,hD10,hz,rfl⟩) fun _ s11 ⟨_,H11,I11,_,e11⟩=>by
     subst e11
     exact again I11 hm w10 kc8
 exact codeAny_compStart_list loop (T.self _ 0 _ _ _ st4 loop)
theorem pe_lc (S:CScope X scope tn js) (hc:X.calm=true) (hi:PI X target iter wi)
  (hb:∀ C s H fp,PG (blk X (cN X tn js) scope C s H fp) target g∧PF (blk X (cN X tn js) scope C s H fp) ifs tt∧PE (blk X (cN X tn js) scope C s H fp) elt te)
  (hs:∀ x,foldedSetIterable iter X.env x=pure x:=by intro _; rfl):PE X (.ListComp elt [⟨target,iter,ifs,0⟩] scope pos) (tLC wi tn js g tt te):=by
 intro pins s σ H Q I h
 rw [eval_ListComp]
 refine wpAny_comprehension_free (use:=none) rfl hs (closureFor_clOf (has_cell I.ok S)) S.kind S.loc ?_
 refine comp_core (RR:=fun acc C=>compPost (model X.prog X.w) X.A X.xe none (EP X pins σ Q) acc C) S hc hi hb I h ?_
 intro D C s' H' oC m I' hoC hn h1 h2 h3 h4 q
 refine ⟨m,hn,fun h' sb=>⟨.ref D,H',?_,rfl,q⟩⟩
 have I2:Inv X pins σ H' s':=I'.pins_of fun p hp=>I'.pin p (List.mem_append_right _ (List.mem_append_left _ hp))
 exact I2.turned (t':=s'.toks) (fun b o hb e=>sb.extBut b o hb e) (I'.pin (C,oC) (List.mem_append_right _ (List.mem_append_right _ (by simp)))).2.1 (Ne.symm (Ne.symm h2)) (.inr h1) h3 h4
theorem ps_setLC {i:Nat} {y:Str} {py spos:Pos} (hN:X.N.Nodup) (hiN:X.N[i]?=some y) (hy:Loc X.env.scope y) (hf:X.fn y=true∨X.env.scope.names.lookup y=some .local) (S:CScope X scope tn js) (hc:X.calm=true) (hi:PI X target iter wi)
  (hb:∀ C s H fp,PG (blk X (cN X tn js) scope C s H fp) target g∧PF (blk X (cN X tn js) scope C s H fp) ifs tt∧PE (blk X (cN X tn js) scope C s H fp) elt te)
  (hsw:swapsWith (.ListComp elt [⟨target,iter,ifs,0⟩] scope pos) (some (.Name y py)) spos.line X.env=pure true)
  (hs:∀ x,foldedSetIterable iter X.env x=pure x:=by intro _; rfl):PS X (.Assign [.Name y py] (.ListComp elt [⟨target,iter,ifs,0⟩] scope pos) spos) (fun D σ H=>tLC wi tn js g tt te σ H fun v H1=>D.nx (σ.set i (some v)) H1):=by
 intro pins s σ H De I h
 rw [exec_Assign_Name_used _ _ _ _ hsw]
 refine wpAny_bind (wpAny_standAt (wpAny_bind ?_))
 show wpAny _ X.A (do let _ ← comprehension (.ListComp elt [⟨target,iter,ifs,0⟩] scope pos) scope X.env _ (newList []) false (eval iter X.env) (some (assign (.Name y py) X.env))) _ _ s
 refine wpAny_bind (wpAny_mono (wpAny_comprehension_free (use:=some (assign (.Name y py) X.env)) (Q:=fun _ s'=>SP X pins De .next s') rfl hs (closureFor_clOf (has_cell I.ok S)) S.kind S.loc ?_) (fun _ s' hq=>wpAny_pure (wpAny_pure hq)) fun _ _ e=>e)
 refine comp_core (RR:=fun acc C=>compPost (model X.prog X.w) X.A X.xe (some (assign (.Name y py) X.env)) (fun _ s'=>SP X pins De .next s') acc C) S hc hi hb I h ?_
 intro D C s' H' oC m I' hoC hn h1 h2 h3 h4 q
 show wpAny _ X.A (assign (.Name y py) X.env (.ref D)) _ _ _
 refine thn (pg_name (pos:=py) hN hiN hy hf _ s' σ H' (.ref D) (.ref D) (fun σ2 H2=>σ2=σ.set i (some (.ref D))∧H2=H') I' rfl ⟨rfl,rfl⟩) fun _ s'' ⟨σ2,H2,I2,e1,e2⟩=>?_
 subst e1 e2
 obtain ⟨g1,g2,_⟩:=I2.pin (C,oC) (List.mem_append_right _ (List.mem_append_right _ (by simp)))
 refine ⟨m,hn.at' fun o e=>?_,fun h' sb=>?_⟩
 ·rw [hoC] at e; cases e; exact g1
 ·have I3:Inv X pins (σ.set i (some (.ref D))) H2 s'':=I2.pins_of fun p hp=>I2.pin p (List.mem_append_right _ (List.mem_append_left _ hp))
  exact ⟨_,H2,I3.turned (t':=s''.toks) (fun b o hb e=>sb.extBut b o hb e) g2 h2 (.inr h1) h3 h4,q⟩
end
end L2
namespace L2
open PySem PySem.Spec PyProof.Rows
section
variable {X:Cx}
theorem op_mulK:OpR X (binaryOp .Mult) (rI IntMulOk fun i j=>.int (i * j)):=opI fun _ _ _ _ _ _ _ hc q=>mul_int q hc
def CDivK (_ j:Int):Prop:=j≠0∧j.natAbs.log2 < 9000
theorem op_fdivK:OpR X (binaryOp .FloorDiv) (rI CDivK fun i j=>.int (i.fdiv j)):=opI fun _ _ _ _ _ _ _ hc q=>floordiv_int hc.1 q (.inl (PyProof.noPylong_of_log2 hc.2))
def Itc (lo c:Int) (n:Nat):It:=⟨fun i _=>i < n,fun i H x H'=>H'=H∧x=.int (lo + i * c),fun i _=>n≤i⟩
theorem turn_rangeC {P:Program} {w:World} {K:PySem.W.Frag} {tg:Expr} (it:Addr) (lo c:Int) (n:Nat):Turn P w K tg (Itc lo c n) [it] it (fun i h=>IsRangeIter h it (lo + (i:Nat) * c) ((n:Int) - (i:Nat)) c) where
 mem:=by simp
 obj:=fun i h st b hb=>by
  have e:b=it:=by simpa using hb
  subst e
  exact ⟨_,st,fun v z=>by
   have z':Data.fields _=Data.cell v:=z
   cases z'⟩
 keep:=fun i h h' st k=>k it (by simp) _ st
 item:=by
  intro X hP hw hK hc i pins s σ H E I hf st hg
  subst hP hw hK
  obtain ⟨f0,f1,f2,f3,f4,f5⟩:=hf it (by simp)
  have W:=Walks.range (prog:=X.prog) (w:=X.w) (I.ok.hd hc) it lo c n
  refine W.item i s _ _ hg st fun v h' tk hv st' kk=>?_
  obtain ⟨t,rfl⟩:=hv
  have I1:Inv X pins σ H { s with heap:=h',toks:=tk }:=I.turned (fun b o hb e=>kk b o (by simpa using hb) e) f0 f1 f3 f4 f5
  exact ⟨_,rfl,go_of (s:={ s with heap:=h',toks:=tk }) (n:="range_iterator") st' rfl rfl (by decide) ⟨.int (lo + i * c),H,I1,⟨t,rfl⟩,⟨rfl,rfl⟩,st',fun b hb=>(hf b hb).1⟩⟩
 done:=by
  intro X hP hw hK hc i pins s σ H E I hf st hg
  subst hP hw hK
  obtain ⟨f0,f1,f2,f3,f4,f5⟩:=hf it (by simp)
  exact wpAny_pyNext_range_end (I.ok.hd hc) st (by have:n≤i:=hg; omega) fun h' eb=>⟨rfl,I.turned (t':=s.toks) (fun b o hb e=>eb b o hb e) f0 f1 f3 f4 f5⟩
 self:=fun _ _ _ _ _ st h=>wpAny_pyIter_rangeiter st h
theorem small_c {a b c:Int} (ha:-(2 ^ 62)≤a) (ha':a < 2 ^ 62) (hb:-(2 ^ 62)≤b) (hb':b < 2 ^ 62) (hc:c≠0) (hc1:-1000≤c) (hc2:c≤1000):Builtin.Range.small a b c=true:=by
 have h1:=rangeSize_toNat a b c
 have h2:=rangeSize_toNat_le a b c
 unfold Builtin.Range.small
 generalize Builtin.Range.rangeSize a b c=r at *
 simp only [Builtin.Range.rangeFitsLong,Bool.and_eq_true,Bool.or_eq_true,decide_eq_true_eq,beq_iff_eq]
 refine ⟨⟨⟨⟨⟨by omega,by omega⟩,by omega,by omega⟩,by omega,by omega⟩,by omega,by omega⟩,?_⟩
 right
 split <;> simp only [Bool.and_eq_true,decide_eq_true_eq] <;> omega
variable {tg:Expr}
theorem range_itC {pins:List (Addr × Obj)} {σ:St} {H:Hp} {s:Shared} {R:It→Hp→Prop} {E:Value→Shared→Prop} {lo hi c:Int} {t u v:Tok} {tk:Nat} (I:Inv X pins σ H s) (h1:-(2 ^ 62)≤lo) (h2:lo < 2 ^ 62) (h3:-(2 ^ 62)≤hi) (h4:hi < 2 ^ 62)
  (c0:c≠0) (c1:-1000≤c) (c2:c≤1000)
  (q:R (Itc lo c (Builtin.Range.rangeSize lo hi c).toNat) H):wpAny (model X.prog X.w) X.A (pyIter (.ref s.heap.objs.size)) (PIE X pins σ tg R) E { s with heap:=s.heap.push { cls:=.type "range",data:=.fields #[.int lo t,.int hi u,.int c v] },toks:=tk }:=by
 refine wpAny_pyIter_range (IsRange.new ..) (small_c h1 h2 h3 h4 c0 c1 c2) ?_
 have I1:Inv X pins σ H { s with heap:=s.heap.push { cls:=.type "range",data:=.fields #[.int lo t,.int hi u,.int c v] },toks:=tk }:=I.kept fun b o e=>Heap.get?_push_of_some _ e
 refine ⟨(s.heap.push { cls:=.type "range",data:=.fields #[.int lo t,.int hi u,.int c v] }).objs.size,[(s.heap.push { cls:=.type "range",data:=.fields #[.int lo t,.int hi u,.int c v] }).objs.size],_,_,H,rfl,
  I1.kept (t':=tk) fun b o e=>Heap.get?_push_of_some _ e,turn_rangeC _ lo c (Builtin.Range.rangeSize lo hi c).toNat,?_,fun b hb=>?_,q⟩
 ·have e1:lo + ((0:Nat):Int) * c=lo:=by simp
  have e2:(((Builtin.Range.rangeSize lo hi c).toNat:Nat):Int) - ((0:Nat):Int)=Builtin.Range.rangeSize lo hi c:=by have:=rangeSize_toNat lo hi c; omega
  show IsRangeIter _ _ (lo + ((0:Nat):Int) * c) ((((Builtin.Range.rangeSize lo hi c).toNat:Nat):Int) - ((0:Nat):Int)) c
  rw [e1,e2]
  exact Heap.get?_push_size _ rfl
 ·have e:b=(s.heap.push { cls:=.type "range",data:=.fields #[.int lo t,.int hi u,.int c v] }).objs.size:=by simpa using hb
  subst e
  exact I1.fpOk (Nat.le_refl _) (I1.hok.fresh (Nat.le_refl _))
def iRng3 (ta:TA):TI:=fun σ H R=>ta σ H fun vs H1=>∃ i j c:Int,vs=[.int i,.int j,.int c]∧(-(2 ^ 62)≤i∧i < 2 ^ 62∧-(2 ^ 62)≤j∧j < 2 ^ 62)∧(c≠0∧-1000≤c∧c≤1000)∧R (Itc i c (Builtin.Range.rangeSize i j c).toNat) H1
theorem pi_range3 {a b c:Expr} {ta:TA} {p pos:Pos} (hg:Gl X "range") (hm:X.mg "range"=none) (ha:PA X [a,b,c] ta) (he:starEach [a,b,c] X.env=(false,eval a X.env) :: starEach [b,c] X.env:=by rfl)
  (hpl:(backTo pos (starEach [b,c] X.env)).any (·.1)=false:=by rfl):PI X tg (.Call (.Name "range" p) [a,b,c] [] pos) (iRng3 ta):=by
 intro pins s σ H R I h
 refine Call_ (ld_blt I hg hm boot_range (PyProof.Rows.callWith_type1 (thn (ha pos pins s σ H _ I h) fun us s1 ⟨vs,H1,I1,r1,q1⟩=>?_) he hpl))
 obtain ⟨i,j,c,e,⟨q1,q2,q3,q4⟩,⟨c0,c1,c2⟩,q⟩:=q1
 subst e
 cases r1 with
 | cons r rr =>
  cases rr with
  | cons r' rr =>
   cases rr with
   | cons r'' rr =>
    cases rr
    obtain ⟨t,rfl⟩:=r
    obtain ⟨t',rfl⟩:=r'
    obtain ⟨t'',rfl⟩:=r''
    exact call_range_3 c0 (range_itC I1 q1 q2 q3 q4 c0 c1 c2 q) (.inl (PyProof.noPylong_small (by omega)))
theorem for_rangeC {lo c:Int} {n:Nat} {g:TG} {tb:TS} {D:Ends} {σ:St} {H:Hp} (Pv:Nat→St→Hp→Prop) (h0:Pv 0 σ H)
  (hs:∀ i σ H,i < n→Pv i σ H→g (.int (lo + i * c)) σ H fun σ2 H2=>tb { D with nx:=Pv (i + 1),ct:=Pv (i + 1),bk:=D.nx } σ2 H2) (hd:∀ σ H,Pv n σ H→D.nx σ H) :
  ∃ W:Nat→Nat→St→Hp→Prop,(∃ m,W 0 m σ H)∧∀ i m σ H,W i m σ H →
   ((Itc lo c n).stop i H∧D.nx σ H)∨((Itc lo c n).go i H∧∃ N:St→Hp→Prop,(∀ σ' H',N σ' H'→∃ m',m' < m∧W (i + 1) m' σ' H')∧∀ x H',(Itc lo c n).yld i H x H'→g x σ H' fun σ2 H2=>tb { D with nx:=N,ct:=N,bk:=D.nx } σ2 H2):=by
 refine ⟨fun i m σ H=>m=n - i∧i≤n∧Pv i σ H,⟨n,by simp,Nat.zero_le _,h0⟩,?_⟩
 rintro i m σ H ⟨rfl,hi,p⟩
 by_cases hlt:i < n
 ·refine .inr ⟨hlt,Pv (i + 1),fun σ' H' p'=>⟨n - (i + 1),by omega,rfl,hlt,p'⟩,fun x H' y=>?_⟩
  obtain ⟨e,y⟩:=y
  subst e y
  exact hs i σ _ hlt p
 ·have e:i=n:=by omega
  subst e
  exact .inl ⟨Nat.le_refl _,hd σ H p⟩
end
mutual
inductive DR (K:PySem.W.Frag) (H:Hp):V→PyData→Prop
 | non:DR K H .non .none
 | bl (b:Bool):DR K H (.bl b) (.bool b)
 | int (i:Int):DR K H (.int i) (.int i)
 | str (x:Str):DR K H (.str x) (.str x)
 | lst {a:Addr} {xs:List V} {ds:List PyData}:SqL K H a xs→DRs K H xs ds→DR K H (.ref a) (.list ds)
 | tup {a:Addr} {xs:List V} {ds:List PyData}:SqT K H a xs→DRs K H xs ds→DR K H (.ref a) (.tuple ds)
inductive DRs (K:PySem.W.Frag) (H:Hp):List V→List PyData→Prop
 | nil:DRs K H [] []
 | cons {x:V} {xs:List V} {d:PyData} {ds:List PyData}:DR K H x d→DRs K H xs ds→DRs K H (x :: xs) (d :: ds)
end
section
variable {X:Cx} {pins:List (Addr × Obj)} {σ:St} {H:Hp} {s:Shared}
mutual
theorem DR.reads (I:Inv X pins σ H s):∀ {x:V} {d:PyData} {u:Value},DR X.K H x d→RelV x u→∃ as,Reads s.heap u d as
 | _,_,_,.non,r=>by cases r; exact ⟨_,.none⟩
 | _,_,_,.bl b,r=>by cases r; exact ⟨_,.bool b⟩
 | _,_,_,.int i,r=>by obtain ⟨t,rfl⟩:=r; exact ⟨_,.int i t⟩
 | _,_,_,.str x,r=>by obtain ⟨t,rfl⟩:=r; exact ⟨_,.str x t⟩
 | _,_,_,.lst h hs,r=>by
  cases r
  obtain ⟨its,rv,p,_⟩:=I.list h
  obtain ⟨as,ra⟩:=DRs.reads I hs rv
  obtain ⟨o,e1,e2,n,e3⟩:=p.isList
  exact ⟨_,.list e1 e2 e3 (by simpa using ra)⟩
 | _,_,_,.tup h hs,r=>by
  cases r
  obtain ⟨its,rv,p,_⟩:=I.tuple h
  obtain ⟨as,ra⟩:=DRs.reads I hs rv
  obtain ⟨o,e1,e2,n,e3⟩:=p
  exact ⟨_,.tuple e1 e2 e3 (by simpa using ra)⟩
theorem DRs.reads (I:Inv X pins σ H s):∀ {xs:List V} {ds:List PyData} {us:List Value},DRs X.K H xs ds→Vals xs us→∃ as,ReadsAll s.heap us ds as
 | _,_,_,.nil,r=>by cases r; exact ⟨_,.nil⟩
 | _,_,_,.cons h hs,r=>by
  cases r with
  | cons r1 r2 =>
   obtain ⟨as,a⟩:=DR.reads I h r1
   obtain ⟨bs,b⟩:=DRs.reads I hs r2
   exact ⟨_,.cons a b⟩
end
end
section
variable {X:Cx}
def rEqD (K:PySem.W.Frag):R2:=fun x y H Q=>∃ d e,DR K H x d∧DR K H y e∧d.canLay0=true∧e.canLay0=true∧d.depth≤60∧Q (.bl (PyData.eqv d e)) H
def rNeD (K:PySem.W.Frag):R2:=fun x y H Q=>∃ d e,DR K H x d∧DR K H y e∧d.canLay0=true∧e.canLay0=true∧d.depth≤60∧Q (.bl (!PyData.eqv d e)) H
theorem op_eqD (hu:X.A.units + 60 < cLine):OpR X (compareOp .Eq) (rEqD X.K):=by
 intro pins s σ H x y v u Q I rx ry h
 obtain ⟨d,e,hd,he,c1,c2,dp,q⟩:=h
 obtain ⟨as,ra⟩:=hd.reads I rx
 obtain ⟨bs,rb⟩:=he.reads I ry
 exact SeqAt.compareEq_reads ra rb c1 c2 (by have:=Nat.min_le_left d.depth e.depth; omega) ⟨.bl _,H,I,rfl,q⟩
theorem op_neD (hu:X.A.units + 60 < cLine):OpR X (compareOp .NotEq) (rNeD X.K):=by
 intro pins s σ H x y v u Q I rx ry h
 obtain ⟨d,e,hd,he,c1,c2,dp,q⟩:=h
 obtain ⟨as,ra⟩:=hd.reads I rx
 obtain ⟨bs,rb⟩:=he.reads I ry
 exact SeqAt.compareNe_reads ra rb c1 c2 (by have:=Nat.min_le_left d.depth e.depth; omega) ⟨.bl _,H,I,rfl,q⟩
end
end L2
namespace L2.EP
open PySem PySem.Spec PyProof.Rows
open Classical in
noncomputable def off (H:Hp) (O:Addr→Prop):Hp:=fun b=>if O b then none else H b
theorem off_get {H:Hp} {O:Addr→Prop} {b:Addr} (h:¬ O b):off H O b=H b:=by unfold off; rw [if_neg h]
theorem off_own {H:Hp} {O:Addr→Prop} {b:Addr} (h:O b):off H O b=none:=by unfold off; rw [if_pos h]
theorem off_some {H:Hp} {O:Addr→Prop} {b:Addr} {o:HO} (h:off H O b=some o):¬ O b∧H b=some o:=by
 by_cases hb:O b
 ·rw [off_own hb] at h; cases h
 ·rw [off_get hb] at h; exact ⟨hb,h⟩
theorem off_same (H:Hp) (O:Addr→Prop):Same (off H O) H:=fun _ _ h=>(off_some h).2
theorem off_mono {H H':Hp} {O:Addr→Prop} (s:Same H H'):Same (off H O) (off H' O):=fun b o h=>by
 obtain ⟨h1,h2⟩:=off_some h
 rw [off_get h1]; exact s _ _ h2
theorem off_less {H:Hp} {O O':Addr→Prop} (l:∀ b,O' b→O b):Same (off H O) (off H O'):=fun b o h=>by
 obtain ⟨h1,h2⟩:=off_some h
 rw [off_get fun z=>h1 (l _ z)]; exact h2
theorem off_nil (H:Hp):off H (fun _=>False)=H:=funext fun _=>off_get fun z=>z
theorem off_upd {H:Hp} {O:Addr→Prop} {p:Addr} {o:HO} (h:O p):off (upd H p o) O=off H O:=funext fun b=>by
 by_cases hb:O b
 ·rw [off_own hb,off_own hb]
 ·rw [off_get hb,off_get hb,upd_ne]; rintro rfl; exact hb h
theorem same_upd {H:Hp} {p:Addr} (h:H p=none) (o:HO):Same H (upd H p o):=fun b u q=>by rw [upd_ne (ne_of_none q h)]; exact q
theorem Same.rd {H H':Hp} {a:Addr} {u:HO} (e:Same H H') (h:Rd H a u):Rd H' a u:=by
 rcases h with h | ⟨o,h⟩
 ·exact .inl (e _ _ h)
 ·exact .inr ⟨o,e _ _ h⟩
def Rt (H:Hp) (p:Addr) (xs:List V):Prop:=H p=some (.tup xs)∨∃ _:Empty,H p=some (.tup xs)
theorem Rt.pl {H:Hp} {p:Addr} {xs:List V} (h:Rt H p xs):H p=some (.tup xs):=by
 rcases h with h | ⟨o,h⟩
 ·exact h
 ·exact h
theorem Rt.rd {H:Hp} {p:Addr} {xs:List V} (h:Rt H p xs):Rd H p (.tup xs):=.inl h.pl
theorem Same.rt {H H':Hp} {a:Addr} {u:List V} (e:Same H H') (h:Rt H a u):Rt H' a u:=.inl (e _ _ h.pl)
theorem sqT_rd {K:PySem.W.Frag} {H H':Hp} {p:Addr} {xs:List V} (e:Same H H') (h:Rt H p xs):SqT K H' p xs:=.inl (Same.rt e h).rd
inductive Nn where
 | any
 | new (H0:Hp)
 | set (D:Addr→Prop)
inductive Mt where
 | inl (xs:List V)
 | inr (kvs:List (Key × V))
 | inT (kvs:List (List Key × V))
 | inB (kvs:List ((Int × Bool) × V))
def mo:Mt→HO
 | .inl xs=>.lst xs
 | .inr kvs=>.dK kvs
 | .inT kvs=>.dT kvs
 | .inB kvs=>.dB kvs
def Mo (K:PySem.W.Frag) (H:Hp) (p:Addr):Mt→Prop
 | .inl xs=>SqL K H p xs
 | .inr kvs=>Rd H p (.dK kvs)
 | .inT kvs=>Rd H p (.dT kvs)
 | .inB kvs=>Rd H p (.dB kvs)
theorem Mo.mono {K:PySem.W.Frag} {H H':Hp} {p:Addr} {o:Mt} (s:Same H H') (h:Mo K H p o):Mo K H' p o:=by
 cases o with
 | inl xs=>exact s.seq h
 | inr kvs=>exact Same.rd s h
 | inT kvs=>exact Same.rd s h
 | inB kvs=>exact Same.rd s h
theorem Mo.of {K:PySem.W.Frag} {H:Hp} {p:Addr} {o:Mt} (h:H p=some (mo o)):Mo K H p o:=by
 cases o with
 | inl xs=>exact SqL.of h
 | inr kvs=>exact .inl h
 | inT kvs=>exact .inl h
 | inB kvs=>exact .inl h
def Nn.has:Nn→Hp→Addr→Mt→Prop
 | .any,_,_,_=>True
 | .new H0,H,p,xs=>H0 p=none∧H p=some (mo xs)
 | .set D,H,p,xs=>D p∧H p=some (mo xs)
theorem Nn.mono {N:Nn} {H H':Hp} {p:Addr} {xs:Mt} (s:Same H H') (h:N.has H p xs):N.has H' p xs:=by
 cases N with
 | any=>exact True.intro
 | new H0=>exact ⟨h.1,s _ _ h.2⟩
 | set D=>exact ⟨h.1,s _ _ h.2⟩
class Py (α:Type) where
 rp:PySem.W.Frag→Nn→Hp→V→α→Prop
 tr:∀ {K:PySem.W.Frag} {N N':Nn} {H H':Hp} {v:V} {a:α},(∀ p (o:Mt),Mo K H p o→N.has H p o→Mo K H' p o∧N'.has H' p o)→(∀ p xs,Rt H p xs→Rt H' p xs)→rp K N H v a→rp K N' H' v a
theorem rp_mono {α:Type} [Py α] {K:PySem.W.Frag} {N:Nn} {H H':Hp} {v:V} {a:α} (s:Same H H') (h:Py.rp K N H v a):Py.rp K N H' v a :=
 Py.tr (fun _ _ q n=>⟨Mo.mono s q,Nn.mono s n⟩) (fun _ _ q=>Same.rt s q) h
theorem rp_wid {α:Type} [Py α] {K:PySem.W.Frag} {N N':Nn} {H:Hp} {v:V} {a:α} (w:∀ p (o:Mt),N.has H p o→N'.has H p o) (h:Py.rp K N H v a):Py.rp K N' H v a :=
 Py.tr (fun _ _ q n=>⟨q,w _ _ n⟩) (fun _ _ q=>q) h
instance:Py Int where
 rp _ _ _ v a:=v=.int a
 tr _ _ h:=h
instance:Py Bool where
 rp _ _ _ v a:=v=.bl a
 tr _ _ h:=h
instance:Py Unit where
 rp _ _ _ v _:=v=.non
 tr _ _ h:=h
instance:Py Str where
 rp _ _ _ v a:=v=.str a
 tr _ _ h:=h
structure Any where
instance:Py Any where
 rp _ _ _ _ _:=True
 tr _ _ h:=h
instance {α:Type} [Py α]:Py (Option α) where
 rp K N H v a:=match a with | none=>v=.non | some b=>Py.rp K N H v b
 tr {K N N' H H' v a} l t h:=by
  cases a with
  | none=>exact h
  | some b=>exact Py.tr (α:=α) l t h
instance {α β:Type} [Py α] [Py β]:Py (α × β) where
 rp K N H v a:=∃ p x y,v=.ref p∧Rt H p [x,y]∧Py.rp K N H x a.1∧Py.rp K N H y a.2
 tr l t h:=by
  obtain ⟨p,x,y,e,s,h1,h2⟩:=h
  exact ⟨p,x,y,e,t _ _ s,Py.tr l t h1,Py.tr l t h2⟩
structure T3 (α β γ:Type) where
 a:α
 b:β
 c:γ
 deriving DecidableEq
instance {α β γ:Type} [Py α] [Py β] [Py γ]:Py (T3 α β γ) where
 rp K N H v a:=∃ p x y z,v=.ref p∧Rt H p [x,y,z]∧Py.rp K N H x a.a∧Py.rp K N H y a.b∧Py.rp K N H z a.c
 tr l t h:=by
  obtain ⟨p,x,y,z,e,s,h1,h2,h3⟩:=h
  exact ⟨p,x,y,z,e,t _ _ s,Py.tr l t h1,Py.tr l t h2,Py.tr l t h3⟩
theorem pr_imp {α β:Type} {F G:α→β→Prop} (f:∀ a b,F a b→G a b):∀ {l₁:List α} {l₂:List β},Paired F l₁ l₂→Paired G l₁ l₂
 | _,_,.nil=>.nil
 | _,_,.cons h t=>.cons (f _ _ h) (pr_imp f t)
theorem pr_len {α β:Type} {F:α→β→Prop}:∀ {l₁:List α} {l₂:List β},Paired F l₁ l₂→l₁.length=l₂.length
 | _,_,.nil=>rfl
 | _,_,.cons _ t=>congrArg (· + 1) (pr_len t)
theorem pr_get {α β:Type} {F:α→β→Prop}:∀ {l₁:List α} {l₂:List β} {i:Nat} {b:β},Paired F l₁ l₂→l₂[i]?=some b→∃ a,l₁[i]?=some a∧F a b
 | _,_,_,_,.nil,e=>by simp at e
 | _,_,0,_,.cons h _,e=>by simp at e; subst e; exact ⟨_,rfl,h⟩
 | _,_,i + 1,_,.cons _ t,e=>by
  obtain ⟨a,h1,h2⟩:=pr_get (i:=i) t (by simpa using e)
  exact ⟨a,by simpa using h1,h2⟩
theorem pr_get' {α β:Type} {F:α→β→Prop}:∀ {l₁:List α} {l₂:List β} {i:Nat} {a:α},Paired F l₁ l₂→l₁[i]?=some a→∃ b,l₂[i]?=some b∧F a b
 | _,_,_,_,.nil,e=>by simp at e
 | _,_,0,_,.cons h _,e=>by simp at e; subst e; exact ⟨_,rfl,h⟩
 | _,_,i + 1,_,.cons _ t,e=>by
  obtain ⟨a,h1,h2⟩:=pr_get' (i:=i) t (by simpa using e)
  exact ⟨a,by simpa using h1,h2⟩
theorem pr_app {α β:Type} {F:α→β→Prop}:∀ {l₁ m₁:List α} {l₂ m₂:List β},Paired F l₁ l₂→Paired F m₁ m₂→Paired F (l₁ ++ m₁) (l₂ ++ m₂)
 | _,_,_,_,.nil,h=>h
 | _,_,_,_,.cons h t,h'=>.cons h (pr_app t h')
theorem pr_set {α β:Type} {F:α→β→Prop} {a:α} {b:β} (f:F a b):∀ {l₁:List α} {l₂:List β} (i:Nat),Paired F l₁ l₂→Paired F (l₁.set i a) (l₂.set i b)
 | _,_,_,.nil=>.nil
 | _,_,0,.cons _ t=>.cons f t
 | _,_,i + 1,.cons h t=>.cons h (pr_set f i t)
theorem pr_drop {α β:Type} {F:α→β→Prop}:∀ {l₁:List α} {l₂:List β} (n:Nat),Paired F l₁ l₂→Paired F (l₁.drop n) (l₂.drop n)
 | _,_,0,h=>h
 | _,_,_ + 1,.nil=>.nil
 | _,_,n + 1,.cons _ t=>pr_drop n t
theorem pr_take {α β:Type} {F:α→β→Prop}:∀ {l₁:List α} {l₂:List β} (n:Nat),Paired F l₁ l₂→Paired F (l₁.take n) (l₂.take n)
 | _,_,0,_=>.nil
 | _,_,_ + 1,.nil=>.nil
 | _,_,n + 1,.cons h t=>.cons h (pr_take n t)
instance {α:Type} [Py α]:Py (List α) where
 rp K N H v a:=∃ p xs,v=.ref p∧SqL K H p xs∧N.has H p (.inl xs)∧Paired (fun x b=>Py.rp K N H x b) xs a
 tr l t h:=by
  obtain ⟨p,xs,e,s,n,r⟩:=h
  obtain ⟨s',n'⟩:=l _ (.inl xs) s n
  exact ⟨p,xs,e,s',n',pr_imp (fun _ _ q=>Py.tr l t q) r⟩
class PyD (α:Type) extends Py α where
 dat:α→PyData
 dr:∀ {K:PySem.W.Frag} {N:Nn} {H:Hp} {v:V} {a:α},Py.rp K N H v a→DR K H v (dat a)
 lay:∀ a,(dat a).canLay0=true
 dep:Nat
 depth:∀ a,(dat a).depth≤dep
 eqv:∀ a b,PyData.eqv (dat a) (dat b)=true↔a=b
instance:PyD Int where
 dat:=.int
 dr h:=by cases h; exact .int _
 lay _:=rfl
 dep:=0
 depth _:=Nat.le_refl _
 eqv a b:=by simp [PyData.eqv]
instance:PyD Bool where
 dat:=.bool
 dr h:=by cases h; exact .bl _
 lay _:=rfl
 dep:=0
 depth _:=Nat.le_refl _
 eqv a b:=by simp [PyData.eqv]
instance {α β:Type} [PyD α] [PyD β]:PyD (α × β) where
 dat a:=.tuple [PyD.dat a.1,PyD.dat a.2]
 dr h:=by
  obtain ⟨p,x,y,e,s,h1,h2⟩:=h
  subst e
  exact .tup (.inl s.rd) (.cons (PyD.dr h1) (.cons (PyD.dr h2) .nil))
 lay a:=by
  show PyData.canLayAll0 [PyD.dat a.1,PyD.dat a.2]=true
  simp [PyData.canLayAll0,PyD.lay]
 dep:=max (PyD.dep α) (PyD.dep β) + 1
 depth a:=by
  have h1:=PyD.depth a.1
  have h2:=PyD.depth a.2
  show PyData.depthAll [PyD.dat a.1,PyD.dat a.2] + 1≤_
  simp only [PyData.depthAll]
  omega
 eqv a b:=by
  rw [PyData.eqv]
  simp only [PyData.eqvAll,Bool.and_true,Bool.and_eq_true,PyD.eqv]
  exact ⟨fun h=>Prod.ext h.1 h.2,fun h=>by subst h; exact ⟨rfl,rfl⟩⟩
theorem drs_list {α:Type} [PyD α] {K:PySem.W.Frag} {N:Nn} {H:Hp}:∀ {xs:List V} {as:List α},Paired (fun x b=>Py.rp K N H x b) xs as→DRs K H xs (as.map PyD.dat)
 | _,_,.nil=>.nil
 | _,_,.cons h t=>.cons (PyD.dr h) (drs_list t)
theorem lay_list {α:Type} [PyD α]:∀ as:List α,PyData.canLayAll0 (as.map PyD.dat)=true
 | []=>rfl
 | a :: as=>by simp [PyData.canLayAll0,PyD.lay,lay_list as]
theorem dep_list {α:Type} [PyD α]:∀ as:List α,PyData.depthAll (as.map PyD.dat)≤PyD.dep α
 | []=>Nat.zero_le _
 | a :: as=>by
  have h1:=PyD.depth a
  have h2:=dep_list as
  simp only [List.map_cons,PyData.depthAll]
  omega
theorem eqv_list {α:Type} [PyD α]:∀ as bs:List α,PyData.eqvAll (as.map PyD.dat) (bs.map PyD.dat)=true↔as=bs
 | [],[]=>by simp [PyData.eqvAll]
 | [],_ :: _=>by simp [PyData.eqvAll]
 | _ :: _,[]=>by simp [PyData.eqvAll]
 | a :: as,b :: bs=>by simp [PyData.eqvAll,PyD.eqv,eqv_list as bs]
instance {α:Type} [PyD α]:PyD (List α) where
 dat a:=.list (a.map PyD.dat)
 dr h:=by
  obtain ⟨p,xs,e,s,n,r⟩:=h
  subst e
  exact .lst s (drs_list r)
 lay a:=lay_list a
 dep:=PyD.dep α + 1
 depth a:=by
  show PyData.depthAll (a.map PyD.dat) + 1≤_
  have:=dep_list a
  omega
 eqv a b:=by rw [PyData.eqv]; exact eqv_list a b
inductive Bd:Type 1
 | val {α:Type} [Py α] (b:Bool) (a:α):Bd
 | own {α:Type} [Py α] (b:Bool) (as:List α):Bd
 | dpo {α:Type} [Py α] (a:α):Bd
abbrev GEnv:=List (Option Bd)
def Nf (H0:Hp):Bool→Nn
 | true=>.new H0
 | false=>.any
theorem Nf.wk {H0 H:Hp} {b:Bool} {p:Addr} {xs:Mt} (h:H0 p=none) (hx:H p=some (mo xs)):(Nf H0 b).has H p xs:=by cases b; exact True.intro; exact ⟨h,hx⟩
theorem Nf.le {H0 H:Hp} {b b':Bool} {p:Addr} {xs:Mt} (l:b'=true→b=true) (h:(Nf H0 b).has H p xs):(Nf H0 b').has H p xs:=by
 cases b' with
 | false=>exact True.intro
 | true=>rw [l rfl] at h; exact h
def Bd.ok (K:PySem.W.Frag) (H0:Hp) (O:Addr→Prop) (H:Hp) (v:V):Bd→Prop
 | @Bd.val _ _ b a=>Py.rp K (Nf H0 b) (off H O) v a
 | @Bd.own _ _ _ _=>False
 | @Bd.dpo _ _ _=>False
def Bd.okD (K:PySem.W.Frag) (H0:Hp) (O:Addr→Prop) (H:Hp) (D:Addr→Prop) (v:V):Bd→Prop
 | @Bd.val _ _ _ _=>False
 | @Bd.own _ _ b as=>∃ p xs,v=.ref p∧D p∧H p=some (.lst xs)∧Paired (fun x a=>Py.rp K (Nf H0 b) (off H O) x a) xs as
 | @Bd.dpo _ _ a=>Py.rp K (.set D) H v a
def Bd.isOwn:Bd→Prop
 | @Bd.val _ _ _ _=>False
 | @Bd.own _ _ _ _=>True
 | @Bd.dpo _ _ _=>True
structure Sta (K:PySem.W.Frag) (H0:Hp) (F O:Addr→Prop) (Γ:GEnv) (σ:St) (H:Hp):Prop where
 same:Same H0 H
 fo:∀ p,F p→O p
 f0:∀ p,F p→∃ xs:Mt,H0 p=some (mo xs)
 own:∀ p,O p→∃ xs:Mt,H p=some (mo xs)
 len:σ.length=Γ.length
 at_:∀ (i:Nat) (g:Bd),Γ[i]?=some (some g)→¬ g.isOwn→∃ v,σ[i]?=some (some v)∧g.ok K H0 O H v
 dis:∃ D:Nat→Addr→Prop,(∀ i j p,D i p→D j p→i=j)∧(∀ i p,D i p→O p∧H0 p=none)∧∀ (i:Nat) (g:Bd),Γ[i]?=some (some g)→g.isOwn→∃ v,σ[i]?=some (some v)∧g.okD K H0 O H (D i) v
section
variable {K:PySem.W.Frag} {H0:Hp} {F O:Addr→Prop} {Γ:GEnv} {σ:St} {H H':Hp}
theorem Bd.go {v:V} {g:Bd} (s:Same H H') (h:g.ok K H0 O H v):g.ok K H0 O H' v:=by
 cases g with
 | val b a=>exact rp_mono (off_mono s) h
 | own b as=>exact h
 | dpo a=>exact h
theorem Bd.goD {v:V} {g:Bd} {D O':Addr→Prop} (h:g.okD K H0 O H D v) (hD:∀ p (xs:Mt),D p→H p=some (mo xs)→H' p=some (mo xs)) (so:Same (off H O) (off H' O')) (hO:∀ p,D p→O p) (hOl:∀ p,O p→∃ xs:Mt,H p=some (mo xs)):g.okD K H0 O' H' D v:=by
 cases g with
 | val b a=>exact h
 | own b as =>
  obtain ⟨p,xs,e,o,q,r⟩:=h
  exact ⟨p,xs,e,o,hD p (.inl xs) o q,pr_imp (fun _ _ z=>rp_mono so z) r⟩
 | dpo a =>
  have h':Py.rp K (.set D) H v a:=h
  refine Py.tr (α:=_) (a:=a) (fun p xs q n=>?_) (fun p xs q=>?_) h'
  ·obtain ⟨n1,n2⟩:=n
   have h2:=hD p xs n1 n2
   exact ⟨Mo.of h2,n1,h2⟩
  ·have hp:∀ u,(H p=some (.tup u)∨∃ o,H p=some (.frz o (.tup u)))→¬ O p:=fun u z hp=>by
    obtain ⟨ys,w⟩:=hOl p hp
    rcases z with z | ⟨o,z⟩
    ·rw [z] at w; rcases ys with ys | ys | ys <;> cases w
    ·rw [z] at w; rcases ys with ys | ys | ys <;> cases w
   have hp':=hp xs q.rd
   rcases q with q | ⟨o,q⟩
   ·exact .inl ((off_same _ _) _ _ (so _ _ (by rw [off_get hp']; exact q)))
   ·exact .inr ⟨o,(off_same _ _) _ _ (so _ _ (by rw [off_get hp']; exact q))⟩
theorem Sta.go (S:Sta K H0 F O Γ σ H) (s:Same H H'):Sta K H0 F O Γ σ H' where
 same:=S.same.trans s
 fo:=S.fo
 f0:=S.f0
 own:=fun p h=>let ⟨xs,q⟩:=S.own p h; ⟨xs,s _ _ q⟩
 len:=S.len
 at_:=fun i g e n=>let ⟨v,q,r⟩:=S.at_ i g e n; ⟨v,q,Bd.go s r⟩
 dis:=by
  obtain ⟨D,d1,d2,d3⟩:=S.dis
  refine ⟨D,d1,d2,fun i g e o=>?_⟩
  obtain ⟨v,q,r⟩:=d3 i g e o
  exact ⟨v,q,Bd.goD r (fun p xs _ z=>s _ _ z) (off_mono s) (fun p z=>(d2 i p z).1) S.own⟩
theorem Sta.free0 (S:Sta K H0 F O Γ σ H) {p:Addr} (h:H p=none):H0 p=none:=S.same.free h
theorem Sta.notOwn (S:Sta K H0 F O Γ σ H) {p:Addr} (h:H p=none):¬ O p:=fun o=>by
 obtain ⟨xs,q⟩:=S.own p o
 rw [h] at q; cases q
theorem Sta.back {α:Type} [Py α] {b:Bool} {v:V} {a:α} (S:Sta K H0 F O Γ σ H) (h:Py.rp K (Nf H b) (off H' O) v a):Py.rp K (Nf H0 b) (off H' O) v a :=
 rp_wid (fun p xs n=>by cases b with | true=>exact ⟨S.free0 n.1,n.2⟩ | false=>exact True.intro) h
end
theorem get_set_ne.{u} {α:Type u} {l:List α} {i j:Nat} {a:α} (h:j≠i):(l.set i a)[j]?=l[j]?:=by
 rw [List.getElem?_set_ne (Ne.symm h)]
theorem get_set_eq.{u} {α:Type u} {l:List α} {i:Nat} {a:α} (h:i < l.length):(l.set i a)[i]?=some a:=by
 rw [List.getElem?_set_self h]
theorem get_set_some.{u} {α:Type u} {l:List (Option α)} {i:Nat} {a x:α} (h:(l.set i (some a))[i]?=some (some x)):i < l.length∧a=x:=by
 by_cases hl:i < l.length
 ·rw [get_set_eq hl] at h
  injection h with h; injection h with h
  exact ⟨hl,h⟩
 ·rw [List.getElem?_eq_none (by rw [List.length_set]; omega)] at h; cases h
theorem Sta.set {K:PySem.W.Frag} {H0:Hp} {F O:Addr→Prop} {Γ:GEnv} {σ:St} {H:Hp} {α:Type} [Py α] {b:Bool} {a:α} {v:V} {i:Nat} (S:Sta K H0 F O Γ σ H) (r:Py.rp K (Nf H0 b) (off H O) v a) :
  Sta K H0 F O (Γ.set i (some (.val b a))) (σ.set i (some v)) H where
 same:=S.same
 fo:=S.fo
 f0:=S.f0
 own:=S.own
 len:=by rw [List.length_set,List.length_set]; exact S.len
 at_:=fun j g e n=>by
  by_cases hj:j=i
  ·subst hj
   obtain ⟨hl,e'⟩:=get_set_some e
   subst e'
   exact ⟨v,get_set_eq (by rw [S.len]; exact hl),r⟩
  ·rw [get_set_ne hj] at e
   obtain ⟨w,q,z⟩:=S.at_ j g e n
   exact ⟨w,by rw [get_set_ne hj]; exact q,z⟩
 dis:=by
  obtain ⟨D,d1,d2,d3⟩:=S.dis
  refine ⟨D,d1,d2,fun j g e o=>?_⟩
  have hj:j≠i:=by
   rintro rfl
   obtain ⟨_,e'⟩:=get_set_some e
   subst e'; exact o
  rw [get_set_ne hj] at e
  obtain ⟨w,q,z⟩:=d3 j g e o
  exact ⟨w,by rw [get_set_ne hj]; exact q,z⟩
def tV {α:Type} [Py α] (K:PySem.W.Frag) (Γ:GEnv) (b:Bool) (a:α):TE:=fun σ H Q=>∃ H0 F O,Sta K H0 F O Γ σ H∧∀ v H',Same H H'→Py.rp K (Nf H0 b) (off H' O) v a→Q v H'
@[irreducible] def E {α:Type} [Py α] (X:Cx) (Γ:GEnv) (e:Expr) (b:Bool) (a:α):Prop:=PE X e (tV X.K Γ b a)
def tVT (K:PySem.W.Frag) (Γ:GEnv) (c:Bool):TT:=fun σ H Q=>∃ H0 F O,Sta K H0 F O Γ σ H∧∀ H',Same H H'→Q c H'
@[irreducible] def T (X:Cx) (Γ:GEnv) (e:Expr) (c:Bool):Prop:=PT X e (tVT X.K Γ c)
@[irreducible] def TW (X:Cx) (Γ:GEnv) (e:Expr) (c:Bool):Prop:=PW X e (tVT X.K Γ c)
theorem pe_wk {X:Cx} {e:Expr} {t t':TE} (h:PE X e t) (w:∀ σ H Q,t' σ H Q→t σ H Q):PE X e t':=fun pins s σ H Q I q=>h pins s σ H Q I (w _ _ _ q)
theorem pt_wk {X:Cx} {e:Expr} {t t':TT} (h:PT X e t) (w:∀ σ H Q,t' σ H Q→t σ H Q):PT X e t':=fun pins s σ H Q I q=>h pins s σ H Q I (w _ _ _ q)
theorem pw_wk {X:Cx} {e:Expr} {t t':TT} (h:PW X e t) (w:∀ σ H Q,t' σ H Q→t σ H Q):PW X e t':=fun wh pins s σ H Q I q=>h wh pins s σ H Q I (w _ _ _ q)
section
variable {X:Cx} {Γ:GEnv} {α β γ:Type} [Py α] [Py β] [Py γ] {e e1 e2 e3:Expr} {b b1 b2 b3:Bool} {pos:Pos}
theorem E.wk {a:α} (h:E X Γ e b a) (l:b'=true→b=true):E X Γ e b' a:=by
 with_unfolding_all
  exact pe_wk h fun σ H Q ⟨H0,F,O,S,q⟩=>⟨H0,F,O,S,fun v H' s r=>q v H' s (rp_wid (fun _ _ n=>Nf.le l n) r)⟩
theorem e_var (i:Nat) {a:α} {x:Str} (h:Γ[i]?=some (some (.val b a)):=by rfl) (hN:X.N[i]?=some x:=by rfl) (hv:Vis X.env.scope x:=by first | exact Or.inl rfl | exact Or.inr (Or.inl rfl) | exact Or.inr (Or.inr rfl))
  (hd:(x == ("__debug__":Str))=false:=by decide) (hcd:(x == ("__classdict__":Str))=false:=by decide):E X Γ (.Name x pos) b a:=by
 with_unfolding_all
  exact pe_wk (pv i hN hv hd hcd) fun σ H Q ⟨H0,F,O,S,q⟩=>by
    obtain ⟨v,h1,h2⟩:=S.at_ i _ h (fun z=>z)
    exact ⟨v,h1,q v H (Same.refl _) h2⟩
theorem e_int {i:Int} {j:Nat}:E X Γ (.Constant (.int i) j pos) true i:=by
 with_unfolding_all
  exact pe_wk pe_int fun σ H Q ⟨H0,F,O,S,q⟩=>q _ H (Same.refl _) rfl
theorem e_bl {i:Bool} {j:Nat}:E X Γ (.Constant (.bool i) j pos) true i:=by
 with_unfolding_all
  exact pe_wk pe_bl fun σ H Q ⟨H0,F,O,S,q⟩=>q _ H (Same.refl _) rfl
theorem e_non {j:Nat}:E X Γ (.Constant .none j pos) true (none:Option α):=by
 with_unfolding_all
  exact pe_wk pe_non fun σ H Q ⟨H0,F,O,S,q⟩=>q _ H (Same.refl _) rfl
theorem E.some {a:α} (h:E X Γ e b a):E X Γ e b (some a):=by
 with_unfolding_all
  exact pe_wk h fun σ H Q ⟨H0,F,O,S,q⟩=>⟨H0,F,O,S,fun v H' s r=>q v H' s r⟩
theorem e_ii {op:Operator} {C:Int→Int→Prop} {g:Int→Int→Int} {i j:Int} (ho:OpR X (binaryOp op) (rI C fun i j=>.int (g i j))) (ha:E X Γ e1 b1 i) (hb:E X Γ e2 b2 j) (hc:C i j):E X Γ (.BinOp e1 op e2 pos) true (g i j):=by
 with_unfolding_all
  exact pe_wk (pe_op ho ha hb) fun σ H Q ⟨H0,F,O,S,q⟩=>⟨H0,F,O,S,fun v H1 s1 r1=>⟨H0,F,O,S.go s1,fun w H2 s2 r2=>⟨i,j,r1,r2,hc,q _ H2 (s1.trans s2) rfl⟩⟩⟩
theorem e_add {i j:Int} (ha:E X Γ e1 b1 i) (hb:E X Γ e2 b2 j):E X Γ (.BinOp e1 .Add e2 pos) true (i + j):=by
 with_unfolding_all
  exact e_ii (C:=fun _ _=>True) (fun pins s σ H x y v u Q I rx ry ⟨i,j,h1,h2,_,q⟩=>op_add pins s σ H x y v u Q I rx ry ⟨i,j,h1,h2,q⟩) ha hb True.intro
theorem e_sub {i j:Int} (ha:E X Γ e1 b1 i) (hb:E X Γ e2 b2 j):E X Γ (.BinOp e1 .Sub e2 pos) true (i - j):=by
 with_unfolding_all
  exact e_ii (C:=fun _ _=>True) (fun pins s σ H x y v u Q I rx ry ⟨i,j,h1,h2,_,q⟩=>op_sub pins s σ H x y v u Q I rx ry ⟨i,j,h1,h2,q⟩) ha hb True.intro
theorem e_mul {i j:Int} (ha:E X Γ e1 b1 i) (hb:E X Γ e2 b2 j) (hc:IntMulOk i j):E X Γ (.BinOp e1 .Mult e2 pos) true (i * j):=by
 with_unfolding_all
  exact e_ii op_mulK ha hb hc
theorem e_fdiv {i j:Int} (ha:E X Γ e1 b1 i) (hb:E X Γ e2 b2 j) (hc:CDivK i j):E X Γ (.BinOp e1 .FloorDiv e2 pos) true (i.fdiv j):=by
 with_unfolding_all
  exact e_ii op_fdivK ha hb hc
theorem e_mod {i j:Int} (ha:E X Γ e1 b1 i) (hb:E X Γ e2 b2 j) (hc:j≠0):E X Γ (.BinOp e1 .Mod e2 pos) true (i.fmod j):=by
 with_unfolding_all
  exact e_ii op_modN ha hb hc
theorem e_pow {i j:Int} (ha:E X Γ e1 b1 i) (hb:E X Γ e2 b2 j) (hc:CPow i j):E X Γ (.BinOp e1 .Pow e2 pos) true (i ^ j.toNat):=by
 with_unfolding_all
  exact e_ii op_pow ha hb hc
theorem e_neg {i:Int} (ha:E X Γ e1 b1 i):E X Γ (.UnaryOp .USub e1 pos) true (-i):=by
 with_unfolding_all
  exact pe_wk (pe_un un_neg ha) fun σ H Q ⟨H0,F,O,S,q⟩=>⟨H0,F,O,S,fun v H1 s1 r1=>⟨i,r1,q _ H1 s1 rfl⟩⟩
def CV (X:Cx) (op:CmpOp) (x:α) (y:β) (c:Bool):Prop:=∃ r,OpR X (compareOp op) r∧∀ (N N':Nn) (H:Hp) (u v:V) (Q:VK),Py.rp X.K N H u x→Py.rp X.K N' H v y→Q (.bl c) H→r u v H Q
theorem cv_ii {op:CmpOp} {g:Int→Int→Bool} (ho:OpR X (compareOp op) (rI0 fun i j=>.bl (g i j))) (i j:Int):CV X op i j (g i j):=⟨_,ho,fun N N' H u v Q h1 h2 q=>⟨i,j,h1,h2,q⟩⟩
theorem cv_lt {i j:Int}:CV X .Lt i j (decide (i < j)):=cv_ii op_lt i j
theorem cv_le {i j:Int}:CV X .LtE i j (decide (i≤j)):=cv_ii op_le i j
theorem cv_gt {i j:Int}:CV X .Gt i j (decide (j < i)):=cv_ii op_gt i j
theorem cv_ge {i j:Int}:CV X .GtE i j (decide (j≤i)):=cv_ii op_ge i j
theorem cv_eqI {i j:Int}:CV X .Eq i j (decide (i=j)):=⟨_,op_eq,fun N N' H u v Q h1 h2 q=>by
 cases h1; cases h2
 refine ⟨rfl,?_⟩
 rw [dec_int,Bool.beq_eq_decide_eq]; exact q⟩
theorem cv_neI {i j:Int}:CV X .NotEq i j (!decide (i=j)):=⟨_,op_ne,fun N N' H u v Q h1 h2 q=>by
 cases h1; cases h2
 refine ⟨rfl,?_⟩
 rw [dec_int,Bool.beq_eq_decide_eq]; exact q⟩
theorem cv_eq {α:Type} [PyD α] [DecidableEq α] {x y:α} (hu:X.A.units + 60 < cLine) (hd:PyD.dep α≤60:=by decide):CV X .Eq x y (decide (x=y)):=⟨_,op_eqD hu,fun N N' H u v Q h1 h2 q=>by
 refine ⟨_,_,PyD.dr h1,PyD.dr h2,PyD.lay _,PyD.lay _,Nat.le_trans (PyD.depth _) hd,?_⟩
 have e:PyData.eqv (PyD.dat x) (PyD.dat y)=decide (x=y):=by
  by_cases h:x=y
  ·rw [decide_eq_true h]; exact (PyD.eqv x y).mpr h
  ·rw [decide_eq_false h]; exact Bool.eq_false_iff.mpr fun z=>h ((PyD.eqv x y).mp z)
 rw [e]; exact q⟩
theorem cv_ne {α:Type} [PyD α] [DecidableEq α] {x y:α} (hu:X.A.units + 60 < cLine) (hd:PyD.dep α≤60:=by decide):CV X .NotEq x y (!decide (x=y)):=⟨_,op_neD hu,fun N N' H u v Q h1 h2 q=>by
 refine ⟨_,_,PyD.dr h1,PyD.dr h2,PyD.lay _,PyD.lay _,Nat.le_trans (PyD.depth _) hd,?_⟩
 have e:PyData.eqv (PyD.dat x) (PyD.dat y)=decide (x=y):=by
  by_cases h:x=y
  ·rw [decide_eq_true h]; exact (PyD.eqv x y).mpr h
  ·rw [decide_eq_false h]; exact Bool.eq_false_iff.mpr fun z=>h ((PyD.eqv x y).mp z)
 rw [e]; exact q⟩
theorem e_cmp {op:CmpOp} {x:α} {y:β} {c:Bool} (hc:CV X op x y c) (ha:E X Γ e1 b1 x) (hb:E X Γ e2 b2 y) (hm:behindInMarks op e2=false:=by first | exact nomark _ | rfl):E X Γ (.Compare e1 [op] [e2] pos) true c:=by
 with_unfolding_all
  obtain ⟨r,ho,hr⟩:=hc
  exact pe_wk (pe_cmpR ho ha hb hm) fun σ H Q ⟨H0,F,O,S,q⟩=>⟨H0,F,O,S,fun v H1 s1 r1=>⟨H0,F,O,S.go s1,fun w H2 s2 r2 =>
   hr _ _ H2 v w _ (rp_mono ((off_mono s2).trans (off_same _ _)) r1) (rp_mono (off_same _ _) r2) (q _ H2 (s1.trans s2) rfl)⟩⟩
theorem t_cmp {op:CmpOp} {x:α} {y:β} {c:Bool} (hc:CV X op x y c) (ha:E X Γ e1 b1 x) (hb:E X Γ e2 b2 y) (hm:behindInMarks op e2=false:=by first | exact nomark _ | rfl):T X Γ (.Compare e1 [op] [e2] pos) c:=by
 with_unfolding_all
  obtain ⟨r,ho,hr⟩:=hc
  exact pt_wk (pt_cmpR ho ha hb hm) fun σ H Q ⟨H0,F,O,S,q⟩=>⟨H0,F,O,S,fun v H1 s1 r1=>⟨H0,F,O,S.go s1,fun w H2 s2 r2 =>
   hr _ _ H2 v w _ (rp_mono ((off_mono s2).trans (off_same _ _)) r1) (rp_mono (off_same _ _) r2) ⟨c,rfl,q H2 (s1.trans s2)⟩⟩⟩
theorem e_isN {x:Option α} {j:Nat} {p:Pos} (ha:E X Γ e1 b1 x) (hx:∀ (K:PySem.W.Frag) (N:Nn) (H:Hp) (a:α),¬ Py.rp K N H .non a):E X Γ (.Compare e1 [.Is] [.Constant .none j p] pos) true x.isNone:=by
 with_unfolding_all
  exact pe_wk (pe_cmp (pc_isN ha)) fun σ H Q ⟨H0,F,O,S,q⟩=>⟨H0,F,O,S,fun v H1 s1 r1=>by
    have:=q (.bl (decide (v=.non))) H1 s1
    refine this ?_
    cases x with
    | none=>cases r1; rfl
    | some a =>
     have hv:v≠.non:=by rintro rfl; exact hx _ _ _ a r1
     show V.bl (decide (v=.non))=.bl false
     rw [decide_eq_false hv]⟩
theorem t_val {c:Bool} (h:E X Γ e b c) (he:∀ whole,isTrue e X.env whole=(do let v ← whole; standAt e.pos; holding [v] (truthy v)):=by intro _; rfl):T X Γ e c:=by
 with_unfolding_all
  exact pt_wk (pt_val h he) fun σ H Q ⟨H0,F,O,S,q⟩=>⟨H0,F,O,S,fun v H1 s1 r1=>⟨c,r1,q H1 s1⟩⟩
theorem t_not {c:Bool} (h:T X Γ e c):T X Γ (.UnaryOp .Not e pos) (!c):=by
 with_unfolding_all
  exact pt_wk (pt_not h) fun σ H Q ⟨H0,F,O,S,q⟩=>⟨H0,F,O,S,fun H1 s1=>q H1 s1⟩
variable {rest:List Expr}
theorem tw_and1 {c:Bool} (h:T X Γ e c):TW X Γ (.BoolOp .And [e] pos) c:=by
 with_unfolding_all
  exact pw_and1 h
theorem tw_or1 {c:Bool} (h:T X Γ e c):TW X Γ (.BoolOp .Or [e] pos) c:=by
 with_unfolding_all
  exact pw_or1 h
theorem pw_no:PW X e (fun _ _ _=>False):=fun _ _ _ _ _ _ _ h=>h.elim
theorem pe_no:PE X e (fun _ _ _=>False):=fun _ _ _ _ _ _ h=>h.elim
theorem tw_and {c c':Bool} (h:T X Γ e1 c) (h':c=true→TW X Γ (.BoolOp .And (e2 :: rest) pos) c'):TW X Γ (.BoolOp .And (e1 :: e2 :: rest) pos) (c && c'):=by
 with_unfolding_all
  cases c with
  | true=>exact pw_wk (pw_and h (h' rfl)) fun σ H Q ⟨H0,F,O,S,q⟩=>⟨H0,F,O,S,fun H1 s1=>iteT ⟨H0,F,O,S.go s1,fun H2 s2=>q H2 (s1.trans s2)⟩⟩
  | false=>exact pw_wk (pw_and h pw_no) fun σ H Q ⟨H0,F,O,S,q⟩=>⟨H0,F,O,S,fun H1 s1=>iteF (q H1 s1)⟩
theorem tw_or {c c':Bool} (h:T X Γ e1 c) (h':c=false→TW X Γ (.BoolOp .Or (e2 :: rest) pos) c'):TW X Γ (.BoolOp .Or (e1 :: e2 :: rest) pos) (c || c'):=by
 with_unfolding_all
  cases c with
  | false=>exact pw_wk (pw_or h (h' rfl)) fun σ H Q ⟨H0,F,O,S,q⟩=>⟨H0,F,O,S,fun H1 s1=>iteF ⟨H0,F,O,S.go s1,fun H2 s2=>q H2 (s1.trans s2)⟩⟩
  | true=>exact pw_wk (pw_or h pw_no) fun σ H Q ⟨H0,F,O,S,q⟩=>⟨H0,F,O,S,fun H1 s1=>iteT (q H1 s1)⟩
theorem TW.t {c:Bool} (h:TW X Γ e c):T X Γ e c:=by
 with_unfolding_all
  exact h.pt
theorem e_one {op:BoolOp} {a:α} (h:E X Γ e b a):E X Γ (.BoolOp op [e] pos) b a:=by
 with_unfolding_all
  exact pe_one h
theorem e_and {c c':Bool} (h:E X Γ e1 b1 c) (h':c=true→E X Γ (.BoolOp .And (e2 :: rest) pos) b2 c'):E X Γ (.BoolOp .And (e1 :: e2 :: rest) pos) true (c && c'):=by
 with_unfolding_all
  cases c with
  | true=>exact pe_wk (pe_and h (h' rfl)) fun σ H Q ⟨H0,F,O,S,q⟩=>⟨H0,F,O,S,fun v H1 s1 r1=>⟨true,r1,iteT ⟨H0,F,O,S.go s1,fun w H2 s2 r2=>q w H2 (s1.trans s2) r2⟩⟩⟩
  | false=>exact pe_wk (pe_and h pe_no) fun σ H Q ⟨H0,F,O,S,q⟩=>⟨H0,F,O,S,fun v H1 s1 r1=>⟨false,r1,iteF (q _ H1 s1 rfl)⟩⟩
theorem e_or {c c':Bool} (h:E X Γ e1 b1 c) (h':c=false→E X Γ (.BoolOp .Or (e2 :: rest) pos) b2 c'):E X Γ (.BoolOp .Or (e1 :: e2 :: rest) pos) true (c || c'):=by
 with_unfolding_all
  cases c with
  | false=>exact pe_wk (pe_or h (h' rfl)) fun σ H Q ⟨H0,F,O,S,q⟩=>⟨H0,F,O,S,fun v H1 s1 r1=>⟨false,r1,iteF ⟨H0,F,O,S.go s1,fun w H2 s2 r2=>q w H2 (s1.trans s2) r2⟩⟩⟩
  | true=>exact pe_wk (pe_or h pe_no) fun σ H Q ⟨H0,F,O,S,q⟩=>⟨H0,F,O,S,fun v H1 s1 r1=>⟨true,r1,iteT (q _ H1 s1 rfl)⟩⟩
theorem e_not {c:Bool} (h:E X Γ e b c):E X Γ (.UnaryOp .Not e pos) true (!c):=by
 with_unfolding_all
  exact pe_wk (pe_not h) fun σ H Q ⟨H0,F,O,S,q⟩=>⟨H0,F,O,S,fun v H1 s1 r1=>⟨c,r1,q _ H1 s1 rfl⟩⟩
theorem e_if {c:Bool} {x y:α} (hc:T X Γ e c) (ha:c=true→E X Γ e1 b x) (hb:c=false→E X Γ e2 b y):E X Γ (.IfExp e e1 e2 pos) b (if c then x else y):=by
 with_unfolding_all
  cases c with
  | true=>exact pe_wk (pe_ifExp hc (ha rfl) pe_no) fun σ H Q ⟨H0,F,O,S,q⟩=>⟨H0,F,O,S,fun H1 s1=>iteT ⟨H0,F,O,S.go s1,fun w H2 s2 r2=>q w H2 (s1.trans s2) r2⟩⟩
  | false=>exact pe_wk (pe_ifExp hc pe_no (hb rfl)) fun σ H Q ⟨H0,F,O,S,q⟩=>⟨H0,F,O,S,fun H1 s1=>iteF ⟨H0,F,O,S.go s1,fun w H2 s2 r2=>q w H2 (s1.trans s2) r2⟩⟩
theorem nf_and1 {H0 H:Hp} {p:Addr} {xs:Mt} (h:(Nf H0 b1).has H p xs):(Nf H0 (b1 && b2)).has H p xs:=Nf.le (fun z=>(Bool.and_eq_true_iff.mp z).1) h
theorem nf_and2 {H0 H:Hp} {p:Addr} {xs:Mt} (h:(Nf H0 b2).has H p xs):(Nf H0 (b1 && b2)).has H p xs:=Nf.le (fun z=>(Bool.and_eq_true_iff.mp z).2) h
theorem laid_tup {K:PySem.W.Frag} {H0 H:Hp} {F O:Addr→Prop} {Γ:GEnv} {σ:St} {p:Addr} {xs:List V} (S:Sta K H0 F O Γ σ H) (hp:H p=none):Same H (upd H p (.tup xs))∧Rt (off (upd H p (.tup xs)) O) p xs:=by
 with_unfolding_all
  exact ⟨same_upd hp _,.inl (by rw [off_get (S.notOwn hp)]; exact upd_same)⟩
theorem laid_lst {K:PySem.W.Frag} {H0 H:Hp} {F O:Addr→Prop} {Γ:GEnv} {σ:St} {p:Addr} {xs:List V} (S:Sta K H0 F O Γ σ H) (hp:H p=none):Same H (upd H p (.lst xs))∧off (upd H p (.lst xs)) O p=some (.lst xs):=by
 with_unfolding_all
  exact ⟨same_upd hp _,by rw [off_get (S.notOwn hp)]; exact upd_same⟩
theorem e_tup2 {x:α} {y:β} {k:Nat} (ha:E X Γ e1 b1 x) (hb:E X Γ e2 b2 y) (hs:starEach [e1,e2] X.env=(false,eval e1 X.env) :: starEach [e2] X.env:=by rfl) (hs2:starEach [e2] X.env=(false,eval e2 X.env) :: starEach [] X.env:=by rfl) :
  E X Γ (.Tuple [e1,e2] k pos) (b1 && b2) (x,y):=by
 with_unfolding_all
  exact pe_wk (pe_tup (pa_cons ha (pa_cons hb pa_nil hs2) hs)) fun σ H Q ⟨H0,F,O,S,q⟩=>⟨H0,F,O,S,fun v H1 s1 r1=>⟨H0,F,O,S.go s1,fun w H2 s2 r2=>⟨by show 2≤sizeLine; decide,fun p hp=>by
    obtain ⟨z1,z2⟩:=laid_tup (xs:=[v,w]) ((S.go s1).go s2) hp
    refine q _ _ (s1.trans (s2.trans z1)) ⟨p,v,w,rfl,z2,?_,?_⟩
    ·exact rp_wid (fun _ _ n=>nf_and1 n) (rp_mono ((off_mono s2).trans (off_mono z1)) r1)
    ·exact rp_wid (fun _ _ n=>nf_and2 n) (rp_mono (off_mono z1) r2)⟩⟩⟩
@[irreducible] def EA (X:Cx) (Γ:GEnv) (es:List Expr) (b:Bool) (as:List α):Prop :=
 PA X es fun σ H Q=>∃ H0 F O,Sta X.K H0 F O Γ σ H∧∀ vs H',Same H H'→Paired (fun x a=>Py.rp X.K (Nf H0 b) (off H' O) x a) vs as→Q vs H'
theorem pa_wk {X:Cx} {es:List Expr} {t t':TA} (h:PA X es t) (w:∀ σ H Q,t' σ H Q→t σ H Q):PA X es t':=fun p pins s σ H Q I q=>h p pins s σ H Q I (w _ _ _ q)
theorem ea_nil:EA X Γ [] b ([]:List α):=by
 with_unfolding_all
  exact pa_wk pa_nil fun σ H Q ⟨H0,F,O,S,q⟩=>q [] H (Same.refl _) .nil
theorem ea_cons {es:List Expr} {a:α} {as:List α} (h:E X Γ e b a) (h':EA X Γ es b as) (hs:starEach (e :: es) X.env=(false,eval e X.env) :: starEach es X.env:=by rfl):EA X Γ (e :: es) b (a :: as):=by
 with_unfolding_all
  exact pa_wk (pa_cons h h' hs) fun σ H Q ⟨H0,F,O,S,q⟩=>⟨H0,F,O,S,fun v H1 s1 r1=>⟨H0,F,O,S.go s1,fun vs H2 s2 r2=>q _ H2 (s1.trans s2) (.cons (rp_mono (off_mono s2) r1) r2)⟩⟩
theorem e_lst {es:List Expr} {as:List α} (h:EA X Γ es b as) (hl:as.length≤1000):E X Γ (.List es pos) b as:=by
 with_unfolding_all
  exact pe_wk (pe_lst h) fun σ H Q ⟨H0,F,O,S,q⟩=>⟨H0,F,O,S,fun vs H1 s1 r1=>⟨by rw [pr_len r1]; exact Nat.le_of_lt (small1000 hl),fun p hp=>by
    obtain ⟨z1,z2⟩:=laid_lst (xs:=vs) (S.go s1) hp
    exact q _ _ (s1.trans z1) ⟨p,vs,rfl,SqL.of z2,Nf.wk ((S.go s1).free0 hp) z2,pr_imp (fun _ _ r=>rp_mono (off_mono z1) r) r1⟩⟩⟩
theorem e_ixL {xs:List α} {i:Int} {a:α} (ha:E X Γ e1 b xs) (hb:E X Γ e2 b2 i) (h:atI xs i=some a) (hs:PlainIx e2:=by intro _ _; rfl):E X Γ (.Subscript e1 e2 pos) b a:=by
 with_unfolding_all
  exact pe_wk (pe_ix ix_list ha hb hs) fun σ H Q ⟨H0,F,O,S,q⟩=>⟨H0,F,O,S,fun v H1 s1 r1=>⟨H0,F,O,S.go s1,fun w H2 s2 r2=>by
    obtain ⟨p,vs,e,sq,n,r⟩:=r1
    obtain ⟨j,h1,h2,h3,h4,h5⟩:=atI_get h
    obtain ⟨x,g1,g2⟩:=pr_get r h2
    refine ⟨p,vs,i,x,e,r2,(off_same _ _).seq ((off_mono s2).seq sq),?_,q x H2 (s1.trans s2) (rp_mono (off_mono s2) g2)⟩
    unfold atI at h ⊢
    rw [pr_len r]
    cases hx:ixN xs.length i with
    | none=>rw [hx] at h; cases h
    | some k =>
     have hk:=(ixN_seq hx).1
     rw [h1] at hk; cases hk
     exact g1⟩⟩
theorem e_fst {u:α × β} {j:Nat} {p':Pos} (ha:E X Γ e1 b u):E X Γ (.Subscript e1 (.Constant (.int 0) j p') pos) b u.1:=by
 with_unfolding_all
  exact pe_wk (pe_ix ix_tup ha e_int (fun _ _=>rfl)) fun σ H Q ⟨H0,F,O,S,q⟩=>⟨H0,F,O,S,fun v H1 s1 r1=>⟨H0,F,O,S.go s1,fun w H2 s2 r2=>by
    obtain ⟨p,u,w',e,sq,g1,g2⟩:=r1
    exact ⟨p,_,0,u,e,r2,sqT_rd (off_same _ _) (Same.rt (off_mono s2) sq),rfl,q u H2 (s1.trans s2) (rp_mono (off_mono s2) g1)⟩⟩⟩
theorem e_snd {u:α × β} {j:Nat} {p':Pos} (ha:E X Γ e1 b u):E X Γ (.Subscript e1 (.Constant (.int 1) j p') pos) b u.2:=by
 with_unfolding_all
  exact pe_wk (pe_ix ix_tup ha e_int (fun _ _=>rfl)) fun σ H Q ⟨H0,F,O,S,q⟩=>⟨H0,F,O,S,fun v H1 s1 r1=>⟨H0,F,O,S.go s1,fun w H2 s2 r2=>by
    obtain ⟨p,u,w',e,sq,g1,g2⟩:=r1
    exact ⟨p,_,1,w',e,r2,sqT_rd (off_same _ _) (Same.rt (off_mono s2) sq),rfl,q w' H2 (s1.trans s2) (rp_mono (off_mono s2) g2)⟩⟩⟩
theorem e_abs {i:Int} {p:Pos} (hg:Gl X "abs") (hm:X.mg "abs"=none) (ha:E X Γ e b i) (hs:starEach [e] X.env=(false,eval e X.env) :: starEach [] X.env:=by rfl):E X Γ (.Call (.Name "abs" p) [e] [] pos) true (if i < 0 then -i else i):=by
 with_unfolding_all
  exact pe_wk (pe_callB call_abs hg hm boot_abs (pa_cons ha pa_nil hs) (he:=hs)) fun σ H Q ⟨H0,F,O,S,q⟩=>⟨H0,F,O,S,fun v H1 s1 r1=>⟨i,by cases r1; rfl,q _ H1 s1 rfl⟩⟩
theorem e_min {i j:Int} {p:Pos} (hc:X.calm=true) (hg:Gl X "min") (hm:X.mg "min"=none) (ha:E X Γ e1 b1 i) (hb:E X Γ e2 b2 j) (hs:starEach [e1,e2] X.env=(false,eval e1 X.env) :: starEach [e2] X.env:=by rfl) (hs2:starEach [e2] X.env=(false,eval e2 X.env) :: starEach [] X.env:=by rfl) (hpl:(backTo pos (starEach [e2] X.env)).any (·.1)=false:=by rfl) :
  E X Γ (.Call (.Name "min" p) [e1,e2] [] pos) true (if j < i then j else i):=by
 with_unfolding_all
  exact pe_wk (pe_callB (call_min2 hc) hg hm boot_min (pa_cons ha (pa_cons hb pa_nil hs2) hs) (he:=hs) (hpl:=hpl)) fun σ H Q ⟨H0,F,O,S,q⟩=>⟨H0,F,O,S,fun v H1 s1 r1=>⟨H0,F,O,S.go s1,fun w H2 s2 r2=>⟨i,j,by cases r1; cases r2; rfl,q _ H2 (s1.trans s2) rfl⟩⟩⟩
theorem e_lenL {xs:List α} {p:Pos} (hg:Gl X "len") (hm:X.mg "len"=none) (ha:E X Γ e b xs) (hs:starEach [e] X.env=(false,eval e X.env) :: starEach [] X.env:=by rfl):E X Γ (.Call (.Name "len" p) [e] [] pos) true (xs.length:Int):=by
 with_unfolding_all
  exact pe_wk (pe_callB call_len_seq hg hm PySem.boot_len (pa_cons ha pa_nil hs) (he:=hs)) fun σ H Q ⟨H0,F,O,S,q⟩=>⟨H0,F,O,S,fun v H1 s1 r1=>by
    obtain ⟨p,vs,e,sq,n,r⟩:=r1
    refine ⟨p,vs,by rw [e],.inl ((off_same _ _).seq sq),q _ H1 s1 ?_⟩
    show V.int _=V.int _
    rw [pr_len r]⟩
end
structure GD where
 nx:GEnv→Prop
 rt:Bd→Prop
 bk:GEnv→Prop:=fun _=>False
 ct:GEnv→Prop:=fun _=>False
def Bd.okR (K:PySem.W.Frag) (H0:Hp) (F:Addr→Prop) (H:Hp) (v:V):Bd→Prop
 | @Bd.val _ _ b a=>Py.rp K (Nf H0 b) (off H F) v a
 | @Bd.own _ _ _ _=>False
 | @Bd.dpo _ _ _=>False
def tG (K:PySem.W.Frag) (Γ:GEnv) (D:GD):TS:=fun De σ H=>∃ H0 F O,Sta K H0 F O Γ σ H ∧
 (∀ Γ' σ' H' O',Same (off H O) (off H' O')→Sta K H0 F O' Γ' σ' H'→D.nx Γ'→De.nx σ' H') ∧
 (∀ g v H',Same H0 H'→Bd.okR K H0 F H' v g→D.rt g→De.rt v H') ∧
 (∀ Γ' σ' H' O',Same (off H O) (off H' O')→Sta K H0 F O' Γ' σ' H'→D.bk Γ'→De.bk σ' H') ∧
 (∀ Γ' σ' H' O',Same (off H O) (off H' O')→Sta K H0 F O' Γ' σ' H'→D.ct Γ'→De.ct σ' H')
@[irreducible] def S (X:Cx) (Γ:GEnv) (st:List Stmt) (D:GD):Prop:=PSs X st (tG X.K Γ D)
@[irreducible] def S1 (X:Cx) (Γ:GEnv) (st:Stmt) (D:GD):Prop:=PS X st (tG X.K Γ D)
theorem ps_wk {X:Cx} {st:Stmt} {t t':TS} (h:PS X st t) (w:∀ D σ H,t' D σ H→t D σ H):PS X st t':=fun pins s σ H D I q=>h pins s σ H D I (w _ _ _ q)
theorem pss_wk {X:Cx} {st:List Stmt} {t t':TS} (h:PSs X st t) (w:∀ D σ H,t' D σ H→t D σ H):PSs X st t':=fun pins s σ H D I q=>h pins s σ H D I (w _ _ _ q)
section
variable {X:Cx} {Γ:GEnv} {D:GD} {α β γ:Type} [Py α] [Py β] [Py γ] {e e1 e2 e3:Expr} {b b1 b2 b3:Bool} {pos:Pos} {st:Stmt} {rest body orelse:List Stmt}
theorem s_nil (h:D.nx Γ):S X Γ [] D:=by
 with_unfolding_all
  exact pss_wk pss_nil fun De σ H ⟨H0,F,O,Z,n,_⟩=>n Γ σ H O (Same.refl _) Z h
theorem pss_some {X:Cx} {st:List Stmt} {ι:Type 1} {P:ι→Prop} {t:ι→TS} (h:∀ i,P i→PSs X st (t i)):PSs X st (fun D σ H=>∃ i,P i∧t i D σ H):=fun pins s σ H D I ⟨i,p,q⟩=>h i p pins s σ H D I q
theorem s_seq (h:S1 X Γ st { D with nx:=fun Γ'=>S X Γ' rest D }):S X Γ (st :: rest) D:=by
 with_unfolding_all
  exact pss_wk (pss_cons h (pss_some (ι:=GEnv) (P:=fun Γ'=>S X Γ' rest D) (t:=fun Γ'=>tG X.K Γ' D) fun _ q=>q)) fun De σ H ⟨H0,F,O,Z,n,r,bk,ct⟩ =>
    ⟨H0,F,O,Z,fun Γ' σ' H' O' sm Z' q=>⟨Γ',q,H0,F,O',Z',fun Γ2 σ2 H2 O2 sm2 Z2 q2=>n Γ2 σ2 H2 O2 (sm.trans sm2) Z2 q2,r,fun Γ2 σ2 H2 O2 sm2 Z2 q2=>bk Γ2 σ2 H2 O2 (sm.trans sm2) Z2 q2,
     fun Γ2 σ2 H2 O2 sm2 Z2 q2=>ct Γ2 σ2 H2 O2 (sm.trans sm2) Z2 q2⟩,r,bk,ct⟩
theorem s_asg (i:Nat) {x:Str} {a:α} {p:Pos} (hN:X.N.Nodup) (he:E X Γ e b a) (h:S X (Γ.set i (some (.val b a))) rest D) (hi:X.N[i]?=some x:=by rfl) (hx:Loc X.env.scope x:=by first | exact Or.inl rfl | exact Or.inr rfl)
  (hs:swapsWith e (some (.Name x p)) pos.line X.env=pure false:=by rfl) (hf:X.fn x=true∨X.env.scope.names.lookup x=some .local:=by first | exact .inl rfl | exact .inr rfl):S X Γ (.Assign [.Name x p] e pos :: rest) D:=by
 with_unfolding_all
  exact s_seq (ps_wk (ps_set hN hi hx he hs hf) fun De σ H ⟨H0,F,O,Z,n,_⟩=>⟨H0,F,O,Z,fun v H1 s1 r1=>n _ _ H1 O (off_mono s1) ((Z.go s1).set r1) h⟩)
theorem s_expr {a:α} (he:E X Γ e b a) (h:S X Γ rest D) (hs:swapsWith e none pos.line X.env=pure false:=by rfl):S X Γ (.Expr e pos :: rest) D:=by
 with_unfolding_all
  exact s_seq (ps_wk (ps_expr he hs) fun De σ H ⟨H0,F,O,Z,n,_⟩=>⟨H0,F,O,Z,fun v H1 s1 r1=>n Γ σ H1 O (off_mono s1) (Z.go s1) h⟩)
theorem s_ret {a:α} (he:E X Γ e b a) (h:D.rt (.val b a)):S X Γ (.Return (some e) pos :: rest) D:=by
 with_unfolding_all
  exact s_seq (ps_wk (ps_ret he) fun De σ H ⟨H0,F,O,Z,n,r,_⟩=>⟨H0,F,O,Z,fun v H1 s1 r1=>r (.val b a) v H1 ((Z.go s1).same) (rp_mono (off_less Z.fo) r1) h⟩)
theorem s_if {c:Bool} (hc:T X Γ e c) (h1:c=true→S X Γ body { D with nx:=fun Γ'=>S X Γ' rest D }) (h2:c=false→S X Γ orelse { D with nx:=fun Γ'=>S X Γ' rest D }):S X Γ (.If e body orelse pos :: rest) D:=by
 with_unfolding_all
  cases c with
  | true=>exact s_seq (ps_wk (ps_if hc (h1 rfl) pss_never) fun De σ H ⟨H0,F,O,Z,n,r,bk,ct⟩=>⟨H0,F,O,Z,fun H1 s1=>iteT ⟨H0,F,O,Z.go s1,fun Γ2 σ2 H2 O2 sm=>n Γ2 σ2 H2 O2 ((off_mono s1).trans sm),r,fun Γ2 σ2 H2 O2 sm=>bk Γ2 σ2 H2 O2 ((off_mono s1).trans sm),fun Γ2 σ2 H2 O2 sm=>ct Γ2 σ2 H2 O2 ((off_mono s1).trans sm)⟩⟩)
  | false=>exact s_seq (ps_wk (ps_if hc pss_never (h2 rfl)) fun De σ H ⟨H0,F,O,Z,n,r,bk,ct⟩=>⟨H0,F,O,Z,fun H1 s1=>iteF ⟨H0,F,O,Z.go s1,fun Γ2 σ2 H2 O2 sm=>n Γ2 σ2 H2 O2 ((off_mono s1).trans sm),r,fun Γ2 σ2 H2 O2 sm=>bk Γ2 σ2 H2 O2 ((off_mono s1).trans sm),fun Γ2 σ2 H2 O2 sm=>ct Γ2 σ2 H2 O2 ((off_mono s1).trans sm)⟩⟩)
theorem s_if1 {c:Bool} (hc:T X Γ e c) (h1:c=true→S X Γ body { D with nx:=fun Γ'=>S X Γ' rest D }) (h2:c=false→S X Γ rest D):S X Γ (.If e body [] pos :: rest) D:=by
 with_unfolding_all
  exact s_if hc h1 fun z=>s_nil (h2 z)
def bodyT (X:Cx) (body:List Stmt):TS:=fun De σ H=>∃ Γ',∃ D',S X Γ' body D'∧tG X.K Γ' D' De σ H
theorem bodyT_ok:PSs X body (bodyT X body):=by
 with_unfolding_all
  exact fun pins s σ H De I ⟨Γ',D',t,q⟩=>(show PSs X body (tG X.K Γ' D') from t) pins s σ H De I q
theorem s_while {ι:Type} (J:ι→GEnv→Prop) (μ:ι→Nat) (i0:ι) (h0:J i0 Γ) (ht:∀ i Γ',J i Γ'→∃ c,T X Γ' e c∧(c=true→S X Γ' body { D with nx:=fun Γ2=>∃ j,J j Γ2∧μ j < μ i,ct:=fun Γ2=>∃ j,J j Γ2∧μ j < μ i,bk:=fun Γ2=>S X Γ2 rest D })∧(c=false→S X Γ' rest D))
  (hp:PassesOwn (model X.prog X.w) X.A X.env X.xe:=by exact PassesOwn.never):S X Γ (.While e body [] pos :: rest) D:=by
 with_unfolding_all
  refine s_seq (ps_wk (ps_while (tc:=fun σ H Q=>∃ Γ',∃ c,T X Γ' e c∧tVT X.K Γ' c σ H Q) (tb:=bodyT X body) hp
   (fun pins s σ H Q I ⟨Γ',c,t,q⟩=>(show PT X e (tVT X.K Γ' c) from t) pins s σ H Q I q) bodyT_ok) fun De σ H ⟨H0,F,O,Z,n,r,bk,ct⟩=>?_)
  refine ⟨fun m σ' H'=>∃ i Γ' O',Same (off H O) (off H' O')∧Sta X.K H0 F O' Γ' σ' H'∧J i Γ'∧m=μ i,⟨_,i0,Γ,O,Same.refl _,Z,h0,rfl⟩,?_⟩
  rintro m σ' H' ⟨i,Γ',O',sm,Z',j,rfl⟩
  obtain ⟨c,t,ht1,ht2⟩:=ht i Γ' j
  refine ⟨Γ',c,t,H0,F,O',Z',fun H1 s1=>?_⟩
  cases c with
  | true =>
   refine iteT ⟨fun σ2 H2=>∃ i2 Γ2 O2,Same (off H O) (off H2 O2)∧Sta X.K H0 F O2 Γ2 σ2 H2∧J i2 Γ2∧μ i2 < μ i,fun σ2 H2 ⟨i2,Γ2,O2,sm2,Z2,j2,l⟩=>⟨μ i2,l,i2,Γ2,O2,sm2,Z2,j2,rfl⟩,Γ',_,ht1 rfl,H0,F,O',Z'.go s1,?_,r,?_,?_⟩
   ·exact fun Γ2 σ2 H2 O2 sm2 Z2 ⟨i2,q1,q2⟩=>⟨i2,Γ2,O2,sm.trans ((off_mono s1).trans sm2),Z2,q1,q2⟩
   ·exact fun Γ2 σ2 H2 O2 sm2 Z2 q=>n Γ2 σ2 H2 O2 (sm.trans ((off_mono s1).trans sm2)) Z2 q
   ·exact fun Γ2 σ2 H2 O2 sm2 Z2 ⟨i2,q1,q2⟩=>⟨i2,Γ2,O2,sm.trans ((off_mono s1).trans sm2),Z2,q1,q2⟩
  | false=>exact iteF (n Γ' σ' H1 O' (sm.trans (off_mono s1)) (Z'.go s1) (ht2 rfl))
def GP (g:TG) (α:Type) [Py α] (put:Bool→α→GEnv→GEnv) (tc:Nat→Prop) (K:PySem.W.Frag):Prop :=
 ∀ (b:Bool) (a:α) (H0:Hp) (F O:Addr→Prop) (Γ:GEnv) (σ:St) (H:Hp) (v:V) (Q:St→Hp→Prop),Sta K H0 F O Γ σ H→Py.rp K (Nf H0 b) (off H O) v a →
  (∀ σ',Sta K H0 F O (put b a Γ) σ' H→σ'.length=σ.length→(∀ j,¬ tc j→σ'[j]?=σ[j]?)→Q σ' H)→g v σ H Q
def G (X:Cx) (tg:Expr) (g:TG) (α:Type) [Py α] (put:Bool→α→GEnv→GEnv) (tc:Nat→Prop):Prop:=PG X tg g∧GP g α put tc X.K
theorem gp_name (i:Nat) {K:PySem.W.Frag}:GP (gName i) α (fun b a Γ=>Γ.set i (some (.val b a))) (·=i) K:=fun b a H0 F O Γ σ H v Q Z r q=>q _ (Z.set r) (List.length_set ..) fun j hj=>get_set_ne hj
theorem g_name (i:Nat) {x:Str} (hN:X.N.Nodup) (hi:X.N[i]?=some x:=by rfl) (hx:Loc X.env.scope x:=by first | exact Or.inl rfl | exact Or.inr rfl) (hf:X.fn x=true∨X.env.scope.names.lookup x=some .local:=by first | exact .inl rfl | exact .inr rfl) :
  G X (.Name x pos) (gName i) α (fun b a Γ=>Γ.set i (some (.val b a))) (·=i):=⟨pg_name hN hi hx hf,gp_name i⟩
end
section
variable {X:Cx} {Γ:GEnv} {D:GD} {α β γ δ:Type} [Py α] [Py β] [Py γ] [Py δ] {e e1 e2 e3:Expr} {b b1 b2 b3:Bool} {pos:Pos} {st:Stmt} {rest body orelse:List Stmt} {tg:Expr} {g:TG} {tc:Nat→Prop}
theorem s_forRange {put:Bool→Int→GEnv→GEnv} {n:Int} {p ps:Pos} (J:Nat→GEnv→Prop) (hg:Gl X "range") (hm:X.mg "range"=none) (hG:G X tg g Int put tc) (he:E X Γ e b n) (h1:-(2 ^ 62)≤n) (h2:n < 2 ^ 62) (h0:J 0 Γ)
  (ht:∀ (i:Nat) Γ',i < n.toNat→J i Γ'→S X (put true (i:Int) Γ') body { D with nx:=J (i + 1),ct:=J (i + 1),bk:=fun Γ2=>S X Γ2 rest D }) (hd:∀ Γ',J n.toNat Γ'→S X Γ' rest D)
  (hc:X.calm=true:=by rfl) (hp:PassesOwn (model X.prog X.w) X.A X.env X.xe:=by exact PassesOwn.never) (hs:starEach [e] X.env=[(false,eval e X.env)]:=by rfl) (hs1:starEach [e] X.env=(false,eval e X.env) :: starEach [] X.env:=by rfl)
  (hfs:∀ x,foldedSetIterable (.Call (.Name "range" p) [e] [] ps) X.env x=pure x:=by intro _; rfl):S X Γ (.For tg (.Call (.Name "range" p) [e] [] ps) body [] pos :: rest) D:=by
 with_unfolding_all
  refine s_seq (ps_wk (ps_for hp hc (pi_range1 hg hm (pa_cons he pa_nil hs1) hs) hG.1 (tb:=bodyT X body) bodyT_ok hfs) fun De σ H ⟨H0,F,O,Z,nx,r,bk,ct⟩=>?_)
  refine ⟨H0,F,O,Z,fun v H1 s1 r1=>⟨n,by cases r1; rfl,h1,h2,for_range (lo:=0) (n:=n.toNat) (g:=g) (tb:=bodyT X body) (D:=De) (fun i σ' H'=>∃ Γ' O',Same (off H O) (off H' O')∧Sta X.K H0 F O' Γ' σ' H'∧J i Γ') ⟨Γ,O,off_mono s1,Z.go s1,h0⟩ ?_ ?_⟩⟩
  ·rintro i σ' H' hi ⟨Γ',O',sm,Z',j⟩
   refine hG.2 true (i:Int) H0 F O' Γ' σ' H' _ _ Z' (by show V.int _=V.int _; rw [Int.zero_add]) fun σ2 Z2 _ _=>?_
   refine ⟨_,_,ht i Γ' hi j,H0,F,O',Z2,?_,r,?_,?_⟩
   ·exact fun Γ2 σ2 H2 O2 sm2 Z2 q=>⟨Γ2,O2,sm.trans sm2,Z2,q⟩
   ·exact fun Γ2 σ2 H2 O2 sm2 Z2 q=>nx Γ2 σ2 H2 O2 (sm.trans sm2) Z2 q
   ·exact fun Γ2 σ2 H2 O2 sm2 Z2 q=>⟨Γ2,O2,sm.trans sm2,Z2,q⟩
  ·rintro σ' H' ⟨Γ',O',sm,Z',j⟩
   exact nx Γ' σ' H' O' sm Z' (hd Γ' j)
theorem s_forRange3 {put:Bool→Int→GEnv→GEnv} {lo n c:Int} {p ps:Pos} (J:Nat→GEnv→Prop) (hg:Gl X "range") (hm:X.mg "range"=none) (hG:G X tg g Int put tc) (he1:E X Γ e1 b1 lo) (he2:E X Γ e2 b2 n) (he3:E X Γ e3 b3 c) (hb:-(2 ^ 62)≤lo∧lo < 2 ^ 62∧-(2 ^ 62)≤n∧n < 2 ^ 62) (hcc:c≠0∧-1000≤c∧c≤1000) (h0:J 0 Γ)
  (ht:∀ (i:Nat) Γ',i < (Builtin.Range.rangeSize lo n c).toNat→J i Γ'→S X (put true (lo + i * c:Int) Γ') body { D with nx:=J (i + 1),ct:=J (i + 1),bk:=fun Γ2=>S X Γ2 rest D }) (hd:∀ Γ',J (Builtin.Range.rangeSize lo n c).toNat Γ'→S X Γ' rest D)
  (hc:X.calm=true:=by rfl) (hp:PassesOwn (model X.prog X.w) X.A X.env X.xe:=by exact PassesOwn.never)
  (hs1:starEach [e1,e2,e3] X.env=(false,eval e1 X.env) :: starEach [e2,e3] X.env:=by rfl) (hs2:starEach [e2,e3] X.env=(false,eval e2 X.env) :: starEach [e3] X.env:=by rfl) (hs3:starEach [e3] X.env=(false,eval e3 X.env) :: starEach [] X.env:=by rfl)
  (hpl:(backTo ps (starEach [e2,e3] X.env)).any (·.1)=false:=by rfl) (hfs:∀ x,foldedSetIterable (.Call (.Name "range" p) [e1,e2,e3] [] ps) X.env x=pure x:=by intro _; rfl):S X Γ (.For tg (.Call (.Name "range" p) [e1,e2,e3] [] ps) body [] pos :: rest) D:=by
 with_unfolding_all
  refine s_seq (ps_wk (ps_for hp hc (pi_range3 hg hm (pa_cons he1 (pa_cons he2 (pa_cons he3 pa_nil hs3) hs2) hs1) hs1 hpl) hG.1 (tb:=bodyT X body) bodyT_ok hfs) fun De σ H ⟨H0,F,O,Z,nx,r,bk,ct⟩=>?_)
  refine ⟨H0,F,O,Z,fun v H1 s1 r1=>⟨H0,F,O,Z.go s1,fun v' H2 s2 r2=>⟨H0,F,O,Z.go (s1.trans s2),fun v'' H3 s3 r3=>⟨lo,n,c,by cases r1; cases r2; cases r3; rfl,hb,hcc,for_rangeC (lo:=lo) (c:=c) (n:=(Builtin.Range.rangeSize lo n c).toNat) (g:=g) (tb:=bodyT X body) (D:=De) (fun i σ' H'=>∃ Γ' O',Same (off H O) (off H' O')∧Sta X.K H0 F O' Γ' σ' H'∧J i Γ') ⟨Γ,O,off_mono (s1.trans (s2.trans s3)),Z.go (s1.trans (s2.trans s3)),h0⟩ ?_ ?_⟩⟩⟩⟩
  ·rintro i σ' H' hi ⟨Γ',O',sm,Z',j⟩
   refine hG.2 true (lo + i * c:Int) H0 F O' Γ' σ' H' _ _ Z' rfl fun σ2 Z2 _ _=>?_
   refine ⟨_,_,ht i Γ' hi j,H0,F,O',Z2,?_,r,?_,?_⟩
   ·exact fun Γ2 σ2 H2 O2 sm2 Z2 q=>⟨Γ2,O2,sm.trans sm2,Z2,q⟩
   ·exact fun Γ2 σ2 H2 O2 sm2 Z2 q=>nx Γ2 σ2 H2 O2 (sm.trans sm2) Z2 q
   ·exact fun Γ2 σ2 H2 O2 sm2 Z2 q=>⟨Γ2,O2,sm.trans sm2,Z2,q⟩
  ·rintro σ' H' ⟨Γ',O',sm,Z',j⟩
   exact nx Γ' σ' H' O' sm Z' (hd Γ' j)
theorem s_forL {put:Bool→α→GEnv→GEnv} {xs:List α} (J:Nat→GEnv→Prop) (hG:G X tg g α put tc) (he:E X Γ e b xs) (h0:J 0 Γ)
  (ht:∀ (i:Nat) (a:α) Γ',xs[i]?=some a→J i Γ'→S X (put b a Γ') body { D with nx:=J (i + 1),ct:=J (i + 1),bk:=fun Γ2=>S X Γ2 rest D }) (hd:∀ Γ',J xs.length Γ'→S X Γ' rest D)
  (hc:X.calm=true:=by rfl) (hp:PassesOwn (model X.prog X.w) X.A X.env X.xe:=by exact PassesOwn.never)
  (hfs:∀ x,foldedSetIterable e X.env x=pure x:=by intro _; rfl):S X Γ (.For tg e body [] pos :: rest) D:=by
 with_unfolding_all
  refine s_seq (ps_wk (ps_for hp hc (pi_list he) hG.1 (tb:=bodyT X body) bodyT_ok hfs) fun De σ H ⟨H0,F,O,Z,nx,r,bk,ct⟩=>?_)
  refine ⟨H0,F,O,Z,fun v H1 s1 r1=>?_⟩
  obtain ⟨p,vs,e,sq,nn,rr⟩:=r1
  refine ⟨p,e,⟨vs,(off_same _ _).seq sq⟩,for_list (K:=X.K) (a:=p) (xs:=vs) (g:=g) (tb:=bodyT X body) (D:=De) (fun i σ' H'=>∃ Γ' O',Same (off H1 O) (off H' O')∧Sta X.K H0 F O' Γ' σ' H'∧J i Γ') ⟨Γ,O,Same.refl _,Z.go s1,h0⟩ ?_ ?_ ?_⟩
  ·rintro i σ' H' hi ⟨Γ',O',sm,Z',j⟩
   exact (off_same _ _).seq (sm.seq sq)
  ·rintro i x σ' H' hi ⟨Γ',O',sm,Z',j⟩
   obtain ⟨a,h1,h2⟩:=pr_get' rr hi
   refine hG.2 b a H0 F O' Γ' σ' H' _ _ Z' (rp_mono sm h2) fun σ2 Z2 _ _=>?_
   refine ⟨_,_,ht i a Γ' h1 j,H0,F,O',Z2,?_,r,?_,?_⟩
   ·exact fun Γ2 σ2 H2 O2 sm2 Z2 q=>⟨Γ2,O2,sm.trans sm2,Z2,q⟩
   ·exact fun Γ2 σ2 H2 O2 sm2 Z2 q=>nx Γ2 σ2 H2 O2 ((off_mono s1).trans (sm.trans sm2)) Z2 q
   ·exact fun Γ2 σ2 H2 O2 sm2 Z2 q=>⟨Γ2,O2,sm.trans sm2,Z2,q⟩
  ·rintro σ' H' ⟨Γ',O',sm,Z',j⟩
   rw [pr_len rr] at j
   exact nx Γ' σ' H' O' ((off_mono s1).trans sm) Z' (hd Γ' j)
end
structure Cal (P:Program) (w:World) (K:PySem.W.Frag) (mg:Str→Option Value) (base:Heap) (k:Nat) (name:Str) (ps:List Str) (sp:Sp):Prop where
 ex:∃ (f:Addr) (fd:FuncData),FnOk P w K mg base CX0 k f fd ps sp∧Binds K fd ps []∧PySem.W.keepIn K (.ref f)=true∧mg name=some (.ref f)
def OwnL (H:Hp) (O:Addr→Prop):Prop:=∀ p,O p→∃ xs:Mt,H p=some (mo xs)
def sp1 {α β:Type} [Py α] [Py β] (K:PySem.W.Frag) (pre:α→Prop) (b:Bool) (f:α→β):Sp:=fun vs H Q _=>∃ O v a,OwnL H O∧vs=[v]∧Py.rp K .any (off H O) v a∧pre a∧∀ r H',Same H H'→Py.rp K (Nf H b) (off H' O) r (f a)→Q r H'
def sp2 {α β γ:Type} [Py α] [Py β] [Py γ] (K:PySem.W.Frag) (pre:α→β→Prop) (b:Bool) (f:α→β→γ):Sp:=fun vs H Q _=>∃ O v w a c,OwnL H O∧vs=[v,w]∧Py.rp K .any (off H O) v a∧Py.rp K .any (off H O) w c∧pre a c∧∀ r H',Same H H'→Py.rp K (Nf H b) (off H' O) r (f a c)→Q r H'
def sp3 {α β γ δ:Type} [Py α] [Py β] [Py γ] [Py δ] (K:PySem.W.Frag) (pre:α→β→γ→Prop) (b:Bool) (f:α→β→γ→δ):Sp:=fun vs H Q _=>∃ O v w x a c d,OwnL H O∧vs=[v,w,x]∧Py.rp K .any (off H O) v a∧Py.rp K .any (off H O) w c∧Py.rp K .any (off H O) x d∧pre a c d∧∀ r H',Same H H'→Py.rp K (Nf H b) (off H' O) r (f a c d)→Q r H'
def sp4 {α β γ δ ε:Type} [Py α] [Py β] [Py γ] [Py δ] [Py ε] (K:PySem.W.Frag) (pre:α→β→γ→δ→Prop) (b:Bool) (f:α→β→γ→δ→ε):Sp:=fun vs H Q _=>∃ O v w x y a c d g,OwnL H O∧vs=[v,w,x,y]∧Py.rp K .any (off H O) v a∧Py.rp K .any (off H O) w c∧Py.rp K .any (off H O) x d∧Py.rp K .any (off H O) y g∧pre a c d g∧∀ r H',Same H H'→Py.rp K (Nf H b) (off H' O) r (f a c d g)→Q r H'
theorem nf_true {H0 H:Hp} {b:Bool}:∀ p xs,(Nf H0 b).has H p xs→Nn.any.has H p xs:=fun _ _ _=>True.intro
section
variable {X:Cx} {Γ:GEnv} {D:GD} {α β γ δ ε:Type} [Py α] [Py β] [Py γ] [Py δ] [Py ε] {e e1 e2 e3 e4:Expr} {b b1 b2 b3 b4:Bool} {p pos:Pos} {k:Nat} {name:Str} {ps:List Str}
theorem e_call1 {pre:α→Prop} {f:α→β} {a:α} (C:Cal X.prog X.w X.K X.mg X.base k name ps (sp1 X.K pre b f)) (hr:Room k X.A) (hg:Gl X name) (h1:E X Γ e1 b1 a) (hp:pre a)
  (hs1:starEach [e1] X.env=(false,eval e1 X.env) :: starEach [] X.env:=by rfl) (hdb:(name == ("__debug__":Str))=false:=by decide) (hpl:(backTo pos (starEach [] X.env)).any (·.1)=false:=by rfl) :
  E X Γ (.Call (.Name name p) [e1] [] pos) b (f a):=by
 with_unfolding_all
  obtain ⟨fa,fd,F,B,kp,m⟩:=C.ex
  exact pe_wk (pe_call F hr hg m kp B .nil pass0 (pa_cons h1 pa_nil hs1) hdb hs1 hpl) fun σ H Q ⟨H0,F,O,S,q⟩=>⟨H0,F,O,S,fun v1 H1 s1 r1 =>
   ⟨O,v1,a,(S.go s1).own,rfl,rp_wid nf_true r1,hp,fun r H' s' z=>q r H' (s1.trans s') ((S.go s1).back z)⟩⟩
theorem e_call2 {pre:α→β→Prop} {f:α→β→γ} {a:α} {c:β} (C:Cal X.prog X.w X.K X.mg X.base k name ps (sp2 X.K pre b f)) (hr:Room k X.A) (hg:Gl X name) (h1:E X Γ e1 b1 a) (h2:E X Γ e2 b2 c) (hp:pre a c)
  (hs1:starEach [e1,e2] X.env=(false,eval e1 X.env) :: starEach [e2] X.env:=by rfl) (hs2:starEach [e2] X.env=(false,eval e2 X.env) :: starEach [] X.env:=by rfl) (hdb:(name == ("__debug__":Str))=false:=by decide) (hpl:(backTo pos (starEach [e2] X.env)).any (·.1)=false:=by rfl) :
  E X Γ (.Call (.Name name p) [e1,e2] [] pos) b (f a c):=by
 with_unfolding_all
  obtain ⟨fa,fd,F,B,kp,m⟩:=C.ex
  exact pe_wk (pe_call F hr hg m kp B .nil pass0 (pa_cons h1 (pa_cons h2 pa_nil hs2) hs1) hdb hs1 hpl) fun σ H Q ⟨H0,F,O,S,q⟩=>⟨H0,F,O,S,fun v1 H1 s1 r1=>⟨H0,F,O,S.go s1,fun v2 H2 s2 r2 =>
   ⟨O,v1,v2,a,c,(S.go (s1.trans s2)).own,rfl,rp_wid nf_true (rp_mono (off_mono s2) r1),rp_wid nf_true r2,hp,fun r H' s' z=>q r H' (s1.trans (s2.trans s')) ((S.go (s1.trans s2)).back z)⟩⟩⟩
theorem e_call3 {pre:α→β→γ→Prop} {f:α→β→γ→δ} {a:α} {c:β} {d:γ} (C:Cal X.prog X.w X.K X.mg X.base k name ps (sp3 X.K pre b f)) (hr:Room k X.A) (hg:Gl X name) (h1:E X Γ e1 b1 a) (h2:E X Γ e2 b2 c) (h3:E X Γ e3 b3 d) (hp:pre a c d)
  (hs1:starEach [e1,e2,e3] X.env=(false,eval e1 X.env) :: starEach [e2,e3] X.env:=by rfl) (hs2:starEach [e2,e3] X.env=(false,eval e2 X.env) :: starEach [e3] X.env:=by rfl) (hs3:starEach [e3] X.env=(false,eval e3 X.env) :: starEach [] X.env:=by rfl)
  (hdb:(name == ("__debug__":Str))=false:=by decide) (hpl:(backTo pos (starEach [e2,e3] X.env)).any (·.1)=false:=by rfl) :
  E X Γ (.Call (.Name name p) [e1,e2,e3] [] pos) b (f a c d):=by
 with_unfolding_all
  obtain ⟨fa,fd,F,B,kp,m⟩:=C.ex
  exact pe_wk (pe_call F hr hg m kp B .nil pass0 (pa_cons h1 (pa_cons h2 (pa_cons h3 pa_nil hs3) hs2) hs1) hdb hs1 hpl) fun σ H Q ⟨H0,F,O,S,q⟩=>⟨H0,F,O,S,fun v1 H1 s1 r1=>⟨H0,F,O,S.go s1,fun v2 H2 s2 r2=>⟨H0,F,O,S.go (s1.trans s2),fun v3 H3 s3 r3 =>
   ⟨O,v1,v2,v3,a,c,d,(S.go (s1.trans (s2.trans s3))).own,rfl,rp_wid nf_true (rp_mono ((off_mono s2).trans (off_mono s3)) r1),rp_wid nf_true (rp_mono (off_mono s3) r2),rp_wid nf_true r3,hp,fun r H' s' z=>q r H' (s1.trans (s2.trans (s3.trans s'))) ((S.go (s1.trans (s2.trans s3))).back z)⟩⟩⟩⟩
theorem e_call4 {pre:α→β→γ→δ→Prop} {f:α→β→γ→δ→ε} {a:α} {c:β} {d:γ} {g:δ} (C:Cal X.prog X.w X.K X.mg X.base k name ps (sp4 X.K pre b f)) (hr:Room k X.A) (hg:Gl X name) (h1:E X Γ e1 b1 a) (h2:E X Γ e2 b2 c) (h3:E X Γ e3 b3 d) (h4:E X Γ e4 b4 g) (hp:pre a c d g)
  (hs1:starEach [e1,e2,e3,e4] X.env=(false,eval e1 X.env) :: starEach [e2,e3,e4] X.env:=by rfl) (hs2:starEach [e2,e3,e4] X.env=(false,eval e2 X.env) :: starEach [e3,e4] X.env:=by rfl) (hs3:starEach [e3,e4] X.env=(false,eval e3 X.env) :: starEach [e4] X.env:=by rfl) (hs4:starEach [e4] X.env=(false,eval e4 X.env) :: starEach [] X.env:=by rfl)
  (hdb:(name == ("__debug__":Str))=false:=by decide) (hpl:(backTo pos (starEach [e2,e3,e4] X.env)).any (·.1)=false:=by rfl) :
  E X Γ (.Call (.Name name p) [e1,e2,e3,e4] [] pos) b (f a c d g):=by
 with_unfolding_all
  obtain ⟨fa,fd,F,B,kp,m⟩:=C.ex
  exact pe_wk (pe_call F hr hg m kp B .nil pass0 (pa_cons h1 (pa_cons h2 (pa_cons h3 (pa_cons h4 pa_nil hs4) hs3) hs2) hs1) hdb hs1 hpl) fun σ H Q ⟨H0,F,O,S,q⟩=>⟨H0,F,O,S,fun v1 H1 s1 r1=>⟨H0,F,O,S.go s1,fun v2 H2 s2 r2=>⟨H0,F,O,S.go (s1.trans s2),fun v3 H3 s3 r3=>⟨H0,F,O,S.go (s1.trans (s2.trans s3)),fun v4 H4 s4 r4 =>
   ⟨O,v1,v2,v3,v4,a,c,d,g,(S.go (s1.trans (s2.trans (s3.trans s4)))).own,rfl,rp_wid nf_true (rp_mono ((off_mono s2).trans ((off_mono s3).trans (off_mono s4))) r1),rp_wid nf_true (rp_mono ((off_mono s3).trans (off_mono s4)) r2),rp_wid nf_true (rp_mono (off_mono s4) r3),rp_wid nf_true r4,hp,fun r H' s' z=>q r H' (s1.trans (s2.trans (s3.trans (s4.trans s')))) ((S.go (s1.trans (s2.trans (s3.trans s4)))).back z)⟩⟩⟩⟩⟩
end
def gst (N:List Str) (gs:List Bd):GEnv:=gs.map some ++ List.replicate (N.length - gs.length) none
def RT {α:Type} [Py α] (b:Bool) (a:α):GD:={ nx:=fun _=>False,rt:=fun g=>g=.val b a }
inductive Args (K:PySem.W.Frag) (H:Hp):List V→List Bd→Prop
 | nil:Args K H [] []
 | cons {α:Type} [Py α] {v:V} {a:α} {vs:List V} {gs:List Bd}:Py.rp K .any H v a→Args K H vs gs→Args K H (v :: vs) (.val false a :: gs)
theorem Args.len {K:PySem.W.Frag} {H:Hp}:∀ {vs:List V} {gs:List Bd},Args K H vs gs→vs.length=gs.length
 | _,_,.nil=>rfl
 | _,_,@Args.cons _ _ _ _ _ _ _ _ _ t=>congrArg (· + 1) t.len
theorem Args.get {K:PySem.W.Frag} {H0 H:Hp} {O:Addr→Prop}:∀ {vs:List V} {gs:List Bd} {i:Nat} {g:Bd},Args K (off H O) vs gs→gs[i]?=some g→∃ v,vs[i]?=some v∧g.ok K H0 O H v∧¬ g.isOwn
 | _,_,_,_,.nil,e=>by simp at e
 | _,_,0,_,@Args.cons _ _ _ _ _ _ _ _ h _,e=>by simp at e; subst e; exact ⟨_,rfl,h,fun z=>z⟩
 | _,_,i + 1,_,@Args.cons _ _ _ _ _ _ _ _ _ t,e=>by
  obtain ⟨a,h1,h2⟩:=Args.get (i:=i) t (by simpa using e)
  exact ⟨a,by simpa using h1,h2⟩
theorem sta_start {K:PySem.W.Frag} {H:Hp} {O:Addr→Prop} {N:List Str} {vs:List V} {gs:List Bd} (ho:OwnL H O) (h:Args K (off H O) vs gs):Sta K H O O (gst N gs) (start N vs) H:=by
 have hl:=h.len
 have hget:∀ (i:Nat) (g:Bd),(gst N gs)[i]?=some (some g)→gs[i]?=some g:=fun i g e=>by
  unfold gst at e
  by_cases hi:i < (gs.map some).length
  ·rw [List.getElem?_append_left hi,List.getElem?_map] at e
   cases q:gs[i]? with
   | none=>rw [q] at e; cases e
   | some g'=>rw [q] at e; simpa using e
  ·rw [List.getElem?_append_right (by omega)] at e
   have:=List.mem_of_getElem? e
   rw [List.mem_replicate] at this
   cases this.2
 refine ⟨Same.refl _,fun _ z=>z,ho,ho,by simp [gst,start,hl],fun i g e _=>?_,⟨fun _ _=>False,fun _ _ _ z=>z.elim,fun _ _ z=>z.elim,fun i g e o=>?_⟩⟩
 ·obtain ⟨v,h1,h2,_⟩:=Args.get (H0:=H) h (hget i g e)
  refine ⟨v,?_,h2⟩
  unfold start
  have hi:i < (vs.map some).length:=by
   rw [List.length_map]
   exact (List.getElem?_eq_some_iff.mp h1).1
  rw [List.getElem?_append_left hi,List.getElem?_map,h1]; rfl
 ·obtain ⟨_,_,_,no⟩:=Args.get (H0:=H) h (hget i g e)
  exact absurd o no
section
variable {P:Program} {w:World} {K:PySem.W.Frag} {mg:Str→Option Value} {base:Heap} {N ps:List Str} {k:Nat} {x qual:Str} {st:Stmt} {f:Addr} {fd:FuncData}
abbrev cx (P:Program) (w:World) (K:PySem.W.Frag) (mg:Str→Option Value) (base:Heap) (N:List Str) (qual:Str) (st:Stmt) (f:Addr) (cdv:Value) (A:Around) (outer:List Env) (s:Shared) (H:Hp) (E:XK):Cx:=(cxOf CX0 P w K mg base N qual (defScope st) f cdv A outer s H E).nox
def Body (P:Program) (w:World) (K:PySem.W.Frag) (mg:Str→Option Value) (base:Heap) (N:List Str) (qual:Str) (st:Stmt) (f:Addr) (k:Nat) (gs:List Bd) (D:GD):Prop :=
 ∀ (cdv:Value) (A:Around) (outer:List Env) (s:Shared) (H:Hp) (E:XK),Room k (A.deeper (envOfC qual (defScope st) s.heap.objs.size f cdv))→S (cx P w K mg base N qual st f cdv A outer s H E) (gst N gs) (defBody st) D
theorem body_run {gs:List Bd} {vs:List V} {H:Hp} {O:Addr→Prop} {α:Type} [Py α] {b:Bool} {a:α} {Q:VK} {cdv:Value} {A:Around} {outer:List Env} {s:Shared} {E:XK} (B:Body P w K mg base N qual st f k gs (RT b a)) (hr:Room k (A.deeper (envOfC qual (defScope st) s.heap.objs.size f cdv)))
  (ho:OwnL H O) (h:Args K (off H O) vs gs) (q:∀ r H',Same H H'→Py.rp K (Nf H b) (off H' O) r a→Q r H') :
  ∃ t,PSs (cxOf CX0 P w K mg base N qual (defScope st) f cdv A outer s H E).nox (defBody st) t∧t { nx:=fun _ H'=>Q .non H',rt:=Q } (start N vs) H:=by
 with_unfolding_all
  refine ⟨_,B cdv A outer s H E hr,H,O,O,sta_start ho h,fun _ _ _ _ _ _ z=>z.elim,fun g v H' sm z e=>?_,fun _ _ _ _ _ _ z=>z.elim,fun _ _ _ _ _ _ z=>z.elim⟩
  have e':g=.val b a:=e
  subst e'
  exact q v H' sm z
theorem fn1 {α β:Type} [Py α] [Py β] {pre:α→Prop} {b:Bool} {g:α→β} (F:Fun K x qual st f fd) (sc:FnScope N ps (defScope st)) (hl:ps.length=1) (B:∀ a,pre a→Body P w K mg base N qual st f k [.val false a] (RT b (g a))) :
  FnOk P w K mg base CX0 (k + 1) f fd ps (sp1 K pre b g):=by
 with_unfolding_all
  refine F.ok sc (fun vs H Q E h=>?_) fun cdv A outer s H vs Q E hr h=>?_
  ·obtain ⟨O,v,a,_,rfl,_⟩:=h; rw [hl]; rfl
  ·obtain ⟨O,v,a,ho,rfl,r,hp,q⟩:=h
   exact body_run (B a hp) hr ho (.cons r .nil) q
theorem fn2 {α β γ:Type} [Py α] [Py β] [Py γ] {pre:α→β→Prop} {b:Bool} {g:α→β→γ} (F:Fun K x qual st f fd) (sc:FnScope N ps (defScope st)) (hl:ps.length=2) (B:∀ a c,pre a c→Body P w K mg base N qual st f k [.val false a,.val false c] (RT b (g a c))) :
  FnOk P w K mg base CX0 (k + 1) f fd ps (sp2 K pre b g):=by
 with_unfolding_all
  refine F.ok sc (fun vs H Q E h=>?_) fun cdv A outer s H vs Q E hr h=>?_
  ·obtain ⟨O,v,v2,a,c,_,rfl,_⟩:=h; rw [hl]; rfl
  ·obtain ⟨O,v,v2,a,c,ho,rfl,r,r2,hp,q⟩:=h
   exact body_run (B a c hp) hr ho (.cons r (.cons r2 .nil)) q
theorem fn3 {α β γ δ:Type} [Py α] [Py β] [Py γ] [Py δ] {pre:α→β→γ→Prop} {b:Bool} {g:α→β→γ→δ} (F:Fun K x qual st f fd) (sc:FnScope N ps (defScope st)) (hl:ps.length=3) (B:∀ a c d,pre a c d→Body P w K mg base N qual st f k [.val false a,.val false c,.val false d] (RT b (g a c d))) :
  FnOk P w K mg base CX0 (k + 1) f fd ps (sp3 K pre b g):=by
 with_unfolding_all
  refine F.ok sc (fun vs H Q E h=>?_) fun cdv A outer s H vs Q E hr h=>?_
  ·obtain ⟨O,v,v2,v3,a,c,d,_,rfl,_⟩:=h; rw [hl]; rfl
  ·obtain ⟨O,v,v2,v3,a,c,d,ho,rfl,r,r2,r3,hp,q⟩:=h
   exact body_run (B a c d hp) hr ho (.cons r (.cons r2 (.cons r3 .nil))) q
theorem fn4 {α β γ δ ε:Type} [Py α] [Py β] [Py γ] [Py δ] [Py ε] {pre:α→β→γ→δ→Prop} {b:Bool} {g:α→β→γ→δ→ε} (F:Fun K x qual st f fd) (sc:FnScope N ps (defScope st)) (hl:ps.length=4) (B:∀ a c d y,pre a c d y→Body P w K mg base N qual st f k [.val false a,.val false c,.val false d,.val false y] (RT b (g a c d y))) :
  FnOk P w K mg base CX0 (k + 1) f fd ps (sp4 K pre b g):=by
 with_unfolding_all
  refine F.ok sc (fun vs H Q E h=>?_) fun cdv A outer s H vs Q E hr h=>?_
  ·obtain ⟨O,v,v2,v3,v4,a,c,d,y,_,rfl,_⟩:=h; rw [hl]; rfl
  ·obtain ⟨O,v,v2,v3,v4,a,c,d,y,ho,rfl,r,r2,r3,r4,hp,q⟩:=h
   exact body_run (B a c d y hp) hr ho (.cons r (.cons r2 (.cons r3 (.cons r4 .nil)))) q
end
end L2.EP
namespace L2.EP
open PySem PySem.Spec PyProof.Rows
section
variable {X:Cx} {Γ:GEnv} {α β:Type} [Py α] [Py β] {e:Expr} {b:Bool} {p p2 pos:Pos}
theorem e_isi {a:α} {T:Str} {T':String} {c:Bool} (hg:Gl X "isinstance") (hm:X.mg "isinstance"=none) (hg2:Gl X T) (hm2:X.mg T=none) (hv:bootBuiltins T=some (.type T')) (ha:E X Γ e b a)
  (hk:∀ (pins:List (Addr × Obj)) (s:Shared) (σ:St) (H:Hp) (N:Nn) (v:V) (u:Value) (Q:Value→Shared→Prop),Inv X pins σ H s→Py.rp X.K N H v a→RelV v u→(∀ tk,Q (.bool c) { s with toks:=tk })→wpAny (model X.prog X.w) X.A (call (.builtin "isinstance") [u,.type T']) Q X.xe s)
  (hs:starEach [e,.Name T p2] X.env=(false,eval e X.env) :: starEach [.Name T p2] X.env:=by rfl) (hs2:starEach [.Name T p2] X.env=(false,eval (.Name T p2) X.env) :: starEach [] X.env:=by rfl) (hpl:(backTo pos (starEach [.Name T p2] X.env)).any (·.1)=false:=by rfl)
  (hn:T≠"__name__":=by decide) (hd:(T == ("__debug__":Str))=false:=by decide) :
  E X Γ (.Call (.Name "isinstance" p) [e,.Name T p2] [] pos) true c:=by
 with_unfolding_all
  have hc:CallR X (.builtin "isinstance") (fun xs H Q=>∃ N v,xs=[v,.ty T']∧Py.rp X.K N H v a∧Q (.bl c) H):=by
   intro pins s σ H xs us Q I r h
   obtain ⟨N,v,rfl,rv,q⟩:=h
   obtain ⟨u,w',rfl,rx,ry⟩:=vals2 r
   cases ry
   exact hk pins s σ H N v u _ I rv rx fun tk=>⟨.bl c,H,I.tok _,rfl,q⟩
  exact pe_wk (pe_callB hc hg hm boot_isinstance (pa_cons ha (pa_cons (pe_bltn (v:=.ty T') hg2 hm2 hv rfl hn hd) pa_nil hs2) hs) (he:=hs) (hpl:=hpl)) fun σ H Q ⟨H0,F,O,S,q⟩=>⟨H0,F,O,S,fun v H1 s1 r1=>⟨_,v,rfl,rp_mono (off_same _ _) r1,q _ H1 s1 rfl⟩⟩
theorem e_isII {i:Int} (hg:Gl X "isinstance") (hm:X.mg "isinstance"=none) (hg2:Gl X "int") (hm2:X.mg "int"=none) (ha:E X Γ e b i)
  (hs:starEach [e,.Name "int" p2] X.env=(false,eval e X.env) :: starEach [.Name "int" p2] X.env:=by rfl):E X Γ (.Call (.Name "isinstance" p) [e,.Name "int" p2] [] pos) true true:=by
 with_unfolding_all
  exact e_isi hg hm hg2 hm2 PyProof.Rows.boot_int ha (fun pins s σ H N v u Q I rv r q=>by
    cases rv; obtain ⟨t,rfl⟩:=r
    exact IsiPair.int_int (q s.toks)) hs
theorem e_isIB {i:Int} (hg:Gl X "isinstance") (hm:X.mg "isinstance"=none) (hg2:Gl X "bool") (hm2:X.mg "bool"=none) (ha:E X Γ e b i)
  (hs:starEach [e,.Name "bool" p2] X.env=(false,eval e X.env) :: starEach [.Name "bool" p2] X.env:=by rfl):E X Γ (.Call (.Name "isinstance" p) [e,.Name "bool" p2] [] pos) true false:=by
 with_unfolding_all
  exact e_isi hg hm hg2 hm2 PyProof.Rows.boot_bool ha (fun pins s σ H N v u Q I rv r q=>by
    cases rv; obtain ⟨t,rfl⟩:=r
    exact IsiPair.int_bool (q (s.toks + 1))) hs
theorem e_isLL {xs:List α} (hg:Gl X "isinstance") (hm:X.mg "isinstance"=none) (hg2:Gl X "list") (hm2:X.mg "list"=none) (ha:E X Γ e b xs)
  (hs:starEach [e,.Name "list" p2] X.env=(false,eval e X.env) :: starEach [.Name "list" p2] X.env:=by rfl):E X Γ (.Call (.Name "isinstance" p) [e,.Name "list" p2] [] pos) true true:=by
 with_unfolding_all
  exact e_isi hg hm hg2 hm2 PyProof.Rows.boot_list ha (fun pins s σ H N v u Q I rv r q=>by
    obtain ⟨a,ys,rfl,sq,_,_⟩:=rv
    cases r
    obtain ⟨its,rr,pl,_⟩:=I.list sq
    obtain ⟨o,h1,h2,n,h3⟩:=pl.isList
    exact call_isinstance (isinstance_true (Tx:="list") F.isi_meta_list AutoSeq1.sub_list_list) ⟨⟨o,h1,h2⟩,q s.toks⟩) hs
end
end L2.EP
namespace L2.EP
open PySem PySem.Spec PyProof.Rows
def Sm (n:Nat) (i:Int):Prop:=i.natAbs < 2 ^ n
theorem Sm.bits {n:Nat} {i:Int} (h:Sm n i):Builtin.Int.intBits i≤n:=by
 unfold Builtin.Int.intBits
 split
 ·exact Nat.zero_le _
 ·rename_i hi
  have h0:i.natAbs≠0:=by
   intro z; apply hi; simp; omega
  have:=(Nat.log2_lt h0).mpr h
  omega
theorem Sm.le {m n:Nat} {i:Int} (h:Sm m i) (l:m≤n):Sm n i:=Nat.lt_of_lt_of_le h (Nat.pow_le_pow_right (by decide) l)
theorem Sm.ok {m n:Nat} {i j:Int} (h:Sm m i) (h':Sm n j) (l:m≤1048576:=by decide) (l':n≤1048576:=by decide):IntMulOk i j:=IntMulOk.of_bits (Nat.le_trans h.bits (Nat.le_trans l (by decide))) (Nat.le_trans h'.bits (Nat.le_trans l' (by decide)))
theorem Sm.mul {m n:Nat} {i j:Int} (h:Sm m i) (h':Sm n j):Sm (m + n) (i * j):=by
 unfold Sm at *
 rw [Int.natAbs_mul,Nat.pow_add]
 rcases Nat.eq_zero_or_pos j.natAbs with z | z
 ·rw [z,Nat.mul_zero]; exact Nat.mul_pos (Nat.two_pow_pos _) (Nat.two_pow_pos _)
 ·exact Nat.mul_lt_mul_of_lt_of_le h (Nat.le_of_lt h') (Nat.two_pow_pos _)
theorem Sm.add {m n:Nat} {i j:Int} (h:Sm m i) (h':Sm n j):Sm (max m n + 1) (i + j):=by
 have h1:i.natAbs < 2 ^ max m n:=Nat.lt_of_lt_of_le h (Nat.pow_le_pow_right (by decide) (Nat.le_max_left _ _))
 have h2:j.natAbs < 2 ^ max m n:=Nat.lt_of_lt_of_le h' (Nat.pow_le_pow_right (by decide) (Nat.le_max_right _ _))
 have h3:=Int.natAbs_add_le i j
 unfold Sm
 rw [Nat.pow_succ]
 omega
theorem Sm.neg {m:Nat} {i:Int} (h:Sm m i):Sm m (-i):=by unfold Sm at *; rw [Int.natAbs_neg]; exact h
theorem Sm.sub {m n:Nat} {i j:Int} (h:Sm m i) (h':Sm n j):Sm (max m n + 1) (i - j):=h.add h'.neg
theorem Sm.of_le {n:Nat} {i j:Int} (h:i.natAbs≤j.natAbs) (h':Sm n j):Sm n i:=Nat.lt_of_le_of_lt h h'
theorem Sm.div {n:Nat} {i j:Int} (h:Sm n j) (hj:j≠0) (l:n≤9000:=by decide):CDivK i j:=⟨hj,(Nat.log2_lt (by omega)).mpr (Nat.lt_of_lt_of_le h (Nat.pow_le_pow_right (by decide) l))⟩
theorem mulL {i j:Int} (h1:-(2 ^ 64) < i) (h2:i < 2 ^ 64):IntMulOk i j:=CMul.ok (.inl ⟨h1,h2⟩)
theorem mulR {i j:Int} (h1:-(2 ^ 64) < j) (h2:j < 2 ^ 64):IntMulOk i j:=CMul.ok (.inr ⟨h1,h2⟩)
theorem cdK {i j:Int} (h:j≠0:=by decide) (h2:j.natAbs.log2 < 9000:=by decide):CDivK i j:=⟨h,h2⟩
theorem cpK {i j:Int} (h:0≤j:=by decide) (h2:j≤1000000:=by decide) (h3:i.natAbs < 2 ^ 64:=by decide):CPow i j:=⟨h,h2,h3⟩
theorem hu60 {k:Nat} {A:Around} (hr:Room k A):A.units + 60 < cLine:=by have:=hr.un; omega
structure Bu (mg:Str→Option Value):Prop where
 abs:mg "abs"=none
 len:mg "len"=none
 min:mg "min"=none
 max:mg "max"=none
 range:mg "range"=none
 isinstance:mg "isinstance"=none
 int:mg "int"=none
 bool:mg "bool"=none
 list:mg "list"=none
 tuple:mg "tuple"=none
 sum:mg "sum"=none
 all:mg "all"=none
 zip:mg "zip"=none
 enumerate:mg "enumerate"=none
 any:mg "any"=none
 sorted:mg "sorted"=none
 set:mg "set"=none
 str:mg "str"=none
 reversed:mg "reversed"=none
theorem fmod_pos {a b:Int} (h:0 < b):0≤a.fmod b∧a.fmod b < b:=⟨Int.fmod_nonneg_of_pos a h,Int.fmod_lt_of_pos a h⟩
theorem Sm.fmod {n:Nat} {a b:Int} (h:0 < b) (hb:Sm n b):Sm n (a.fmod b):=by
 have:=fmod_pos (a:=a) h
 exact Sm.of_le (by omega) hb
end L2.EP
namespace L2.EP
open PySem PySem.Spec PyProof.Rows
def Df (K:PySem.W.Frag) (x:Str) (st:Stmt):Prop:=∃ (f:Addr) (fd:FuncData),PySem.W.nsIn K mainGlobals x=some (some (.ref f))∧Fun K x x st f fd
theorem Df.mk {K:PySem.W.Frag} {x:Str} {st:Stmt} {f:Addr} {oc:Value} {od an:Option Addr} {osl:Array (Option Value)} {kV doc pm cdv ct:Value} (a:PySem.W.nsIn K mainGlobals x=some (some (.ref f)))
  (l:K.lookup f=some ⟨oc,od,.func (PySem.W.fnOf x x (defArgs st) (defBody st) (defScope st) .none kV doc pm an cdv ct),osl⟩) (c:PySem.W.codeIn K cdv x=true) (k:PySem.W.keepIn K (.ref f)=true):Df K x st:=⟨f,_,a,fun_mk l c k⟩
theorem bu_mk {K:PySem.W.Frag} {h:Heap} {mg:Str→Option Value} (X:K.In h) (G:h.Ns mainGlobals mg) (z1:PySem.W.nsIn K mainGlobals "abs"=some none) (z2:PySem.W.nsIn K mainGlobals "len"=some none) (z3:PySem.W.nsIn K mainGlobals "min"=some none) (z4:PySem.W.nsIn K mainGlobals "max"=some none)
  (z5:PySem.W.nsIn K mainGlobals "range"=some none) (z6:PySem.W.nsIn K mainGlobals "isinstance"=some none) (z7:PySem.W.nsIn K mainGlobals "int"=some none) (z8:PySem.W.nsIn K mainGlobals "bool"=some none) (z9:PySem.W.nsIn K mainGlobals "list"=some none) (z10:PySem.W.nsIn K mainGlobals "tuple"=some none)
  (z11:PySem.W.nsIn K mainGlobals "sum"=some none) (z12:PySem.W.nsIn K mainGlobals "all"=some none) (z13:PySem.W.nsIn K mainGlobals "zip"=some none) (z14:PySem.W.nsIn K mainGlobals "enumerate"=some none) (z15:PySem.W.nsIn K mainGlobals "any"=some none) (z16:PySem.W.nsIn K mainGlobals "sorted"=some none) (z17:PySem.W.nsIn K mainGlobals "set"=some none) (z18:PySem.W.nsIn K mainGlobals "str"=some none) (z19:PySem.W.nsIn K mainGlobals "reversed"=some none):Bu mg :=
 ⟨PySem.W.mg_none_of X G z1,PySem.W.mg_none_of X G z2,PySem.W.mg_none_of X G z3,PySem.W.mg_none_of X G z4,PySem.W.mg_none_of X G z5,PySem.W.mg_none_of X G z6,PySem.W.mg_none_of X G z7,PySem.W.mg_none_of X G z8,PySem.W.mg_none_of X G z9,PySem.W.mg_none_of X G z10,PySem.W.mg_none_of X G z11,PySem.W.mg_none_of X G z12,PySem.W.mg_none_of X G z13,PySem.W.mg_none_of X G z14,PySem.W.mg_none_of X G z15,PySem.W.mg_none_of X G z16,PySem.W.mg_none_of X G z17,PySem.W.mg_none_of X G z18,PySem.W.mg_none_of X G z19⟩
section
variable {P:Program} {w:World} {K:PySem.W.Frag} {mg:Str→Option Value} {base h:Heap} {x:Str} {st:Stmt} {N ps:List Str} {k:Nat}
theorem Df.cal {sp:Sp} (D:Df K x st) (X:K.In h) (G:h.Ns mainGlobals mg) (hb:∀ (kV doc pm:Value) (an:Option Addr) (cdv ct:Value) (us:List Value),us.length=ps.length→bindArgs (PySem.W.fnOf x x (defArgs st) (defBody st) (defScope st) .none kV doc pm an cdv ct) ⟨us,[]⟩=pure (ps.zip us))
  (ok:∀ f fd,Fun K x x st f fd→FnOk P w K mg base CX0 k f fd ps sp):Cal P w K mg base k x ps sp:=by
 obtain ⟨f,fd,a,F⟩:=D
 exact ⟨f,fd,ok f fd F,F.binds hb,F.kp,PySem.W.mg_of X G a⟩
def spLaw (K:PySem.W.Frag):Sp:=sp1 K (fun (ns:List Int)=>ns.length≤63) true (fun _=>true)
theorem pr_ints {K:PySem.W.Frag} {N:Nn} {H:Hp}:∀ ns:List Int,Paired (fun x (b:Int)=>Py.rp K N H x b) (ns.map V.int) ns
 | []=>.nil
 | _ :: r=>.cons rfl (pr_ints r)
theorem law_start (K:PySem.W.Frag) (H:Hp) (a:Addr) (ns:List Int) (hl:ns.length≤63) (hS:SqL K H a (ns.map V.int)):spLaw K [.ref a] H (fun v _=>v=.bl true) fun _ _ _=>False :=
 ⟨fun _=>False,.ref a,ns,fun _ z=>z.elim,rfl,by rw [off_nil]; exact ⟨a,_,rfl,hS,True.intro,pr_ints ns⟩,hl,fun r H' _ z=>z⟩
theorem law_end {fa:Addr} {lp:Program} (D:Df K "law" st) (X:K.In h) (G:h.Ns mainGlobals mg) (hfa:mg "law"=some (.ref fa)) {y:Str}
  (hb:∀ (kV doc pm:Value) (an:Option Addr) (cdv ct:Value) (s:Shared) (u:Value),BindsTo s (PySem.W.fnOf "law" "law" (defArgs st) (defBody st) (defScope st) .none kV doc pm an cdv ct) ⟨[u],[]⟩ [(y,u)])
  (ok:∀ base,K.In base→base.Ns mainGlobals mg→∀ f fd,Fun K "law" "law" st f fd→FnOk lp w K mg base CX0 k f fd [y] (spLaw K)) :
  ∃ fd:FuncData,(∀ (s:Shared) (u:Value),BindsTo s fd ⟨[u],[]⟩ [(y,u)])∧∀ base:Heap,K.In base→base.Ns mainGlobals mg→FnOk lp w K mg base CX0 k fa fd [y] (spLaw K):=by
 obtain ⟨f,fd,a,F⟩:=D
 have e:=hfa.symm.trans (PySem.W.mg_of X G a)
 cases e
 refine ⟨fd,?_,fun base kb nb=>ok base kb nb _ fd F⟩
 obtain ⟨oc,od,kV,doc,pm,an,cdv,ct,osl,rfl,lk,hcd⟩:=F.ex
 exact hb kV doc pm an cdv ct
end
end L2.EP
namespace L2.EP
open PySem PySem.Spec PyProof.Rows
def ITS {α:Type} [Py α] (K:PySem.W.Frag) (H0:Hp) (O:Addr→Prop) (b:Bool) (as:List α) (J:It) (H1:Hp):Prop :=
 ∀ (H':Hp) (O':Addr→Prop),OwnL H' O'→Same (off H1 O) (off H' O')→(∀ (i:Nat) (a:α),as[i]?=some a→J.go i H'∧∀ x H'',J.yld i H' x H''→Same H' H''∧Py.rp K (Nf H0 b) (off H'' O') x a)∧J.stop as.length H'
def EI {α:Type} [Py α] (X:Cx) (Γ:GEnv) (tg iter:Expr) (b:Bool) (as:List α):Prop:=∃ wi,PI X tg iter wi ∧
 ∀ (σ:St) (H H0:Hp) (F O:Addr→Prop) (R:It→Hp→Prop),Sta X.K H0 F O Γ σ H→(∀ J H1,Same H H1→ITS X.K H0 O b as J H1→R J H1)→wi σ H R
def seqI (lo c:Int) (n:Nat):List Int:=(List.range n).map fun i:Nat=>lo + (i:Int) * c
theorem seqI_get {lo c:Int} {n i:Nat} {a:Int} (h:(seqI lo c n)[i]?=some a):i < n∧a=lo + (i:Int) * c:=by
 unfold seqI at h
 rw [List.getElem?_map] at h
 by_cases hi:i < n
 ·rw [List.getElem?_range hi] at h
  exact ⟨hi,(Option.some.inj h).symm⟩
 ·rw [List.getElem?_eq_none (by rw [List.length_range]; omega)] at h; cases h
theorem seqI_len (lo c:Int) (n:Nat):(seqI lo c n).length=n:=by unfold seqI; rw [List.length_map,List.length_range]
section
variable {X:Cx} {Γ:GEnv} {α β:Type} [Py α] [Py β] {e e1 e2 e3 tg:Expr} {b b1 b2 b3:Bool}
theorem ei_list {xs:List α} (he:E X Γ e b xs):EI X Γ tg e b xs:=by
 with_unfolding_all
  exact ⟨_,pi_list he,fun σ H H0 F O R Z q=>⟨H0,F,O,Z,fun v H1 s1 r1=>by
   obtain ⟨p,vs,e,sq,nn,rr⟩:=r1
   refine ⟨p,e,⟨vs,(off_same _ _).seq sq⟩,q _ H1 s1 fun H' O' _ sm=>⟨fun i a ha=>?_,?_⟩⟩
   ·obtain ⟨x,h1,h2⟩:=pr_get rr ha
    refine ⟨⟨vs,x,(off_same _ _).seq (sm.seq sq),h1⟩,fun y H'' hy=>?_⟩
    obtain ⟨e',hy⟩:=hy
    subst e'
    have:=hy vs ((off_same _ _).seq (sm.seq sq))
    rw [h1] at this; cases this
    exact ⟨Same.refl _,rp_mono sm h2⟩
   ·exact ⟨vs,(off_same _ _).seq (sm.seq sq),by rw [pr_len rr]; exact Nat.le_refl _⟩⟩⟩
theorem its_range {K:PySem.W.Frag} {H0:Hp} {O:Addr→Prop} {lo:Int} {n:Nat} {H1:Hp}:ITS K H0 O true (seqI lo 1 n) (Itr lo n) H1:=fun H' O' _ sm=>⟨fun i a ha=>by
 obtain ⟨h1,h2⟩:=seqI_get ha
 refine ⟨h1,fun x H'' hy=>?_⟩
 obtain ⟨e1,e2⟩:=hy
 subst e1 e2 h2
 exact ⟨Same.refl _,by show V.int _=V.int _; rw [Int.mul_one]⟩,by show n≤_; rw [seqI_len]; exact Nat.le_refl _⟩
theorem ei_range {n:Int} {p ps:Pos} (hg:Gl X "range") (hm:X.mg "range"=none) (he:E X Γ e b n) (h1:-(2 ^ 62)≤n) (h2:n < 2 ^ 62)
  (hs:starEach [e] X.env=[(false,eval e X.env)]:=by rfl) (hs1:starEach [e] X.env=(false,eval e X.env) :: starEach [] X.env:=by rfl):EI X Γ tg (.Call (.Name "range" p) [e] [] ps) true (seqI 0 1 n.toNat):=by
 with_unfolding_all
  exact ⟨_,pi_range1 hg hm (pa_cons he pa_nil hs1) hs,fun σ H H0 F O R Z q=>⟨H0,F,O,Z,fun v H1 s1 r1=>⟨n,by cases r1; rfl,h1,h2,q _ H1 s1 its_range⟩⟩⟩
theorem s_for {D:GD} {pos:Pos} {rest body:List Stmt} {g:TG} {tc:Nat→Prop} {put:Bool→α→GEnv→GEnv} {as:List α} (J:Nat→GEnv→Prop) (hG:G X tg g α put tc) (he:EI X Γ tg e b as) (h0:J 0 Γ)
  (ht:∀ (i:Nat) (a:α) Γ',as[i]?=some a→J i Γ'→S X (put b a Γ') body { D with nx:=J (i + 1),ct:=J (i + 1),bk:=fun Γ2=>S X Γ2 rest D }) (hd:∀ Γ',J as.length Γ'→S X Γ' rest D)
  (hc:X.calm=true:=by rfl) (hp:PassesOwn (model X.prog X.w) X.A X.env X.xe:=by exact PassesOwn.never)
  (hfs:∀ x,foldedSetIterable e X.env x=pure x:=by intro _; rfl):S X Γ (.For tg e body [] pos :: rest) D:=by
 with_unfolding_all
  obtain ⟨wi,hi,hw⟩:=he
  refine s_seq (ps_wk (ps_for hp hc hi hG.1 (tb:=bodyT X body) bodyT_ok hfs) fun De σ H ⟨H0,F,O,Z,nx,r,bk,ct⟩=>?_)
  refine hw σ H H0 F O _ Z fun Jt H1 s1 its=>?_
  refine ⟨fun i m σ' H'=>m=as.length - i∧i≤as.length∧∃ Γ' O',Same (off H1 O) (off H' O')∧Sta X.K H0 F O' Γ' σ' H'∧J i Γ',⟨_,rfl,Nat.zero_le _,Γ,O,Same.refl _,Z.go s1,h0⟩,?_⟩
  rintro i m σ' H' ⟨rfl,hi',Γ',O',sm,Z',j⟩
  obtain ⟨t1,t2⟩:=its H' O' Z'.own sm
  by_cases hlt:i < as.length
  ·have ha:as[i]?=some as[i]:=List.getElem?_eq_getElem hlt
   obtain ⟨go,yl⟩:=t1 i _ ha
   refine .inr ⟨go,fun σ2 H2=>∃ Γ2 O2,Same (off H1 O) (off H2 O2)∧Sta X.K H0 F O2 Γ2 σ2 H2∧J (i + 1) Γ2,fun σ2 H2 q=>⟨as.length - (i + 1),by omega,rfl,hlt,q⟩,fun x H'' hy=>?_⟩
   obtain ⟨s2,rx⟩:=yl x H'' hy
   refine hG.2 b as[i] H0 F O' Γ' σ' H'' _ _ (Z'.go s2) rx fun σ2 Z2 _ _=>?_
   refine ⟨_,_,ht i _ Γ' ha j,H0,F,O',Z2,?_,r,?_,?_⟩
   ·exact fun Γ2 σ2 H2 O2 sm2 Z2 q=>⟨Γ2,O2,sm.trans ((off_mono s2).trans sm2),Z2,q⟩
   ·exact fun Γ2 σ2 H2 O2 sm2 Z2 q=>nx Γ2 σ2 H2 O2 ((off_mono s1).trans (sm.trans ((off_mono s2).trans sm2))) Z2 q
   ·exact fun Γ2 σ2 H2 O2 sm2 Z2 q=>⟨Γ2,O2,sm.trans ((off_mono s2).trans sm2),Z2,q⟩
  ·have ei:i=as.length:=by omega
   subst ei
   exact .inl ⟨t2,nx Γ' σ' H' O' ((off_mono s1).trans sm) Z' (hd Γ' j)⟩
end
def cB:Option (Option Bd)→Option Bd
 | some (some (@Bd.val _ _ b a))=>some (.val b a)
 | _=>none
def cΓ (Γ:GEnv) (tn:List Str) (js:List Nat):GEnv:=tn.map (fun _=>none) ++ js.map fun j=>cB Γ[j]?
theorem cB_val {o:Option (Option Bd)} {g:Bd} (h:cB o=some g):o=some (some g)∧¬ g.isOwn:=by
 unfold cB at h
 split at h
 ·cases h; exact ⟨rfl,fun z=>z⟩
 ·cases h
theorem cΓ_get {Γ:GEnv} {σ:St} {tn:List Str} {js:List Nat} {i:Nat} {g:Bd} (h:(cΓ Γ tn js)[i]?=some (some g)):∃ j,js[i - tn.length]?=some j∧tn.length≤i∧Γ[j]?=some (some g)∧¬ g.isOwn∧(cσ σ tn js)[i]?=some ((σ[j]?).getD none):=by
 unfold cΓ at h
 unfold cσ
 by_cases hi:i < tn.length
 ·rw [List.getElem?_append_left (by simpa using hi),List.getElem?_map] at h
  cases q:tn[i]? with
  | none=>rw [q] at h; cases h
  | some y=>rw [q] at h; cases h
 ·rw [List.getElem?_append_right (by simpa using hi),List.getElem?_map,List.length_map] at h
  rw [List.getElem?_append_right (by simpa using hi),List.getElem?_map,List.length_map]
  cases q:js[i - tn.length]? with
  | none=>rw [q] at h; cases h
  | some j =>
   rw [q] at h
   obtain ⟨h1,h2⟩:=cB_val (Option.some.inj h)
   exact ⟨j,rfl,by omega,h1,h2,rfl⟩
section
variable {K:PySem.W.Frag} {H0:Hp} {F O:Addr→Prop} {Γ:GEnv} {σ:St} {H:Hp}
theorem Sta.blk (Z:Sta K H0 F O Γ σ H) (tn:List Str) (js:List Nat):Sta K H0 F O (cΓ Γ tn js) (cσ σ tn js) H where
 same:=Z.same
 fo:=Z.fo
 f0:=Z.f0
 own:=Z.own
 len:=by unfold cΓ cσ; simp
 at_:=fun i g e n=>by
  obtain ⟨j,h1,h2,h3,h4,h5⟩:=cΓ_get (σ:=σ) e
  obtain ⟨v,q1,q2⟩:=Z.at_ j g h3 n
  exact ⟨v,by rw [h5,q1]; rfl,q2⟩
 dis:=⟨fun _ _=>False,fun _ _ _ z=>z.elim,fun _ _ z=>z.elim,fun i g e o=>by
  obtain ⟨_,_,_,_,h4,_⟩:=cΓ_get (σ:=σ) e
  exact absurd o h4⟩
theorem Sta.ownIn {H':Hp} {D:Addr} {xs:List V} (Z:Sta K H0 F O Γ σ H) (hD:H D=none) (sm:Same H H') (hx:H' D=some (.lst xs)):Sta K H0 F (fun p=>O p∨p=D) Γ σ H'∧Same (off H O) (off H' fun p=>O p∨p=D):=by
 have so:Same (off H O) (off H' fun p=>O p∨p=D):=fun b o h=>by
  obtain ⟨h1,h2⟩:=off_some h
  have hb:b≠D:=fun z=>by rw [z,hD] at h2; cases h2
  rw [off_get (by rintro (z | z); exact h1 z; exact hb z)]; exact sm _ _ h2
 refine ⟨⟨Z.same.trans sm,fun p h=>.inl (Z.fo p h),Z.f0,fun p h=>?_,Z.len,fun i g e n=>?_,?_⟩,so⟩
 ·rcases h with h | h
  ·obtain ⟨ys,q⟩:=Z.own p h
   exact ⟨ys,sm _ _ q⟩
  ·subst h; exact ⟨.inl xs,hx⟩
 ·obtain ⟨v,q1,q2⟩:=Z.at_ i g e n
  refine ⟨v,q1,?_⟩
  cases g with
  | val b a=>exact rp_mono so q2
  | own b as=>exact q2
  | dpo a=>exact q2
 ·obtain ⟨D',d1,d2,d3⟩:=Z.dis
  refine ⟨D',d1,fun i p h=>⟨.inl (d2 i p h).1,(d2 i p h).2⟩,fun i g e o=>?_⟩
  obtain ⟨v,q1,q2⟩:=d3 i g e o
  exact ⟨v,q1,Bd.goD q2 (fun p ys _ z=>sm _ _ z) so (fun p z=>(d2 i p z).1) Z.own⟩
end
section
variable {X:Cx} {Γ:GEnv} {D:GD} {α β:Type} [Py α] [Py β] {elt target iter c:Expr} {b b':Bool} {pos:Pos} {scope:Scope} {tn:List Str} {js:List Nat} {g:TG} {tc:Nat→Prop} {put:Bool→α→GEnv→GEnv} {as:List α} {f:α→β} {p:α→Bool} {ifs:List Expr}
def teC (X:Cx) (tn:List Str) (js:List Nat) (scope:Scope) (elt:Expr) (β:Type) [Py β] (b:Bool):TE:=fun σ H Q=>∃ Γ',∃ v:β,(∀ C s H fp,E (blk X (cN X tn js) scope C s H fp) Γ' elt b v)∧tV X.K Γ' b v σ H Q
@[irreducible] def FT (X:Cx) (Γ:GEnv) (ifs:List Expr) (c:Bool):Prop:=PF X ifs (tVT X.K Γ c)
def ttC (X:Cx) (tn:List Str) (js:List Nat) (scope:Scope) (ifs:List Expr):TT:=fun σ H Q=>∃ Γ' c,(∀ C s H fp,FT (blk X (cN X tn js) scope C s H fp) Γ' ifs c)∧tVT X.K Γ' c σ H Q
theorem ft_nil:FT X Γ [] true:=by
 with_unfolding_all
  exact fun pins s σ H Q I ⟨H0,F,O,Z,q⟩=>pf_nil pins s σ H Q I (q H (Same.refl _))
theorem ft_one {k:Bool} (h:T X Γ c k):FT X Γ [c] k:=by
 with_unfolding_all
  exact pf_one h
theorem comp_wk {wi:TI} (hw:∀ (σ:St) (H H0:Hp) (F O:Addr→Prop) (R:It→Hp→Prop),Sta X.K H0 F O Γ σ H→(∀ J H1,Same H H1→ITS X.K H0 O b as J H1→R J H1)→wi σ H R)
  (hgp:GP g α put tc X.K) (htc:∀ j,tc j→j < tn.length)
  (ht:∀ (i:Nat) (a:α),as[i]?=some a→∀ C s H fp,FT (blk X (cN X tn js) scope C s H fp) (put b a (cΓ Γ tn js)) ifs (p a))
  (hb:∀ (i:Nat) (a:α),as[i]?=some a→p a=true→∀ C s H fp,E (blk X (cN X tn js) scope C s H fp) (put b a (cΓ Γ tn js)) elt b' (f a)) (hl:as.length≤1000)
  {σ:St} {H:Hp} {Q:VK} {H0:Hp} {F O:Addr→Prop} (Z:Sta X.K H0 F O Γ σ H) (q:∀ v H',Same H H'→Py.rp X.K (Nf H0 b') (off H' O) v ((as.filter p).map f)→Q v H') :
  tLC wi tn js g (ttC X tn js scope ifs) (teC X tn js scope elt β b') σ H Q:=by
 with_unfolding_all
  refine hw σ H H0 F O _ Z fun J H1 s1 its D hD=>?_
  have Z1:=Z.go s1
  refine ⟨fun i m H' xs=>m=as.length - i∧i≤as.length∧Same H1 H'∧H' D=some (.lst xs)∧Paired (fun x a=>Py.rp X.K (Nf H0 b') (off H' fun p=>O p∨p=D) x a) xs (((as.take i).filter p).map f),
   ⟨_,rfl,Nat.zero_le _,same_upd hD _,upd_same,.nil⟩,?_⟩
  rintro i m H' xs ⟨rfl,hi,sm,hx,rr⟩
  refine ⟨hx,?_⟩
  obtain ⟨Z',so⟩:=Z1.ownIn hD sm hx
  obtain ⟨t1,t2⟩:=its H' _ Z'.own so
  by_cases hlt:i < as.length
  ·have ha:as[i]?=some as[i]:=List.getElem?_eq_getElem hlt
   have htk:as.take (i + 1)=as.take i ++ [as[i]]:=by rw [List.take_succ,ha]; rfl
   obtain ⟨go,yl⟩:=t1 i _ ha
   refine .inr ⟨go,fun x H'' hy=>?_⟩
   obtain ⟨s2,rx⟩:=yl x H'' hy
   refine hgp b as[i] H0 F _ (cΓ Γ tn js) (cσ σ tn js) H'' x _ ((Z'.go s2).blk tn js) rx fun σ2 Z2 l2 k2=>?_
   refine ⟨⟨fun j v hj e=>?_,l2⟩,_,_,ht i _ ha,H0,F,_,Z2,fun H3 s3=>?_⟩
   ·rw [k2 j fun z=>absurd (htc j z) (Nat.not_lt.mpr hj)]; exact e
   cases hp:p as[i] with
   | false =>
    refine iteF ⟨as.length - (i + 1),by omega,rfl,hlt,sm.trans (s2.trans s3),s3 _ _ (s2 _ _ hx),?_⟩
    rw [htk,List.filter_append,List.filter_cons,hp]
    simp only [Bool.false_eq_true,if_false,List.filter_nil,List.append_nil]
    exact pr_imp (fun _ _ z=>rp_mono (off_mono (s2.trans s3)) z) rr
   | true =>
    refine iteT ⟨_,_,hb i _ ha hp,H0,F,_,Z2.go s3,fun y H4 s4 ry=>?_⟩
    have hx4:H4 D=some (.lst xs):=s4 _ _ (s3 _ _ (s2 _ _ hx))
    have hOD:(fun p=>O p∨p=D) D:=.inr rfl
    refine ⟨hx4,?_,as.length - (i + 1),by omega,rfl,hlt,?_,upd_same,?_⟩
    ·have:=pr_len rr
     rw [List.length_map] at this
     have h2:=List.length_filter_le p (as.take i)
     have h3:=List.length_take_le i as
     exact Nat.lt_of_le_of_lt (by omega) (small1000 hl)
    ·exact fun c o z=>by
      have hc:c≠D:=fun w=>by rw [w,hD] at z; cases z
      rw [upd_ne hc]; exact s4 _ _ (s3 _ _ (s2 _ _ (sm _ _ z)))
    ·rw [off_upd hOD,htk,List.filter_append,List.filter_cons,hp]
     simp only [if_true,List.filter_nil,List.map_append,List.map_cons,List.map_nil]
     exact pr_app (pr_imp (fun _ _ z=>rp_mono (off_mono (s2.trans (s3.trans s4))) z) rr) (.cons ry .nil)
  ·have ei:i=as.length:=by omega
   subst ei
   rw [List.take_length] at rr
   have hxo:off H' O D=some (.lst xs):=by rw [off_get (Z1.notOwn hD)]; exact hx
   refine .inl ⟨t2,q _ H' (s1.trans sm) ⟨D,xs,rfl,SqL.of hxo,Nf.wk (Z1.free0 hD) hxo,?_⟩⟩
   ·exact pr_imp (fun _ _ z=>rp_mono (off_less fun _ w=>.inl w) z) rr
theorem teC_ok {C:Addr} {s:Shared} {H:Hp} {fp:List Addr}:PE (blk X (cN X tn js) scope C s H fp) elt (teC X tn js scope elt β b'):=by
 with_unfolding_all
  exact fun pins s' σ H' Q I ⟨Γ',v,h,q⟩=>(show PE (blk X (cN X tn js) scope C s H fp) elt (tV X.K Γ' b' v) from h C s H fp) pins s' σ H' Q I q
theorem ttC_ok {C:Addr} {s:Shared} {H:Hp} {fp:List Addr}:PF (blk X (cN X tn js) scope C s H fp) ifs (ttC X tn js scope ifs):=by
 with_unfolding_all
  exact fun pins s' σ H' Q I ⟨Γ',c,h,q⟩=>(show PF (blk X (cN X tn js) scope C s H fp) ifs (tVT X.K Γ' c) from h C s H fp) pins s' σ H' Q I q
theorem e_compF (tn:List Str) (js:List Nat) (S:CScope X scope tn js) (he:EI X Γ target iter b as) (hgp:GP g α put tc X.K) (hg:∀ C s H fp,PG (blk X (cN X tn js) scope C s H fp) target g) (htc:∀ j,tc j→j < tn.length)
  (ht:∀ (i:Nat) (a:α),as[i]?=some a→∀ C s H fp,FT (blk X (cN X tn js) scope C s H fp) (put b a (cΓ Γ tn js)) ifs (p a))
  (hb:∀ (i:Nat) (a:α),as[i]?=some a→p a=true→∀ C s H fp,E (blk X (cN X tn js) scope C s H fp) (put b a (cΓ Γ tn js)) elt b' (f a)) (hl:as.length≤1000) (hc:X.calm=true:=by rfl)
  (hs:∀ x,foldedSetIterable iter X.env x=pure x:=by intro _; rfl):E X Γ (.ListComp elt [⟨target,iter,ifs,0⟩] scope pos) b' ((as.filter p).map f):=by
 with_unfolding_all
  obtain ⟨wi,hi,hw⟩:=he
  exact pe_wk (pe_lc S hc hi (fun C s H fp=>⟨hg C s H fp,ttC_ok,teC_ok⟩) hs) fun σ H Q ⟨H0,F,O,Z,q⟩=>comp_wk hw hgp htc ht hb hl Z q
theorem e_comp (tn:List Str) (js:List Nat) (S:CScope X scope tn js) (he:EI X Γ target iter b as) (hgp:GP g α put tc X.K) (hg:∀ C s H fp,PG (blk X (cN X tn js) scope C s H fp) target g) (htc:∀ j,tc j→j < tn.length)
  (hb:∀ (i:Nat) (a:α),as[i]?=some a→∀ C s H fp,E (blk X (cN X tn js) scope C s H fp) (put b a (cΓ Γ tn js)) elt b' (f a)) (hl:as.length≤1000) (hc:X.calm=true:=by rfl)
  (hs:∀ x,foldedSetIterable iter X.env x=pure x:=by intro _; rfl):E X Γ (.ListComp elt [⟨target,iter,[],0⟩] scope pos) b' (as.map f):=by
 with_unfolding_all
  have h:=e_compF (pos:=pos) (p:=fun _=>true) tn js S he hgp hg htc (fun i a _ C s H fp=>ft_nil) (fun i a ha _=>hb i a ha) hl hc hs
  rw [List.filter_eq_self.mpr (fun _ _=>rfl)] at h
  exact h
theorem s_compF (i:Nat) {y:Str} {py spos:Pos} {rest:List Stmt} (hN:X.N.Nodup) (tn:List Str) (js:List Nat) (S':CScope X scope tn js) (he:EI X Γ target iter b as) (hgp:GP g α put tc X.K) (hg:∀ C s H fp,PG (blk X (cN X tn js) scope C s H fp) target g) (htc:∀ j,tc j→j < tn.length)
  (ht:∀ (i:Nat) (a:α),as[i]?=some a→∀ C s H fp,FT (blk X (cN X tn js) scope C s H fp) (put b a (cΓ Γ tn js)) ifs (p a))
  (hb:∀ (i:Nat) (a:α),as[i]?=some a→p a=true→∀ C s H fp,E (blk X (cN X tn js) scope C s H fp) (put b a (cΓ Γ tn js)) elt b' (f a)) (hl:as.length≤1000)
  (h:S X (Γ.set i (some (.val b' ((as.filter p).map f)))) rest D) (hiN:X.N[i]?=some y:=by rfl) (hy:Loc X.env.scope y:=by first | exact Or.inl rfl | exact Or.inr rfl)
  (hf:X.fn y=true∨X.env.scope.names.lookup y=some .local:=by first | exact .inl rfl | exact .inr rfl) (hc:X.calm=true:=by rfl)
  (hsw:swapsWith (.ListComp elt [⟨target,iter,ifs,0⟩] scope pos) (some (.Name y py)) spos.line X.env=pure true:=by rfl)
  (hs:∀ x,foldedSetIterable iter X.env x=pure x:=by intro _; rfl):EP.S X Γ (.Assign [.Name y py] (.ListComp elt [⟨target,iter,ifs,0⟩] scope pos) spos :: rest) D:=by
 with_unfolding_all
  obtain ⟨wi,hi,hw⟩:=he
  exact s_seq (ps_wk (ps_setLC hN hiN hy hf S' hc hi (fun C s H fp=>⟨hg C s H fp,ttC_ok,teC_ok⟩) hsw hs) fun De σ H ⟨H0,F,O,Z,n,_⟩=>comp_wk hw hgp htc ht hb hl Z fun v H1 s1 r1=>n _ _ H1 O (off_mono s1) ((Z.go s1).set r1) h)
theorem s_comp (i:Nat) {y:Str} {py spos:Pos} {rest:List Stmt} (hN:X.N.Nodup) (tn:List Str) (js:List Nat) (S':CScope X scope tn js) (he:EI X Γ target iter b as) (hgp:GP g α put tc X.K) (hg:∀ C s H fp,PG (blk X (cN X tn js) scope C s H fp) target g) (htc:∀ j,tc j→j < tn.length)
  (hb:∀ (i:Nat) (a:α),as[i]?=some a→∀ C s H fp,E (blk X (cN X tn js) scope C s H fp) (put b a (cΓ Γ tn js)) elt b' (f a)) (hl:as.length≤1000)
  (h:S X (Γ.set i (some (.val b' (as.map f)))) rest D) (hiN:X.N[i]?=some y:=by rfl) (hy:Loc X.env.scope y:=by first | exact Or.inl rfl | exact Or.inr rfl)
  (hf:X.fn y=true∨X.env.scope.names.lookup y=some .local:=by first | exact .inl rfl | exact .inr rfl) (hc:X.calm=true:=by rfl)
  (hsw:swapsWith (.ListComp elt [⟨target,iter,[],0⟩] scope pos) (some (.Name y py)) spos.line X.env=pure true:=by rfl)
  (hs:∀ x,foldedSetIterable iter X.env x=pure x:=by intro _; rfl):EP.S X Γ (.Assign [.Name y py] (.ListComp elt [⟨target,iter,[],0⟩] scope pos) spos :: rest) D:=by
 with_unfolding_all
  refine s_compF (p:=fun _=>true) i hN tn js S' he hgp hg htc (fun i a _ C s H fp=>ft_nil) (fun i a ha _=>hb i a ha) hl ?_ hiN hy hf hc hsw hs
  rw [List.filter_eq_self.mpr (fun _ _=>rfl)]
  exact h
end
end L2.EP
namespace L2.EP
open PySem PySem.Spec PyProof.Rows
theorem bools_of:∀ {bs:List Bool} {us:List Value},Vals (bs.map V.bl) us→LSm.BoolsAre us bs
 | [],_,h=>by cases h; exact .nil
 | b :: r,_,h=>by
  cases h with
  | cons h1 h2=>cases h1; exact .cons b (bools_of h2)
section
variable {X:Cx}
theorem call_allL (hc:X.calm=true):CallR X (.builtin "all") (fun xs H Q=>∃ p,∃ bs:List Bool,xs=[.ref p]∧SqL X.K H p (bs.map V.bl)∧Q (.bl (bs.all id)) H):=by
 intro pins s σ H xs us Q I r h
 obtain ⟨p,bs,rfl,sq,q⟩:=h
 obtain ⟨u,rfl,rx⟩:=vals1 r
 cases rx
 obtain ⟨its,rr,pl,_⟩:=I.list sq
 have hb:=bools_of rr
 have hl:=pl.isList
 have hlt:p < s.heap.objs.size:=by obtain ⟨_,e,_⟩:=hl; exact Heap.lt_size e
 refine call_all_walk (wpAny_pyIter_list hl ?_)
 refine ⟨s.heap.objs.size,[s.heap.objs.size,p],[s.heap.objs.size],its.toArray.size,_,_,fun i=>(bs[i]?).getD true,rfl,Walks.list (A:=X.A.in1) (I.ok.hd hc) _ p (Nat.ne_of_lt hlt) its.toArray,
  ⟨⟨_,Heap.get?_push_size _ rfl,rfl,rfl⟩,hl.push _⟩,fun i v s' Q' E' hP hQ=>?_,fun h' tk hk=>?_⟩
 ·obtain ⟨b,e,rfl⟩:=hb.get i v (by simpa using hP)
  simp only [e,Option.getD_some] at hQ
  exact wpAny_truthy_bool hQ
 ·have e:((List.range its.toArray.size).all fun i=>(bs[i]?).getD true)=bs.all id:=by
   rw [List.size_toArray,hb.length]; exact LSm.range_all bs
  rw [e]
  exact ⟨.bl _,H,I.kept (LSm.kept_iter hk),rfl,q⟩
end
theorem pr_bl {K:PySem.W.Frag} {N:Nn} {H:Hp}:∀ {xs:List V} {bs:List Bool},Paired (fun x (b:Bool)=>Py.rp K N H x b) xs bs→xs=bs.map V.bl
 | _,_,.nil=>rfl
 | _,_,.cons h t=>by rw [show _=V.bl _ from h,pr_bl t]; rfl
theorem pr_int {K:PySem.W.Frag} {N:Nn} {H:Hp}:∀ {xs:List V} {bs:List Int},Paired (fun x (b:Int)=>Py.rp K N H x b) xs bs→xs=bs.map V.int
 | _,_,.nil=>rfl
 | _,_,.cons h t=>by rw [show _=V.int _ from h,pr_int t]; rfl
section
variable {X:Cx} {Γ:GEnv} {α β γ:Type} [Py α] [Py β] [Py γ] {e e1 e2 e3:Expr} {b b1 b2 b3:Bool} {pos:Pos}
theorem e_all {bs:List Bool} {p:Pos} (hc:X.calm=true) (hg:Gl X "all") (hm:X.mg "all"=none) (ha:E X Γ e b bs) (hs:starEach [e] X.env=(false,eval e X.env) :: starEach [] X.env:=by rfl):E X Γ (.Call (.Name "all" p) [e] [] pos) true (bs.all id):=by
 with_unfolding_all
  exact pe_wk (pe_callB (call_allL hc) hg hm PyProof.Rows.boot_all (pa_cons ha pa_nil hs) (he:=hs)) fun σ H Q ⟨H0,F,O,S,q⟩=>⟨H0,F,O,S,fun v H1 s1 r1=>by
    obtain ⟨p,vs,e,sq,n,r⟩:=r1
    rw [pr_bl r] at sq
    exact ⟨p,bs,by rw [e],(off_same _ _).seq sq,q _ H1 s1 rfl⟩⟩
theorem e_from {xs:List α} {k:Int} {p2:Pos} (ha:E X Γ e1 b xs) (hb:E X Γ e2 b2 k) (h0:0≤k):E X Γ (.Subscript e1 (.Slice (some e2) none none p2) pos) b (xs.drop k.toNat):=by
 with_unfolding_all
  exact pe_wk (pe_slice sl_list ha (po_some hb) po_none) fun σ H Q ⟨H0,F,O,S,q⟩=>⟨H0,F,O,S,fun v H1 s1 r1=>⟨H0,F,O,S.go s1,fun w H2 s2 r2=>by
    obtain ⟨p,vs,e,sq,n,r⟩:=r1
    refine ⟨k,r2,p,vs,e,(off_same _ _).seq ((off_mono s2).seq sq),fun l hl=>?_⟩
    obtain ⟨z1,z2⟩:=laid_lst (xs:=cutV vs (some k) none) ((S.go s1).go s2) hl
    refine q _ _ (s1.trans (s2.trans z1)) ⟨l,_,rfl,SqL.of z2,Nf.wk (((S.go s1).go s2).free0 hl) z2,?_⟩
    have ec:cutV vs (some k) none=vs.drop k.toNat:=by
     unfold cutV
     have hk:k=((k.toNat:Nat):Int):=by omega
     rw [hk,HT.sIx_nat,HT.sIx_none]
     simp only [Int.toNat_natCast]
     by_cases hkn:k.toNat≤vs.length
     ·rw [Nat.min_eq_left hkn,List.take_of_length_le (by rw [List.length_drop]; exact Nat.le_refl _)]
     ·rw [Nat.min_eq_right (by omega),List.drop_eq_nil_of_le (Nat.le_refl _),List.drop_eq_nil_of_le (by omega)]; simp
    have rr:=pr_imp (fun _ _ z=>rp_mono ((off_mono s2).trans (off_mono z1)) z) (pr_drop k.toNat r)
    rw [← ec] at rr
    exact rr⟩⟩
end
end L2.EP
namespace L2.EP
open PySem PySem.Spec PyProof.Rows
def ckS (osc:Scope) (N:List Str) (scope:Scope) (js:List Nat):Bool :=
 (scope.kind == .function) && scope.names.all (fun x=>(!(x.2 == .local) || scope.names.lookup x.1 == some .local) && (!(x.2 == .free) || (scope.names.lookup x.1 == some .free && (osc.names.lookup x.1 == some .cell || osc.names.lookup x.1 == some .free))) && scope.names.all (fun y=>!(x.1 == y.1) || x.2 == y.2)) &&
  js.all (fun j=>match N[j]? with | some x=>scope.names.lookup x == some .free | none=>false)
theorem cscope {X:Cx} {scope:Scope} {tn:List Str} {js:List Nat} (osc:Scope) (N:List Str) (h1:X.env.scope=osc) (h2:X.N=N) (h:ckS osc N scope js=true):CScope X scope tn js:=by
 subst h1 h2
 unfold ckS at h
 simp only [Bool.and_eq_true,List.all_eq_true] at h
 obtain ⟨⟨hk,ha⟩,hj⟩:=h
 refine ⟨by simpa using hk,fun x hx e=>?_,fun x hx e=>?_,fun x hx y hy e=>?_,fun j hjm=>?_⟩
 ·obtain ⟨⟨h1,h2⟩,h3⟩:=ha x hx
  simpa [e] using h1
 ·obtain ⟨⟨h1,h2⟩,h3⟩:=ha x hx
  have h2':(scope.names.lookup x.1 == some .free && (X.env.scope.names.lookup x.1 == some .cell || X.env.scope.names.lookup x.1 == some .free))=true:=by simpa [e] using h2
  obtain ⟨q1,q2⟩:=Bool.and_eq_true_iff.mp h2'
  refine ⟨by simpa using q1,?_⟩
  rcases Bool.or_eq_true_iff.mp q2 with z | z
  ·exact .inl (show X.env.scope.names.lookup x.1=_ by simpa using z)
  ·exact .inr (show X.env.scope.names.lookup x.1=_ by simpa using z)
 ·obtain ⟨⟨h1,h2⟩,h3⟩:=ha x hx
  have:=h3 y hy
  simpa [e] using this
 ·have:=hj j hjm
  split at this
  ·rename_i x hx
   exact ⟨x,hx,by simpa using this⟩
  ·cases this
theorem rel_at {env:Env} {x:Str}:∀ (names:List (Str × NameKind)),(names.map fun (n,k)=>if (k == NameKind.free && env.scope.kind == .function && env.kindOf n == some .cell) then (n,NameKind.cell) else (n,k)).lookup x =
  (names.lookup x).map fun k=>if (k == NameKind.free && env.scope.kind == .function && env.kindOf x == some .cell) then NameKind.cell else k
 | []=>rfl
 | (n,k) :: r=>by
  have ih:=rel_at (env:=env) (x:=x) r
  by_cases e:x=n
  ·subst e
   cases hc:(k == NameKind.free && env.scope.kind == .function && env.kindOf x == some .cell) <;>
    simp only [hc,List.map_cons,List.lookup_cons,beq_self_eq_true,if_true,Option.map_some,Bool.false_eq_true,if_false]
  ·have hn:(x == n)=false:=by simpa using e
   cases hc:(k == NameKind.free && env.scope.kind == .function && env.kindOf n == some .cell) <;>
    simp only [hc,hn,List.map_cons,List.lookup_cons,if_true,Bool.false_eq_true,if_false] <;> exact ih
theorem relabel_cell {env:Env} {names:List (Str × NameKind)} {x:Str} (h:names.lookup x=some .cell):(names.map fun (n,k)=>if (k == NameKind.free && env.scope.kind == .function && env.kindOf n == some .cell) then (n,NameKind.cell) else (n,k)).lookup x=some .cell:=by
 rw [rel_at,h]; rfl
theorem pg_cn {X:Cx} {scope:Scope} {tn:List Str} {js:List Nat} {C:Addr} {s:Shared} {H:Hp} {fp:List Addr} {x:Str} {pos:Pos} (i:Nat) (N:List Str) (h:cN X tn js=N:=by rfl) (hd:N.Nodup:=by decide +kernel) (hi:N[i]?=some x:=by rfl)
  (hl:scope.names.lookup x=some .local∨scope.names.lookup x=some .cell:=by first | exact .inl rfl | exact .inr rfl):PG (blk X (cN X tn js) scope C s H fp) (.Name x pos) (gName i):=by
 refine pg_name (show (cN X tn js).Nodup by rw [h]; exact hd) (show (cN X tn js)[i]?=some x by rw [h]; exact hi) ?_ ?_
 ·rcases hl with z | z
  ·exact .inl (lookup_relabel_local z)
  ·exact .inr (relabel_cell z)
 ·rcases hl with z | z
  ·exact .inr (lookup_relabel_local z)
  ·refine .inl ?_
   show (match scope.names.lookup x with | some .cell=>true | _=>false)=true
   rw [z]
theorem lt_of_eq {i n:Nat} (h:i < n:=by decide):∀ j,j=i→j < n:=fun j e=>by rw [e]; exact h
end L2.EP
namespace L2.EP
open PySem PySem.Spec PyProof.Rows
section
variable {K:PySem.W.Frag} {H0:Hp} {F O:Addr→Prop} {Γ:GEnv} {σ:St} {H H':Hp}
theorem Sta.putOwn {v:V} {i:Nat} (Z:Sta K H0 F O Γ σ H) (sm:Same H H') (N:Addr→Prop) (hN:∀ q,N q→H q=none∧∃ xs:Mt,H' q=some (mo xs)) (g:Bd) (hg:g.isOwn) (hv:g.okD K H0 (fun p=>O p∨N p) H' N v) :
  Sta K H0 F (fun p=>O p∨N p) (Γ.set i (some g)) (σ.set i (some v)) H'∧Same (off H O) (off H' fun p=>O p∨N p):=by
 have so:Same (off H O) (off H' fun p=>O p∨N p):=fun b o h=>by
  obtain ⟨h1,h2⟩:=off_some h
  have hb:¬ N b:=fun z=>by rw [(hN b z).1] at h2; cases h2
  rw [off_get (by rintro (z | z); exact h1 z; exact hb z)]; exact sm _ _ h2
 refine ⟨⟨Z.same.trans sm,fun p h=>.inl (Z.fo p h),Z.f0,fun p h=>?_,by rw [List.length_set,List.length_set]; exact Z.len,fun j g' e n=>?_,?_⟩,so⟩
 ·rcases h with h | h
  ·obtain ⟨ys,q⟩:=Z.own p h
   exact ⟨ys,sm _ _ q⟩
  ·exact (hN p h).2
 ·by_cases hj:j=i
  ·subst hj
   obtain ⟨hl,e'⟩:=get_set_some e
   subst e'; exact absurd hg n
  ·rw [get_set_ne hj] at e
   obtain ⟨w,q1,q2⟩:=Z.at_ j g' e n
   refine ⟨w,by rw [get_set_ne hj]; exact q1,?_⟩
   cases g' with
   | val b a=>exact rp_mono so q2
   | own b as=>exact q2
   | dpo a=>exact q2
 ·obtain ⟨D,d1,d2,d3⟩:=Z.dis
  refine ⟨fun j q=>(j=i∧N q)∨(j≠i∧D j q),fun j k q h1 h2=>?_,fun j q h=>?_,fun j g' e o=>?_⟩
  ·rcases h1 with ⟨e1,n1⟩ | ⟨e1,n1⟩ <;> rcases h2 with ⟨e2,n2⟩ | ⟨e2,n2⟩
   ·rw [e1,e2]
   ·exact absurd (d2 k q n2).1 (Z.notOwn (hN q n1).1)
   ·exact absurd (d2 j q n1).1 (Z.notOwn (hN q n2).1)
   ·exact d1 j k q n1 n2
  ·rcases h with ⟨_,n⟩ | ⟨_,n⟩
   ·exact ⟨.inr n,Z.free0 (hN q n).1⟩
   ·exact ⟨.inl (d2 j q n).1,(d2 j q n).2⟩
  ·by_cases hj:j=i
   ·subst hj
    obtain ⟨hl,e'⟩:=get_set_some e
    subst e'
    refine ⟨v,get_set_eq (by rw [Z.len]; exact hl),?_⟩
    have:(fun q=>(j=j∧N q)∨(j≠j∧D j q))=N:=funext fun q=>propext ⟨fun z=>by rcases z with ⟨_,z⟩ | ⟨z,_⟩; exact z; exact absurd rfl z,fun z=>.inl ⟨rfl,z⟩⟩
    show Bd.okD K H0 (fun p=>O p∨N p) H' (fun q=>(j=j∧N q)∨(j≠j∧D j q)) v g
    rw [this]; exact hv
   ·rw [get_set_ne hj] at e
    obtain ⟨w,q1,q2⟩:=d3 j g' e o
    refine ⟨w,by rw [get_set_ne hj]; exact q1,?_⟩
    have:(fun q=>(j=i∧N q)∨(j≠i∧D j q))=D j:=funext fun q=>propext ⟨fun z=>by rcases z with ⟨z,_⟩ | ⟨_,z⟩; exact absurd z hj; exact z,fun z=>.inr ⟨hj,z⟩⟩
    show Bd.okD K H0 (fun p=>O p∨N p) H' (fun q=>(j=i∧N q)∨(j≠i∧D j q)) w g'
    rw [this]
    exact Bd.goD q2 (fun p ys _ z=>sm _ _ z) so (fun p z=>(d2 j p z).1) Z.own
theorem Sta.writeM {i:Nat} {g:Bd} (Z:Sta K H0 F O Γ σ H) (hg:Γ[i]?=some (some g)) (ho:g.isOwn):∃ v D,σ[i]?=some (some v)∧g.okD K H0 O H D v∧(∀ p,D p→O p∧H0 p=none) ∧
  ∀ (p:Addr) (ys:Mt) (g':Option Bd),D p→(∀ g'',g'=some g''→g''.isOwn∧g''.okD K H0 O (upd H p (mo ys)) D v)→Sta K H0 F O (Γ.set i g') σ (upd H p (mo ys))∧off (upd H p (mo ys)) O=off H O:=by
 obtain ⟨D,d1,d2,d3⟩:=Z.dis
 obtain ⟨v,q1,q2⟩:=d3 i g hg ho
 refine ⟨v,D i,q1,q2,d2 i,fun p ys g' hp hok=>?_⟩
 have hOp:=(d2 i p hp).1
 have eo:=off_upd (H:=H) (o:=mo ys) hOp
 refine ⟨⟨fun b o z=>?_,Z.fo,Z.f0,fun b hb=>?_,by rw [List.length_set]; exact Z.len,fun j g2 e n=>?_,D,d1,d2,fun j g2 e o=>?_⟩,eo⟩
 ·have:b≠p:=fun w=>by rw [w,(d2 i p hp).2] at z; cases z
  rw [upd_ne this]; exact Z.same _ _ z
 ·by_cases hbp:b=p
  ·subst hbp; exact ⟨ys,upd_same⟩
  ·rw [upd_ne hbp]; exact Z.own b hb
 ·by_cases hj:j=i
  ·subst hj
   have hl:j < Γ.length:=(List.getElem?_eq_some_iff.mp hg).1
   rw [get_set_eq hl] at e
   have e':g'=some g2:=Option.some.inj e
   exact absurd (hok g2 e').1 n
  ·rw [get_set_ne hj] at e
   obtain ⟨w,q3,q4⟩:=Z.at_ j g2 e n
   refine ⟨w,q3,?_⟩
   cases g2 with
   | val b a =>
    show Py.rp K _ (off (upd H p _) O) w a
    rw [eo]; exact q4
   | own b as=>exact q4
   | dpo a=>exact q4
 ·by_cases hj:j=i
  ·subst hj
   have hl:j < Γ.length:=(List.getElem?_eq_some_iff.mp hg).1
   rw [get_set_eq hl] at e
   have e':g'=some g2:=Option.some.inj e
   exact ⟨v,q1,(hok g2 e').2⟩
  ·rw [get_set_ne hj] at e
   obtain ⟨w,q3,q4⟩:=d3 j g2 e o
   refine ⟨w,q3,Bd.goD q4 (fun q xs hq z=>?_) (by rw [eo]; exact Same.refl _) (fun q z=>(d2 j q z).1) Z.own⟩
   have:q≠p:=fun w=>hj (d1 j i q hq (w ▸ hp))
   rw [upd_ne this]; exact z
theorem Sta.write {i:Nat} {g:Bd} (Z:Sta K H0 F O Γ σ H) (hg:Γ[i]?=some (some g)) (ho:g.isOwn):∃ v D,σ[i]?=some (some v)∧g.okD K H0 O H D v∧(∀ p,D p→O p∧H0 p=none) ∧
  ∀ (p:Addr) (ys:List V) (g':Option Bd),D p→(∀ g'',g'=some g''→g''.isOwn∧g''.okD K H0 O (upd H p (.lst ys)) D v)→Sta K H0 F O (Γ.set i g') σ (upd H p (.lst ys))∧off (upd H p (.lst ys)) O=off H O:=by
 obtain ⟨v,D,a,b,c,f⟩:=Z.writeM hg ho
 exact ⟨v,D,a,b,c,fun p ys=>f p (.inl ys)⟩
theorem Sta.freeze {i:Nat} {g g':Bd} (Z:Sta K H0 F O Γ σ H) (hg:Γ[i]?=some (some g)) (ho:g.isOwn) (hn:¬ g'.isOwn)
  (hk:∀ (D O':Addr→Prop) v,g.okD K H0 O H D v→(∀ p,D p→H0 p=none∧¬ O' p)→Same (off H O) (off H O')→(∀ p xs,Rt H p xs→Rt (off H O') p xs)→g'.ok K H0 O' H v) :
  ∃ O',Sta K H0 F O' (Γ.set i (some g')) σ H∧Same (off H O) (off H O'):=by
 obtain ⟨D,d1,d2,d3⟩:=Z.dis
 obtain ⟨v,q1,q2⟩:=d3 i g hg ho
 have so:Same (off H O) (off H fun p=>O p∧¬ D i p):=off_less fun p h=>h.1
 refine ⟨fun p=>O p∧¬ D i p,⟨Z.same,fun p h=>⟨Z.fo p h,fun z=>?_⟩,Z.f0,fun p h=>Z.own p h.1,by rw [List.length_set]; exact Z.len,fun j g2 e n=>?_,fun j q=>j≠i∧D j q,fun j k q h1 h2=>d1 j k q h1.2 h2.2,fun j q h=>⟨⟨(d2 j q h.2).1,fun z=>h.1 (d1 j i q h.2 z)⟩,(d2 j q h.2).2⟩,fun j g2 e o=>?_⟩,so⟩
 ·obtain ⟨xs,w⟩:=Z.f0 p h
  rw [(d2 i p z).2] at w; cases w
 ·by_cases hj:j=i
  ·subst hj
   obtain ⟨_,e'⟩:=get_set_some e
   subst e'
   refine ⟨v,q1,hk (D j) _ v q2 (fun p z=>⟨(d2 j p z).2,fun w=>w.2 z⟩) so fun p xs q=>?_⟩
   have hp:∀ u,(H p=some (.tup u)∨∃ o,H p=some (.frz o (.tup u)))→¬ (O p∧¬ D j p):=fun u z w=>by
    obtain ⟨ys,w'⟩:=Z.own p w.1
    rcases z with z | ⟨o,z⟩
    ·rw [z] at w'; rcases ys with ys | ys | ys <;> cases w'
    ·rw [z] at w'; rcases ys with ys | ys | ys <;> cases w'
   have hp':=hp xs q.rd
   rcases q with q | ⟨o,q⟩
   ·exact .inl (by rw [off_get hp']; exact q)
   ·exact .inr ⟨o,by rw [off_get hp']; exact q⟩
  ·rw [get_set_ne hj] at e
   obtain ⟨w,q3,q4⟩:=Z.at_ j g2 e n
   refine ⟨w,q3,?_⟩
   cases g2 with
   | val b a=>exact rp_mono so q4
   | own b as=>exact q4
   | dpo a=>exact q4
 ·have hj:j≠i:=by
   rintro rfl
   obtain ⟨_,e'⟩:=get_set_some e
   subst e'; exact hn o
  rw [get_set_ne hj] at e
  obtain ⟨w,q3,q4⟩:=d3 j g2 e o
  refine ⟨w,q3,?_⟩
  have:(fun q=>j≠i∧D j q)=D j:=funext fun q=>propext ⟨fun z=>z.2,fun z=>⟨hj,z⟩⟩
  show Bd.okD K H0 (fun p=>O p∧¬ D i p) H (fun q=>j≠i∧D j q) w g2
  rw [this]
  exact Bd.goD q4 (fun p ys _ z=>z) so (fun p z=>(d2 j p z).1) Z.own
theorem ok_own {α:Type} [Py α] {b:Bool} {as:List α} {D O':Addr→Prop} {v:V} (h:(Bd.own b as).okD K H0 O H D v) (hD:∀ p,D p→H0 p=none∧¬ O' p) (so:Same (off H O) (off H O')):(Bd.val b as).ok K H0 O' H v:=by
 obtain ⟨p,xs,e,o,q,r⟩:=h
 have hx:off H O' p=some (.lst xs):=by rw [off_get (hD p o).2]; exact q
 exact ⟨p,xs,e,SqL.of hx,Nf.wk (hD p o).1 hx,pr_imp (fun _ _ z=>rp_mono so z) r⟩
end
section
variable {X:Cx} {Γ:GEnv} {D:GD} {α β γ:Type} [Py α] [Py β] [Py γ] {e e1 e2:Expr} {b b1 b2:Bool} {pos:Pos} {rest st:List Stmt}
theorem s_own (i:Nat) (α:Type) [Py α] {x:Str} {p p2:Pos} (hN:X.N.Nodup) (h:S X (Γ.set i (some (.own true ([]:List α)))) rest D) (hi:X.N[i]?=some x:=by rfl) (hx:Loc X.env.scope x:=by first | exact Or.inl rfl | exact Or.inr rfl)
  (hs:swapsWith (.List [] p2) (some (.Name x p)) pos.line X.env=pure false:=by rfl) (hf:X.fn x=true∨X.env.scope.names.lookup x=some .local:=by first | exact .inl rfl | exact .inr rfl):S X Γ (.Assign [.Name x p] (.List [] p2) pos :: rest) D:=by
 with_unfolding_all
  exact s_seq (ps_wk (ps_set hN hi hx (pe_lst pa_nil) hs hf) fun De σ H ⟨H0,F,O,Z,n,_⟩=>⟨Nat.zero_le _,fun q hq=>by
    obtain ⟨Z',so⟩:=Z.putOwn (i:=i) (v:=.ref q) (same_upd hq (.lst [])) (·=q) (fun r e=>by subst e; exact ⟨hq,.inl [],upd_same⟩) (Bd.own true ([]:List α)) True.intro ⟨q,[],rfl,rfl,upd_same,.nil⟩
    exact n _ _ _ _ so Z' h⟩)
theorem s_append (i:Nat) {as:List α} {a:α} {x:Str} {p ap cp:Pos} (hg:Γ[i]?=some (some (.own b as))) (he:E X Γ e b a) (hl:as.length≤1000) (h:S X (Γ.set i (some (.own b (as ++ [a])))) rest D) (hi:X.N[i]?=some x:=by rfl)
  (hv:Vis X.env.scope x:=by first | exact Or.inl rfl | exact Or.inr (Or.inl rfl) | exact Or.inr (Or.inr rfl)) (hd:(x == ("__debug__":Str))=false:=by decide) (hcd:(x == ("__classdict__":Str))=false:=by decide)
  (hbase:attributeBase (.Name x p) "append" X.env (eval (.Name x p) X.env)=eval (.Name x p) X.env:=by rfl)
  (hfew:((backTo cp (starEach [e] X.env)).all (fun x=>!x.1) && (backToKw cp (keywordEach [] X.env)).all (fun x=>x.1.isSome)
   && decide (([e]:List Expr).length + ([]:List Keyword).length + (if ([]:List Keyword).isEmpty then 0 else 1) < 30))=true:=by rfl)
  (hline:(ap.endLine == cp.line)=true:=by rfl) (hs:starEach [e] X.env=(false,eval e X.env) :: starEach [] X.env:=by rfl) (hplain:(backTo cp (starEach [] X.env)).any (·.1)=false:=by rfl)
  (hsw:swapsWith (.Call (.Attribute (.Name x p) "append" ap) [e] [] cp) none pos.line X.env=pure false:=by rfl) :
  S X Γ (.Expr (.Call (.Attribute (.Name x p) "append" ap) [e] [] cp) pos :: rest) D:=by
 with_unfolding_all
  exact s_seq (ps_wk (ps_expr (pe_bm PySem.F.plainAttrs_list PySem.F.slot_list_append PySem.F.type_list_append mt_append (pv i hi hv hd hcd) (pa_cons he pa_nil hs) hbase hfew hline hs hplain) hsw) fun De σ H ⟨H0,F,O,Z,n,_⟩=>by
    obtain ⟨v,Di,hv1,⟨q,xs,hq1,hq2,hq3,hq4⟩,_,_⟩:=Z.write hg True.intro
    subst hq1
    refine ⟨.ref q,hv1,.inl ⟨rfl,xs,SqL.of hq3⟩,H0,F,O,Z,fun y H2 s2 ry=>⟨q,xs,y,rfl,rfl,s2 _ _ hq3,?_,?_⟩⟩
    ·rw [pr_len hq4]; exact small1000 hl
    ·obtain ⟨v',D',hv2,⟨q',xs',w1,w2,w3,w4⟩,hO',wr⟩:=(Z.go s2).write hg True.intro
     rw [hv1] at hv2
     have ev:V.ref q=v':=by injection hv2 with z; injection z
     subst ev
     cases w1
     have ex:xs'=xs:=by
      have:=s2 _ _ hq3
      rw [w3] at this; cases this; rfl
     subst ex
     obtain ⟨Z',eo⟩:=wr q (xs' ++ [y]) (some (.own b (as ++ [a]))) w2 fun g'' e'=>by
      cases e'
      refine ⟨True.intro,q,_,rfl,w2,upd_same,?_⟩
      rw [off_upd (hO' q w2).1]
      exact pr_app w4 (.cons ry .nil)
     exact n _ _ _ _ (by rw [eo]; exact off_mono s2) Z' h)
theorem pss_frz {g g':Bd} (i:Nat) (hg:Γ[i]?=some (some g)) (ho:g.isOwn) (hn:¬ g'.isOwn)
  (hk:∀ (H0 H:Hp) (O D O':Addr→Prop) v,g.okD X.K H0 O H D v→(∀ p,D p→H0 p=none∧¬ O' p)→Same (off H O) (off H O')→(∀ p xs,Rt H p xs→Rt (off H O') p xs)→g'.ok X.K H0 O' H v)
  (h:S X (Γ.set i (some g')) st D):S X Γ st D:=by
 with_unfolding_all
  exact pss_wk h fun De σ H ⟨H0,F,O,Z,n,r,bk,ct⟩=>by
   obtain ⟨O',Z',so⟩:=Z.freeze hg ho hn fun Di O' v=>hk H0 H O Di O' v
   exact ⟨H0,F,O',Z',fun Γ2 σ2 H2 O2 sm=>n Γ2 σ2 H2 O2 (so.trans sm),r,fun Γ2 σ2 H2 O2 sm=>bk Γ2 σ2 H2 O2 (so.trans sm),fun Γ2 σ2 H2 O2 sm=>ct Γ2 σ2 H2 O2 (so.trans sm)⟩
theorem s_freeze (i:Nat) {as:List α} (hg:Γ[i]?=some (some (.own b as))) (h:S X (Γ.set i (some (.val b as))) st D):S X Γ st D:=by
 with_unfolding_all
  exact pss_frz (g':=.val b as) i hg True.intro (fun z=>z) (fun H0 H O Di O' v z1 z2 z3 _=>ok_own z1 z2 z3) h
theorem gp_two (i j:Nat) {K:PySem.W.Frag}:GP (gTup K 2 (gCons (gName i) (gCons (gName j) gNil))) (α × β) (fun b u Γ=>(Γ.set i (some (.val b u.1))).set j (some (.val b u.2))) (fun k=>k=i∨k=j) K:=fun b u H0 F O Γ σ H v Q Z r q=>by
 obtain ⟨p,v1,v2,e',sq,g1,g2⟩:=r
 refine ⟨p,_,e',sqT_rd (off_same _ _) sq,rfl,v1,[v2],rfl,v2,[],rfl,rfl,?_⟩
 exact q _ ((Z.set g1).set g2) (by rw [List.length_set,List.length_set]) fun k hk=>by rw [get_set_ne fun z=>hk (.inr z),get_set_ne fun z=>hk (.inl z)]
end
end L2.EP
namespace L2
open PySem PySem.Spec PyProof.Rows
theorem cls_ne {h:Heap} {a b:Addr} {o u:Obj} (e1:h.get? a=some o) (e2:h.get? b=some u) (d:o.cls≠u.cls):a≠b:=fun z=>by
 subst z; rw [e1] at e2; cases e2; exact d rfl
section
variable {X:Cx} {pins:List (Addr × Obj)} {σ:St} {H H':Hp} {s:Shared}
theorem Inv.turnedT {h':Heap} {t':Nat} {ch:List Addr} {T:Addr} {xs:List V} (I:Inv X pins σ H s) (hT:s.heap.objs.size≤T) (k:∀ b o,b ∉ ch→s.heap.get? b=some o→h'.get? b=some o) (th:∀ b o,s.heap.get? b=some o→∃ o',h'.get? b=some o') (hf:∀ b∈ch,FpOk X pins H b)
  (new:ObjOk X.prog X.w (upd H T (.tup xs)) h' T (.tup xs)):Inv X pins σ (upd H T (.tup xs)) { s with heap:=h',toks:=t' }:=by
 with_unfolding_all
  have hn:H T=none:=I.hok.fresh hT
  have nch:∀ b u,H b=some u→b ∉ ch:=fun b u e z=>by rw [(hf b z).1] at e; cases e
  refine I.step (g':=s.gens) (d':=s.drawn) (ch:=ch) (fun b hb=>⟨(hf b hb).2.2.2.1,(hf b hb).2.1,(hf b hb).2.2.2.2.1,(hf b hb).2.2.2.2.2⟩) (fun b o _ _ hc e _=>k b o hc e) (fun b o _ _ hc e _=>⟨o.slots,k b o hc e⟩)
   (fun b o hc e n=>by rw [upd_ne (Nat.ne_of_lt (Nat.lt_of_lt_of_le (Heap.lt_size e) hT))]; exact n) (fun b o hc e=>⟨o,k b o hc e⟩) (fun b ys e=>by rw [upd_ne (ne_of_none e hn)]; exact e) (fun b u ys e=>by rw [upd_ne (ne_of_none e hn)]; exact e) (fun b ps e=>⟨#[],by rw [upd_ne (ne_of_none e hn),e]; simp⟩) (fun m hm=>?_) (fun b u e=>?_) I.bare
  ·obtain ⟨o,es,ep,ho,r⟩:=hm
   exact ⟨o,es,ep,k _ o (fun z=>(hf _ z).2.1 rfl) ho,r⟩
  ·by_cases hb:b=T
   ·subst hb
    rw [upd_same] at e; cases e; exact new
   ·rw [upd_ne hb] at e
    refine (I.hok b u e).stay (fun c v hc q=>k c v ?_ q) (fun c z=>?_) fun c ys z=>?_
    ·rcases hc with z | z
     ·rw [z]; exact nch b u e
     ·exact nch c _ z
    ·rw [upd_ne (ne_of_none z hn)]; exact z
    ·rw [upd_ne (ne_of_none z hn)]; exact z
end
section
variable {X:Cx} {elts:List Expr} {kk:Nat} {tp:Pos}
end
end L2
namespace L2.EP
open PySem PySem.Spec PyProof.Rows
section
variable {X:Cx} {Γ:GEnv} {α β:Type} [Py α] [Py β] {e1 e2:Expr} {b1 b2:Bool} {elts:List Expr} {kk:Nat} {tp p ps:Pos}
end
end L2.EP
namespace L2.EP
open PySem PySem.Spec PyProof.Rows
class PyT (β:Type) [Py β]:Prop where
 free:∀ {K:PySem.W.Frag} {N N':Nn} {H H':Hp} {v:V} {b:β},(∀ p xs,Rt H p xs→Rt H' p xs)→Py.rp K N H v b→Py.rp K N' H' v b
 nl:∀ {K:PySem.W.Frag} {N:Nn} {H:Hp} {q:Addr} {b:β} {xs:List V},Py.rp K N H (.ref q) b→H q=some (.lst xs)→False
instance:PyT Int where
 free _ h:=h
 nl h _:=nomatch h
instance:PyT Bool where
 free _ h:=h
 nl h _:=nomatch h
instance {α β:Type} [Py α] [Py β] [PyT α] [PyT β]:PyT (α × β) where
 free t h:=by
  obtain ⟨p,x,y,e,s,h1,h2⟩:=h
  exact ⟨p,x,y,e,t _ _ s,PyT.free t h1,PyT.free t h2⟩
 nl h e:=by
  obtain ⟨p,x,y,e',s,h1,h2⟩:=h
  cases e'
  rcases s with s | ⟨o,s⟩
  ·rw [e] at s; cases s
  ·rw [e] at s; cases s
def tN {α:Type} [Py α] (K:PySem.W.Frag) (Γ:GEnv) (a:α):TE:=fun σ H Q=>∃ H0 F O,Sta K H0 F O Γ σ H∧∀ v H',Same H H'→Py.rp K (.new H) (off H' O) v a→Q v H'
@[irreducible] def EN {α:Type} [Py α] (X:Cx) (Γ:GEnv) (e:Expr) (a:α):Prop:=PE X e (tN X.K Γ a)
theorem new_less {α:Type} [Py α] {K:PySem.W.Frag} {H H1 Hx:Hp} {v:V} {a:α} (s:Same H H1) (h:Py.rp K (.new H1) Hx v a):Py.rp K (.new H) Hx v a:=rp_wid (N:=.new H1) (N':=.new H) (fun _ _ n=>⟨s.free n.1,n.2⟩) h
section
variable {X:Cx} {Γ:GEnv} {D:GD} {α β γ:Type} [Py α] [Py β] [Py γ] {e e1 e2:Expr} {b b1 b2:Bool} {pos p:Pos} {rest st:List Stmt} {k:Nat} {name:Str} {ps:List Str}
theorem s_deep (i:Nat) {x:Str} {a:α} {p:Pos} (hN:X.N.Nodup) (he:EN X Γ e a) (h:S X (Γ.set i (some (.dpo a))) rest D) (hi:X.N[i]?=some x:=by rfl) (hx:Loc X.env.scope x:=by first | exact Or.inl rfl | exact Or.inr rfl)
  (hs:swapsWith e (some (.Name x p)) pos.line X.env=pure false:=by rfl) (hf:X.fn x=true∨X.env.scope.names.lookup x=some .local:=by first | exact .inl rfl | exact .inr rfl):S X Γ (.Assign [.Name x p] e pos :: rest) D:=by
 with_unfolding_all
  exact s_seq (ps_wk (ps_set hN hi hx he hs hf) fun De σ H ⟨H0,F,O,Z,n,_⟩=>⟨H0,F,O,Z,fun v H1 s1 r1=>by
    obtain ⟨Z',so⟩:=Z.putOwn (i:=i) (v:=v) s1 (fun q=>H q=none∧∃ xs:Mt,H1 q=some (mo xs)) (fun q z=>z) (Bd.dpo a) True.intro (by
     refine Py.tr (fun q xs sq nn=>?_) (fun q xs sq=>Same.rt (off_same _ _) sq) r1
     have:=(off_same _ _) _ _ nn.2
     exact ⟨Mo.of this,⟨nn.1,xs,this⟩,this⟩)
    exact n _ _ _ _ so Z' h⟩)
end
end L2.EP
namespace L2.EP
open PySem PySem.Spec PyProof.Rows
section
variable {X:Cx} {Γ:GEnv} {α:Type} [Py α] {e:Expr} {b b':Bool} {pos:Pos}
theorem E.up [PyT α] {a:α} (h:E X Γ e b a):E X Γ e b' a:=by
 with_unfolding_all
  exact pe_wk h fun σ H Q ⟨H0,F,O,S,q⟩=>⟨H0,F,O,S,fun v H' s r=>q v H' s (PyT.free (fun _ _ z=>z) r)⟩
theorem e_up [PyT α] {a:α} (h:E X Γ e b a):E X Γ e b' a:=by
 with_unfolding_all
  exact E.up h
theorem e_listT [PyT α] {xs:List α} {p:Pos} (hg:Gl X "list") (hm:X.mg "list"=none) (ha:E X Γ e b xs) (hs:starEach [e] X.env=(false,eval e X.env) :: starEach [] X.env:=by rfl):E X Γ (.Call (.Name "list" p) [e] [] pos) true xs:=by
 with_unfolding_all
  exact pe_wk (pe_callTy call_list_of hg hm PyProof.Rows.boot_list (pa_cons ha pa_nil hs) (he:=hs)) fun σ H Q ⟨H0,F,O,S,q⟩=>⟨H0,F,O,S,fun v H1 s1 r1=>by
    obtain ⟨p,vs,e,sq,n,r⟩:=r1
    refine ⟨p,vs,by rw [e],.inl ((off_same _ _).seq sq),fun l hl=>?_⟩
    obtain ⟨z1,z2⟩:=laid_lst (xs:=vs) (S.go s1) hl
    exact q _ _ (s1.trans z1) ⟨l,vs,rfl,SqL.of z2,Nf.wk ((S.go s1).free0 hl) z2,pr_imp (fun _ _ z=>PyT.free (fun _ _ t=>Same.rt (off_mono z1) t) z) r⟩⟩
end
end L2.EP
namespace EP
theorem gcd_fmod (a b:Int):Int.gcd b (a.fmod b)=Int.gcd a b:=by
 rw [Int.fmod_def,Int.gcd_comm a b]
 exact Int.gcd_sub_mul_left_right ..
theorem fmod_lt (a b:Int) (hb:b≠0):(a.fmod b).natAbs < b.natAbs:=by
 rcases Int.lt_or_gt_of_ne hb with h | h
 ·have e:=Int.neg_fmod_neg a b
  have h':(0:Int) < -b:=by omega
  have h1:=Int.fmod_nonneg_of_pos (-a) h'
  have h2:=Int.fmod_lt_of_pos (-a) h'
  omega
 ·have h1:=Int.fmod_nonneg_of_pos a h
  have h2:=Int.fmod_lt_of_pos a h
  omega
def fd (t b:Int):Int:=if b < 0 then -(Int.gcd t b:Int) else (Int.gcd t b:Int)
def fr (t b:Int):Int × Int:=(t.fdiv (fd t b),b.fdiv (fd t b))
end EP
namespace EP
def Low (u:Int × Int):Prop:=1≤u.2∧Int.gcd u.1 u.2=1
end EP
namespace EP
abbrev Fr:=Int × Int
def rng (n:Nat):List Int:=(List.range n).map fun i:Nat=>(i:Int)
abbrev Tb:=List (List Fr)
structure Sq (n:Nat) (T:Tb):Prop where
 len:T.length=n
 row:∀ r∈T,r.length=n
 low:∀ r∈T,∀ u∈r,Low u
theorem getD_mem {α:Type} {l:List α} {i:Nat} {d:α} (h:i < l.length):l.getD i d∈l:=by
 rw [List.getD_eq_getElem?_getD,List.getElem?_eq_getElem h]; exact List.getElem_mem h
end EP
namespace EP
theorem eps_eq {α:Type} {P:α→Prop} (hu:∀ a b,P a→P b→a=b) {a:α} (h:P a):a=@Classical.epsilon α ⟨a⟩ P :=
 hu _ _ h (@Classical.epsilon_spec α P ⟨a,h⟩)
def rtN:Nat→Nat
 | 0=>0
 | n + 1=>if (rtN n + 1) * (rtN n + 1)≤n + 1 then rtN n + 1 else rtN n
theorem rtN_le:∀ n,rtN n * rtN n≤n
 | 0=>Nat.le_refl _
 | n + 1=>by
  have:=rtN_le n
  unfold rtN
  split <;> omega
theorem rtN_lt:∀ n,n < (rtN n + 1) * (rtN n + 1)
 | 0=>by decide
 | n + 1=>by
  have h:=rtN_lt n
  unfold rtN
  split
  ·have:(rtN n + 1) * (rtN n + 1) < (rtN n + 1 + 1) * (rtN n + 1 + 1):=Nat.mul_lt_mul'' (by omega) (by omega)
   omega
  ·omega
def rt (k:Int):Int:=(rtN k.toNat:Int)
theorem rt_nonneg (k:Int):0≤rt k:=by unfold rt; omega
theorem rt_le {k:Int} (h:0≤k):rt k * rt k≤k:=by
 have:=rtN_le k.toNat
 unfold rt
 have e:((rtN k.toNat * rtN k.toNat:Nat):Int)≤((k.toNat:Nat):Int):=by omega
 rw [Int.natCast_mul] at e
 omega
theorem rt_lt {k:Int} (h:0≤k):k < (rt k + 1) * (rt k + 1):=by
 have:=rtN_lt k.toNat
 unfold rt
 have e:((k.toNat:Nat):Int) < (((rtN k.toNat + 1) * (rtN k.toNat + 1):Nat):Int):=by omega
 rw [Int.natCast_mul] at e
 simp only [Int.natCast_add,Int.natCast_one] at e
 omega
theorem sq_lt {a b:Int} (h0:0≤a) (h:a * a < b * b) (hb:0≤b):a < b:=by
 apply Classical.byContradiction
 intro hn
 have:b * b≤a * a:=Int.mul_le_mul (by omega) (by omega) hb h0
 omega
theorem sq_le {a b:Int} (h0:0≤a) (h:a≤b):a * a≤b * b:=Int.mul_le_mul h h h0 (by omega)
theorem rt_unique {k r:Int} (h0:0≤r) (h1:r * r≤k) (h2:k < (r + 1) * (r + 1)):r=rt k:=by
 have hk:0≤k:=Int.le_trans (Int.mul_nonneg h0 h0) h1
 have a:=rt_le hk
 have b:=rt_lt hk
 have c:=rt_nonneg k
 have:=sq_lt h0 (show r * r < (rt k + 1) * (rt k + 1) by omega) (by omega)
 have:=sq_lt c (show rt k * rt k < (r + 1) * (r + 1) by omega) (by omega)
 omega
theorem lt_rt {d k:Int} (h:0≤k) (hd:0≤d):d < rt k + 1↔d * d≤k:=by
 constructor
 ·intro z
  exact Int.le_trans (sq_le hd (by omega)) (rt_le h)
 ·intro z
  exact sq_lt hd (by have:=rt_lt h; omega) (by have:=rt_nonneg k; omega)
theorem newton {k r:Int} (hk:0≤k) (hr:0 < r) (h:k < r * r):0≤(r + k.fdiv r).fdiv 2∧(r + k.fdiv r).fdiv 2 < r∧k < ((r + k.fdiv r).fdiv 2 + 1) * ((r + k.fdiv r).fdiv 2 + 1):=by
 rw [Int.fdiv_eq_ediv_of_nonneg k (by omega),Int.fdiv_eq_ediv_of_nonneg _ (by decide)]
 have e:=Int.mul_ediv_add_emod k r
 have m0:=Int.emod_nonneg k (show r≠0 by omega)
 have m1:=Int.emod_lt_of_pos k hr
 have q0:0≤k / r:=Int.ediv_nonneg hk (by omega)
 have q1:k / r < r:=Int.ediv_lt_of_lt_mul hr h
 generalize k / r=q at *
 generalize k % r=m at *
 have n1:2 * ((r + q) / 2)≤r + q:=by omega
 have n2:r + q + 1≤2 * ((r + q) / 2) + 2:=by omega
 refine ⟨by omega,by omega,?_⟩
 generalize (r + q) / 2=n at *
 have s1:(r + q + 1) * (r + q + 1)≤(2 * n + 2) * (2 * n + 2):=sq_le (by omega) n2
 have s2:0≤(r - (q + 1)) * (r - (q + 1)):=by
  rcases Int.le_total 0 (r - (q + 1)) with z | z
  ·exact Int.mul_nonneg z z
  ·exact Int.mul_nonneg_of_nonpos_of_nonpos z z
 grind
def OddFree (k:Int):Prop:=∀ d:Int,3≤d→d * d≤k→d % 2=1→¬ d ∣ k
open Classical in
noncomputable def isP (k:Int):Bool:=decide (k=2∨(3≤k∧k % 2=1∧OddFree k))
open Classical in
theorem isP_iff {k:Int}:isP k=true↔k=2∨(3≤k∧k % 2=1∧OddFree k):=by unfold isP; exact decide_eq_true_iff
theorem isP_ge {k:Int} (h:isP k=true):2≤k:=by rcases isP_iff.mp h with h | h <;> omega
def nodiv (n:Nat) (m:Nat):Bool:=@Nat.rec (fun _=>Bool) true (fun i ih=>cond (Nat.beq (n % (2 * i + 3)) 0) false ih) m
theorem nodiv_ok {n:Nat}:∀ {m:Nat},nodiv n m=true→∀ i,i < m→n % (2 * i + 3)≠0
 | 0,_,i,hi=>absurd hi (Nat.not_lt_zero _)
 | m + 1,h,i,hi=>by
  have h':cond (Nat.beq (n % (2 * m + 3)) 0) false (nodiv n m)=true:=h
  cases hb:Nat.beq (n % (2 * m + 3)) 0 with
  | true=>rw [hb] at h'; cases h'
  | false =>
   rw [hb] at h'
   rcases Nat.lt_succ_iff_lt_or_eq.mp hi with z | z
   ·exact nodiv_ok h' i z
   ·subst z
    intro e
    rw [e] at hb
    cases hb
theorem oddFree_of {n m:Nat} (h:nodiv n m=true) (hm:n < (2 * m + 3) * (2 * m + 3)):OddFree (n:Int):=by
 intro d h3 hd ho hdv
 have hlt:d < (2 * m + 3:Int):=sq_lt (by omega) (by
  have:(n:Int) < (((2 * m + 3) * (2 * m + 3):Nat):Int):=by omega
  rw [Int.natCast_mul] at this
  simp only [Int.natCast_add,Int.natCast_mul] at this
  exact Int.lt_of_le_of_lt hd this) (by omega)
 have z:=nodiv_ok h ((d.toNat - 3) / 2) (by omega)
 have e:2 * ((d.toNat - 3) / 2) + 3=d.toNat:=by omega
 rw [e] at z
 obtain ⟨c,hc⟩:=hdv
 apply z
 have hdn:d.toNat ∣ n:=by
  have:(d.toNat:Int) ∣ (n:Int):=⟨c,by rw [hc]; congr 1; omega⟩
  exact Int.natCast_dvd_natCast.mp this
 exact Nat.mod_eq_zero_of_dvd hdn
theorem isP_of {n m:Nat} (h:nodiv n m=true) (h3:3≤n) (ho:n % 2=1) (hm:n < (2 * m + 3) * (2 * m + 3)):isP (n:Int)=true :=
 isP_iff.mpr (.inr ⟨by omega,by omega,oddFree_of h hm⟩)
def PB:Int:=1070000011
theorem PB_prime:isP PB=true:=isP_of (n:=1070000011) (m:=16384) (by decide +kernel) (by decide) (by decide) (by decide)
noncomputable def pfF:Nat→Int→Int
 | 0,k=>k
 | n + 1,k=>if isP k then k else pfF n (k + 2)
noncomputable def pf (k:Int):Int:=if k < 3 then 2 else pfF 1073741824 (k + 1 - k % 2)
theorem isP_two:isP 2=true:=isP_iff.mpr (.inl rfl)
def NdS (k b m:Int) (r:Option Int):Prop:=match r with
 | none=>∀ d,b≤d→d < m→(d - b) % 2=0→¬ d ∣ k
 | some d=>b≤d∧d < m∧(d - b) % 2=0∧d ∣ k∧∀ d',b≤d'→d' < d→(d' - b) % 2=0→¬ d' ∣ k
theorem NdS.uniq {k b m:Int}:∀ r r',NdS k b m r→NdS k b m r'→r=r'
 | none,none,_,_=>rfl
 | none,some d,h,h'=>absurd h'.2.2.2.1 (h d h'.1 h'.2.1 h'.2.2.1)
 | some d,none,h,h'=>absurd h.2.2.2.1 (h' d h.1 h.2.1 h.2.2.1)
 | some d,some d',h,h'=>by
  rcases Int.lt_trichotomy d d' with z | z | z
  ·exact absurd h.2.2.2.1 (h'.2.2.2.2 d h.1 z h.2.2.1)
  ·rw [z]
  ·exact absurd h'.2.2.2.1 (h.2.2.2.2 d' h'.1 z h'.2.2.1)
theorem NdS.ex (k b m:Int):∀ n:Nat,(∃ d,NdS k b m (some d))∨∀ d,b≤d→d < m→d < b + 2 * n→(d - b) % 2=0→¬ d ∣ k
 | 0=>.inr fun d h1 h2 h3=>by omega
 | n + 1=>by
  rcases NdS.ex k b m n with h | h
  ·exact .inl h
  ·by_cases hm:b + 2 * n < m∧(b + 2 * n:Int) ∣ k
   ·exact .inl ⟨b + 2 * n,by omega,hm.1,by omega,hm.2,fun d' h1 h2 h3=>h d' h1 (by omega) h2 h3⟩
   ·refine .inr fun d h1 h2 h3 h4 hd=>?_
    by_cases e:d=b + 2 * n
    ·subst e; exact hm ⟨h2,hd⟩
    ·exact h d h1 h2 (by omega) h4 hd
noncomputable def ndM (k b m:Int):Option Int:=Classical.epsilon (NdS k b m)
theorem ndM_eq {k b m:Int} {r:Option Int} (h:NdS k b m r):r=ndM k b m:=eps_eq NdS.uniq h
theorem ndM_ok (k b m:Int):NdS k b m (ndM k b m):=by
 rcases NdS.ex k b m (m - b).toNat with ⟨d,h⟩ | h
 ·rw [← ndM_eq h]; exact h
 ·have z:NdS k b m none:=fun d h1 h2 h3=>h d h1 h2 (by omega) h3
  rw [← ndM_eq z]; exact z
noncomputable def ndv (k b e:Int):Option Int:=ndM k b (if rt k + 1 < e then rt k + 1 else e)
theorem dvd_fmod {d k:Int}:k.fmod d=0↔d ∣ k:=⟨Int.dvd_of_fmod_eq_zero,Int.fmod_eq_zero_of_dvd⟩
theorem isP_ndv {k:Int} (h3:3≤k) (ho:k % 2=1):(ndv k 3 k).isNone=isP k:=by
 have hz:=ndM_ok k 3 (if rt k + 1 < k then rt k + 1 else k)
 have hk:rt k + 1≤k:=by
  have:=(lt_rt (show 0≤k by omega) (show 0≤k by omega)).mp
  apply Classical.byContradiction
  intro hn
  have z:=this (by omega)
  have:3 * k≤k * k:=Int.mul_le_mul h3 (Int.le_refl k) (by omega) (by omega)
  omega
 have hm:(if rt k + 1 < k then rt k + 1 else k)=rt k + 1:=by split <;> omega
 rw [hm] at hz
 unfold ndv
 rw [hm]
 cases hr:ndM k 3 (rt k + 1) with
 | none =>
  rw [hr] at hz
  symm
  refine isP_iff.mpr (.inr ⟨h3,ho,fun d h1 h2 h4=>hz d h1 ((lt_rt (by omega) (by omega)).mpr h2) (by omega)⟩)
 | some d =>
  rw [hr] at hz
  symm
  show isP k=false
  cases hp:isP k with
  | false=>rfl
  | true =>
   rcases isP_iff.mp hp with z | ⟨_,_,z⟩
   ·omega
   ·have h1:3≤d:=hz.1
    exact absurd hz.2.2.2.1 (z d hz.1 ((lt_rt (by omega) (by omega)).mp hz.2.1) (by have:=hz.2.2.1; omega))
end EP
namespace EP
theorem isP_dvd {p d:Int} (hp:isP p=true) (hd:0 < d) (h:d ∣ p):d=1∨d=p:=by
 obtain ⟨e,he⟩:=h
 have hp2:=isP_ge hp
 have he0:0 < e:=by
  apply Classical.byContradiction
  intro hn
  have:d * e≤0:=Int.mul_nonpos_of_nonneg_of_nonpos (by omega) (by omega)
  omega
 rcases isP_iff.mp hp with h2 | ⟨h3,ho,hf⟩
 ·have:d≤2:=by
   have:=Int.le_of_dvd (show (0:Int) < 2 by decide) (⟨e,by omega⟩:d ∣ 2)
   omega
  omega
 ·apply Classical.byContradiction
  intro hn
  have hd1:d≠1:=fun z=>hn (.inl z)
  have hd2:d≠p:=fun z=>hn (.inr z)
  have he1:e≠1:=by rintro rfl; omega
  have dodd:d % 2=1:=by
   rcases Int.emod_two_eq d with z | z
   ·obtain ⟨c,hc⟩:=Int.dvd_of_emod_eq_zero z
    rw [hc,Int.mul_assoc] at he
    omega
   ·exact z
  have eodd:e % 2=1:=by
   rcases Int.emod_two_eq e with z | z
   ·obtain ⟨c,hc⟩:=Int.dvd_of_emod_eq_zero z
    rw [hc,Int.mul_left_comm] at he
    omega
   ·exact z
  rcases Int.le_total d e with z | z
  ·exact hf d (by omega) (by rw [he]; exact Int.mul_le_mul_of_nonneg_left z (by omega)) dodd ⟨e,he⟩
  ·exact hf e (by omega) (by rw [he]; exact Int.mul_le_mul_of_nonneg_right z (by omega)) eodd ⟨d,by rw [he,Int.mul_comm]⟩
theorem euclid {p a b:Int} (hp:isP p=true) (h:p ∣ a * b):p ∣ a∨p ∣ b:=by
 have hp2:=isP_ge hp
 have hg:(0:Int) < (Int.gcd p a:Nat):=by
  have:=Int.gcd_pos_of_ne_zero_left a (show p≠0 by omega)
  omega
 rcases isP_dvd hp hg (Int.gcd_dvd_left p a) with z | z
 ·right
  have hc:Nat.Coprime p.natAbs a.natAbs:=by
   show Nat.gcd p.natAbs a.natAbs=1
   have:Int.gcd p a=1:=by omega
   exact this
  have:=Int.natAbs_dvd_natAbs.mpr h
  rw [Int.natAbs_mul] at this
  exact Int.natAbs_dvd_natAbs.mp (hc.dvd_of_dvd_mul_left this)
 ·left
  rw [← z]
  exact Int.gcd_dvd_right p a
theorem cong {m a b:Int}:a % m=b % m↔m ∣ a - b:=by
 rw [Int.emod_eq_emod_iff_emod_sub_eq_zero]
 exact ⟨Int.dvd_of_emod_eq_zero,Int.emod_eq_zero_of_dvd⟩
theorem emod_pow (x m:Int):∀ n:Nat,(x % m) ^ n % m=x ^ n % m
 | 0=>by rw [Int.pow_zero,Int.pow_zero]
 | n + 1=>by rw [Int.pow_succ,Int.pow_succ,Int.mul_emod,emod_pow x m n,Int.emod_emod_of_dvd _ (Int.dvd_refl m),← Int.mul_emod]
theorem pigeon {M L:List Int} (hn:M.Nodup) (hs:∀ x,x∈M→x∈L):∃ L',L.Perm (M ++ L'):=by
 induction M generalizing L with
 | nil=>exact ⟨L,List.Perm.refl _⟩
 | cons x M ih =>
  have hx:x∈L:=hs x (List.mem_cons_self ..)
  have hn':=List.nodup_cons.mp hn
  obtain ⟨L',h⟩:=ih (L:=L.erase x) hn'.2 fun y hy=>(List.mem_erase_of_ne (by rintro rfl; exact hn'.1 hy)).mpr (hs y (List.mem_cons_of_mem _ hy))
  exact ⟨L',(List.perm_cons_erase hx).trans (List.Perm.cons x h)⟩
def lprod:List Int→Int
 | []=>1
 | x :: l=>x * lprod l
theorem lprod_perm {l l':List Int} (h:l.Perm l'):lprod l=lprod l':=by
 induction h with
 | nil=>rfl
 | cons x _ ih=>show x * _=x * _; rw [ih]
 | swap x y l=>show y * (x * _)=x * (y * _); rw [Int.mul_left_comm]
 | trans _ _ h1 h2=>exact h1.trans h2
theorem lprod_map {p a:Int}:∀ l:List Int,p ∣ lprod (l.map fun x=>a * x % p) - a ^ l.length * lprod l
 | []=>⟨0,by simp [lprod]⟩
 | x :: l=>by
  obtain ⟨c,hc⟩:=lprod_map (p:=p) (a:=a) l
  have e:=Int.emod_def (a * x) p
  have e1:lprod (List.map (fun x=>a * x % p) (x :: l))=(a * x % p) * lprod (l.map fun x=>a * x % p):=rfl
  have e2:lprod (x :: l)=x * lprod l:=rfl
  rw [e1,e2,List.length_cons,Int.pow_succ]
  generalize lprod (l.map fun x=>a * x % p)=u at *
  generalize a * x / p=q at *
  generalize a * x % p=r at *
  generalize a ^ l.length=t at *
  generalize lprod l=v at *
  have hu:u=t * v + p * c:=by omega
  exact ⟨a * x * c - q * u,by rw [e]; grind⟩
theorem not_dvd_lprod {p:Int} (hp:isP p=true):∀ l:List Int,(∀ x,x∈l→¬ p ∣ x)→¬ p ∣ lprod l
 | [],_=>fun h=>by
  have:=isP_ge hp
  have:=Int.le_of_dvd (by decide) (show p ∣ (1:Int) from h)
  omega
 | x :: l,hl=>fun h=>by
  rcases euclid hp (show p ∣ x * lprod l from h) with z | z
  ·exact hl x (List.mem_cons_self ..) z
  ·exact not_dvd_lprod hp l (fun y hy=>hl y (List.mem_cons_of_mem _ hy)) z
theorem small_dvd {p x:Int} (h:p ∣ x) (h1:-p < x) (h2:x < p):x=0:=by
 obtain ⟨c,rfl⟩:=h
 have hp:0 < p:=by omega
 by_cases hc:c=0
 ·rw [hc,Int.mul_zero]
 ·rcases Int.lt_or_gt_of_ne hc with z | z
  ·have:p * c≤p * (-1):=Int.mul_le_mul_of_nonneg_left (by omega) (by omega)
   omega
  ·have:p * 1≤p * c:=Int.mul_le_mul_of_nonneg_left (by omega) (by omega)
   omega
theorem fermat {p a:Int} (hp:isP p=true) (ha:¬ p ∣ a):p ∣ a ^ (p - 1).toNat - 1:=by
 have hp2:=isP_ge hp
 let L:List Int:=(List.range (p - 1).toNat).map fun i:Nat=>(i:Int) + 1
 have hL:∀ x,x∈L↔1≤x∧x < p:=by
  intro x
  simp only [L,List.mem_map,List.mem_range]
  constructor
  ·rintro ⟨i,h,rfl⟩; omega
  ·rintro ⟨h1,h2⟩
   exact ⟨(x - 1).toNat,by omega,by omega⟩
 have hnL:L.Nodup:=by
  refine List.pairwise_map.mpr (List.Pairwise.imp_of_mem ?_ (List.nodup_range (n:=(p - 1).toNat)))
  intro i j _ _ hij
  omega
 have hlen:L.length=(p - 1).toNat:=by simp [L]
 clear_value L
 have hnd:∀ x,x∈L→¬ p ∣ x:=fun x hx hd=>by
  have:=(hL x).mp hx
  have:=small_dvd hd (by omega) (by omega)
  omega
 have hM:(L.map fun x=>a * x % p).Nodup:=by
  refine List.pairwise_map.mpr (List.Pairwise.imp_of_mem ?_ hnL)
  intro x y hx hy hxy he
  have h1:p ∣ a * (x - y):=by rw [Int.mul_sub]; exact cong.mp he
  rcases euclid hp h1 with z | z
  ·exact ha z
  ·have:=(hL x).mp hx
   have:=(hL y).mp hy
   have:=small_dvd z (by omega) (by omega)
   omega
 have hs:∀ x,x∈(L.map fun x=>a * x % p)→x∈L:=by
  intro y hy
  obtain ⟨x,hx,rfl⟩:=List.mem_map.mp hy
  have h0:=Int.emod_nonneg (a * x) (show p≠0 by omega)
  have h1:=Int.emod_lt_of_pos (a * x) (show 0 < p by omega)
  refine (hL _).mpr ⟨?_,h1⟩
  apply Classical.byContradiction
  intro hn
  have hz:a * x % p=0:=by omega
  rcases euclid hp (Int.dvd_of_emod_eq_zero hz) with z | z
  ·exact ha z
  ·exact hnd x hx z
 obtain ⟨L',hperm⟩:=pigeon hM hs
 have hL':L'=[]:=by
  have:=hperm.length_eq
  rw [List.length_append,List.length_map] at this
  exact List.eq_nil_of_length_eq_zero (by omega)
 rw [hL',List.append_nil] at hperm
 have hpr:=lprod_map (p:=p) (a:=a) L
 rw [← lprod_perm hperm,hlen] at hpr
 have h2:p ∣ (a ^ (p - 1).toNat - 1) * lprod L:=by
  obtain ⟨c,hc⟩:=hpr
  exact ⟨-c,by rw [Int.sub_mul,Int.one_mul,Int.mul_neg]; omega⟩
 rcases euclid hp h2 with z | z
 ·exact z
 ·exact absurd z (not_dvd_lprod hp L hnd)
theorem euler {p a:Int} (hp:isP p=true) (h2:p≠2) (ha:¬ p ∣ a):p ∣ a ^ ((p - 1) / 2).toNat - 1∨p ∣ a ^ ((p - 1) / 2).toNat + 1:=by
 have ho:p % 2=1:=by rcases isP_iff.mp hp with z | z <;> omega
 have hp2:=isP_ge hp
 have hf:=fermat hp ha
 rw [show (p - 1).toNat=((p - 1) / 2).toNat + ((p - 1) / 2).toNat by omega,Int.pow_add] at hf
 generalize a ^ ((p - 1) / 2).toNat=y at *
 exact euclid hp (show p ∣ (y - 1) * (y + 1) by rw [show (y - 1) * (y + 1)=y * y - 1 by grind]; exact hf)
def sqb (k p:Int):Int:=if k % p=0 then 0 else if p=2 then 1 else if (k % p) ^ ((p - 1) / 2).toNat % p=1 then 1 else -1
theorem sqb_zero {k p:Int} (h:p ∣ k):sqb k p=0:=if_pos (Int.emod_eq_zero_of_dvd h)
theorem sqb_mod (k p:Int):sqb (k % p) p=sqb k p:=by unfold sqb; rw [Int.emod_emod_of_dvd _ (Int.dvd_refl p)]
theorem sqb_cong {k l p:Int} (h:k % p=l % p):sqb k p=sqb l p:=by unfold sqb; rw [h]
theorem sqb_one {k p:Int} (hp:isP p=true) (h2:p≠2) (hk:¬ p ∣ k):sqb k p=1↔p ∣ k ^ ((p - 1) / 2).toNat - 1:=by
 have hp2:=isP_ge hp
 unfold sqb
 rw [if_neg (fun z=>hk (Int.dvd_of_emod_eq_zero z)),if_neg h2,emod_pow,← cong,Int.emod_eq_of_lt (show (0:Int)≤1 by decide) (show (1:Int) < p by omega)]
 split
 ·rename_i h; exact ⟨fun _=>h,fun _=>rfl⟩
 ·rename_i h; exact ⟨fun z=>absurd z (by decide),fun z=>absurd z h⟩
theorem sqb_pm {k p:Int} (hk:¬ p ∣ k):sqb k p=1∨sqb k p=-1:=by
 unfold sqb
 rw [if_neg (fun z=>hk (Int.dvd_of_emod_eq_zero z))]
 split
 ·exact .inl rfl
 ·split
  ·exact .inl rfl
  ·exact .inr rfl
theorem sqb_neg {k p:Int} (hp:isP p=true) (h2:p≠2) (hk:¬ p ∣ k):sqb k p=-1↔p ∣ k ^ ((p - 1) / 2).toNat + 1:=by
 have hp2:=isP_ge hp
 have e:=sqb_one hp h2 hk
 rcases euler hp h2 hk with z | z
 ·rw [e.mpr z]
  refine ⟨fun w=>absurd w (by decide),fun w=>?_⟩
  have:p ∣ 2:=by
   obtain ⟨c,hc⟩:=z
   obtain ⟨d,hd⟩:=w
   exact ⟨d - c,by rw [Int.mul_sub]; omega⟩
  have:=Int.le_of_dvd (by decide) this
  omega
 ·refine ⟨fun _=>z,fun _=>?_⟩
  rcases sqb_pm hk with w | w
  ·have:p ∣ 2:=by
    obtain ⟨c,hc⟩:=e.mp w
    obtain ⟨d,hd⟩:=z
    exact ⟨d - c,by rw [Int.mul_sub]; omega⟩
   have:=Int.le_of_dvd (by decide) this
   omega
  ·exact w
theorem sqb_mul {p:Int} (hp:isP p=true) (a b:Int):sqb (a * b) p=sqb a p * sqb b p:=by
 have hp2:=isP_ge hp
 by_cases ha:p ∣ a
 ·rw [sqb_zero ha,Int.zero_mul,sqb_zero (Int.dvd_trans ha ⟨b,rfl⟩)]
 by_cases hb:p ∣ b
 ·rw [sqb_zero hb,Int.mul_zero,sqb_zero (Int.dvd_trans hb ⟨a,Int.mul_comm ..⟩)]
 have hab:¬ p ∣ a * b:=fun z=>by rcases euclid hp z with z | z <;> contradiction
 by_cases h2:p=2
 ·subst h2
  have e:∀ k:Int,¬ (2:Int) ∣ k→sqb k 2=1:=fun k hk=>by unfold sqb; rw [if_neg (fun z=>hk (Int.dvd_of_emod_eq_zero z)),if_pos rfl]
  rw [e _ ha,e _ hb,e _ hab]; rfl
 have hm:(a * b) ^ ((p - 1) / 2).toNat=a ^ ((p - 1) / 2).toNat * b ^ ((p - 1) / 2).toNat:=Int.mul_pow ..
 rcases sqb_pm ha with ea | ea <;> rcases sqb_pm hb with eb | eb <;> rw [ea,eb]
 ·refine (sqb_one hp h2 hab).mpr ?_
  obtain ⟨c,hc⟩:=(sqb_one hp h2 ha).mp ea
  obtain ⟨d,hd⟩:=(sqb_one hp h2 hb).mp eb
  rw [hm]
  exact ⟨c * d * p + c + d,by grind⟩
 ·refine (sqb_neg hp h2 hab).mpr ?_
  obtain ⟨c,hc⟩:=(sqb_one hp h2 ha).mp ea
  obtain ⟨d,hd⟩:=(sqb_neg hp h2 hb).mp eb
  rw [hm]
  exact ⟨c * d * p - c + d,by grind⟩
 ·refine (sqb_neg hp h2 hab).mpr ?_
  obtain ⟨c,hc⟩:=(sqb_neg hp h2 ha).mp ea
  obtain ⟨d,hd⟩:=(sqb_one hp h2 hb).mp eb
  rw [hm]
  exact ⟨c * d * p + c - d,by grind⟩
 ·refine (sqb_one hp h2 hab).mpr ?_
  obtain ⟨c,hc⟩:=(sqb_neg hp h2 ha).mp ea
  obtain ⟨d,hd⟩:=(sqb_neg hp h2 hb).mp eb
  rw [hm]
  exact ⟨c * d * p - c - d,by grind⟩
end EP
namespace EP
def TkS (k d:Int) (r:Int × Int):Prop:=0≤r.1∧k=r.2 * d ^ r.1.toNat∧¬ d ∣ r.2
theorem TkS.lt {k d:Int} (hd:2≤d) {r r':Int × Int} (h:TkS k d r) (h':TkS k d r') (hl:r.1 < r'.1):False:=by
 obtain ⟨a1,a2,a3⟩:=h
 obtain ⟨b1,b2,b3⟩:=h'
 have e:r'.1.toNat=(r'.1.toNat - r.1.toNat - 1) + 1 + r.1.toNat:=by omega
 rw [e,Int.pow_add,Int.pow_succ] at b2
 have hp:d ^ r.1.toNat≠0:=Int.pow_ne_zero (by omega)
 have z:r.2 * d ^ r.1.toNat=(r'.2 * d ^ (r'.1.toNat - r.1.toNat - 1) * d) * d ^ r.1.toNat:=by rw [← a2,b2]; grind
 have w:=Int.eq_of_mul_eq_mul_right hp z
 exact a3 ⟨r'.2 * d ^ (r'.1.toNat - r.1.toNat - 1),by rw [w,Int.mul_comm]⟩
theorem TkS.uniq {k d:Int} (hd:2≤d) (r r':Int × Int) (h:TkS k d r) (h':TkS k d r'):r=r':=by
 have h1:r.1=r'.1:=by
  rcases Int.lt_trichotomy r.1 r'.1 with z | z | z
  ·exact (TkS.lt hd h h' z).elim
  ·exact z
  ·exact (TkS.lt hd h' h z).elim
 have hp:d ^ r.1.toNat≠0:=Int.pow_ne_zero (by omega)
 have h2:r.2=r'.2:=by
  have:=h.2.1.symm.trans h'.2.1
  rw [← h1] at this
  exact Int.eq_of_mul_eq_mul_right hp this
 exact Prod.ext h1 h2
theorem TkS.ex {d:Int} (hd:2≤d):∀ (n:Nat) (k:Int),k≠0→k.natAbs≤n→∃ r,TkS k d r
 | 0,k,h0,hn=>by omega
 | n + 1,k,h0,hn=>by
  by_cases h:d ∣ k
  ·obtain ⟨c,hc⟩:=h
   have hc0:c≠0:=by rintro rfl; rw [Int.mul_zero] at hc; exact h0 hc
   have hlt:c.natAbs < k.natAbs:=by
    rw [hc,Int.natAbs_mul]
    have:2 * c.natAbs≤d.natAbs * c.natAbs:=Nat.mul_le_mul_right _ (by omega)
    omega
   obtain ⟨r,h1,h2,h3⟩:=TkS.ex hd n c hc0 (by omega)
   refine ⟨(r.1 + 1,r.2),by dsimp only; omega,?_,h3⟩
   dsimp only
   rw [show (r.1 + 1).toNat=r.1.toNat + 1 by omega,Int.pow_succ,hc]
   rw [show d * c=d * (r.2 * d ^ r.1.toNat) by rw [← h2]]
   grind
  ·exact ⟨(0,k),Int.le_refl 0,by dsimp only; rw [show (0:Int).toNat=0 from rfl,Int.pow_zero,Int.mul_one],h⟩
noncomputable def tko (k d:Int):Int × Int:=Classical.epsilon (TkS k d)
theorem tko_eq {k d:Int} (hd:2≤d) {r:Int × Int} (h:TkS k d r):tko k d=r:=(eps_eq (TkS.uniq hd) h).symm
theorem tko_ok {k d:Int} (hd:2≤d) (h:k≠0):TkS k d (tko k d):=by
 obtain ⟨r,hr⟩:=TkS.ex hd k.natAbs k h (Nat.le_refl _)
 rw [tko_eq hd hr]; exact hr
theorem tko_pow {k d:Int} {v:Nat} (hd:2≤d) (h:¬ d ∣ k):tko (k * d ^ v) d=((v:Int),k) :=
 tko_eq hd ⟨by dsimp only; omega,by dsimp only; rw [Int.toNat_natCast],h⟩
theorem tko_mul {a b p:Int} (hp:isP p=true) (ha:a≠0) (hb:b≠0):tko (a * b) p=((tko a p).1 + (tko b p).1,(tko a p).2 * (tko b p).2):=by
 have hd:=isP_ge hp
 obtain ⟨a1,a2,a3⟩:=tko_ok hd ha
 obtain ⟨b1,b2,b3⟩:=tko_ok hd hb
 refine tko_eq hd ⟨by dsimp only; omega,?_,fun z=>by rcases euclid hp z with w | w <;> contradiction⟩
 dsimp only
 rw [show ((tko a p).1 + (tko b p).1).toNat=(tko a p).1.toNat + (tko b p).1.toNat by omega,Int.pow_add]
 generalize (tko a p).1.toNat=m at *
 generalize (tko b p).1.toNat=n at *
 generalize (tko a p).2=u at *
 generalize (tko b p).2=v at *
 rw [a2,b2]
 generalize p ^ m=x
 generalize p ^ n=y
 grind
theorem tko_step {k d:Int} (hd:2≤d) (h:d ∣ k) (h0:k≠0):k.fdiv d * d=k∧k.fdiv d≠0∧(k.fdiv d).natAbs < k.natAbs:=by
 obtain ⟨c,rfl⟩:=h
 have e:(d * c).fdiv d=c:=Int.mul_fdiv_cancel_left c (by omega)
 rw [e]
 have hc:c≠0:=by rintro rfl; simp at h0
 refine ⟨Int.mul_comm ..,hc,?_⟩
 rw [Int.natAbs_mul]
 have:2 * c.natAbs≤d.natAbs * c.natAbs:=Nat.mul_le_mul_right _ (by omega)
 omega
noncomputable def cls (k p:Int):Int × Int:=((tko k p).1 % 2,if p=2 then (tko k p).2 % 8 else sqb (tko k p).2 p)
def b1 (c:Bool):Int:=if c then 1 else 0
def twoS (x y:Int × Int):Bool:=decide ((b1 (decide (x.2 % 4=3) && decide (y.2 % 4=3)) + b1 (decide (x.1=1) && (decide (y.2=3) || decide (y.2=5))) + b1 (decide (y.1=1) && (decide (x.2=3) || decide (x.2=5)))) % 2=0)
def oddS (x y:Int × Int) (p:Int):Bool:=decide ((if x.1=1 then y.2 else 1) * (if y.1=1 then x.2 else 1) * (if x.1=1∧y.1=1 then sqb (-1) p else 1)=1)
noncomputable def saysF (a b p:Int):Bool:=if p=0 then decide (0 < a) || decide (0 < b) else if p=2 then twoS (cls a p) (cls b p) else oddS (cls a p) (cls b p) p
end EP
namespace EP
def cmul (x y:Int × Int) (p:Int):Int × Int:=((x.1 + y.1) % 2,if p=2 then x.2 * y.2 % 8 else x.2 * y.2)
theorem cls_mul {p a b:Int} (hp:isP p=true) (ha:a≠0) (hb:b≠0):cls (a * b) p=cmul (cls a p) (cls b p) p:=by
 unfold cls cmul
 rw [tko_mul hp ha hb]
 dsimp only
 by_cases h:p=2
 ·rw [if_pos h,if_pos h,if_pos h,if_pos h]
  exact Prod.ext (by dsimp only; omega) (Int.mul_emod ..)
 ·rw [if_neg h,if_neg h,if_neg h,if_neg h]
  exact Prod.ext (by dsimp only; omega) (sqb_mul hp ..)
def CO:List (Int × Int):=[(0,1),(0,-1),(1,1),(1,-1)]
def C2:List (Int × Int):=[(0,1),(0,3),(0,5),(0,7),(1,1),(1,3),(1,5),(1,7)]
theorem cls_odd {p a:Int} (hp:2≤p) (h2:p≠2) (ha:a≠0):cls a p∈CO:=by
 obtain ⟨_,_,hn⟩:=tko_ok hp ha
 unfold cls
 rw [if_neg h2]
 rcases Int.emod_two_eq (tko a p).1 with z | z <;> rcases sqb_pm hn with w | w <;> rw [z,w] <;> decide
theorem cls_two {a:Int} (ha:a≠0):cls a 2∈C2:=by
 obtain ⟨_,_,hn⟩:=tko_ok (d:=2) (by decide) ha
 have h':(tko a 2).2 % 2≠0:=fun z=>hn (Int.dvd_of_emod_eq_zero z)
 have:(tko a 2).2 % 8=1∨(tko a 2).2 % 8=3∨(tko a 2).2 % 8=5∨(tko a 2).2 % 8=7:=by omega
 unfold cls
 rw [if_pos rfl]
 rcases Int.emod_two_eq (tko a 2).1 with z | z <;> rcases this with w | w | w | w <;> rw [z,w] <;> decide
theorem m1_pm {p:Int} (hp:2≤p):sqb (-1) p∈[(1:Int),-1]:=by
 have:¬ p ∣ -1:=fun z=>by
  have:=Int.le_of_dvd (by decide) ((Int.dvd_neg).mp z)
  omega
 rcases sqb_pm this with w | w <;> rw [w] <;> decide
def oddM (x y:Int × Int) (m:Int):Bool:=decide ((if x.1=1 then y.2 else 1) * (if y.1=1 then x.2 else 1) * (if x.1=1∧y.1=1 then m else 1)=1)
theorem oddS_M (x y:Int × Int) (p:Int):oddS x y p=oddM x y (sqb (-1) p):=rfl
theorem f_sym:∀ x∈CO,∀ y∈CO,∀ m∈[(1:Int),-1],oddM x y m=oddM y x m:=by decide
theorem f_sym2:∀ x∈C2,∀ y∈C2,twoS x y=twoS y x:=by decide
theorem f_bil:∀ x∈CO,∀ y∈CO,∀ z∈CO,∀ m∈[(1:Int),-1],oddM x (cmul y z 3) m=(oddM x y m == oddM x z m):=by decide +kernel
theorem f_bil2:∀ x∈C2,∀ y∈C2,∀ z∈C2,twoS x (cmul y z 2)=(twoS x y == twoS x z):=by decide +kernel
theorem f_sq:∀ x∈CO,∀ y∈CO,cmul (cmul x y 3) y 3=x:=by decide
theorem f_sq2:∀ x∈C2,∀ y∈C2,cmul (cmul x y 2) y 2=x:=by decide
theorem f_neg:∀ x∈CO,∀ m∈[(1:Int),-1],oddM x (cmul (0,m) x 3) m=true:=by decide
theorem f_neg2:∀ x∈C2,twoS x (cmul (0,7) x 2)=true:=by decide
theorem f_one:∀ x∈CO,∀ y∈CO,∀ m∈[(1:Int),-1],oddM x (cmul y y 3) m=true:=by decide
theorem f_one2:∀ x∈C2,∀ y∈C2,twoS x (cmul y y 2)=true:=by decide
theorem cmul_odd {x y:Int × Int} {p:Int} (h:p≠2):cmul x y p=cmul x y 3:=by unfold cmul; rw [if_neg h,if_neg (by decide)]
def Pl (p:Int):Prop:=p=0∨isP p=true
theorem saysF_zero {a b:Int}:saysF a b 0=(decide (0 < a) || decide (0 < b)):=if_pos rfl
theorem saysF_two {a b:Int}:saysF a b 2=twoS (cls a 2) (cls b 2):=by unfold saysF; rw [if_neg (by decide),if_pos rfl]
theorem saysF_odd {a b p:Int} (h0:p≠0) (h2:p≠2):saysF a b p=oddM (cls a p) (cls b p) (sqb (-1) p):=by unfold saysF; rw [if_neg h0,if_neg h2,oddS_M]
theorem Pl.cases {p:Int} (h:Pl p) {Q:Prop} (h0:p=0→Q) (h2:p=2→Q) (ho:isP p=true→p≠2→p≠0→2≤p→Q):Q:=by
 rcases h with z | z
 ·exact h0 z
 ·have:=isP_ge z
  by_cases w:p=2
  ·exact h2 w
  ·exact ho z w (by omega) this
theorem says_sym {a b p:Int} (h:Pl p) (ha:a≠0) (hb:b≠0):saysF b a p=saysF a b p:=by
 refine h.cases (fun z=>?_) (fun z=>?_) (fun hp h2 h0 h3=>?_)
 ·subst z; rw [saysF_zero,saysF_zero,Bool.or_comm]
 ·subst z; rw [saysF_two,saysF_two]; exact f_sym2 _ (cls_two hb) _ (cls_two ha)
 ·rw [saysF_odd h0 h2,saysF_odd h0 h2]; exact f_sym _ (cls_odd h3 h2 hb) _ (cls_odd h3 h2 ha) _ (m1_pm h3)
theorem pos_mul_iff {b c:Int} (hb:b≠0) (hc:c≠0):0 < b * c↔(0 < b↔0 < c):=by
 rcases Int.lt_or_gt_of_ne hb with z | z <;> rcases Int.lt_or_gt_of_ne hc with w | w
 ·have:=Int.mul_pos_of_neg_of_neg z w
  constructor <;> intro <;> omega
 ·have:=Int.mul_neg_of_neg_of_pos z w
  constructor <;> intro <;> omega
 ·have:=Int.mul_neg_of_pos_of_neg z w
  constructor <;> intro <;> omega
 ·have:=Int.mul_pos z w
  constructor <;> intro <;> omega
theorem says_mul {a b c p:Int} (h:Pl p) (ha:a≠0) (hb:b≠0) (hc:c≠0):saysF a (b * c) p=(saysF a b p == saysF a c p):=by
 refine h.cases (fun z=>?_) (fun z=>?_) (fun hp h2 h0 h3=>?_)
 ·subst z
  rw [saysF_zero,saysF_zero,saysF_zero]
  have:=pos_mul_iff hb hc
  by_cases w:0 < a
  ·simp [w]
  ·by_cases x:0 < b <;> by_cases y:0 < c <;> simp [w,x,y,this]
 ·subst z; rw [saysF_two,saysF_two,saysF_two,cls_mul isP_two hb hc]; exact f_bil2 _ (cls_two ha) _ (cls_two hb) _ (cls_two hc)
 ·rw [saysF_odd h0 h2,saysF_odd h0 h2,saysF_odd h0 h2,cls_mul hp hb hc,cmul_odd h2]; exact f_bil _ (cls_odd h3 h2 ha) _ (cls_odd h3 h2 hb) _ (cls_odd h3 h2 hc) _ (m1_pm h3)
theorem cls_sq {a r p:Int} (hp:isP p=true) (ha:a≠0) (hr:r≠0):cls (a * r * r) p=cls a p:=by
 rw [cls_mul hp (Int.mul_ne_zero ha hr) hr,cls_mul hp ha hr]
 have h3:=isP_ge hp
 by_cases h2:p=2
 ·subst h2; exact f_sq2 _ (cls_two ha) _ (cls_two hr)
 ·rw [cmul_odd h2,cmul_odd h2]; exact f_sq _ (cls_odd h3 h2 ha) _ (cls_odd h3 h2 hr)
theorem says_sq {a b r p:Int} (h:Pl p) (ha:a≠0) (hr:r≠0):saysF (a * r * r) b p=saysF a b p:=by
 refine h.cases (fun z=>?_) (fun z=>?_) (fun hp h2 h0 h3=>?_)
 ·subst z
  rw [saysF_zero,saysF_zero]
  have e:0 < a * r * r↔0 < a:=by
   rw [Int.mul_assoc,pos_mul_iff ha (Int.mul_ne_zero hr hr)]
   have:0 < r * r:=(pos_mul_iff hr hr).mpr Iff.rfl
   constructor
   ·intro z; exact z.mpr this
   ·intro z; exact ⟨fun _=>this,fun _=>z⟩
  rw [decide_eq_decide.mpr e]
 ·subst z; rw [saysF_two,saysF_two,cls_sq isP_two ha hr]
 ·rw [saysF_odd h0 h2,saysF_odd h0 h2,cls_sq hp ha hr]
theorem sqb_m1 {p:Int} (hp:isP p=true):cls (-1) p=(0,if p=2 then 7 else sqb (-1) p):=by
 have h3:=isP_ge hp
 have hn:¬ p ∣ -1:=fun z=>by
  have:=Int.le_of_dvd (by decide) ((Int.dvd_neg).mp z)
  omega
 have e:tko (-1) p=(0,-1):=tko_eq h3 ⟨Int.le_refl 0,by dsimp only; rw [show (0:Int).toNat=0 from rfl,Int.pow_zero,Int.mul_one],hn⟩
 unfold cls
 rw [e]
 rfl
theorem says_neg {a p:Int} (h:Pl p) (ha:a≠0):saysF a (0 - a) p=true:=by
 have en:0 - a=-1 * a:=by omega
 refine h.cases (fun z=>?_) (fun z=>?_) (fun hp h2 h0 h3=>?_)
 ·subst z
  rw [saysF_zero]
  simp
  omega
 ·subst z
  rw [saysF_two,en,cls_mul isP_two (by decide) ha,sqb_m1 isP_two,if_pos rfl]
  exact f_neg2 _ (cls_two ha)
 ·rw [saysF_odd h0 h2,en,cls_mul hp (by decide) ha,sqb_m1 hp,if_neg h2,cmul_odd h2]
  exact f_neg _ (cls_odd h3 h2 ha) _ (m1_pm h3)
theorem says_one {a r p:Int} (h:Pl p) (ha:a≠0) (hr:r≠0):saysF a (r * r) p=true:=by
 refine h.cases (fun z=>?_) (fun z=>?_) (fun hp h2 h0 h3=>?_)
 ·subst z
  rw [saysF_zero]
  have:0 < r * r:=(pos_mul_iff hr hr).mpr Iff.rfl
  simp [this]
 ·subst z
  rw [saysF_two,cls_mul isP_two hr hr]
  exact f_one2 _ (cls_two ha) _ (cls_two hr)
 ·rw [saysF_odd h0 h2,cls_mul hp hr hr,cmul_odd h2]
  exact f_one _ (cls_odd h3 h2 ha) _ (cls_odd h3 h2 hr) _ (m1_pm h3)
theorem tko_unit {a p:Int} (hp:2≤p) (h:¬ p ∣ a):tko a p=(0,a) :=
 tko_eq hp ⟨Int.le_refl 0,by dsimp only; rw [show (0:Int).toNat=0 from rfl,Int.pow_zero,Int.mul_one],h⟩
theorem says_unit {a b p:Int} (hp:isP p=true) (h2:p≠2) (ha:¬ p ∣ a) (hb:¬ p ∣ b):saysF a b p=true:=by
 have h3:=isP_ge hp
 rw [saysF_odd (by omega) h2]
 unfold cls
 rw [tko_unit h3 ha,tko_unit h3 hb]
 rfl
theorem sqb_of_one {a p:Int} (hp:isP p=true) (h2:p≠2) (h:p ∣ a - 1):sqb a p=1:=by
 have h3:=isP_ge hp
 rw [sqb_cong (l:=1) (cong.mpr h)]
 unfold sqb
 rw [Int.emod_eq_of_lt (by decide) (by omega),if_neg (by decide),if_neg h2,Int.one_pow,Int.emod_eq_of_lt (by decide) (by omega),if_pos rfl]
end EP
namespace EP
noncomputable def dvF (e:Int):Nat→List (Int × Int)→Int→Int→List (Int × Int) × Int
 | 0,fs,l,_=>(fs,l)
 | n + 1,fs,l,b=>match ndv l b e with
  | none=>(fs,l)
  | some d=>dvF e n (fs ++ [(d,(tko l d).1)]) (tko l d).2 (d + 2)
noncomputable def dvd0 (k:Int):List (Int × Int):=if 0 < (tko k 2).1 then [(2,(tko k 2).1)] else []
noncomputable def dvdF (k e:Int):List (Int × Int) × Int:=dvF e k.toNat (dvd0 k) (tko k 2).2 3
theorem ndv_some {l b e d:Int} (hl:0≤l) (hb:1≤b) (h:ndv l b e=some d):b≤d∧d < e∧d * d≤l∧(d - b) % 2=0∧d ∣ l∧∀ d',b≤d'→d' < d→(d' - b) % 2=0→¬ d' ∣ l:=by
 have z:=ndM_ok l b (if rt l + 1 < e then rt l + 1 else e)
 unfold ndv at h
 rw [h] at z
 obtain ⟨z1,z2,z3,z4,z5⟩:=z
 have h1:d < rt l + 1∧d < e:=by split at z2 <;> omega
 exact ⟨z1,h1.2,(lt_rt hl (by omega)).mp h1.1,z3,z4,z5⟩
theorem ndv_none {l b e:Int} (hl:0≤l) (hb:1≤b) (h:ndv l b e=none):∀ d,b≤d→d < e→d * d≤l→(d - b) % 2=0→¬ d ∣ l:=by
 have z:=ndM_ok l b (if rt l + 1 < e then rt l + 1 else e)
 unfold ndv at h
 rw [h] at z
 intro d h1 h2 h3 h4
 have:=(lt_rt hl (by omega)).mpr h3
 exact z d h1 (by split <;> omega) h4
theorem tko_lt {l d:Int} (hd:2≤d) (hl:0 < l) (h:d ∣ l):0 < (tko l d).2∧2 * (tko l d).2≤l∧1≤(tko l d).1∧(tko l d).2 ∣ l:=by
 obtain ⟨h1,h2,h3⟩:=tko_ok hd (show l≠0 by omega)
 have h1':1≤(tko l d).1:=by
  apply Classical.byContradiction
  intro hn
  have e:(tko l d).1.toNat=0:=by omega
  rw [e,Int.pow_zero,Int.mul_one] at h2
  exact h3 (h2 ▸ h)
 have hp:(2:Int)≤d ^ (tko l d).1.toNat:=by
  have e:(tko l d).1.toNat=((tko l d).1.toNat - 1) + 1:=by omega
  rw [e,Int.pow_succ]
  have:(0:Int) < d ^ ((tko l d).1.toNat - 1):=Int.pow_pos (by omega)
  have:1 * 2≤d ^ ((tko l d).1.toNat - 1) * d:=Int.mul_le_mul (by omega) hd (by decide) (by omega)
  omega
 generalize (tko l d).2=x at *
 generalize d ^ (tko l d).1.toNat=t at *
 have hx:0 < x:=by
  apply Classical.byContradiction
  intro hn
  have:x * t≤0:=Int.mul_nonpos_of_nonpos_of_nonneg (by omega) (by omega)
  omega
 have:x * 2≤x * t:=Int.mul_le_mul_of_nonneg_left hp (by omega)
 exact ⟨hx,by omega,h1',⟨t,h2⟩⟩
def pp:List (Int × Int)→Int
 | []=>1
 | u :: us=>u.1 ^ u.2.toNat * pp us
theorem pp_snoc (u:Int × Int):∀ us,pp (us ++ [u])=pp us * u.1 ^ u.2.toNat
 | []=>by show _ * 1=1 * _; rw [Int.mul_one,Int.one_mul]
 | v :: us=>by
  show v.1 ^ v.2.toNat * pp (us ++ [u])=v.1 ^ v.2.toNat * pp us * _
  rw [pp_snoc u us,Int.mul_assoc]
def Rise:Int→List (Int × Int)→Int→Prop
 | a,[],b=>a < b
 | a,u :: us,b=>a < u.1∧isP u.1=true∧1≤u.2∧Rise u.1 us b
theorem Rise.lt:∀ {a b:Int} {us},Rise a us b→a < b
 | _,_,[],h=>h
 | _,_,_ :: _,h=>Int.lt_trans h.1 (Rise.lt h.2.2.2)
theorem Rise.mono {b b':Int} (hb:b≤b'):∀ {a us},Rise a us b→Rise a us b'
 | _,[],h=>Int.lt_of_lt_of_le h hb
 | _,_ :: _,h=>⟨h.1,h.2.1,h.2.2.1,Rise.mono hb h.2.2.2⟩
theorem Rise.snoc {b b':Int} {u:Int × Int} (hu:isP u.1=true) (h1:1≤u.2) (hb:b≤u.1) (hb':u.1 < b'):∀ {a us},Rise a us b→Rise a (us ++ [u]) b'
 | _,[],h=>⟨Int.lt_of_lt_of_le h hb,hu,h1,hb'⟩
 | _,_ :: _,h=>⟨h.1,h.2.1,h.2.2.1,Rise.snoc hu h1 hb hb' h.2.2.2⟩
structure DvI (k:Int) (fs:List (Int × Int)) (l b:Int):Prop where
 rise:Rise 1 fs b
 prod:pp fs * l=k
 pos:0 < l
 odd:l % 2=1
 b3:3≤b
 bo:b % 2=1
 free:∀ d,3≤d→d < b→d % 2=1→¬ d ∣ l
theorem DvI.prime {k:Int} {fs:List (Int × Int)} {l b e d:Int} (I:DvI k fs l b) (h:ndv l b e=some d):isP d=true:=by
 obtain ⟨h1,h2,h3,h4,h5,h6⟩:=ndv_some (Int.le_of_lt I.pos) (by have:=I.b3; omega) h
 have hb:=I.b3
 have hbo:=I.bo
 refine isP_iff.mpr (.inr ⟨by omega,by omega,fun f g1 g2 g3 g4=>?_⟩)
 have hfl:f ∣ l:=Int.dvd_trans g4 h5
 have hfd:f < d:=by
  have:f * 3≤f * f:=Int.mul_le_mul_of_nonneg_left g1 (by omega)
  omega
 rcases Int.lt_or_le f b with z | z
 ·exact I.free f g1 z g3 hfl
 ·exact h6 f z hfd (by omega) hfl
theorem DvI.step {k:Int} {fs:List (Int × Int)} {l b e d:Int} (I:DvI k fs l b) (h:ndv l b e=some d):DvI k (fs ++ [(d,(tko l d).1)]) (tko l d).2 (d + 2):=by
 obtain ⟨h1,h2,h3,h4,h5,h6⟩:=ndv_some (Int.le_of_lt I.pos) (by have:=I.b3; omega) h
 have hb:=I.b3
 have hbo:=I.bo
 obtain ⟨t1,t2,t3,t4⟩:=tko_lt (show 2≤d by omega) I.pos h5
 obtain ⟨s1,s2,s3⟩:=tko_ok (show 2≤d by omega) (show l≠0 by have:=I.pos; omega)
 refine ⟨I.rise.snoc (I.prime h) t3 h1 (by omega),?_,t1,?_,by omega,by omega,fun f g1 g2 g3 g4=>?_⟩
 ·rw [pp_snoc,Int.mul_assoc,Int.mul_comm (d ^ _),← s2,I.prod]
 ·have ho:=I.odd
  obtain ⟨c,hc⟩:=t4
  rcases Int.emod_two_eq (tko l d).2 with z | z
  ·obtain ⟨y,hy⟩:=Int.dvd_of_emod_eq_zero z
   rw [hy,Int.mul_assoc] at hc
   omega
  ·exact z
 ·have hfl:f ∣ l:=Int.dvd_trans g4 t4
  rcases Int.lt_trichotomy f d with z | z | z
  ·rcases Int.lt_or_le f b with y | y
   ·exact I.free f g1 y g3 hfl
   ·exact h6 f y z (by omega) hfl
  ·rw [z] at g4; exact s3 g4
  ·omega
theorem dvF_ok {k e:Int}:∀ (n:Nat) (fs:List (Int × Int)) (l b:Int),DvI k fs l b→l≤n→∃ b',DvI k (dvF e n fs l b).1 (dvF e n fs l b).2 b'∧ndv (dvF e n fs l b).2 b' e=none
 | 0,fs,l,b,I,h=>by have:=I.pos; omega
 | n + 1,fs,l,b,I,h=>by
  unfold dvF
  cases hn:ndv l b e with
  | none=>exact ⟨b,I,hn⟩
  | some d =>
   obtain ⟨h1,h2,h3,h4,h5,h6⟩:=ndv_some (Int.le_of_lt I.pos) (by have:=I.b3; omega) hn
   obtain ⟨t1,t2,t3,t4⟩:=tko_lt (show 2≤d by have:=I.b3; omega) I.pos h5
   exact dvF_ok n _ _ _ (I.step hn) (by omega)
theorem dvd_start {k:Int} (hk:1≤k):DvI k (dvd0 k) (tko k 2).2 3∧(tko k 2).2≤k:=by
 obtain ⟨s1,s2,s3⟩:=tko_ok (show (2:Int)≤2 by decide) (show k≠0 by omega)
 have hodd:(tko k 2).2 % 2=1:=by omega
 have hp:(0:Int) < 2 ^ (tko k 2).1.toNat:=Int.pow_pos (by decide)
 have hpos:0 < (tko k 2).2:=by
  apply Classical.byContradiction
  intro hn
  have:(tko k 2).2 * 2 ^ (tko k 2).1.toNat≤0:=Int.mul_nonpos_of_nonpos_of_nonneg (by omega) (by omega)
  omega
 have hle:(tko k 2).2≤k:=by
  have:(tko k 2).2 * 1≤(tko k 2).2 * 2 ^ (tko k 2).1.toNat:=Int.mul_le_mul_of_nonneg_left (by omega) (by omega)
  omega
 refine ⟨⟨?_,?_,hpos,hodd,by decide,by decide,fun d h1 h2=>by omega⟩,hle⟩
 ·unfold dvd0
  split
  ·exact ⟨by show (1:Int) < 2; decide,isP_two,by dsimp only; omega,by show (2:Int) < 3; decide⟩
  ·show (1:Int) < 3; decide
 ·unfold dvd0
  split
  ·show (2 ^ (tko k 2).1.toNat * 1) * _=k
   rw [Int.mul_one,Int.mul_comm]; exact s2.symm
  ·have e:(tko k 2).1.toNat=0:=by omega
   rw [e,Int.pow_zero,Int.mul_one] at s2
   show 1 * _=k
   rw [Int.one_mul]; exact s2.symm
theorem dvdF_ok {k e:Int} (hk:1≤k):∃ b,DvI k (dvdF k e).1 (dvdF k e).2 b∧ndv (dvdF k e).2 b e=none:=by
 obtain ⟨I,h⟩:=dvd_start hk
 exact dvF_ok k.toNat _ _ 3 I (by omega)
noncomputable def prt (k:Int):List (Int × Int):=(dvdF k (k + 1)).1 ++ (if 1 < (dvdF k (k + 1)).2 then [((dvdF k (k + 1)).2,1)] else [])
theorem pp_pos:∀ {us:List (Int × Int)} {a b:Int},0≤a→Rise a us b→0 < pp us
 | [],_,_,_,_=>by show (0:Int) < 1; decide
 | u :: us,a,b,ha,h=>Int.mul_pos (Int.pow_pos (by have:=h.1; omega)) (pp_pos (by have:=h.1; omega) h.2.2.2)
theorem prt_ok {k:Int} (hk:1≤k):(∃ b,Rise 1 (prt k) b)∧pp (prt k)=k:=by
 obtain ⟨b,I,hn⟩:=dvdF_ok (e:=k + 1) hk
 have hle:(dvdF k (k + 1)).2≤k:=by
  have h1:=I.prod
  have h2:=pp_pos (by decide) I.rise
  have h3:=I.pos
  have:1 * (dvdF k (k + 1)).2≤pp (dvdF k (k + 1)).1 * (dvdF k (k + 1)).2:=Int.mul_le_mul_of_nonneg_right (by omega) (by omega)
  omega
 unfold prt
 generalize dvdF k (k + 1)=r at *
 split
 ·rename_i hl
  have hodd:=I.odd
  have hb3:=I.b3
  have hbo:=I.bo
  have hlb:b≤r.2:=by
   rcases Int.lt_or_le r.2 b with z | z
   ·exact absurd (Int.dvd_refl r.2) (I.free r.2 (by omega) z hodd)
   ·exact z
  have hpr:isP r.2=true:=by
   refine isP_iff.mpr (.inr ⟨by omega,hodd,fun f g1 g2 g3 g4=>?_⟩)
   rcases Int.lt_or_le f b with z | z
   ·exact I.free f g1 z g3 g4
   ·refine ndv_none (by omega) (by omega) hn f z ?_ g2 (by omega) g4
    have:f * 3≤f * f:=Int.mul_le_mul_of_nonneg_left g1 (by omega)
    omega
  refine ⟨⟨r.2 + 1,I.rise.snoc hpr (Int.le_refl 1) hlb (by dsimp only; omega)⟩,?_⟩
  rw [pp_snoc]
  show pp r.1 * r.2 ^ (1:Int).toNat=k
  rw [show (1:Int).toNat=1 from rfl,Int.pow_succ,Int.pow_zero,Int.one_mul]
  exact I.prod
 ·have:r.2=1:=by have:=I.pos; omega
  rw [List.append_nil]
  refine ⟨⟨b,I.rise⟩,?_⟩
  have:=I.prod
  rw [‹r.2=1›,Int.mul_one] at this
  exact this
end EP
namespace EP
end EP
namespace EP
def isum:List Int→Int
 | []=>0
 | x :: l=>x + isum l
def gr (a p k:Int):Int:=a * k % p
def gs (a p k:Int):Int:=if gr a p k≤(p - 1) / 2 then gr a p k else p - gr a p k
section
variable {p a:Int} (hp:isP p=true) (h2:p≠2) (ha:¬ p ∣ a)
include hp h2 in
theorem odd_p:p % 2=1∧3≤p:=by
 have:=isP_ge hp
 rcases isP_iff.mp hp with z | z <;> omega
end
def sm (n:Nat) (f:Nat→Int):Int:=isum ((List.range n).map f)
theorem sm_succ (n:Nat) (f:Nat→Int):sm (n + 1) f=sm n f + f n:=by
 have ap:∀ (l:List Int) (x:Int),isum (l ++ [x])=isum l + x:=fun l x=>by
  induction l with
  | nil=>show x + 0=0 + x; omega
  | cons y l ih=>show y + isum (l ++ [x])=y + isum l + x; omega
 unfold sm
 rw [List.range_succ,List.map_append,List.map_cons,List.map_nil,ap]
theorem sm_cong {n:Nat} {f g:Nat→Int} (h:∀ i,i < n→f i=g i):sm n f=sm n g:=by
 induction n with
 | zero=>rfl
 | succ n ih=>rw [sm_succ,sm_succ,ih fun i hi=>h i (by omega),h n (by omega)]
theorem cnt {n:Nat} {x:Int} (h0:0≤x):sm n (fun j=>if (j:Int) + 1≤x then 1 else 0)=if x≤n then x else n:=by
 induction n with
 | zero=>show (0:Int)=_; split <;> omega
 | succ n ih =>
  rw [sm_succ,ih]
  split <;> split <;> split <;> omega
theorem below {p t:Int} {n:Nat} (hp:0 < p) (ht:0≤t) (hd:¬ p ∣ t) (hn:t / p≤n):sm n (fun j=>if p * ((j:Int) + 1) < t then 1 else 0)=t / p:=by
 have h0:0≤t / p:=Int.ediv_nonneg ht (by omega)
 have e:=cnt (n:=n) h0
 rw [if_pos hn] at e
 rw [← e]
 refine sm_cong fun j _=>?_
 have hiff:p * ((j:Int) + 1) < t↔(j:Int) + 1≤t / p:=by
  rw [Int.le_ediv_iff_mul_le hp,Int.mul_comm]
  constructor
  ·intro z; omega
  ·intro z
   rcases Int.lt_or_eq_of_le z with w | w
   ·exact w
   ·exact absurd ⟨_,by rw [← w,Int.mul_comm]⟩ hd
 by_cases z:p * ((j:Int) + 1) < t
 ·rw [if_pos z,if_pos (hiff.mp z)]
 ·rw [if_neg z,if_neg fun w=>z (hiff.mpr w)]
end EP
namespace EP
def Cg (p a b:Int):Prop:=p ∣ a - b
theorem cg_refl (p a:Int):Cg p a a:=⟨0,by omega⟩
theorem cg_symm {p a b:Int} (h:Cg p a b):Cg p b a:=by obtain ⟨c,h⟩:=h; exact ⟨-c,by rw [Int.mul_neg]; omega⟩
theorem cg_trans {p a b c:Int} (h:Cg p a b) (h':Cg p b c):Cg p a c:=by
 obtain ⟨x,h⟩:=h
 obtain ⟨y,h'⟩:=h'
 exact ⟨x + y,by rw [Int.mul_add]; omega⟩
theorem cg_mul {p a b c d:Int} (h:Cg p a b) (h':Cg p c d):Cg p (a * c) (b * d):=by
 obtain ⟨x,h⟩:=h
 obtain ⟨y,h'⟩:=h'
 exact ⟨x * c + b * y,by grind⟩
theorem cg_pow {p a b:Int} (h:Cg p a b):∀ n:Nat,Cg p (a ^ n) (b ^ n)
 | 0=>by rw [Int.pow_zero,Int.pow_zero]; exact cg_refl _ _
 | n + 1=>by rw [Int.pow_succ,Int.pow_succ]; exact cg_mul (cg_pow h n) h
theorem cg_mod (p a:Int):Cg p (a % p) a:=by
 have:=Int.emod_add_mul_ediv a p
 exact ⟨-(a / p),by rw [Int.mul_neg]; omega⟩
theorem cg_eq {p a b:Int} (ha:0≤a∧a < p) (hb:0≤b∧b < p) (h:Cg p a b):a=b:=by
 have:=small_dvd h (by omega) (by omega)
 omega
theorem cg_pm {p y:Int} (hp:isP p=true) (h:Cg p (y * y) 1):Cg p y 1∨Cg p y (-1):=by
 have:p ∣ (y - 1) * (y + 1):=by rw [show (y - 1) * (y + 1)=y * y - 1 by grind]; exact h
 rcases euclid hp this with z | z
 ·exact .inl z
 ·exact .inr (by unfold Cg; rw [show y - -1=y + 1 by omega]; exact z)
def NsS (p k:Int):Prop:=2≤k∧sqb k p=-1∧∀ j,2≤j→j < k→sqb j p≠-1
theorem NsS.uniq {p:Int} (a b:Int) (ha:NsS p a) (hb:NsS p b):a=b:=by
 rcases Int.lt_trichotomy a b with z | z | z
 ·exact absurd ha.2.1 (hb.2.2 a ha.1 z)
 ·exact z
 ·exact absurd hb.2.1 (ha.2.2 b hb.1 z)
noncomputable def nsq (p:Int):Int:=Classical.epsilon (NsS p)
theorem nsq_eq {p k:Int} (h:NsS p k):k=nsq p:=eps_eq NsS.uniq h
def NR (p:Int):Prop:=∃ g,2≤g∧sqb g p=-1
theorem nsq_ok {p:Int} (h:NR p):NsS p (nsq p):=by
 obtain ⟨g,h1,h3⟩:=h
 have:∀ n:Nat,(∃ k,NsS p k)∨∀ j:Int,2≤j→j < 2 + (n:Int)→sqb j p≠-1:=fun n=>by
  induction n with
  | zero=>exact .inr fun j a b=>by omega
  | succ n ih =>
   rcases ih with z | z
   ·exact .inl z
   ·by_cases w:sqb (2 + (n:Int)) p=-1
    ·exact .inl ⟨2 + (n:Int),by omega,w,fun j a b=>z j a b⟩
    ·refine .inr fun j a b=>?_
     by_cases e:j=2 + (n:Int)
     ·rw [e]; exact w
     ·exact z j a (by omega)
 rcases this (g - 1).toNat with ⟨k,z⟩ | z
 ·rw [← nsq_eq z]; exact z
 ·exact absurd h3 (z g h1 (by omega))
def SqS (e p s:Int):Prop:=0≤s∧Cg p (e ^ 2 ^ s.toNat) 1∧∀ j:Nat,(j:Int) < s→¬ Cg p (e ^ 2 ^ j) 1
theorem SqS.uniq {e p:Int} (a b:Int) (ha:SqS e p a) (hb:SqS e p b):a=b:=by
 rcases Int.lt_trichotomy a b with z | z | z
 ·exact absurd ha.2.1 (hb.2.2 a.toNat (by have:=ha.1; omega))
 ·exact z
 ·exact absurd hb.2.1 (ha.2.2 b.toNat (by have:=hb.1; omega))
noncomputable def sqr (e p:Int):Int:=Classical.epsilon (SqS e p)
theorem sqr_eq {e p s:Int} (h:SqS e p s):s=sqr e p:=eps_eq SqS.uniq h
theorem sqr_ok {e p:Int} {n:Nat} (h:Cg p (e ^ 2 ^ n) 1):SqS e p (sqr e p)∧sqr e p≤n:=by
 have:∀ m:Nat,(∃ s:Nat,s≤m∧SqS e p s)∨∀ j:Nat,j≤m→¬ Cg p (e ^ 2 ^ j) 1:=fun m=>by
  induction m with
  | zero =>
   by_cases w:Cg p (e ^ 2 ^ 0) 1
   ·exact .inl ⟨0,Nat.le_refl 0,by omega,w,fun j hj=>by omega⟩
   ·exact .inr fun j hj=>by rw [Nat.le_zero.mp hj]; exact w
  | succ m ih =>
   rcases ih with ⟨s,hs,z⟩ | z
   ·exact .inl ⟨s,by omega,z⟩
   ·by_cases w:Cg p (e ^ 2 ^ (m + 1)) 1
    ·exact .inl ⟨m + 1,Nat.le_refl _,by omega,w,fun j hj=>z j (by omega)⟩
    ·refine .inr fun j hj=>?_
     by_cases q:j=m + 1
     ·rw [q]; exact w
     ·exact z j (by omega)
 rcases this n with ⟨s,hs,z⟩ | z
 ·rw [← sqr_eq z]; exact ⟨z,by omega⟩
 ·exact absurd h (z n (Nat.le_refl n))
def mq (p m:Int):Nat→Int
 | 0=>m
 | i + 1=>mq p m i * mq p m i % p
theorem mq_cg (p m:Int):∀ i,Cg p (mq p m i) (m ^ 2 ^ i)
 | 0=>by show Cg p m (m ^ 1); rw [Int.pow_succ,Int.pow_zero,Int.one_mul]; exact cg_refl _ _
 | i + 1=>by
  have h:=mq_cg p m i
  refine cg_trans (cg_mod p _) ?_
  rw [show (2:Nat) ^ (i + 1)=2 ^ i + 2 ^ i by rw [Nat.pow_succ]; omega,Int.pow_add]
  exact cg_mul h h
theorem mq_ok {p m:Int} (hp:0 < p) (hm:0≤m∧m < p):∀ i,0≤mq p m i∧mq p m i < p
 | 0=>hm
 | _ + 1=>⟨Int.emod_nonneg _ (by omega),Int.emod_lt_of_pos _ hp⟩
noncomputable def rosF (p:Int):Nat→Int→Int→Int→Int→Int
 | 0,_,r,_,_=>r
 | n + 1,t,r,e,m=>if e=1 then r else rosF p n (sqr e p) (r * mq p m (t - sqr e p - 1).toNat % p) (e * (mq p m (t - sqr e p - 1).toNat * mq p m (t - sqr e p - 1).toNat % p) % p) (mq p m (t - sqr e p - 1).toNat * mq p m (t - sqr e p - 1).toNat % p)
structure RoI (p k t r e m:Int):Prop where
 r0:0≤r∧r < p
 e0:0≤e∧e < p
 m0:0≤m∧m < p
 t1:1≤t
 rr:Cg p (r * r) (k * e)
 ee:Cg p (e ^ 2 ^ (t - 1).toNat) 1
 mm:e≠1→Cg p (m ^ 2 ^ (t - 1).toNat) (-1)
theorem RoI.step {p k t r e m:Int} (hp:isP p=true) (I:RoI p k t r e m) (he:e≠1) :
  SqS e p (sqr e p)∧1≤sqr e p∧sqr e p < t∧RoI p k (sqr e p) (r * mq p m (t - sqr e p - 1).toNat % p) (e * (mq p m (t - sqr e p - 1).toNat * mq p m (t - sqr e p - 1).toNat % p) % p) (mq p m (t - sqr e p - 1).toNat * mq p m (t - sqr e p - 1).toNat % p):=by
 have hp2:=isP_ge hp
 obtain ⟨hS,hle⟩:=sqr_ok I.ee
 have ht:=I.t1
 have hs1:1≤sqr e p:=by
  apply Classical.byContradiction
  intro hn
  have hz:sqr e p=0:=by have:=hS.1; omega
  have h1:=hS.2.1
  rw [hz] at h1
  have h1':Cg p e 1:=by
   have:e ^ 2 ^ (0:Int).toNat=e:=by show e ^ 1=e; rw [Int.pow_succ,Int.pow_zero,Int.one_mul]
   rwa [this] at h1
  exact he (cg_eq I.e0 ⟨by decide,by omega⟩ h1')
 have hst:sqr e p < t:=by omega
 refine ⟨hS,hs1,hst,?_⟩
 generalize hsd:sqr e p=s at *
 have hx:=mq_cg p m (t - s - 1).toNat
 have hxb:=mq_ok (show 0 < p by omega) I.m0 (t - s - 1).toNat
 generalize mq p m (t - s - 1).toNat=x at *
 have e1:Cg p (e ^ 2 ^ (s - 1).toNat) (-1):=by
  have hsq:Cg p (e ^ 2 ^ (s - 1).toNat * e ^ 2 ^ (s - 1).toNat) 1:=by
   rw [← Int.pow_add,show 2 ^ (s - 1).toNat + 2 ^ (s - 1).toNat=2 ^ s.toNat by rw [show s.toNat=(s - 1).toNat + 1 by omega,Nat.pow_succ]; omega]
   exact hS.2.1
  rcases cg_pm hp hsq with z | z
  ·exact absurd z (hS.2.2 (s - 1).toNat (by omega))
  ·exact z
 have x1:Cg p (x ^ 2 ^ s.toNat) (-1):=by
  refine cg_trans (cg_pow hx _) ?_
  rw [← Int.pow_mul,← Nat.pow_add,show (t - s - 1).toNat + s.toNat=(t - 1).toNat by omega]
  exact I.mm he
 have m1:Cg p ((x * x % p) ^ 2 ^ (s - 1).toNat) (-1):=by
  refine cg_trans (cg_pow (cg_mod p _) _) ?_
  rw [Int.mul_pow,← Int.pow_add,show 2 ^ (s - 1).toNat + 2 ^ (s - 1).toNat=2 ^ s.toNat by rw [show s.toNat=(s - 1).toNat + 1 by omega,Nat.pow_succ]; omega]
  exact x1
 have bd:∀ y:Int,0≤y % p∧y % p < p:=fun y=>⟨Int.emod_nonneg _ (by omega),Int.emod_lt_of_pos _ (by omega)⟩
 refine ⟨bd _,bd _,bd _,hs1,?_,?_,fun _=>m1⟩
 ·have h1:Cg p (r * x % p * (r * x % p)) (r * x * (r * x)):=cg_mul (cg_mod _ _) (cg_mod _ _)
  have h2:Cg p (k * (e * (x * x % p) % p)) (k * (e * (x * x))):=cg_mul (cg_refl _ _) (cg_trans (cg_mod _ _) (cg_mul (cg_refl _ _) (cg_mod _ _)))
  refine cg_trans h1 (cg_trans ?_ (cg_symm h2))
  rw [show r * x * (r * x)=r * r * (x * x) by grind,show k * (e * (x * x))=k * e * (x * x) by grind]
  exact cg_mul I.rr (cg_refl _ _)
 ·refine cg_trans (cg_pow (cg_mod p _) _) ?_
  rw [Int.mul_pow]
  refine cg_trans (cg_mul e1 m1) ?_
  exact cg_refl _ _
theorem rosF_ok {p k:Int} (hp:isP p=true):∀ (n:Nat) (t r e m:Int),RoI p k t r e m→t≤n→(0≤rosF p n t r e m∧rosF p n t r e m < p)∧Cg p (rosF p n t r e m * rosF p n t r e m) k
 | 0,t,r,e,m,I,h=>by have:=I.t1; omega
 | n + 1,t,r,e,m,I,h=>by
  unfold rosF
  split
  ·rename_i he
   refine ⟨I.r0,?_⟩
   have:=I.rr
   rwa [he,Int.mul_one] at this
  ·rename_i he
   obtain ⟨hS,hs1,hst,I'⟩:=I.step hp he
   exact rosF_ok hp n _ _ _ _ I' (by omega)
noncomputable def ros (k p:Int):Int:=rosF p (tko (p - 1) 2).1.toNat (tko (p - 1) 2).1 (k ^ (((tko (p - 1) 2).2 + 1) / 2).toNat % p) (k ^ (tko (p - 1) 2).2.toNat % p) (if k ^ (tko (p - 1) 2).2.toNat % p≠1 then nsq p ^ (tko (p - 1) 2).2.toNat % p else 1)
theorem two_part {p:Int} (hp:isP p=true) (h2:p≠2):1≤(tko (p - 1) 2).1∧(tko (p - 1) 2).2 % 2=1∧1≤(tko (p - 1) 2).2∧(tko (p - 1) 2).2.toNat * 2 ^ ((tko (p - 1) 2).1 - 1).toNat=((p - 1) / 2).toNat:=by
 have ho:=odd_p hp h2
 obtain ⟨a1,a2,a3,a4⟩:=tko_lt (show (2:Int)≤2 by decide) (show 0 < p - 1 by omega) (show (2:Int) ∣ p - 1 by omega)
 obtain ⟨b1,b2,b3⟩:=tko_ok (show (2:Int)≤2 by decide) (show p - 1≠0 by omega)
 refine ⟨a3,by omega,by omega,?_⟩
 generalize (tko (p - 1) 2).1=t at *
 generalize (tko (p - 1) 2).2=o at *
 have e:t.toNat=(t - 1).toNat + 1:=by omega
 rw [e,Int.pow_succ] at b2
 have h3:o * 2 ^ (t - 1).toNat=(p - 1) / 2:=by
  have:p - 1=2 * (o * 2 ^ (t - 1).toNat):=by rw [b2]; grind
  omega
 have h4:((o.toNat * 2 ^ (t - 1).toNat:Nat):Int)=o * 2 ^ (t - 1).toNat:=by
  rw [Int.natCast_mul,Int.natCast_pow]
  rw [show ((o.toNat:Nat):Int)=o by omega]
  rfl
 omega
theorem ro_start {p k:Int} (hp:isP p=true) (h2:p≠2) (hk:0≤k∧k < p) (hs:sqb k p=1) (hn:NR p) :
  RoI p k (tko (p - 1) 2).1 (k ^ (((tko (p - 1) 2).2 + 1) / 2).toNat % p) (k ^ (tko (p - 1) 2).2.toNat % p) (if k ^ (tko (p - 1) 2).2.toNat % p≠1 then nsq p ^ (tko (p - 1) 2).2.toNat % p else 1):=by
 have ho:=odd_p hp h2
 obtain ⟨t1,o1,o2,heq⟩:=two_part hp h2
 generalize (tko (p - 1) 2).1=t at *
 generalize (tko (p - 1) 2).2=o at *
 have bd:∀ y:Int,0≤y % p∧y % p < p:=fun y=>⟨Int.emod_nonneg _ (by omega),Int.emod_lt_of_pos _ (by omega)⟩
 have hpk:¬ p ∣ k:=fun z=>by rw [sqb_zero z] at hs; cases hs
 refine ⟨bd _,bd _,?_,t1,?_,?_,fun he=>?_⟩
 ·split
  ·exact bd _
  ·exact ⟨by decide,by omega⟩
 ·have h1:Cg p (k ^ ((o + 1) / 2).toNat % p * (k ^ ((o + 1) / 2).toNat % p)) (k ^ ((o + 1) / 2).toNat * k ^ ((o + 1) / 2).toNat):=cg_mul (cg_mod _ _) (cg_mod _ _)
  refine cg_trans h1 ?_
  rw [← Int.pow_add,show ((o + 1) / 2).toNat + ((o + 1) / 2).toNat=o.toNat + 1 by omega,Int.pow_succ,Int.mul_comm]
  exact cg_mul (cg_refl _ _) (cg_symm (cg_mod _ _))
 ·refine cg_trans (cg_pow (cg_mod p _) _) ?_
  rw [← Int.pow_mul,heq]
  exact (sqb_one hp h2 hpk).mp hs
 ·rw [if_pos he]
  refine cg_trans (cg_pow (cg_mod p _) _) ?_
  rw [← Int.pow_mul,heq]
  have hN:=nsq_ok hn
  have hnd:¬ p ∣ nsq p:=fun z=>by
   have:=hN.2.1
   rw [sqb_zero z] at this
   cases this
  have:=(sqb_neg hp h2 hnd).mp hN.2.1
  unfold Cg
  rw [show ∀ y:Int,y - -1=y + 1 from fun y=>by omega]
  exact this
theorem ros_ok {p k:Int} (hp:isP p=true) (h2:p≠2) (hk:0≤k∧k < p) (hs:sqb k p=1) (hn:NR p):(0≤ros k p∧ros k p < p)∧Cg p (ros k p * ros k p) k:=by
 obtain ⟨t1,_⟩:=two_part hp h2
 exact rosF_ok hp _ _ _ _ _ (ro_start hp h2 hk hs hn) (by omega)
noncomputable def rbp (k p:Int):Option Int:=if sqb k p=-1 then none else if sqb k p=0∨p=2 then some (sqb k p) else some (ros (k % p) p)
theorem rbp_none {k p:Int}:rbp k p=none↔sqb k p=-1:=by
 unfold rbp
 split
 ·rename_i h; exact ⟨fun _=>h,fun _=>rfl⟩
 ·rename_i h
  split
  ·exact ⟨fun z=>(Option.some_ne_none _ z).elim,fun z=>absurd z h⟩
  ·exact ⟨fun z=>(Option.some_ne_none _ z).elim,fun z=>absurd z h⟩
theorem rbp_ok {k p r:Int} (hp:isP p=true) (h2:p≠2) (hn:NR p) (h:rbp k p=some r):(0≤r∧r < p)∧Cg p (r * r) k:=by
 have hp2:=isP_ge hp
 unfold rbp at h
 by_cases h1:sqb k p=-1
 ·rw [if_pos h1] at h; cases h
 ·rw [if_neg h1] at h
  by_cases h0:sqb k p=0
  ·rw [if_pos (.inl h0)] at h
   have hr:r=0:=by
    have:=Option.some.inj h
    omega
   have hd:p ∣ k:=by
    apply Classical.byContradiction
    intro hn
    rcases sqb_pm hn with z | z <;> omega
   rw [hr]
   obtain ⟨c,hc⟩:=hd
   exact ⟨⟨by decide,by omega⟩,⟨-c,by rw [Int.mul_neg]; omega⟩⟩
  ·rw [if_neg (fun z=>z.elim h0 h2)] at h
   have hr:=Option.some.inj h
   have hnd:¬ p ∣ k:=fun z=>h0 (sqb_zero z)
   have hs:sqb k p=1:=by rcases sqb_pm hnd with z | z <;> omega
   have:=ros_ok (k:=k % p) hp h2 ⟨Int.emod_nonneg _ (by omega),Int.emod_lt_of_pos _ (by omega)⟩ (by rw [sqb_mod]; exact hs) hn
   rw [hr] at this
   exact ⟨this.1,cg_trans this.2 (cg_mod _ _)⟩
def hz (g p:Nat):List Bool→Nat
 | []=>1 % p
 | b :: bs=>(hz g p bs) ^ 2 * (cond b g 1) % p
def hv:List Bool→Nat
 | []=>0
 | b :: bs=>(cond b 1 0) + 2 * hv bs
end EP
namespace EP
theorem cop_dvd {k n m:Int} (h:k ∣ n * m) (hg:Int.gcd k m=1):k ∣ n:=by
 have:=Int.dvd_mul_gcd_iff_dvd_mul.mpr h
 rw [hg] at this
 simpa using this
def Sqf (n:Int):Prop:=n≠0∧∀ d:Int,2≤d→¬ d * d ∣ n
theorem sqf_one:Sqf 1:=⟨by decide,fun d hd h=>by
 have:=Int.le_of_dvd (by decide) h
 have:2 * 2≤d * d:=Int.mul_le_mul hd hd (by decide) (by omega)
 omega⟩
theorem sqf_neg {n:Int} (h:Sqf n):Sqf (-n):=⟨by have:=h.1; omega,fun d hd z=>h.2 d hd (Int.dvd_neg.mp z)⟩
theorem sqf_dvd {n m:Int} (h:Sqf n) (hd:m ∣ n):Sqf m:=⟨by rintro rfl; exact h.1 (Int.zero_dvd.mp hd),fun d h2 z=>h.2 d h2 (Int.dvd_trans z hd)⟩
theorem gcd_prime {p d:Int} (hp:isP p=true) (h:¬ p ∣ d):Int.gcd d p=1:=by
 have hp2:=isP_ge hp
 have h1:=isP_dvd hp (d:=(Int.gcd d p:Int)) (by
  have:0 < Int.gcd d p:=Int.gcd_pos_of_ne_zero_right _ (by omega)
  omega) (Int.gcd_dvd_right ..)
 rcases h1 with h1 | h1
 ·omega
 ·exact absurd (by rw [← h1]; exact Int.gcd_dvd_left ..) h
theorem sqf_mul_prime {n p:Int} (h:Sqf n) (hp:isP p=true) (hn:¬ p ∣ n):Sqf (n * p):=⟨Int.mul_ne_zero h.1 (by have:=isP_ge hp; omega),fun d hd z=>by
 have hp2:=isP_ge hp
 by_cases hpd:p ∣ d
 ·obtain ⟨c,rfl⟩:=hpd
  have:p * p ∣ n * p:=Int.dvd_trans ⟨c * c,by grind⟩ z
  exact hn (Int.dvd_of_mul_dvd_mul_right (by omega) this)
 ·exact h.2 d hd (cop_dvd z (gcd_prime hp fun w=>by rcases euclid hp w with w | w <;> exact hpd w))⟩
theorem gcd_sq {r s:Int} (hg:Int.gcd r s=1):Int.gcd (s * s) (r * r)=1:=by
 have a:Int.gcd s (r * r)=1:=by rw [Int.gcd_mul_right_right_of_gcd_eq_one (by rw [Int.gcd_comm]; exact hg),Int.gcd_comm]; exact hg
 rw [Int.gcd_mul_right_left_of_gcd_eq_one a]; exact a
theorem sqf_cop {f r s:Int} (hf:Sqf f) (hs:0 < s) (hg:Int.gcd r s=1) (h:s * s ∣ f * (r * r)):s=1:=by
 have h2:s * s ∣ f:=cop_dvd h (gcd_sq hg)
 rcases Int.lt_or_le s 2 with z | z
 ·omega
 ·exact absurd h2 (hf.2 s z)
theorem sqf_uniq {n f r s:Int} (hn:Sqf n) (hf:Sqf f) (hr:0 < r) (hs:0 < s) (e:n * (r * r)=f * (s * s)):n=f∧r=s:=by
 obtain ⟨g,r',s',hg,hgr,er,es⟩:∃ g r' s':Int,0 < g∧Int.gcd r' s'=1∧r=g * r'∧s=g * s':=by
  have h0:0 < Int.gcd r s:=Int.gcd_pos_of_ne_zero_left _ (by omega)
  refine ⟨Int.gcd r s,r / Int.gcd r s,s / Int.gcd r s,by omega,?_,(Int.mul_ediv_cancel' (Int.gcd_dvd_left ..)).symm,(Int.mul_ediv_cancel' (Int.gcd_dvd_right ..)).symm⟩
  rw [Int.gcd_ediv_gcd_ediv_gcd h0]
 subst er es
 have hr':0 < r':=by
  rcases Int.lt_or_le 0 r' with z | z
  ·exact z
  ·have:=Int.mul_nonpos_of_nonneg_of_nonpos (Int.le_of_lt hg) z; omega
 have hs':0 < s':=by
  rcases Int.lt_or_le 0 s' with z | z
  ·exact z
  ·have:=Int.mul_nonpos_of_nonneg_of_nonpos (Int.le_of_lt hg) z; omega
 have e':n * (r' * r')=f * (s' * s'):=by
  have:(g * g) * (n * (r' * r'))=(g * g) * (f * (s' * s')):=by grind
  exact Int.eq_of_mul_eq_mul_left (Int.mul_ne_zero (by omega) (by omega)) this
 have h1:s'=1:=sqf_cop hn hs' hgr ⟨f,by grind⟩
 have h2:r'=1:=sqf_cop hf hr' (by rw [Int.gcd_comm]; exact hgr) ⟨n,by grind⟩
 subst h1 h2
 exact ⟨by omega,rfl⟩
def Smo (A:Int):Prop:=∀ q,isP q=true→q ∣ A→q < 32768
def Rgh (l:Int):Prop:=∀ q,isP q=true→q ∣ l→32768≤q
theorem has_prime {k:Int} (h:2≤k):∃ q,isP q=true∧q ∣ k:=by
 obtain ⟨⟨b,hr⟩,hp⟩:=prt_ok (k:=k) (by omega)
 cases hq:prt k with
 | nil=>rw [hq] at hp; simp only [pp] at hp; omega
 | cons u us =>
  rw [hq] at hr hp
  refine ⟨u.1,hr.2.1,?_⟩
  rw [← hp,pp]
  have h1:=hr.2.2.1
  obtain ⟨m,hm⟩:∃ m,u.2.toNat=m + 1:=⟨u.2.toNat - 1,by omega⟩
  rw [hm,Int.pow_succ]
  exact ⟨u.1 ^ m * pp us,by grind⟩
theorem cop_of {a b:Int} (h:∀ q,isP q=true→q ∣ a→¬ q ∣ b) (ha:a≠0):Int.gcd a b=1:=by
 have h0:0 < Int.gcd a b:=Int.gcd_pos_of_ne_zero_left _ ha
 rcases Nat.lt_or_ge (Int.gcd a b) 2 with z | z
 ·omega
 ·obtain ⟨q,h1,h2⟩:=has_prime (k:=(Int.gcd a b:Int)) (by omega)
  exact absurd (Int.dvd_trans h2 (Int.gcd_dvd_right ..)) (h q h1 (Int.dvd_trans h2 (Int.gcd_dvd_left ..)))
theorem smo_rgh {A l:Int} (ha:Smo A) (hl:Rgh l) (h0:l≠0):Int.gcd l A=1:=cop_of (fun q h1 h2 h3=>by have:=ha q h1 h3; have:=hl q h1 h2; omega) h0
theorem smo_mul {A B:Int} (ha:Smo A) (hb:Smo B):Smo (A * B):=fun q h1 h2=>by rcases euclid h1 h2 with z | z; exact ha q h1 z; exact hb q h1 z
theorem rgh_mul {A B:Int} (ha:Rgh A) (hb:Rgh B):Rgh (A * B):=fun q h1 h2=>by rcases euclid h1 h2 with z | z; exact ha q h1 z; exact hb q h1 z
theorem smo_lt {A:Int} (h0:0 < A) (h:A < 32768):Smo A:=fun q _ h2=>by have:=Int.le_of_dvd h0 h2; omega
theorem rgh_one:Rgh 1:=fun q h1 h2=>by have:=Int.le_of_dvd (by decide) h2; have:=isP_ge h1; omega
theorem smo_pow {q:Int} (hq:isP q=true) (h:q < 32768):∀ n:Nat,Smo (q ^ n)
 | 0=>fun r h1 h2=>by rw [Int.pow_zero] at h2; have:=Int.le_of_dvd (by decide) h2; have:=isP_ge h1; omega
 | n + 1=>by
  rw [Int.pow_succ]
  exact smo_mul (smo_pow hq h n) fun r h1 h2=>by have:=Int.le_of_dvd (by have:=isP_ge hq; omega) h2; omega
theorem ndv_odd_free {l b:Int} (hl:0 < l) (ho:l % 2=1) (b3:3≤b) (bo:b % 2=1) (hf:∀ d,3≤d→d < b→d % 2=1→¬ d ∣ l) (hn:ndv l b 32768=none):∀ d,3≤d→d < 32768→d * d≤l→d % 2=1→¬ d ∣ l:=fun d h1 h2 h3 h4=>by
 rcases Int.lt_or_le d b with z | z
 ·exact hf d h1 z h4
 ·exact ndv_none (by omega) (by omega) hn d z h2 h3 (by omega)
theorem left_prime {k b l:Int} {fs:List (Int × Int)} (I:DvI k fs l b) (hn:ndv l b 32768=none) (h1:1 < l) (h2:l < 1073741824):isP l=true∧b≤l:=by
 have hf:=ndv_odd_free I.pos I.odd I.b3 I.bo I.free hn
 have ho:=I.odd
 refine ⟨isP_iff.mpr (.inr ⟨by omega,ho,fun d a1 a2 a3=>hf d a1 ?_ a2 a3⟩),?_⟩
 ·rcases Int.lt_or_le d 32768 with z | z
  ·exact z
  ·have:32768 * 32768≤d * d:=Int.mul_le_mul z z (by decide) (by omega)
   omega
 ·rcases Int.lt_or_le l b with z | z
  ·exact absurd (Int.dvd_refl l) (I.free l (by omega) z ho)
  ·exact z
theorem left_rough {k b l:Int} {fs:List (Int × Int)} (I:DvI k fs l b) (hn:ndv l b 32768=none) (h:1073741824≤l):Rgh l:=fun q h1 h2=>by
 have hf:=ndv_odd_free I.pos I.odd I.b3 I.bo I.free hn
 rcases Int.lt_or_le q 32768 with z | z
 ·rcases isP_iff.mp h1 with w | ⟨w1,w2,w3⟩
  ·subst w; have:=I.odd; omega
  ·have:q * q≤32768 * 32768:=Int.mul_le_mul (by omega) (by omega) (by omega) (by decide)
   exact absurd h2 (hf q w1 z (by omega) w2)
 ·exact z
end EP
namespace EP
theorem dvF_small {k e:Int}:∀ (n:Nat) (fs:List (Int × Int)) (l b:Int),DvI k fs l b→(∀ u∈fs,u.1 < e)→∀ u∈(dvF e n fs l b).1,u.1 < e
 | 0,fs,l,b,I,h=>h
 | n + 1,fs,l,b,I,h=>by
  unfold dvF
  cases hd:ndv l b e with
  | none=>exact h
  | some d =>
   refine dvF_small n _ _ _ (I.step hd) fun u hu=>?_
   rcases List.mem_append.mp hu with z | z
   ·exact h u z
   ·have:=ndv_some (Int.le_of_lt I.pos) (by have:=I.b3; omega) hd
    simp only [List.mem_singleton] at z
    subst z
    exact this.2.1
theorem dvdF_small {k e:Int} (hk:1≤k) (he:2 < e):∀ u∈(dvdF k e).1,u.1 < e:=by
 refine dvF_small _ _ _ _ (dvd_start hk).1 fun u hu=>?_
 unfold dvd0 at hu
 split at hu
 ·simp only [List.mem_singleton] at hu
  subst hu; exact he
 ·cases hu
theorem rise_mem:∀ {us:List (Int × Int)} {a b:Int},Rise a us b→∀ u∈us,isP u.1=true∧1≤u.2
 | u :: us,a,b,h,v,hv=>by
  rcases List.mem_cons.mp hv with z | z
  ·subst z; exact ⟨h.2.1,h.2.2.1⟩
  ·exact rise_mem h.2.2.2 v z
theorem smo_pp:∀ {us:List (Int × Int)},(∀ u∈us,isP u.1=true∧u.1 < 32768)→Smo (pp us)
 | [],_=>fun q h1 h2=>by have h3:q ∣ 1:=h2; have:=Int.le_of_dvd (by decide) h3; have:=isP_ge h1; omega
 | u :: us,h=>smo_mul (smo_pow (h u (List.mem_cons_self ..)).1 (h u (List.mem_cons_self ..)).2 _) (smo_pp fun v hv=>h v (List.mem_cons_of_mem _ hv))
theorem smo_rgh_of {s:Int} (hs:1≤s):∃ A L,Smo A∧Rgh L∧0 < A∧0 < L∧s=A * L:=by
 obtain ⟨b,I,hn⟩:=dvdF_ok (k:=s) (e:=32768) hs
 have hs':Smo (pp (dvdF s 32768).1):=smo_pp fun u hu=>⟨(rise_mem I.rise u hu).1,dvdF_small hs (by decide) u hu⟩
 have hp:=pp_pos (by decide) I.rise
 have hl:=I.pos
 by_cases h1:(dvdF s 32768).2 < 32768
 ·exact ⟨s,1,by rw [← I.prod]; exact smo_mul hs' (smo_lt hl h1),rgh_one,by omega,by decide,by omega⟩
 ·refine ⟨_,_,hs',?_,hp,hl,I.prod.symm⟩
  by_cases h2:(dvdF s 32768).2 < 1073741824
  ·have:=left_prime I hn (by omega) h2
   intro q q1 q2
   rcases isP_dvd this.1 (by have:=isP_ge q1; omega) q2 with z | z
   ·have:=isP_ge q1; omega
   ·omega
  ·exact left_rough I hn (by omega)
theorem rgh_eq {A B l L:Int} (hA:Smo A) (hB:Smo B) (hl:Rgh l) (hL:Rgh L) (h0:0 < l) (h1:0 < L) (e:A * l=B * L):l=L:=by
 have d1:l ∣ L:=cop_dvd (k:=l) (n:=L) (m:=B) ⟨A,by grind⟩ (smo_rgh hB hl (by omega))
 have d2:L ∣ l:=cop_dvd (k:=L) (n:=l) (m:=A) ⟨B,by grind⟩ (smo_rgh hA hL (by omega))
 have:=Int.le_of_dvd h1 d1
 have:=Int.le_of_dvd h0 d2
 omega
def Tame (k:Int):Prop:=(∃ f s,Smo f∧0 < f∧1≤s∧k=f * (s * s))∨(∃ f P,Smo f∧0 < f∧isP P=true∧P < 1073741824∧k=f * P)
theorem tame_left {k b l:Int} {fs:List (Int × Int)} (h:Tame k) (hk:1≤k) (I:DvI k fs l b) (hf:∀ u∈fs,u.1 < 32768) (hn:ndv l b 32768=none):l < 1073741824∨rt l * rt l=l:=by
 rcases Int.lt_or_le l 1073741824 with z | z
 ·exact .inl z
 have hl:=left_rough I hn z
 have hs':Smo (pp fs):=smo_pp fun u hu=>⟨(rise_mem I.rise u hu).1,hf u hu⟩
 have hpr:=I.prod
 rcases h with ⟨f,s,h1,h2,h3,h4⟩ | ⟨f,P,h1,h2,h3,h4,h5⟩
 ·obtain ⟨A,L,a1,a2,a3,a4,a5⟩:=smo_rgh_of h3
  have e:l=L * L:=rgh_eq hs' (smo_mul h1 (smo_mul a1 a1)) hl (rgh_mul a2 a2) (by omega) (Int.mul_pos a4 a4) (by rw [hpr,h4,a5]; grind)
  right
  have:L=rt l:=rt_unique (by omega) (by omega) (by rw [e]; grind)
  rw [← this,e]
 ·have d1:l ∣ P:=cop_dvd (k:=l) (n:=P) (m:=f) ⟨pp fs,by grind⟩ (smo_rgh h1 hl (by omega))
  have:=Int.le_of_dvd (by have:=isP_ge h3; omega) d1
  omega
def frS (c:Int × Int) (u:Int × Int):Int × Int:=(if u.2 % 2=1 then c.1 * u.1 else c.1,c.2 * u.1 ^ (u.2 / 2).toNat)
theorem frS_ok:∀ {us:List (Int × Int)} {a b:Int} {c:Int × Int},Rise a us b→Sqf c.1→(∀ q,isP q=true→a < q→¬ q ∣ c.1)→0 < c.2 →
  Sqf (us.foldl frS c).1∧0 < (us.foldl frS c).2∧(us.foldl frS c).1 * ((us.foldl frS c).2 * (us.foldl frS c).2)=c.1 * (c.2 * c.2) * pp us
 | [],a,b,c,_,hs,_,h0=>⟨hs,h0,by simp [pp]⟩
 | u :: us,a,b,c,hr,hs,hq,h0=>by
  obtain ⟨r1,r2,r3,r4⟩:=hr
  have hu2:=isP_ge r2
  have hpow:0 < u.1 ^ (u.2 / 2).toNat:=Int.pow_pos (by omega)
  have hS:Sqf (frS c u).1:=by
   unfold frS; dsimp only
   split
   ·exact sqf_mul_prime hs r2 (hq _ r2 r1)
   ·exact hs
  have hQ:∀ q,isP q=true→u.1 < q→¬ q ∣ (frS c u).1:=fun q h1 h2 h3=>by
   unfold frS at h3; dsimp only at h3
   split at h3
   ·rcases euclid h1 h3 with z | z
    ·exact hq q h1 (by omega) z
    ·have:=Int.le_of_dvd (by omega) z; omega
   ·exact hq q h1 (by omega) h3
  have hP:0 < (frS c u).2:=Int.mul_pos h0 hpow
  obtain ⟨i1,i2,i3⟩:=frS_ok (c:=frS c u) r4 hS hQ hP
  refine ⟨i1,i2,?_⟩
  rw [List.foldl_cons,i3,pp]
  have hpw:(if u.2 % 2=1 then u.1 else 1) * (u.1 ^ (u.2 / 2).toNat * u.1 ^ (u.2 / 2).toNat)=u.1 ^ u.2.toNat:=by
   rw [← Int.pow_add]
   by_cases z:u.2 % 2=1
   ·rw [if_pos z,show u.2.toNat=((u.2 / 2).toNat + (u.2 / 2).toNat) + 1 by omega,Int.pow_succ,Int.mul_comm]
   ·rw [if_neg z,Int.one_mul,show u.2.toNat=(u.2 / 2).toNat + (u.2 / 2).toNat by omega]
  unfold frS
  dsimp only
  rw [← hpw]
  generalize u.1 ^ (u.2 / 2).toNat=y
  split <;> grind
noncomputable def tpM (k:Int):List (Int × Int) × Int :=
 if 1 < (dvdF k 32768).2∧(dvdF k 32768).2 < 1073741824 then ((dvdF k 32768).1 ++ [((dvdF k 32768).2,1)],1) else ((dvdF k 32768).1,rt (dvdF k 32768).2)
theorem tpM_ok {k:Int} (hk:1≤k) (ht:Tame k):(1 < (dvdF k 32768).2∧(dvdF k 32768).2 < 1073741824∨rt (dvdF k 32768).2 * rt (dvdF k 32768).2=(dvdF k 32768).2)∧(∃ b,Rise 1 (tpM k).1 b)∧0 < (tpM k).2∧pp (tpM k).1 * ((tpM k).2 * (tpM k).2)=k:=by
 obtain ⟨b,I,hn⟩:=dvdF_ok (k:=k) (e:=32768) hk
 have hl:=tame_left ht hk I (dvdF_small hk (by decide)) hn
 have hpos:=I.pos
 have hprod:=I.prod
 unfold tpM
 by_cases h1:1 < (dvdF k 32768).2∧(dvdF k 32768).2 < 1073741824
 ·rw [if_pos h1]
  obtain ⟨p1,p2⟩:=left_prime I hn h1.1 h1.2
  refine ⟨.inl h1,⟨_,Rise.snoc p1 (by dsimp only; decide) p2 (b':=(dvdF k 32768).2 + 1) (by dsimp only; omega) I.rise⟩,by dsimp only; decide,?_⟩
  dsimp only
  rw [pp_snoc]
  dsimp only
  rw [show (1:Int).toNat=1 from rfl,Int.pow_succ,Int.pow_zero,Int.one_mul,Int.mul_one,Int.mul_one,hprod]
 ·rw [if_neg h1]
  have hsq:rt (dvdF k 32768).2 * rt (dvdF k 32768).2=(dvdF k 32768).2:=by
   rcases hl with z | z
   ·have e1:(dvdF k 32768).2=1:=by omega
    rw [e1]
    have:(1:Int)=rt 1:=rt_unique (by decide) (by decide) (by decide)
    rw [← this]; rfl
   ·exact z
  have h0:=rt_nonneg (dvdF k 32768).2
  refine ⟨.inr hsq,⟨b,I.rise⟩,?_,?_⟩
  ·dsimp only
   rcases Int.lt_or_eq_of_le h0 with z | z
   ·exact z
   ·rw [← z] at hsq; omega
  ·dsimp only
   rw [hsq,hprod]
noncomputable def frN (t b:Int):Int × Int:=(tpM (t.natAbs * b)).1.foldl frS (if 0 < t then 1 else -1,(tpM (t.natAbs * b)).2)
theorem frN_ok {t b f s:Int} (ht:t≠0) (hb:0 < b) (htm:Tame (t.natAbs * b)) (hf:Sqf f) (hs:0 < s) (e:t * b=f * (s * s)):frN t b=(f,s):=by
 have hk:1≤(t.natAbs:Int) * b:=by
  have:0 < (t.natAbs:Int) * b:=Int.mul_pos (by omega) hb
  omega
 obtain ⟨_,⟨b',hr⟩,h0,hp⟩:=tpM_ok hk htm
 have hS:Sqf (if 0 < t then (1:Int) else -1):=by split; exact sqf_one; exact sqf_neg sqf_one
 have hQ:∀ q,isP q=true→1 < q→¬ q ∣ (if 0 < t then (1:Int) else -1):=fun q h1 h2 h3=>by
  split at h3
  ·have:=Int.le_of_dvd (by decide) h3; omega
  ·have:=Int.le_of_dvd (by decide) (Int.dvd_neg.mp h3); omega
 obtain ⟨a1,a2,a3⟩:=frS_ok (c:=(if 0 < t then (1:Int) else -1,(tpM (t.natAbs * b)).2)) hr hS hQ h0
 have a4:(frN t b).1 * ((frN t b).2 * (frN t b).2)=f * (s * s):=by
  show ((tpM (t.natAbs * b)).1.foldl frS _).1 * (((tpM (t.natAbs * b)).1.foldl frS _).2 * ((tpM (t.natAbs * b)).1.foldl frS _).2)=_
  rw [a3,← e]
  dsimp only
  rw [show (if 0 < t then (1:Int) else -1) * ((tpM (t.natAbs * b)).2 * (tpM (t.natAbs * b)).2) * pp (tpM (t.natAbs * b)).1=(if 0 < t then (1:Int) else -1) * (pp (tpM (t.natAbs * b)).1 * ((tpM (t.natAbs * b)).2 * (tpM (t.natAbs * b)).2)) by grind,hp]
  by_cases z:0 < t
  ·rw [if_pos z,show (t.natAbs:Int)=t by omega]; omega
  ·rw [if_neg z,show (t.natAbs:Int)=-t by omega]; grind
 obtain ⟨u1,u2⟩:=sqf_uniq a1 hf a2 hs a4
 exact Prod.ext u1 u2
end EP
namespace EP
theorem cls_unit {a p:Int} (hp:2≤p) (h:¬ p ∣ a):cls a p=(0,if p=2 then a % 8 else sqb a p):=by
 unfold cls; rw [tko_unit hp h]; rfl
theorem says_sqc {x y p:Int} (hp:isP p=true) (hx:x≠0) (hy:cls y p=(0,1)):saysF x y p=true:=by
 have hp2:=isP_ge hp
 by_cases h2:p=2
 ·subst h2
  rw [saysF_two,hy]
  exact f_one2 _ (cls_two hx) (0,1) (by decide)
 ·rw [saysF_odd (by omega) h2,hy]
  exact f_one _ (cls_odd hp2 h2 hx) (0,1) (by decide) _ (m1_pm hp2)
theorem sqb_sq {a p:Int} (hp:isP p=true) (h:¬ p ∣ a):sqb (a * a) p=1:=by
 rw [sqb_mul hp]
 rcases sqb_pm h with z | z <;> rw [z] <;> rfl
theorem f_sumO:∀ c∈CO,∀ a∈[(1:Int),-1],∀ b∈[(1:Int),-1],oddM (cmul (0,a) c 3) (cmul (0,b) c 3) (a * b)=true:=by decide
theorem f_sum1:∀ a∈[(1:Int),3,5,7],∀ b∈[(1:Int),3,5,7],twoS (cmul (1,a) (0,(b + 2 * a) % 8) 2) (cmul (0,b) (0,(b + 2 * a) % 8) 2)=true:=by decide
theorem f_sum2:∀ a∈[(1:Int),3,5,7],∀ b∈[(1:Int),3,5,7],twoS (cmul (0,a) (0,(b + 4) % 8) 2) (cmul (0,b) (0,(b + 4) % 8) 2)=true:=by decide
theorem f_sum3:∀ c∈C2,∀ b∈[(1:Int),3,5,7],twoS (cmul c (0,b) 2) (cmul (0,b) (0,b) 2)=true:=by decide
theorem f_sum4:∀ c∈[(1:Int),3,5,7],∀ a∈[(1:Int),3,5,7],twoS (cmul (0,a) (1,c) 2) (cmul (0,(2 * c - a) % 8) (1,c) 2)=true:=by decide
theorem f_sum5:∀ c∈[(1:Int),3,5,7],∀ a∈[(1:Int),3,5,7],twoS (cmul (0,a) (0,c) 2) (cmul (0,(4 - a) % 8) (0,c) 2)=true:=by decide
theorem f_sum6:∀ c∈C2,∀ a∈[(1:Int),3,5,7],twoS (cmul (0,a) c 2) (cmul (0,(0 - a) % 8) c 2)=true:=by decide
theorem odd8 {u:Int} (h:u % 2=1):u % 8∈[(1:Int),3,5,7]:=by
 have:u % 8=1∨u % 8=3∨u % 8=5∨u % 8=7:=by omega
 rcases this with z | z | z | z <;> rw [z] <;> decide
theorem even_cls {X:Int} (h0:X≠0) (h:X % 2=0):(∃ x,x % 2=1∧X=2 * x∧cls X 2=(1,x % 8))∨(∃ x,x % 2=1∧X=4 * x∧cls X 2=(0,x % 8))∨X % 8=0:=by
 obtain ⟨h1,h2,h3⟩:=tko_ok (d:=2) (by decide) h0
 have ho:(tko X 2).2 % 2=1:=by omega
 have hc:cls X 2=((tko X 2).1 % 2,(tko X 2).2 % 8):=rfl
 generalize (tko X 2).2=x at *
 generalize (tko X 2).1=v at *
 have hv:v.toNat=0∨v.toNat=1∨v.toNat=2∨∃ m,v.toNat=m + 3:=by
  rcases Nat.lt_or_ge v.toNat 3 with z | z
  ·omega
  ·exact .inr (.inr (.inr ⟨v.toNat - 3,by omega⟩))
 rcases hv with e | e | e | ⟨m,e⟩
 ·rw [e] at h2; omega
 ·rw [e] at h2
  exact .inl ⟨x,ho,by omega,by rw [hc,show v=1 by omega]; rfl⟩
 ·rw [e] at h2
  exact .inr (.inl ⟨x,ho,by omega,by rw [hc,show v=2 by omega]; rfl⟩)
 ·rw [e,Int.pow_add] at h2
  right; right
  have:(2:Int) ^ 3=8:=by decide
  rw [this,← Int.mul_assoc] at h2
  rw [h2]
  exact Int.mul_emod_left ..
theorem sum_two {A B:Int} (hA:A≠0) (hB:B≠0) (hC:A + B≠0) (hn:¬ (A % 2=0∧B % 2=0)):saysF (A * (A + B)) (B * (A + B)) 2=true:=by
 have key:∀ A B:Int,A≠0→A % 2=0→B % 2=1→A + B≠0→saysF (A * (A + B)) (B * (A + B)) 2=true:=fun A B hA ha hb hC=>by
  have hB:B≠0:=by omega
  have cB:cls B 2=(0,B % 8):=by rw [cls_unit (by decide) (by omega)]; rfl
  have cC:cls (A + B) 2=(0,(A + B) % 8):=by rw [cls_unit (by decide) (by omega)]; rfl
  rw [saysF_two,cls_mul isP_two hA hC,cls_mul isP_two hB hC,cB,cC]
  rcases even_cls hA ha with ⟨x,h1,h2,h3⟩ | ⟨x,h1,h2,h3⟩ | h1
  ·rw [h3,show (A + B) % 8=(B % 8 + 2 * (x % 8)) % 8 by omega]
   exact f_sum1 _ (odd8 h1) _ (odd8 hb)
  ·rw [h3,show (A + B) % 8=(B % 8 + 4) % 8 by omega]
   exact f_sum2 _ (odd8 h1) _ (odd8 hb)
  ·rw [show (A + B) % 8=B % 8 by omega]
   exact f_sum3 _ (cls_two hA) _ (odd8 hb)
 rcases Int.emod_two_eq A with ha | ha
 ·exact key A B hA ha (by omega) hC
 ·rcases Int.emod_two_eq B with hb | hb
  ·have:=key B A hB hb ha (by omega)
   rw [Int.add_comm] at this
   rw [says_sym (.inr isP_two) (Int.mul_ne_zero hB hC) (Int.mul_ne_zero hA hC)]
   exact this
  ·have cA:cls A 2=(0,A % 8):=by rw [cls_unit (by decide) (by omega)]; rfl
   have cB:cls B 2=(0,B % 8):=by rw [cls_unit (by decide) (by omega)]; rfl
   rw [saysF_two,cls_mul isP_two hA hC,cls_mul isP_two hB hC,cA,cB]
   rcases even_cls hC (by omega) with ⟨x,h1,h2,h3⟩ | ⟨x,h1,h2,h3⟩ | h1
   ·rw [h3,show B % 8=(2 * (x % 8) - A % 8) % 8 by omega]
    exact f_sum4 _ (odd8 h1) _ (odd8 ha)
   ·rw [h3,show B % 8=(4 - A % 8) % 8 by omega]
    exact f_sum5 _ (odd8 h1) _ (odd8 ha)
   ·rw [show B % 8=(0 - A % 8) % 8 by omega]
    exact f_sum6 _ (cls_two hC) _ (odd8 ha)
theorem sum_odd {p A B:Int} (hp:isP p=true) (h2:p≠2) (hA:A≠0) (hB:B≠0) (hC:A + B≠0) (hn:¬ (p ∣ A∧p ∣ B)):saysF (A * (A + B)) (B * (A + B)) p=true:=by
 have hp2:=isP_ge hp
 have key:∀ A B:Int,A≠0→B≠0→A + B≠0→p ∣ A→¬ p ∣ B→saysF (A * (A + B)) (B * (A + B)) p=true:=fun A B hA hB hC ha hb=>by
  have hcc:¬ p ∣ A + B:=fun z=>hb (by have:=Int.dvd_sub z ha; rwa [show A + B - A=B by omega] at this)
  refine says_sqc hp (Int.mul_ne_zero hA hC) ?_
  rw [cls_unit hp2 (fun z=>by rcases euclid hp z with w | w; exact hb w; exact hcc w),if_neg h2]
  rw [sqb_cong (l:=B * B) (cong.mpr (by rw [show B * (A + B) - B * B=A * B by grind]; exact Int.dvd_trans ha ⟨B,rfl⟩)),sqb_sq hp hb]
 by_cases ha:p ∣ A
 ·exact key A B hA hB hC ha fun z=>hn ⟨ha,z⟩
 ·by_cases hb:p ∣ B
  ·have:=key B A hB hA (by omega) hb ha
   rw [Int.add_comm] at this
   rw [says_sym (.inr hp) (Int.mul_ne_zero hB hC) (Int.mul_ne_zero hA hC)]
   exact this
  ·by_cases hcc:p ∣ A + B
   ·have e:sqb A p * sqb B p=sqb (-1) p:=by
     rw [← sqb_mul hp,sqb_cong (l:=-1 * (A * A)) (cong.mpr (by rw [show A * B - -1 * (A * A)=A * (A + B) by grind]; exact Int.dvd_trans hcc ⟨A,Int.mul_comm ..⟩)),sqb_mul hp,sqb_sq hp ha,Int.mul_one]
    rw [saysF_odd (by omega) h2,cls_mul hp hA hC,cls_mul hp hB hC,cls_unit hp2 ha,cls_unit hp2 hb,if_neg h2,if_neg h2,cmul_odd h2,cmul_odd h2,← e]
    refine f_sumO _ (cls_odd hp2 h2 hC) _ ?_ _ ?_
    ·rcases sqb_pm ha with z | z <;> rw [z] <;> decide
    ·rcases sqb_pm hb with z | z <;> rw [z] <;> decide
   ·exact says_unit hp h2 (fun z=>by rcases euclid hp z with w | w; exact ha w; exact hcc w) (fun z=>by rcases euclid hp z with w | w; exact hb w; exact hcc w)
theorem says_sq2 {a b r p:Int} (h:Pl p) (ha:a≠0) (hb:b≠0) (hr:r≠0):saysF a (b * r * r) p=saysF a b p:=by
 rw [says_sym h (Int.mul_ne_zero (Int.mul_ne_zero hb hr) hr) ha,says_sq h hb hr,says_sym h ha hb]
theorem sum_prime {p:Int} (hp:isP p=true):∀ (n:Nat) (A B:Int),A.natAbs≤n→A≠0→B≠0→A + B≠0→saysF (A * (A + B)) (B * (A + B)) p=true
 | 0,A,B,hn,hA,hB,hC=>by omega
 | n + 1,A,B,hn,hA,hB,hC=>by
  have hp2:=isP_ge hp
  by_cases hd:p ∣ A∧p ∣ B
  ·obtain ⟨⟨a,ha⟩,⟨b,hb⟩⟩:=hd
   subst ha hb
   have h1:a≠0:=fun z=>hA (by rw [z,Int.mul_zero])
   have h2:b≠0:=fun z=>hB (by rw [z,Int.mul_zero])
   have h3:a + b≠0:=fun z=>hC (by rw [← Int.mul_add,z,Int.mul_zero])
   have hlt:a.natAbs≤n:=by
    have:(p * a).natAbs=p.natAbs * a.natAbs:=Int.natAbs_mul ..
    have h4:2 * a.natAbs≤p.natAbs * a.natAbs:=Nat.mul_le_mul_right _ (by omega)
    omega
   have ih:=sum_prime hp n a b hlt h1 h2 h3
   have hp0:p≠0:=by omega
   rw [show p * a * (p * a + p * b)=a * (a + b) * p * p by grind,show p * b * (p * a + p * b)=b * (a + b) * p * p by grind,
    says_sq (.inr hp) (Int.mul_ne_zero h1 h3) hp0,says_sq2 (.inr hp) (Int.mul_ne_zero h1 h3) (Int.mul_ne_zero h2 h3) hp0]
   exact ih
  ·by_cases h2:p=2
   ·subst h2
    exact sum_two hA hB hC fun z=>hd ⟨Int.dvd_of_emod_eq_zero z.1,Int.dvd_of_emod_eq_zero z.2⟩
   ·exact sum_odd hp h2 hA hB hC hd
theorem says_sum {p A B:Int} (hp:Pl p) (hA:A≠0) (hB:B≠0) (hC:A + B≠0):saysF (A * (A + B)) (B * (A + B)) p=true:=by
 rcases hp with rfl | hp
 ·rw [saysF_zero]
  have:0 < (A + B) * (A + B):=by
   rcases Int.lt_or_gt_of_ne hC with z | z
   ·exact Int.mul_pos_of_neg_of_neg z z
   ·exact Int.mul_pos z z
  rw [Int.add_mul] at this
  by_cases z:0 < A * (A + B)
  ·simp [z]
  ·have:0 < B * (A + B):=by omega
   simp [this]
 ·exact sum_prime hp _ A B (Nat.le_refl _) hA hB hC
theorem says_two {p a b x y w:Int} (hp:Pl p) (ha:a≠0) (hb:b≠0) (hw:w≠0) (e:a * x * x + b * y * y=w):saysF (a * w) (b * w) p=true:=by
 by_cases hx:x=0
 ·subst hx
  have e':w=b * y * y:=by rw [← e]; grind
  have hy:y≠0:=by rintro rfl; exact hw (by rw [e']; grind)
  rw [show b * w=(b * y) * (b * y) by rw [e']; grind]
  exact says_one hp (Int.mul_ne_zero ha hw) (Int.mul_ne_zero hb hy)
 ·by_cases hy:y=0
  ·subst hy
   have e':w=a * x * x:=by rw [← e]; grind
   rw [says_sym hp (Int.mul_ne_zero hb hw) (Int.mul_ne_zero ha hw),show a * w=(a * x) * (a * x) by rw [e']; grind]
   exact says_one hp (Int.mul_ne_zero hb hw) (Int.mul_ne_zero ha hx)
  ·have:=says_sum (A:=a * x * x) (B:=b * y * y) hp (Int.mul_ne_zero (Int.mul_ne_zero ha hx) hx) (Int.mul_ne_zero (Int.mul_ne_zero hb hy) hy) (by rw [e]; exact hw)
   rw [e,show a * x * x * w=a * w * x * x by grind,show b * y * y * w=b * w * y * y by grind,says_sq hp (Int.mul_ne_zero ha hw) hx,says_sq2 hp (Int.mul_ne_zero ha hw) (Int.mul_ne_zero hb hw) hy] at this
   exact this
theorem says_mulL {a b c p:Int} (h:Pl p) (ha:a≠0) (hb:b≠0) (hc:c≠0):saysF (a * b) c p=(saysF a c p == saysF b c p):=by
 rw [says_sym h hc (Int.mul_ne_zero ha hb),says_mul h hc ha hb,says_sym h ha hc,says_sym h hb hc]
theorem says_self {a p:Int} (h:Pl p) (ha:a≠0):saysF a a p=saysF a (-1) p:=by
 have h1:=says_neg h ha
 rw [show (0:Int) - a=-1 * a by omega,says_mul h ha (by decide) ha] at h1
 have:=eq_of_beq h1
 exact this.symm
noncomputable def tzN (a b c p:Int):Bool:=saysF (-a * c) (-b * c) p
end EP
namespace EP
def sqc (k p:Int):Prop:=cls k p=(0,1)
theorem sqc_sq {r p:Int} (hp:isP p=true) (hr:r≠0):sqc (r * r) p:=by
 have h1:cls 1 p=(0,1):=by
  rw [cls_unit (isP_ge hp) (fun z=>by have:=Int.le_of_dvd (by decide) z; have:=isP_ge hp; omega)]
  by_cases z:p=2
  ·rw [if_pos z]; rfl
  ·rw [if_neg z,sqb_of_one hp z (by exact ⟨0,by omega⟩)]
 have:=cls_sq (a:=1) hp (by decide) hr
 rw [Int.one_mul] at this
 unfold sqc
 rw [this,h1]
end EP
namespace EP
noncomputable instance {k p:Int}:Decidable (sqc k p):=inferInstanceAs (Decidable (cls k p=(0,1)))
theorem ex_cons {P:Int→Prop} {a:Int} {l:List Int}:(∃ x,x∈a :: l∧P x)↔P a∨∃ x,x∈l∧P x:=by
 constructor
 ·rintro ⟨x,h,q⟩
  rcases List.mem_cons.mp h with z | z
  ·subst z; exact .inl q
  ·exact .inr ⟨x,z,q⟩
 ·rintro (q | ⟨x,h,q⟩)
  ·exact ⟨a,List.mem_cons_self ..,q⟩
  ·exact ⟨x,List.mem_cons_of_mem _ h,q⟩
def lmn:List Int→Int
 | []=>0
 | [a]=>a
 | a :: l=>if lmn l < a then lmn l else a
def lmx:List Int→Int
 | []=>0
 | [a]=>a
 | a :: l=>if a < lmx l then lmx l else a
theorem lmn_neg:∀ l:List Int,lmn l < 0↔∃ x∈l,x < 0
 | []=>by simp [lmn]
 | [a]=>by simp [lmn]
 | a :: b :: l=>by
  have ih:=lmn_neg (b :: l)
  unfold lmn
  rw [ex_cons,← ih]
  split <;> omega
theorem lmx_pos:∀ l:List Int,0 < lmx l↔∃ x∈l,0 < x
 | []=>by simp [lmx]
 | [a]=>by simp [lmx]
 | a :: b :: l=>by
  have ih:=lmx_pos (b :: l)
  unfold lmx
  rw [ex_cons,← ih]
  split <;> omega
noncomputable def hvZ (l:List Int) (p:Int):Bool:=if p=0 then decide (lmn l < 0) && decide (0 < lmx l) else match l with
 | []=>true
 | [_]=>false
 | [a,b]=>decide (sqc (-a * b) p)
 | [a,b,c]=>tzN a b c p
 | [a,b,c,d]=>!(decide (sqc (a * b * c * d) p)) || tzN a b c p
 | _=>true
theorem hvZ_five {l:List Int} {p:Int} (h0:p≠0) (hl:5≤l.length):hvZ l p=true:=by
 unfold hvZ
 rw [if_neg h0]
 match l,hl with
 | _ :: _ :: _ :: _ :: _ :: _,_=>rfl
theorem hvZ_one {a p:Int} (h0:p≠0):hvZ [a] p=false:=by unfold hvZ; rw [if_neg h0]
theorem hvZ_two {a b p:Int} (h0:p≠0):hvZ [a,b] p=decide (sqc (-a * b) p):=by unfold hvZ; rw [if_neg h0]
theorem hvZ_three {a b c p:Int} (h0:p≠0):hvZ [a,b,c] p=tzN a b c p:=by unfold hvZ; rw [if_neg h0]
theorem hvZ_four {a b c d p:Int} (h0:p≠0):hvZ [a,b,c,d] p=(!(decide (sqc (a * b * c * d) p)) || tzN a b c p):=by unfold hvZ; rw [if_neg h0]
theorem hvZ_nought {l:List Int}:hvZ l 0=true↔(∃ x∈l,x < 0)∧∃ x∈l,0 < x:=by
 unfold hvZ
 rw [if_pos rfl,Bool.and_eq_true,decide_eq_true_iff,decide_eq_true_iff,lmn_neg,lmx_pos]
def wth:List Int→List Int→Int
 | a :: l,x :: xs=>a * x * x + wth l xs
 | _,_=>0
end EP
namespace EP
def ev:List Int→Int→Int
 | [],_=>0
 | c :: cs,x=>c + x * ev cs x
def qo (r:Int):List Int→List Int
 | []=>[]
 | [_]=>[]
 | _ :: d :: cs=>ev (d :: cs) r :: qo r (d :: cs)
theorem qo_len (r:Int):∀ (c:Int) (cs:List Int),(qo r (c :: cs)).length=cs.length
 | _,[]=>rfl
 | _,d :: cs=>by simp only [qo,List.length_cons]; rw [qo_len r d cs]
theorem qo_last (r:Int):∀ (c d:Int) (cs:List Int),(qo r (c :: d :: cs)).getLast?=(c :: d :: cs).getLast?
 | c,d,[]=>by simp [qo,ev]
 | c,d,e :: cs=>by
  have ih:=qo_last r d e cs
  have h1:qo r (c :: d :: e :: cs)=ev (d :: e :: cs) r :: qo r (d :: e :: cs):=rfl
  rw [h1,List.getLast?_cons_cons,← ih]
  have h2:qo r (d :: e :: cs)=ev (e :: cs) r :: qo r (e :: cs):=rfl
  rw [h2,List.getLast?_cons_cons]
theorem qo_ev (r x:Int):∀ cs:List Int,ev cs x - ev cs r=(x - r) * ev (qo r cs) x
 | []=>by simp [ev,qo]
 | [c]=>by simp [ev,qo]
 | c :: d :: cs=>by
  have ih:=qo_ev r x (d :: cs)
  have h1:qo r (c :: d :: cs)=ev (d :: cs) r :: qo r (d :: cs):=rfl
  rw [h1]
  have e1:ev (c :: d :: cs) x=c + x * ev (d :: cs) x:=rfl
  have e2:ev (c :: d :: cs) r=c + r * ev (d :: cs) r:=rfl
  have e3:ev (ev (d :: cs) r :: qo r (d :: cs)) x=ev (d :: cs) r + x * ev (qo r (d :: cs)) x:=rfl
  rw [e1,e2,e3]
  generalize ev (d :: cs) x=u at *
  generalize ev (d :: cs) r=v at *
  generalize ev (qo r (d :: cs)) x=t at *
  grind
theorem lagr {p:Int} (hp:isP p=true):∀ (rs cs:List Int),cs.length≤rs.length→rs.Pairwise (fun a b=>¬ p ∣ a - b)→(∀ r∈rs,p ∣ ev cs r)→∀ c,cs.getLast?=some c→p ∣ c
 | _,[],_,_,_,c,hc=>by simp at hc
 | [],_ :: _,h,_,_,_,_=>by simp at h
 | r :: rs,[c],_,_,hr,d,hd=>by
  have:=hr r (List.mem_cons_self ..)
  simp [ev] at this
  simp at hd
  rw [← hd]; exact this
 | r :: rs,c :: d :: cs,hl,hpw,hr,e,he=>by
  obtain ⟨h1,h2⟩:=List.pairwise_cons.mp hpw
  refine lagr hp rs (qo r (c :: d :: cs)) (by rw [qo_len]; simpa using hl) h2 (fun s hs=>?_) e (by rw [qo_last]; exact he)
  have a1:=hr s (List.mem_cons_of_mem _ hs)
  have a2:=hr r (List.mem_cons_self ..)
  have a3:=Int.dvd_sub a1 a2
  rw [qo_ev] at a3
  rcases euclid hp a3 with z | z
  ·exact absurd (by rw [show r - s=-(s - r) by omega]; exact Int.dvd_neg.mpr z) (h1 s hs)
  ·exact z
def xn (n:Nat):List Int:=-1 :: (List.replicate n 0 ++ [1])
theorem ev_rep (x:Int):∀ n:Nat,ev (List.replicate n 0 ++ [1]) x=x ^ n
 | 0=>by simp [ev]
 | n + 1=>by
  rw [List.replicate_succ,List.cons_append]
  show 0 + x * ev (List.replicate n 0 ++ [1]) x=_
  rw [ev_rep x n,Int.pow_succ,Int.mul_comm]; omega
theorem nr_ex {p:Int} (hp:isP p=true) (h2:p≠2):∃ g,2≤g∧g < p∧sqb g p=-1:=by
 have ho:=odd_p hp h2
 have hp2:=isP_ge hp
 apply Classical.byContradiction
 intro hn
 have hall:∀ g:Int,1≤g→g < p→p ∣ g ^ ((p - 1) / 2).toNat - 1:=fun g g1 g2=>by
  have hd:¬ p ∣ g:=fun z=>by have:=Int.le_of_dvd (by omega) z; omega
  refine (sqb_one hp h2 hd).mp ?_
  rcases sqb_pm hd with z | z
  ·exact z
  ·refine absurd ⟨g,?_,g2,z⟩ hn
   rcases Int.lt_or_le g 2 with w | w
   ·have:g=1:=by omega
    subst this
    rw [sqb_of_one hp h2 ⟨0,by omega⟩] at z
    cases z
   ·exact w
 obtain ⟨m,hm⟩:∃ m:Nat,((p - 1) / 2).toNat=m + 1:=⟨((p - 1) / 2).toNat - 1,by omega⟩
 have h1:=lagr hp ((List.range (p - 1).toNat).map fun i:Nat=>(i:Int) + 1) (xn m) (by simp [xn]; omega) (by
   rw [List.pairwise_map]
   refine List.Pairwise.imp_of_mem ?_ (List.nodup_range (n:=(p - 1).toNat))
   intro a b ha hb hab z
   have ha':=List.mem_range.mp ha
   have hb':=List.mem_range.mp hb
   have:=small_dvd z (by omega) (by omega)
   exact hab (by omega)) (fun r hr=>by
   obtain ⟨i,hi,rfl⟩:=List.mem_map.mp hr
   have hi':=List.mem_range.mp hi
   have:=hall ((i:Int) + 1) (by omega) (by omega)
   rw [hm] at this
   show p ∣ -1 + ((i:Int) + 1) * ev (List.replicate m 0 ++ [1]) _
   rw [ev_rep,Int.mul_comm,← Int.pow_succ]
   rw [show -1 + ((i:Int) + 1) ^ (m + 1)=((i:Int) + 1) ^ (m + 1) - 1 by omega]
   exact this) 1 (by show ((-1 :: List.replicate m 0) ++ [1]).getLast?=some 1; exact List.getLast?_concat)
 have:=Int.le_of_dvd (by decide) h1
 omega
end EP
namespace EP
def spF:List Int→Int→Int
 | [],_=>1
 | q :: qs,c=>(if c % 2=1 then q else 1) * spF qs (c / 2)
def P8:List Int:=[2,3,5,7,11,13,17,19]
noncomputable def xtr (c:Int):Int:=if c % 4=1 then pf (20 + c / 4 % 30000) else if c % 4=3 then pf (32768 + c / 4 % 1000000) else 1
noncomputable def fre (c:Int):Int:=(1 - 2 * (c % 2)) * (spF P8 (c / 2) * xtr (c / 512))
noncomputable def frd (u:Int × Int):Int × (Int × Int):=((frN u.1 u.2).1,fr (frN u.1 u.2).2 u.2)
end EP
namespace EP
theorem drop_get {α:Type} {l:List α} {i:Nat} {a:α} (h:l[i]?=some a):l.drop i=a :: l.drop (i + 1):=by
 have hi:i < l.length:=(List.getElem?_eq_some_iff.mp h).1
 rw [List.drop_eq_getElem_cons hi]
 rw [List.getElem?_eq_getElem hi] at h
 rw [Option.some.inj h]
end EP
namespace EP
theorem lmn_ok:∀ l:List Int,0 < l.length→lmn l∈l∧∀ a∈l,lmn l≤a
 | [a],_=>by simp [lmn]
 | a :: b :: l,_=>by
  obtain ⟨h1,h2⟩:=lmn_ok (b :: l) (by simp)
  unfold lmn
  split
  ·refine ⟨List.mem_cons_of_mem _ h1,fun c hc=>?_⟩
   rcases List.mem_cons.mp hc with z | z
   ·omega
   ·exact h2 c z
  ·refine ⟨List.mem_cons_self ..,fun c hc=>?_⟩
   rcases List.mem_cons.mp hc with z | z
   ·omega
   ·have:=h2 c z; omega
theorem lmx_ok:∀ l:List Int,0 < l.length→lmx l∈l∧∀ a∈l,a≤lmx l
 | [a],_=>by simp [lmx]
 | a :: b :: l,_=>by
  obtain ⟨h1,h2⟩:=lmx_ok (b :: l) (by simp)
  unfold lmx
  split
  ·refine ⟨List.mem_cons_of_mem _ h1,fun c hc=>?_⟩
   rcases List.mem_cons.mp hc with z | z
   ·omega
   ·exact h2 c z
  ·refine ⟨List.mem_cons_self ..,fun c hc=>?_⟩
   rcases List.mem_cons.mp hc with z | z
   ·omega
   ·have:=h2 c z; omega
end EP
namespace EP
theorem cls_pb {b p:Int} (hp:isP p=true) (h2:p≠2) (hb:¬ p ∣ b):cls (p * b) p=(1,sqb b p):=by
 have hp2:=isP_ge hp
 unfold cls
 rw [show p * b=b * p ^ 1 by rw [Int.pow_one]; exact Int.mul_comm ..,tko_pow hp2 hb,if_neg h2]
 rfl
theorem cls_odd_unit {a p:Int} (hp:isP p=true) (h2:p≠2) (ha:¬ p ∣ a):cls a p=(0,sqb a p):=by
 rw [cls_unit (isP_ge hp) ha,if_neg h2]
theorem prime_odd {p:Int} (hp:isP p=true) (h2:p≠2):p % 2=1:=by
 apply Classical.byContradiction
 intro hn
 rcases isP_iff.mp hp with z | z
 ·omega
 ·omega
theorem cls_two_odd {a:Int} (h:a % 2=1):cls a 2=(0,a % 8):=by
 rw [cls_unit (by decide) (by omega),if_pos rfl]
end EP
namespace EP
def evn (L:List Int) (f:Int→Bool):Bool:=decide ((L.filter fun p=>!f p).length % 2=0)
theorem evn_cons (p:Int) (L:List Int) (f:Int→Bool):evn (p :: L) f=(f p == evn L f):=by
 unfold evn
 rw [List.filter_cons]
 cases f p
 ·simp only [Bool.not_false,if_true,List.length_cons]
  by_cases h:(L.filter fun p=>!f p).length % 2=0
  ·have:¬ ((L.filter fun p=>!f p).length + 1) % 2=0:=by omega
   simp [h,this]
  ·have:((L.filter fun p=>!f p).length + 1) % 2=0:=by omega
   simp [h,this]
 ·simp
theorem evn_nil (f:Int→Bool):evn [] f=true:=rfl
theorem evn_cong {f g:Int→Bool} {L:List Int} (h:∀ p∈L,f p=g p):evn L f=evn L g:=by
 unfold evn
 rw [List.filter_congr fun p hp=>by rw [h p hp]]
theorem evn_all {f:Int→Bool} {L:List Int} (h:∀ p∈L,f p=true):evn L f=true:=by
 unfold evn
 rw [List.filter_eq_nil_iff.mpr fun p hp=>by rw [h p hp]; decide]
 rfl
structure Pls (L:List Int):Prop where
 nd:L.Nodup
 pr:∀ p∈L,isP p=true
 two:(2:Int)∈L
theorem zero_not {L:List Int} (h:Pls L):(0:Int) ∉ L:=fun z=>by have:=isP_ge (h.pr 0 z); omega
theorem Pls.all {L:List Int} (h:Pls L):((0:Int) :: L).Nodup:=List.nodup_cons.mpr ⟨zero_not h,h.nd⟩
theorem Pls.pl {L:List Int} (h:Pls L):∀ p∈(0:Int) :: L,Pl p:=fun p hp=>by
 rcases List.mem_cons.mp hp with z | z
 ·exact .inl z
 ·exact .inr (h.pr p z)
theorem prime_dvd_prime {p q:Int} (hp:isP p=true) (hq:isP q=true) (h:p ∣ q):p=q:=by
 have h1:=isP_ge hp
 have h2:=isP_ge hq
 apply Classical.byContradiction
 intro hn
 have hg:=gcd_prime (p:=p) (d:=q) hp
 by_cases z:q ∣ p
 ·have a:=Int.le_of_dvd (by omega) h
  have b:=Int.le_of_dvd (by omega) z
  omega
 ·have e:=gcd_prime (p:=q) (d:=p) hq z
  have:=Int.dvd_coe_gcd (Int.dvd_refl p) h
  rw [e] at this
  have:=Int.le_of_dvd (by decide) this
  omega
theorem tame_lt {k:Int} (h1:1≤k) (h2:k < 1073741824):Tame k:=by
 by_cases hs:Smo k
 ·exact .inl ⟨k,1,hs,by omega,by decide,by omega⟩
 ·have ⟨q,hq⟩:=Classical.not_forall.mp hs
  have ⟨q1,hq'⟩:=Classical.not_imp.mp hq
  have ⟨⟨f,hf⟩,q3⟩:=Classical.not_imp.mp hq'
  have f0:0 < f:=by
   apply Classical.byContradiction
   intro hn
   have:q * f≤0:=Int.mul_nonpos_of_nonneg_of_nonpos (by omega) (by omega)
   omega
  have hl:f < 32768:=by
   apply Classical.byContradiction
   intro hn
   have:32768 * 32768≤q * f:=Int.mul_le_mul (by omega) (by omega) (by decide) (by omega)
   omega
  have hq2:q < 1073741824:=by
   have:q * 1≤q * f:=Int.mul_le_mul_of_nonneg_left (by omega) (by omega)
   omega
  exact .inr ⟨f,q,smo_lt f0 hl,f0,q1,hq2,by rw [hf]; exact Int.mul_comm ..⟩
theorem free_ex:∀ (n:Nat) (x:Int),x≠0→x.natAbs≤n→∃ f s,Sqf f∧0 < s∧x=f * (s * s)
 | 0,x,h0,hn=>absurd (show x=0 by omega) h0
 | n + 1,x,h0,hn=>by
  by_cases hs:Sqf x
  ·exact ⟨x,1,hs,by decide,by omega⟩
  ·have hs':¬ ∀ d:Int,2≤d→¬ d * d ∣ x:=fun z=>hs ⟨h0,z⟩
   have ⟨d,hd⟩:=Classical.not_forall.mp hs'
   have ⟨d2,hd'⟩:=Classical.not_imp.mp hd
   have ⟨c,hc⟩:=Classical.not_not.mp hd'
   have c0:c≠0:=by rintro rfl; exact h0 (by rw [hc,Int.mul_zero])
   have hl:c.natAbs≤n:=by
    have e:x.natAbs=(d * d).natAbs * c.natAbs:=by rw [hc,Int.natAbs_mul]
    have:2≤(d * d).natAbs:=by
     have:2 * 2≤d * d:=Int.mul_le_mul d2 d2 (by decide) (by omega)
     omega
    have:2 * c.natAbs≤(d * d).natAbs * c.natAbs:=Nat.mul_le_mul_right _ this
    omega
   obtain ⟨f,s,h1,h2,h3⟩:=free_ex n c c0 hl
   exact ⟨f,s * d,h1,Int.mul_pos h2 (by omega),by rw [hc,h3]; grind⟩
theorem free_le {x f s:Int} (hs:0 < s) (e:x=f * (s * s)):f.natAbs≤x.natAbs:=by
 rw [e,Int.natAbs_mul]
 have:1≤(s * s).natAbs:=by have:=Int.mul_pos hs hs; omega
 have:=Nat.mul_le_mul_left f.natAbs this
 omega
theorem pp_dvd:∀ {us:List (Int × Int)} {a b:Int},Rise a us b→∀ u∈us,u.1 ∣ pp us
 | [],_,_,_,u,h=>absurd h List.not_mem_nil
 | v :: us,a,b,hr,u,h=>by
  rcases List.mem_cons.mp h with rfl | z
  ·show u.1 ∣ u.1 ^ u.2.toNat * pp us
   have:=hr.2.2.1
   rw [show u.2.toNat=(u.2.toNat - 1) + 1 by omega,Int.pow_succ]
   exact ⟨u.1 ^ (u.2.toNat - 1) * pp us,by grind⟩
  ·exact Int.dvd_trans (pp_dvd hr.2.2.2 u z) ⟨v.1 ^ v.2.toNat,Int.mul_comm ..⟩
theorem dvd_pp {q:Int} (hq:isP q=true):∀ {us:List (Int × Int)} {a b:Int},Rise a us b→q ∣ pp us→∃ u∈us,u.1=q
 | [],_,_,_,h=>by
  have:=Int.le_of_dvd (by decide) (show q ∣ 1 from h)
  have:=isP_ge hq
  omega
 | v :: us,a,b,hr,h=>by
  rcases euclid hq (show q ∣ v.1 ^ v.2.toNat * pp us from h) with z | z
  ·have:∀ n:Nat,q ∣ v.1 ^ n→q ∣ v.1:=fun n=>by
    induction n with
    | zero =>
     intro h
     rw [Int.pow_zero] at h
     have:=Int.le_of_dvd (by decide) h
     have:=isP_ge hq
     omega
    | succ n ih =>
     intro h
     rw [Int.pow_succ] at h
     rcases euclid hq h with y | y
     ·exact ih y
     ·exact y
   exact ⟨v,List.mem_cons_self,(prime_dvd_prime hq hr.2.1 (this _ z)).symm⟩
  ·obtain ⟨u,h1,h2⟩:=dvd_pp hq hr.2.2.2 z
   exact ⟨u,List.mem_cons_of_mem _ h1,h2⟩
theorem mem_prt {k q:Int} (hk:1≤k):q∈(prt k).map (·.1)↔isP q=true∧q ∣ k:=by
 obtain ⟨⟨b,hr⟩,e⟩:=prt_ok hk
 rw [List.mem_map]
 constructor
 ·rintro ⟨u,h1,rfl⟩
  exact ⟨(rise_mem hr u h1).1,e ▸ pp_dvd hr u h1⟩
 ·rintro ⟨h1,h2⟩
  rw [← e] at h2
  exact dvd_pp h1 hr h2
end EP
namespace EP
theorem nr_all {p:Int} (hp:isP p=true) (h2:p≠2):NR p:=by
 obtain ⟨g,h1,_,h3⟩:=nr_ex hp h2
 exact ⟨g,h1,h3⟩
def BkS (k m x:Int):Prop:=0≤x∧x < m∧m ∣ k * x - 1
theorem BkS.uniq {k m:Int} (x y:Int) (hx:BkS k m x) (hy:BkS k m y):x=y:=by
 obtain ⟨x0,x1,x2⟩:=hx
 obtain ⟨y0,y1,y2⟩:=hy
 have h:m ∣ x - y:=by
  obtain ⟨a,ha⟩:=x2
  obtain ⟨b,hb⟩:=y2
  refine ⟨a * y - b * x,?_⟩
  have e1:k * x=1 + m * a:=by omega
  have e2:k * y=1 + m * b:=by omega
  have:y * (k * x)=x * (k * y):=by grind
  rw [e1,e2] at this
  grind
 obtain ⟨c,hc⟩:=h
 have:c=0:=by
  rcases Int.lt_trichotomy c 0 with z | z | z
  ·have:m * c≤m * (-1):=Int.mul_le_mul_of_nonneg_left (by omega) (by omega)
   omega
  ·exact z
  ·have:m * 1≤m * c:=Int.mul_le_mul_of_nonneg_left (by omega) (by omega)
   omega
 rw [this,Int.mul_zero] at hc
 omega
noncomputable def bkF (k m:Int):Int:=Classical.epsilon (BkS k m)
theorem bkF_eq {k m x:Int} (h:BkS k m x):bkF k m=x:=(eps_eq BkS.uniq h).symm
structure BkI (k m r b f g:Int) (u v s:Int):Prop where
 r0:1≤r
 b0:0≤b
 lt:b < r
 rm:r≤m
 gc:Int.gcd r b=1
 fr:m ∣ k * f - r
 fb:m ∣ k * g - b
 sg:s=1∨s=-1
 fu:f=-s * u
 gv:g=s * v
 u0:0≤u
 v0:0≤v
 um:u≤m
 sum:u * b + v * r=m
theorem BkI.start {k m:Int} (hm:2≤m) (hg:Int.gcd k m=1):BkI k m m (k % m) 0 1 0 1 1:=by
 refine ⟨by omega,Int.emod_nonneg _ (by omega),Int.emod_lt_of_pos _ (by omega),Int.le_refl m,?_,⟨-1,by omega⟩,?_,.inl rfl,by omega,by omega,by decide,by decide,by omega,by omega⟩
 ·have e:k % m=k.fmod m:=(Int.fmod_eq_emod_of_nonneg k (show 0≤m by omega)).symm
  rw [e,gcd_fmod,hg]
 ·refine ⟨k / m,?_⟩
  have:=Int.emod_add_mul_ediv k m
  omega
theorem BkI.step {k m r b f g u v s:Int} (I:BkI k m r b f g u v s) (hb:b≠0):BkI k m b (r - r / b * b) g (f - r / b * g) v (u + r / b * v) (-s):=by
 obtain ⟨r0,b0,lt,rm,gc,fr,fb,sg,fu,gv,u0,v0,um,sum⟩:=I
 have hmod:=Int.emod_add_mul_ediv r b
 have m0:=Int.emod_nonneg r hb
 have m1:=Int.emod_lt_of_pos r (show 0 < b by omega)
 have hq:0≤r / b:=Int.ediv_nonneg (by omega) b0
 have e:r - r / b * b=r % b:=by rw [Int.mul_comm] at hmod; omega
 generalize hQ:r / b=q at *
 have qv:0≤q * v:=Int.mul_nonneg hq v0
 refine ⟨by omega,by omega,by omega,by omega,?_,fb,?_,by omega,by rw [gv]; grind,by rw [fu,gv]; grind,v0,by omega,?_,by grind⟩
 ·have e':r % b=r.fmod b:=(Int.fmod_eq_emod_of_nonneg r b0).symm
  rw [e,e',gcd_fmod,gc]
 ·obtain ⟨c,hc⟩:=fr
  obtain ⟨d,hd⟩:=fb
  refine ⟨c - q * d,?_⟩
  have e1:k * f=r + m * c:=by omega
  have e2:k * g=b + m * d:=by omega
  have:k * (f - q * g)=k * f - q * (k * g):=by grind
  rw [this,e1,e2]
  grind
 ·have a1:v * 1≤v * r:=Int.mul_le_mul_of_nonneg_left r0 v0
  have a2:0≤u * b:=Int.mul_nonneg u0 b0
  omega
theorem BkI.done {k m r f g u v s:Int} (I:BkI k m r 0 f g u v s) (hm:2≤m):bkF k m=f % m:=by
 have h1:r=1:=by
  have:=I.gc
  rw [Int.gcd_zero_right] at this
  have:=I.r0
  omega
 refine bkF_eq ⟨Int.emod_nonneg _ (by omega),Int.emod_lt_of_pos _ (by omega),?_⟩
 obtain ⟨c,hc⟩:=I.fr
 rw [h1] at hc
 have e:=Int.emod_add_mul_ediv f m
 refine ⟨c - k * (f / m),?_⟩
 have:k * (f % m)=k * f - k * (m * (f / m)):=by rw [← Int.mul_sub]; congr 1; omega
 rw [this,show k * f=1 + m * c by omega]
 grind
theorem BkI.bd {k m r b f g u v s:Int} (I:BkI k m r b f g u v s):f.natAbs≤m∧g.natAbs≤m:=by
 obtain ⟨r0,b0,lt,rm,gc,fr,fb,sg,fu,gv,u0,v0,um,sum⟩:=I
 have a1:v * 1≤v * r:=Int.mul_le_mul_of_nonneg_left r0 v0
 have a2:0≤u * b:=Int.mul_nonneg u0 b0
 rcases sg with rfl | rfl <;> omega
theorem bk_ok {k m:Int} (hm:2≤m) (hg:Int.gcd k m=1):BkS k m (bkF k m):=by
 have:∀ (n:Nat) (r b f g u v s:Int),BkI k m r b f g u v s→b.toNat≤n→∃ x,BkS k m x:=fun n=>by
  induction n with
  | zero =>
   intro r b f g u v s I h
   have hb:b=0:=by have:=I.b0; omega
   subst hb
   have h1:r=1:=by
    have:=I.gc
    rw [Int.gcd_zero_right] at this
    have:=I.r0
    omega
   refine ⟨f % m,Int.emod_nonneg _ (by omega),Int.emod_lt_of_pos _ (by omega),?_⟩
   obtain ⟨c,hc⟩:=I.fr
   rw [h1] at hc
   have e:=Int.emod_add_mul_ediv f m
   refine ⟨c - k * (f / m),?_⟩
   have:k * (f % m)=k * f - k * (m * (f / m)):=by rw [← Int.mul_sub]; congr 1; omega
   rw [this,show k * f=1 + m * c by omega]
   grind
  | succ n ih =>
   intro r b f g u v s I h
   by_cases hb:b=0
   ·subst hb
    exact ih r 0 f g u v s I (by omega)
   ·refine ih _ _ _ _ _ _ _ (I.step hb) ?_
    have:=(I.step hb).lt
    have:=(I.step hb).b0
    omega
 obtain ⟨x,hx⟩:=this _ _ _ _ _ _ _ _ (BkI.start hm hg) (Nat.le_refl _)
 rw [bkF_eq hx]
 exact hx
noncomputable def wrF (one m other p:Int):Int:=one + m * ((other - one) * bkF m p % p)
theorem wr_ok {one m other p:Int} (hp:2≤p) (hm:1≤m) (hg:Int.gcd m p=1) (h0:0≤one) (h1:one < m):(0≤wrF one m other p∧wrF one m other p < m * p)∧m ∣ wrF one m other p - one∧p ∣ wrF one m other p - other:=by
 obtain ⟨b0,b1,c,hc⟩:=bk_ok hp hg
 unfold wrF
 have z0:=Int.emod_nonneg ((other - one) * bkF m p) (show p≠0 by omega)
 have z1:=Int.emod_lt_of_pos ((other - one) * bkF m p) (show 0 < p by omega)
 have z2:=Int.emod_add_mul_ediv ((other - one) * bkF m p) p
 generalize hy:(other - one) * bkF m p % p=y at *
 generalize (other - one) * bkF m p / p=w at *
 refine ⟨⟨?_,?_⟩,⟨y,by omega⟩,?_⟩
 ·have:=Int.mul_nonneg (show 0≤m by omega) z0
  omega
 ·have:m * y≤m * (p - 1):=Int.mul_le_mul_of_nonneg_left (by omega) (by omega)
  have e:m * (p - 1)=m * p - m:=by rw [Int.mul_sub,Int.mul_one]
  omega
 ·refine ⟨(other - one) * c - m * w,?_⟩
  have e1:y=(other - one) * bkF m p - p * w:=by omega
  have e2:m * bkF m p=1 + p * c:=by omega
  rw [e1]
  have:m * ((other - one) * bkF m p - p * w)=(other - one) * (m * bkF m p) - m * (p * w):=by grind
  rw [this,e2]
  grind
theorem rbp_all {k p r:Int} (hp:isP p=true) (h:rbp k p=some r):(0≤r∧r < p)∧Cg p (r * r) k:=by
 by_cases h2:p=2
 ·subst h2
  unfold rbp at h
  have hs:sqb k 2=k % 2:=by
   unfold sqb
   by_cases z:k % 2=0
   ·rw [if_pos z,z]
   ·rw [if_neg z,if_pos rfl]; omega
  rw [hs] at h
  split at h
  ·cases h
  ·rw [if_pos (.inr rfl)] at h
   cases h
   refine ⟨by omega,?_⟩
   have:k % 2=0∨k % 2=1:=by omega
   rcases this with z | z
   ·rw [z]; exact ⟨-(k / 2),by omega⟩
   ·rw [z]; exact ⟨-(k / 2),by omega⟩
 ·exact rbp_ok hp h2 (nr_all hp h2) h
structure RbI (k a d:Int) (ps:List Int):Prop where
 d1:1≤d
 a0:0≤a
 a1:a < d
 pr:∀ q,isP q=true→q ∣ d→q∈ps
 sq:∀ q∈ps,q ∣ a * a - k∧q ∣ d
theorem RbI.step {k a d p r:Int} {ps:List Int} (I:RbI k a d ps) (hp:isP p=true) (hn:p ∉ ps) (h:rbp k p=some r):RbI k (wrF a d r p) (d * p) (ps ++ [p])∧Int.gcd d p=1∧(0≤r∧r < p):=by
 have hp2:=isP_ge hp
 have hg:Int.gcd d p=1:=gcd_prime hp fun z=>hn (I.pr p hp z)
 obtain ⟨⟨w0,w1⟩,w2,w3⟩:=wr_ok (one:=a) (other:=r) hp2 I.d1 hg I.a0 I.a1
 obtain ⟨hr,hc⟩:=rbp_all hp h
 refine ⟨⟨?_,w0,w1,fun q hq hd=>?_,fun q hq=>?_⟩,hg,hr⟩
 ·have:=Int.mul_pos (show 0 < d by have:=I.d1; omega) (show 0 < p by omega)
  omega
 ·rcases euclid hq hd with z | z
  ·exact List.mem_append_left _ (I.pr q hq z)
  ·exact List.mem_append_right _ (List.mem_singleton.mpr (prime_dvd_prime hq hp z))
 ·rcases List.mem_append.mp hq with z | z
  ·obtain ⟨s1,s2⟩:=I.sq q z
   refine ⟨?_,Int.dvd_trans s2 ⟨p,rfl⟩⟩
   have h3:q ∣ wrF a d r p - a:=Int.dvd_trans s2 w2
   generalize wrF a d r p=w at *
   have:w * w - k=(w - a) * (w + a) + (a * a - k):=by grind
   rw [this]
   exact Int.dvd_add (Int.dvd_trans h3 ⟨w + a,rfl⟩) s1
  ·rw [List.mem_singleton.mp z]
   refine ⟨?_,⟨d,Int.mul_comm ..⟩⟩
   generalize wrF a d r p=w at *
   have hc':p ∣ r * r - k:=hc
   have:w * w - k=(w - r) * (w + r) + (r * r - k):=by grind
   rw [this]
   exact Int.dvd_add (Int.dvd_trans w3 ⟨w + r,rfl⟩) hc'
theorem rise_fst:∀ {us:List (Int × Int)} {a b:Int},Rise a us b→(us.map (·.1)).Pairwise (· < ·)∧∀ q∈us.map (·.1),a < q
 | [],_,_,_=>⟨List.Pairwise.nil,fun _ h=>absurd h List.not_mem_nil⟩
 | u :: us,a,b,h=>by
  obtain ⟨h1,h2,h3,h4⟩:=h
  obtain ⟨i1,i2⟩:=rise_fst h4
  refine ⟨List.pairwise_cons.mpr ⟨i2,i1⟩,fun q hq=>?_⟩
  rcases List.mem_cons.mp hq with rfl | z
  ·exact h1
  ·have:=i2 q z
   omega
def dp:List (Int × Int)→Int
 | []=>1
 | u :: us=>u.1 * dp us
end EP
namespace L2.EP
open PySem PySem.Spec PyProof.Rows
section
variable {X:Cx} {Γ:GEnv} {D:GD} {α β:Type} [Py α] [Py β] {e e1 e2:Expr} {b b1 b2:Bool} {pos:Pos} {rest:List Stmt}
theorem e_shl {i j:Int} (ha:E X Γ e1 b1 i) (hb:E X Γ e2 b2 j) (hc:CPow i j):E X Γ (.BinOp e1 .LShift e2 pos) true (i * 2 ^ j.toNat):=by
 with_unfolding_all
  exact e_ii (g:=fun i j=>i * 2 ^ j.toNat) op_shl ha hb hc
theorem mt_bits:MtR X "int.bit_length" (fun x xs H Q=>∃ i,x=.int i∧xs=[]∧Q (.int (Builtin.Int.intBits i:Nat)) H):=by
 intro pins s σ H x xs v us Q I r rs h
 obtain ⟨i,rfl,rfl,q⟩:=h
 obtain ⟨t,rfl⟩:=r
 cases rs
 exact call_int_bit_length ⟨.int (Builtin.Int.intBits i:Nat),H,I.tok _,⟨_,rfl⟩,q⟩
theorem e_bits {i:Int} {apos:Pos} (ha:E X Γ e b i) (hbase:attributeBase e "bit_length" X.env (eval e X.env)=eval e X.env:=by rfl) (hline:(apos.endLine == pos.line)=true:=by rfl):E X Γ (.Call (.Attribute e "bit_length" apos) [] [] pos) true ((Builtin.Int.intBits i:Nat):Int):=by
 with_unfolding_all
  exact pe_wk (pe_bm0 PySem.F.plainAttrs_int PySem.F.slot_int_bit_length PySem.F.type_int_bit_length mt_bits ha hbase hline) fun σ H Q ⟨H0,F,O,S,q⟩=>⟨H0,F,O,S,fun v H1 s1 r1=>by
    cases r1
    exact ⟨rfl,i,rfl,rfl,q _ H1 s1 rfl⟩⟩
theorem cv_in2 {i:Int} {u:Int × Int}:CV X .In i u (decide (u.1=i) || decide (u.2=i)):=⟨_,op_in_seq,fun N N' H v w Q h1 h2 q=>by
 obtain ⟨p,x,y,rfl,sq,g1,g2⟩:=h2
 cases h1
 cases g1
 cases g2
 refine ⟨p,_,rfl,.inr (sqT_rd (Same.refl _) sq),rfl,rfl,?_⟩
 simpa [inV,eqV,Bool.beq_eq_decide_eq] using q⟩
theorem S.nxW {D:GD} {nx':GEnv→Prop} {st:List Stmt} (h:S X Γ st D) (w:∀ Γ',D.nx Γ'→nx' Γ'):S X Γ st { D with nx:=nx' }:=by
 with_unfolding_all
  exact pss_wk h fun De σ H ⟨H0,F,O,Z,n,r,bk,ct⟩=>⟨H0,F,O,Z,fun Γ' σ' H' O' sm Z' q=>n Γ' σ' H' O' sm Z' (w Γ' q),r,bk,ct⟩
theorem s_ifJ {c:Bool} {body orelse:List Stmt} (J:GEnv→Prop) (hc:T X Γ e c) (h1:c=true→S X Γ body { D with nx:=J }) (h2:c=false→S X Γ orelse { D with nx:=J }) (h:∀ Γ',J Γ'→S X Γ' rest D):S X Γ (.If e body orelse pos :: rest) D:=by
 with_unfolding_all
  exact s_if hc (fun z=>(h1 z).nxW h) (fun z=>(h2 z).nxW h)
def MgI (mg:Str→Option Value) (x:Str) (i:Int):Prop:=∃ t,mg x=some (.int i t)
theorem e_glI {x:Str} {i:Int} (hg:Gl X x) (hm:MgI X.mg x i) (hd:(x == ("__debug__":Str))=false:=by decide):E X Γ (.Name x pos) true i:=by
 with_unfolding_all
  obtain ⟨t,hm⟩:=hm
  exact pe_wk (pe_glob (v:=.int i) hg hm ⟨t,rfl⟩ hd) fun σ H Q ⟨H0,F,O,S,q⟩=>q _ H (Same.refl _) rfl
end
theorem atGetD {α:Type} {xs:List α} {k:Int} {d:α} (h0:0≤k) (h:k < (xs.length:Int)):atI xs k=some (xs.getD k.toNat d):=by
 have hk:k.toNat < xs.length:=by omega
 have e:k=((k.toNat:Nat):Int):=by omega
 have q:atI xs ((k.toNat:Nat):Int)=some xs[k.toNat]:=atI_nat (by rw [List.getElem?_eq_getElem hk])
 rw [← e] at q
 rw [q,List.getD_eq_getElem?_getD,List.getElem?_eq_getElem hk]; rfl
end L2.EP
namespace L2.EP
open PySem PySem.Spec PyProof.Rows
structure TupL (α:Type) where
 l:List α
def SqU (K:PySem.W.Frag) (H:Hp) (p:Addr) (xs:List V):Prop:=Rt H p xs∨∃ (o:Obj) (its:Array Value) (n:Nat),K.lookup p=some o∧o.cls=.type "tuple"∧o.data=.seq its n∧its.size≤sizeLine∧Vals xs its.toList
theorem SqU.t {K:PySem.W.Frag} {H:Hp} {p:Addr} {xs:List V} (h:SqU K H p xs):SqT K H p xs:=h.imp Rt.rd id
theorem sqT_tr {K:PySem.W.Frag} {H H':Hp} {p:Addr} {xs:List V} (t:∀ p xs,Rt H p xs→Rt H' p xs) (h:SqU K H p xs):SqU K H' p xs:=h.imp (t _ _) id
instance {α:Type} [Py α]:Py (TupL α) where
 rp K N H v a:=∃ p xs,v=.ref p∧SqU K H p xs∧Paired (fun x b=>Py.rp K N H x b) xs a.l
 tr l t h:=by
  obtain ⟨p,xs,e,s,r⟩:=h
  exact ⟨p,xs,e,sqT_tr t s,pr_imp (fun _ _ q=>Py.tr l t q) r⟩
instance {α β:Type} [Py α] [Py β]:Py (α ⊕ β) where
 rp K N H v a:=match a with | .inl x=>Py.rp K N H v x | .inr y=>Py.rp K N H v y
 tr {K N N' H H' v a} l t h:=by
  cases a with
  | inl x=>exact Py.tr (α:=α) l t h
  | inr y=>exact Py.tr (α:=β) l t h
theorem notNonI (K:PySem.W.Frag) (N:Nn) (H:Hp) (a:Int):¬ Py.rp K N H .non a:=fun h=>nomatch h
section
variable {X:Cx} {Γ:GEnv} {D:GD} {α β:Type} [Py α] [Py β] {e e1 e2 tg:Expr} {b b1 b2:Bool} {pos:Pos} {rest:List Stmt}
def MgT (K:PySem.W.Frag) (mg:Str→Option Value) (x:Str) (xs:List Int):Prop:=∃ (p:Addr) (o:Obj) (its:Array Value) (n:Nat),mg x=some (.ref p)∧K.lookup p=some o∧o.cls=.type "tuple"∧o.data=.seq its n∧its.size≤sizeLine∧Vals (xs.map V.int) its.toList
theorem MgI.mk {K:PySem.W.Frag} {h:Heap} {mg:Str→Option Value} {x:Str} {i:Int} {t:Tok} (Y:K.In h) (G:h.Ns mainGlobals mg) (a:PySem.W.nsIn K mainGlobals x=some (some (.int i t))):MgI mg x i:=⟨t,PySem.W.mg_of Y G a⟩
theorem MgT.mk {K:PySem.W.Frag} {h:Heap} {mg:Str→Option Value} {x:Str} {xs:List Int} {p:Addr} {od:Option Addr} {its:Array Value} {n:Nat} {osl:Array (Option Value)} (Y:K.In h) (G:h.Ns mainGlobals mg) (a:PySem.W.nsIn K mainGlobals x=some (some (.ref p)))
  (l:K.lookup p=some ⟨.type "tuple",od,.seq its n,osl⟩) (hz:its.size≤1000) (hv:Vals (xs.map V.int) its.toList):MgT K mg x xs:=⟨p,_,its,n,PySem.W.mg_of Y G a,l,rfl,rfl,Nat.le_of_lt (small1000 hz),hv⟩
theorem e_get {a:α} (h:E X Γ e b (some a)):E X Γ e b a:=by
 with_unfolding_all
  exact h
theorem e_some {a:α} (h:E X Γ e b a):E X Γ e b (some a):=by
 with_unfolding_all
  exact h
theorem e_nN {x:Option α} {j:Nat} {p:Pos} (ha:E X Γ e1 b1 x) (hx:∀ (K:PySem.W.Frag) (N:Nn) (H:Hp) (a:α),¬ Py.rp K N H .non a):E X Γ (.Compare e1 [.IsNot] [.Constant .none j p] pos) true (!x.isNone):=by
 with_unfolding_all
  exact pe_wk (pe_cmp (pc_notN ha)) fun σ H Q ⟨H0,F,O,S,q⟩=>⟨H0,F,O,S,fun v H1 s1 r1=>by
    have e:decide (v=.non)=x.isNone:=by
     cases x with
     | none=>cases r1; rfl
     | some a =>
      have hv:v≠.non:=by rintro rfl; exact hx _ _ _ a r1
      rw [decide_eq_false hv]; rfl
    have:=q (.bl (!decide (v=.non))) H1 s1
    show Q (.bl (!decide (v=.non))) H1
    rw [e] at this ⊢
    exact this rfl⟩
theorem t_nN {x:Option α} {j:Nat} {p:Pos} (ha:E X Γ e1 b1 x) (hx:∀ (K:PySem.W.Frag) (N:Nn) (H:Hp) (a:α),¬ Py.rp K N H .non a):T X Γ (.Compare e1 [.IsNot] [.Constant .none j p] pos) (!x.isNone):=by
 with_unfolding_all
  exact pt_wk (pt_cmp (pc_notN ha)) fun σ H Q ⟨H0,F,O,S,q⟩=>⟨H0,F,O,S,fun v H1 s1 r1=>by
    refine ⟨!decide (v=.non),rfl,?_⟩
    have e:decide (v=.non)=x.isNone:=by
     cases x with
     | none=>cases r1; rfl
     | some a =>
      have hv:v≠.non:=by rintro rfl; exact hx _ _ _ a r1
      rw [decide_eq_false hv]; rfl
    rw [e]; exact q H1 s1⟩
end
section
variable {X:Cx} {Γ:GEnv} {D:GD} {α β γ:Type} [Py α] [Py β] [Py γ] {e e1 e2 e3:Expr} {b b1 b2 b3:Bool} {pos:Pos} {rest:List Stmt}
theorem e_chain {op op':CmpOp} {x:α} {y:β} {z:γ} {c c':Bool} (h1:CV X op x y c) (h2:CV X op' y z c') (ha:E X Γ e1 b1 x) (hb:E X Γ e2 b2 y) (hc:E X Γ e3 b3 z) (hm:lastMarks [op,op'] [e2,e3]=false:=by with_unfolding_all rfl):E X Γ (.Compare e1 [op,op'] [e2,e3] pos) true (c && c'):=by
 with_unfolding_all
  obtain ⟨r,ho,hr⟩:=h1
  obtain ⟨r',ho',hr'⟩:=h2
  exact pe_wk (pe_chain ho ho' ha hb hc hm) fun σ H Q ⟨H0,F,O,S,q⟩=>⟨H0,F,O,S,fun v H1 s1 r1=>⟨H0,F,O,S.go s1,fun w H2 s2 r2 =>
   hr _ _ H2 v w _ (rp_mono ((off_mono s2).trans (off_same _ _)) r1) (rp_mono (off_same _ _) r2) ⟨c,rfl,by
    cases c with
    | false=>exact q _ H2 (s1.trans s2) rfl
    | true=>exact ⟨H0,F,O,(S.go s1).go s2,fun u H3 s3 r3=>hr' _ _ H3 w u _ (rp_mono ((off_mono s3).trans (off_same _ _)) r2) (rp_mono (off_same _ _) r3) (q _ H3 (s1.trans (s2.trans s3)) rfl)⟩⟩⟩⟩
theorem t_chain {op op':CmpOp} {x:α} {y:β} {z:γ} {c c':Bool} (h1:CV X op x y c) (h2:CV X op' y z c') (ha:E X Γ e1 b1 x) (hb:E X Γ e2 b2 y) (hc:E X Γ e3 b3 z) (hm:lastMarks [op,op'] [e2,e3]=false:=by with_unfolding_all rfl):T X Γ (.Compare e1 [op,op'] [e2,e3] pos) (c && c'):=by
 with_unfolding_all
  obtain ⟨r,ho,hr⟩:=h1
  obtain ⟨r',ho',hr'⟩:=h2
  exact pt_wk (pt_chain ho ho' ha hb hc hm) fun σ H Q ⟨H0,F,O,S,q⟩=>⟨H0,F,O,S,fun v H1 s1 r1=>⟨H0,F,O,S.go s1,fun w H2 s2 r2 =>
   hr _ _ H2 v w _ (rp_mono ((off_mono s2).trans (off_same _ _)) r1) (rp_mono (off_same _ _) r2) ⟨c,rfl,by
    cases c with
    | false=>exact ⟨false,rfl,q H2 (s1.trans s2)⟩
    | true=>exact ⟨H0,F,O,(S.go s1).go s2,fun u H3 s3 r3=>hr' _ _ H3 w u _ (rp_mono ((off_mono s3).trans (off_same _ _)) r2) (rp_mono (off_same _ _) r3) ⟨c',rfl,q H3 (s1.trans (s2.trans s3))⟩⟩⟩⟩⟩
end
def RTU:GD:={ nx:=fun _=>True,rt:=fun _=>False }
section
variable {P:Program} {w:World} {K:PySem.W.Frag} {mg:Str→Option Value} {base:Heap} {N ps:List Str} {x qual:Str} {st:Stmt} {f:Addr} {k:Nat} {fd:FuncData}
theorem body_runU {gs:List Bd} {vs:List V} {H:Hp} {O:Addr→Prop} {b:Bool} {Q:VK} {cdv:Value} {A:Around} {outer:List Env} {s:Shared} {E:XK} (B:Body P w K mg base N qual st f k gs RTU) (hr:Room k (A.deeper (envOfC qual (defScope st) s.heap.objs.size f cdv)))
  (ho:OwnL H O) (h:Args K (off H O) vs gs) (q:∀ r H',Same H H'→Py.rp K (Nf H b) (off H' O) r ()→Q r H') :
  ∃ t,PSs (cxOf CX0 P w K mg base N qual (defScope st) f cdv A outer s H E).nox (defBody st) t∧t { nx:=fun _ H'=>Q .non H',rt:=Q } (start N vs) H:=by
 with_unfolding_all
  refine ⟨_,B cdv A outer s H E hr,H,O,O,sta_start ho h,fun _ _ H' _ _ Z _=>q .non H' Z.same rfl,fun g v H' sm z e=>e.elim,fun _ _ _ _ _ _ z=>z.elim,fun _ _ _ _ _ _ z=>z.elim⟩
def unit1 {α:Type} (_:α):Unit:=()
theorem fn1U {α:Type} [Py α] {pre:α→Prop} {b:Bool} (F:Fun K x qual st f fd) (sc:FnScope N ps (defScope st)) (hl:ps.length=1) (B:∀ a,pre a→Body P w K mg base N qual st f k [.val false a] RTU) :
  FnOk P w K mg base CX0 (k + 1) f fd ps (sp1 K pre b (unit1 (α:=α))):=by
 with_unfolding_all
  refine F.ok sc (fun vs H Q E h=>?_) fun cdv A outer s H vs Q E hr h=>?_
  ·obtain ⟨O,v,a,_,rfl,_⟩:=h; rw [hl]; rfl
  ·obtain ⟨O,v,a,ho,rfl,r,hp,q⟩:=h
   exact body_runU (B a hp) hr ho (.cons r .nil) q
end
end L2.EP
namespace L2.EP
open PySem PySem.Spec PyProof.Rows
theorem rd_tup_off {H:Hp} {O:Addr→Prop} (ho:∀ p,O p→∃ xs:Mt,H p=some (mo xs)) (p:Addr) (xs:List V) (h:Rt H p xs):Rt (off H O) p xs:=by
 have hn:¬ O p:=fun z=>by
  obtain ⟨ys,e⟩:=ho p z
  rcases h with h | ⟨o,h⟩
  ·rw [e] at h; rcases ys with ys | ys | ys <;> cases h
  ·rw [e] at h; rcases ys with ys | ys | ys <;> cases h
 rcases h with h | ⟨o,h⟩
 ·exact .inl (by rw [off_get hn]; exact h)
 ·exact .inr ⟨o,by rw [off_get hn]; exact h⟩
theorem pr_cat {α β:Type} {F:α→β→Prop}:∀ {l₁ l₂:List α} {m₁ m₂:List β},Paired F l₁ m₁→Paired F l₂ m₂→Paired F (l₁ ++ l₂) (m₁ ++ m₂)
 | _,_,_,_,.nil,h=>h
 | _,_,_,_,.cons h r,h'=>.cons h (pr_cat r h')
section
variable {X:Cx} {Γ:GEnv} {D:GD} {α β γ:Type} [Py α] [Py β] [Py γ] {e e1 e2:Expr} {b b1 b2:Bool} {pos:Pos} {st rest:List Stmt}
theorem e_eq {a a':α} (h:E X Γ e b a) (ha:a=a'):E X Γ e b a':=by
 with_unfolding_all
  subst ha; exact h
theorem e_cat {xs ys:List α} (ha:E X Γ e1 true xs) (hb:E X Γ e2 true ys) (hl:xs.length + ys.length≤1000):E X Γ (.BinOp e1 .Add e2 pos) true (xs ++ ys):=by
 with_unfolding_all
  exact pe_wk (pe_op op_cat ha hb) fun σ H Q ⟨H0,F,O,S,q⟩=>⟨H0,F,O,S,fun v H1 s1 r1=>⟨H0,F,O,S.go s1,fun w H2 s2 r2=>by
    obtain ⟨p,vs,e1,sq1,n1,rr1⟩:=r1
    obtain ⟨p',vs',e2,sq2,n2,rr2⟩:=r2
    have h1:H2 p=some (.lst vs):=s2 _ _ ((off_same _ _) _ _ n1.2)
    have h2:H2 p'=some (.lst vs'):=(off_same _ _) _ _ n2.2
    refine ⟨p,p',vs,vs',e1,e2,h1,h2,by rw [pr_len rr1,pr_len rr2]; exact Nat.le_of_lt (small1000 hl),fun l hl'=>?_⟩
    obtain ⟨z1,z2⟩:=laid_lst (xs:=vs ++ vs') ((S.go s1).go s2) hl'
    exact q _ _ (s1.trans (s2.trans z1)) ⟨l,_,rfl,SqL.of z2,Nf.wk (b:=true) (((S.go s1).go s2).free0 hl') z2,pr_cat (pr_imp (fun _ _ z=>rp_mono ((off_mono s2).trans (off_mono z1)) z) rr1) (pr_imp (fun _ _ z=>rp_mono (off_mono z1) z) rr2)⟩⟩⟩
theorem en_lst [PyT α] {es:List Expr} {as:List α} (h:EA X Γ es b as) (hl:as.length≤1000):EN X Γ (.List es pos) as:=by
 with_unfolding_all
  exact pe_wk (pe_lst h) fun σ H Q ⟨H0,F,O,S,q⟩=>⟨H0,F,O,S,fun vs H1 s1 r1=>⟨by rw [pr_len r1]; exact Nat.le_of_lt (small1000 hl),fun p hp=>by
    obtain ⟨z1,z2⟩:=laid_lst (xs:=vs) (S.go s1) hp
    exact q _ _ (s1.trans z1) ⟨p,vs,rfl,SqL.of z2,⟨s1.free hp,z2⟩,pr_imp (fun _ _ r=>PyT.free (fun _ _ w=>w) (rp_mono (off_mono z1) r)) r1⟩⟩⟩
theorem en_if {c:Bool} {x y:α} (hc:T X Γ e c) (ha:c=true→EN X Γ e1 x) (hb:c=false→EN X Γ e2 y):EN X Γ (.IfExp e e1 e2 pos) (if c then x else y):=by
 with_unfolding_all
  cases c with
  | true=>exact pe_wk (pe_ifExp hc (ha rfl) pe_no) fun σ H Q ⟨H0,F,O,S,q⟩=>⟨H0,F,O,S,fun H1 s1=>iteT ⟨H0,F,O,S.go s1,fun w H2 s2 r2=>q w H2 (s1.trans s2) (new_less s1 r2)⟩⟩
  | false=>exact pe_wk (pe_ifExp hc pe_no (hb rfl)) fun σ H Q ⟨H0,F,O,S,q⟩=>⟨H0,F,O,S,fun H1 s1=>iteF ⟨H0,F,O,S.go s1,fun w H2 s2 r2=>q w H2 (s1.trans s2) (new_less s1 r2)⟩⟩
theorem s_d2o [PyT α] (i:Nat) (b:Bool) {as:List α} (hg:Γ[i]?=some (some (.dpo as))) (h:S X (Γ.set i (some (.own b as))) st D):S X Γ st D:=by
 with_unfolding_all
  exact pss_wk h fun De σ H ⟨H0,F,O,Z,n,r,bk,ct⟩=>by
   refine ⟨H0,F,O,⟨Z.same,Z.fo,Z.f0,Z.own,by rw [List.length_set]; exact Z.len,fun j g e no=>?_,?_⟩,n,r,bk,ct⟩
   ·by_cases hj:j=i
    ·subst hj
     have hl:j < Γ.length:=(List.getElem?_eq_some_iff.mp hg).1
     rw [get_set_eq hl] at e
     have e':Bd.own b as=g:=Option.some.inj (Option.some.inj e)
     exact absurd (e' ▸ (True.intro:(Bd.own b as).isOwn)) no
    ·rw [get_set_ne hj] at e
     exact Z.at_ j g e no
   ·obtain ⟨D',d1,d2,d3⟩:=Z.dis
    refine ⟨D',d1,d2,fun j g e o=>?_⟩
    by_cases hj:j=i
    ·subst hj
     have hl:j < Γ.length:=(List.getElem?_eq_some_iff.mp hg).1
     rw [get_set_eq hl] at e
     have e':Bd.own b as=g:=Option.some.inj (Option.some.inj e)
     subst e'
     obtain ⟨v,q1,p,xs,q2,q3,q4,q5⟩:=d3 j _ hg True.intro
     exact ⟨v,q1,p,xs,q2,q4.1,q4.2,pr_imp (fun _ _ z=>PyT.free (rd_tup_off Z.own) z) q5⟩
    ·rw [get_set_ne hj] at e
     exact d3 j g e o
end
end L2.EP
namespace L2
open PySem PySem.Spec PyProof.Rows
section
variable {X:Cx} {pos:Pos}
end
end L2
namespace L2.EP
open PySem PySem.Spec PyProof.Rows
section
variable {X:Cx} {Γ:GEnv} {D:GD} {α β γ:Type} [Py α] [Py β] [Py γ] {e e1 e2:Expr} {b b1 b2:Bool} {pos:Pos} {rest st:List Stmt}
theorem call_minL (hc:X.calm=true):CallR X (.builtin "min") (fun xs H Q=>∃ p,∃ ns:List Int,xs=[.ref p]∧SqL X.K H p (ns.map V.int)∧0 < ns.length∧∀ M,M∈ns→(∀ a,a∈ns→M≤a)→Q (.int M) H):=by
 intro pins s σ H xs us Q I r h
 obtain ⟨p,ns,rfl,sq,hne,q⟩:=h
 obtain ⟨u,rfl,rx⟩:=vals1 r
 cases rx
 obtain ⟨its,rr,pl,_⟩:=I.list sq
 have hi:=intsAre_of rr
 obtain ⟨ys,hx⟩:=hi.allInts.items
 have hl':s.heap.IsList p (intItems ys):=hx ▸ pl.isList
 have e1:ns=ys.toList.map (·.1):=by
  rw [← nums_intItems,← hx]
  exact (show numsOf its.toArray.toList=ns from hi.numsOf).symm
 have hsz:0 < ys.size:=by rw [e1,List.length_map,Array.length_toList] at hne; exact hne
 refine min_intList (I.ok.hd hc) hl' hsz fun v h' tk hv hk=>?_
 obtain ⟨t,rfl⟩:=intItems_at hv
 obtain ⟨h1,h2⟩:=argBest_lt (numAt ys) (ys.size - 1)
 refine ⟨.int _,H,I.kept hk,⟨_,rfl⟩,q _ ?_ fun a ha=>?_⟩
 ·rw [e1,numAt_eq]; exact getD_mem (by rw [List.length_map,Array.length_toList]; omega)
 ·rw [e1] at ha
  obtain ⟨j,hj,rfl⟩:=mem_getD ha
  rw [List.length_map,Array.length_toList] at hj
  rw [← numAt_eq]; exact h2 j (by omega)
theorem call_maxL (hc:X.calm=true):CallR X (.builtin "max") (fun xs H Q=>∃ p,∃ ns:List Int,xs=[.ref p]∧SqL X.K H p (ns.map V.int)∧0 < ns.length∧∀ M,M∈ns→(∀ a,a∈ns→a≤M)→Q (.int M) H):=by
 intro pins s σ H xs us Q I r h
 obtain ⟨p,ns,rfl,sq,hne,q⟩:=h
 obtain ⟨u,rfl,rx⟩:=vals1 r
 cases rx
 obtain ⟨its,rr,pl,_⟩:=I.list sq
 have hi:=intsAre_of rr
 obtain ⟨ys,hx⟩:=hi.allInts.items
 have hl':s.heap.IsList p (intItems ys):=hx ▸ pl.isList
 have e1:ns=ys.toList.map (·.1):=by
  rw [← nums_intItems,← hx]
  exact (show numsOf its.toArray.toList=ns from hi.numsOf).symm
 have hsz:0 < ys.size:=by rw [e1,List.length_map,Array.length_toList] at hne; exact hne
 refine max_intList (I.ok.hd hc) hl' hsz fun v h' tk hv hk=>?_
 obtain ⟨t,rfl⟩:=intItems_at hv
 obtain ⟨h1,h2⟩:=argBest_gt (numAt ys) (ys.size - 1)
 refine ⟨.int _,H,I.kept hk,⟨_,rfl⟩,q _ ?_ fun a ha=>?_⟩
 ·rw [e1,numAt_eq]; exact getD_mem (by rw [List.length_map,Array.length_toList]; omega)
 ·rw [e1] at ha
  obtain ⟨j,hj,rfl⟩:=mem_getD ha
  rw [List.length_map,Array.length_toList] at hj
  rw [← numAt_eq]; exact h2 j (by omega)
theorem e_minL {ns:List Int} {m:Int} {p:Pos} (hc:X.calm=true) (hg:Gl X "min") (hm:X.mg "min"=none) (ha:E X Γ e b ns) (h0:0 < ns.length) (h1:m∈ns) (h2:∀ a,a∈ns→m≤a) (hs:starEach [e] X.env=(false,eval e X.env) :: starEach [] X.env:=by rfl):E X Γ (.Call (.Name "min" p) [e] [] pos) true m:=by
 with_unfolding_all
  exact pe_wk (pe_callB (call_minL hc) hg hm boot_min (pa_cons ha pa_nil hs) (he:=hs)) fun σ H Q ⟨H0,F,O,S,q⟩=>⟨H0,F,O,S,fun v H1 s1 r1=>by
    obtain ⟨p,vs,e,sq,n,r⟩:=r1
    rw [pr_int r] at sq
    refine ⟨p,ns,by rw [e],(off_same _ _).seq sq,h0,fun M m1 m2=>q _ H1 s1 ?_⟩
    have:=h2 M m1
    have:=m2 m h1
    show V.int M=V.int m
    rw [show M=m by omega]⟩
theorem e_maxL {ns:List Int} {m:Int} {p:Pos} (hc:X.calm=true) (hg:Gl X "max") (hm:X.mg "max"=none) (ha:E X Γ e b ns) (h0:0 < ns.length) (h1:m∈ns) (h2:∀ a,a∈ns→a≤m) (hs:starEach [e] X.env=(false,eval e X.env) :: starEach [] X.env:=by rfl):E X Γ (.Call (.Name "max" p) [e] [] pos) true m:=by
 with_unfolding_all
  exact pe_wk (pe_callB (call_maxL hc) hg hm boot_max (pa_cons ha pa_nil hs) (he:=hs)) fun σ H Q ⟨H0,F,O,S,q⟩=>⟨H0,F,O,S,fun v H1 s1 r1=>by
    obtain ⟨p,vs,e,sq,n,r⟩:=r1
    rw [pr_int r] at sq
    refine ⟨p,ns,by rw [e],(off_same _ _).seq sq,h0,fun M m1 m2=>q _ H1 s1 ?_⟩
    have:=h2 M m1
    have:=m2 m h1
    show V.int M=V.int m
    rw [show M=m by omega]⟩
end
end L2.EP
namespace L2.EP
open PySem PySem.Spec PyProof.Rows
theorem op_catS {X:Cx}:OpR X (binaryOp .Add) (fun x y H Q=>∃ l b xs zs,x=.ref l∧y=.ref b∧SqL X.K H l xs∧SqL X.K H b zs∧xs.length + zs.length≤sizeLine∧∀ p,H p=none→Q (.ref p) (upd H p (.lst (xs ++ zs)))):=by
 intro pins s σ H x y v u Q I rx ry h
 obtain ⟨l,b,xs,zs,rfl,rfl,hH,hB,hz,q⟩:=h
 cases rx
 cases ry
 obtain ⟨its,r,pl,_⟩:=I.list hH
 obtain ⟨its2,r2,pl2,_⟩:=I.list hB
 obtain ⟨⟨cls,dd,data,sl⟩,n,ho,hc,hdd,hd⟩:=pl
 obtain ⟨⟨cls2,dd2,data2,sl2⟩,n2,ho2,hc2,hdd2,hd2⟩:=pl2
 simp only at hc hdd hd hc2 hdd2 hd2
 subst hc hdd hd hc2 hdd2 hd2
 have l1:=r.length
 have l2:=r2.length
 have ea:its.toArray ++ its2.toArray=(its ++ its2).toArray:=by simp
 refine concat_meets ⟨_,ho,rfl⟩ ⟨_,ho2,rfl⟩ noFill_list_add seq_list_add PySem.F.slot_list_add PySem.F.entry_list_add (PySem.F.args_list_add_2 _ _) (list_addW l b its.toArray its2.toArray n n2 none none sl sl2 (by rw [List.size_toArray,List.size_toArray]; omega)) ⟨ho,ho2,?_⟩
 rw [ea]
 exact ⟨.ref _,_,I.lnew (t':=s.toks) (r.append r2) (by rw [List.length_append]; omega),rfl,q _ I.fresh⟩
section
variable {X:Cx} {Γ:GEnv} {D:GD} {α β γ:Type} [Py α] [Py β] [Py γ] {e e1 e2:Expr} {b b1 b2:Bool} {pos:Pos} {rest st:List Stmt}
theorem e_toT [PyT α] {xs:List α} {k:Int} {p2:Pos} (ha:E X Γ e1 b xs) (hb:E X Γ e2 b2 k) (h0:0≤k):E X Γ (.Subscript e1 (.Slice none (some e2) none p2) pos) true (xs.take k.toNat):=by
 with_unfolding_all
  exact pe_wk (pe_slice sl_list ha po_none (po_some hb)) fun σ H Q ⟨H0,F,O,S,q⟩=>⟨H0,F,O,S,fun v H1 s1 r1=>⟨H0,F,O,S.go s1,fun w H2 s2 r2=>by
    obtain ⟨p,vs,e,sq,n,r⟩:=r1
    refine ⟨k,r2,p,vs,e,(off_same _ _).seq ((off_mono s2).seq sq),fun l hl=>?_⟩
    obtain ⟨z1,z2⟩:=laid_lst (xs:=cutV vs none (some k)) ((S.go s1).go s2) hl
    refine q _ _ (s1.trans (s2.trans z1)) ⟨l,_,rfl,SqL.of z2,Nf.wk (b:=true) (((S.go s1).go s2).free0 hl) z2,?_⟩
    have ec:cutV vs none (some k)=vs.take k.toNat:=by
     unfold cutV
     have hk:k=((k.toNat:Nat):Int):=by omega
     rw [hk,HT.sIx_nat,HT.sIx_none]
     simp only [Int.toNat_natCast,List.drop_zero,Nat.sub_zero]
     by_cases hkn:k.toNat≤vs.length
     ·rw [Nat.min_eq_left hkn]
     ·rw [Nat.min_eq_right (by omega),List.take_of_length_le (Nat.le_refl _),List.take_of_length_le (by omega)]
    have rr:=pr_imp (G:=fun x a=>Py.rp X.K (Nf H0 true) (off (upd H2 l (.lst (cutV vs none (some k)))) O) x a) (fun _ _ z=>PyT.free (fun _ _ t=>Same.rt ((off_mono s2).trans (off_mono z1)) t) z) (pr_take k.toNat r)
    rw [← ec] at rr
    exact rr⟩⟩
end
end L2.EP
namespace L2.EP
open PySem PySem.Spec PyProof.Rows
end L2.EP
namespace L2
open PySem PySem.Spec PyProof.Rows
def Ite (K : PySem.W.Frag) (a : Addr) : It :=
  ⟨fun i H => ∃ xs x, SqL K H a xs ∧ xs[i]? = some x,
   fun i H v H' => ∃ T x, H T = none ∧ v = .ref T ∧ H' = upd H T (.tup [.int (i : Int), x]) ∧ ∀ xs, SqL K H a xs → xs[i]? = some x,
   fun i H => ∃ xs, SqL K H a xs ∧ xs.length ≤ i⟩
theorem turn_enum {P:Program} {w:World} {K:PySem.W.Frag} {elts:List Expr} {kk:Nat} {tp:Pos} (z it a:Addr):Turn P w K (.Tuple elts kk tp) (Ite K a) [z,it] z
  (fun i h=>(∃ old,IsEnum h z it ((i:Nat):Int) old)∧h.IsListIter it a i) where
 mem:=by simp
 obj:=fun i h st c hc=>by
  obtain ⟨⟨old,hz⟩,h1⟩:=st
  have hc':c=z∨c=it:=by simpa using hc
  rcases hc' with e | e
  ·subst e; exact ⟨_,hz,fun v q=>by cases q⟩
  ·subst e; obtain ⟨o,q1,q2,q3⟩:=h1; exact ⟨o,q1,fun v q=>by rw [q3] at q; cases q⟩
 keep:=fun i h h' st k=>by
  obtain ⟨⟨old,hz⟩,h1⟩:=st
  exact ⟨⟨old,k z (by simp) _ hz⟩,h1.at fun o e=>k it (by simp) o e⟩
 item:=by
  intro X hP hw hK hc i pins s σ H E I hf st hg
  subst hP hw hK
  obtain ⟨xs,x,sx,gx⟩:=hg
  obtain ⟨⟨old,hz⟩,h1⟩:=st
  obtain ⟨ix,rx,px,_⟩:=I.list sx
  have X':∀ {s t:String},s≠t→Value.type s≠Value.type t:=fun ne e=>ne (by injection e)
  have hne:z≠it:=by
   obtain ⟨o1,a1,b1,_⟩:=h1
   exact cls_ne hz a1 (by rw [b1]; exact X' (by decide))
  obtain ⟨u,ux,uxr⟩:=rx.get gx
  refine wpAny_pyNext_enum_item hz h1 px.isList (by simpa using ux) hne fun h' a1 a3 a5 a6 hk=>?_
  have hT0:H s.heap.objs.size=none:=I.hok.fresh (Nat.le_refl _)
  have I1:Inv X pins σ (upd H s.heap.objs.size (.tup [.int (i:Int),x])) { s with heap:=h',toks:=s.toks + 1 }:=by
   refine I.turnedT (ch:=[z,it]) (Nat.le_refl _) (fun c o hc' e=>hk c o (fun q=>hc' (by simp [q])) (fun q=>hc' (by simp [q])) e) (fun c o e=>?_) (fun c hc'=>hf c hc') ?_
   ·by_cases q1:c=z
    ·subst q1; exact ⟨_,a1⟩
    by_cases q3:c=it
    ·subst q3; obtain ⟨o',q,_⟩:=a3; exact ⟨o',q⟩
    exact ⟨o,hk c o q1 q3 e⟩
   ·exact ⟨by show 2≤sizeLine; decide,[.int i s.toks,u],.cons ⟨_,rfl⟩ (.cons uxr .nil),⟨_,a5,rfl,_,rfl⟩⟩
  refine ⟨_,rfl,?_⟩
  have fz:=hf z (by simp)
  refine wpAny_letOwnedTupleGo_enum a1 fun h2' hz' hs'=>?_
  have zT:z≠s.heap.objs.size:=Nat.ne_of_lt (Heap.lt_size hz)
  have I2:Inv X pins σ (upd H s.heap.objs.size (.tup [.int (i:Int),x])) { ({ s with heap:=h',toks:=s.toks + 1 }:Shared) with heap:=h2',toks:=s.toks + 1 }:=I1.turned (fun c o hc' e=>hs'.extBut c o hc' e) (by rw [upd_ne zT]; exact fz.1) fz.2.1 fz.2.2.2.1 fz.2.2.2.2.1 fz.2.2.2.2.2
  refine ⟨.ref s.heap.objs.size,upd H s.heap.objs.size (.tup [.int (i:Int),x]),I2,rfl,⟨s.heap.objs.size,x,hT0,rfl,rfl,fun xs' sx'=>?_⟩,⟨⟨_,hz'⟩,a3.extBut hs'.extBut (Ne.symm hne)⟩,fun c hc'=>?_⟩
  ·rw [I.list_inj sx' sx]; exact gx
  ·have hcl:c < s.heap.objs.size:=by
    have hc2:c=z∨c=it:=by simpa using hc'
    rcases hc2 with e | e
    ·subst e; exact Heap.lt_size hz
    ·subst e; obtain ⟨_,q,_⟩:=h1; exact Heap.lt_size q
   rw [upd_ne (Nat.ne_of_lt hcl)]; exact (hf c hc').1
 done:=by
  intro X hP hw hK hc i pins s σ H E I hf st hg
  subst hP hw hK
  obtain ⟨xs,sx,hend⟩:=hg
  obtain ⟨⟨old,hz⟩,h1⟩:=st
  obtain ⟨ix,rx,px,_⟩:=I.list sx
  refine wpAny_pyNext_enum_end (I.ok.hd hc) hz h1 px.isList ?_ fun h' hk=>⟨rfl,?_⟩
  ·have:=rx.length
   simp; omega
  ·have f1:=hf it (by simp)
   refine I.step (g':=s.gens) (d':=s.drawn) (t':=s.toks) (ch:=[it]) (fun b hb=>?_) (fun b o _ _ hc' e _=>hk b o (fun q=>hc' (by simp [q])) e) (fun b o _ _ hc' e _=>⟨o.slots,hk b o (fun q=>hc' (by simp [q])) e⟩) (fun _ _ _ _ n=>n)
    (fun b o hc' e=>⟨o,hk b o (fun q=>hc' (by simp [q])) e⟩) (fun _ _ e=>e) (fun _ _ _ e=>e) (fun b ps e=>⟨#[],by rw [e]; simp⟩) (fun m hm=>?_) (fun b u e=>?_) I.bare
   ·have q:=hf b (by simp at hb ⊢; simp [hb])
    exact ⟨q.2.2.2.1,q.2.1,q.2.2.2.2.1,q.2.2.2.2.2⟩
   ·obtain ⟨o,es,ep,ho,r⟩:=hm
    exact ⟨o,es,ep,hk _ o (Ne.symm f1.2.1) ho,r⟩
   ·have nn:∀ c v,H c=some v→c≠it:=fun c v e q=>by rw [q,f1.1] at e; cases e
    refine (I.hok b u e).stay (fun c v hc' q=>?_) (fun _ q=>q) fun _ _ q=>q
    rcases hc' with e' | e'
    ·subst e'; exact hk c v (nn c _ e) q
    ·exact hk c v (nn c _ e') q
 self:=fun _ _ _ _ _ st h=>by
  obtain ⟨⟨old,hz⟩,_⟩:=st
  exact wpAny_pyIter_enum hz h
section
variable {X:Cx} {elts:List Expr} {kk:Nat} {tp:Pos}
def iEnum (K:PySem.W.Frag) (ta:TA):TI:=fun σ H R=>ta σ H fun vs H1=>∃ a,vs=[.ref a]∧(∃ xs,SqL K H1 a xs)∧R (Ite K a) H1
theorem pi_enum {e1:Expr} {ta:TA} {p pos:Pos} (hg:Gl X "enumerate") (hm:X.mg "enumerate"=none) (ha:PA X [e1] ta) (he:starEach [e1] X.env=(false,eval e1 X.env) :: starEach [] X.env:=by rfl)
  (hpl:(backTo pos (starEach [] X.env)).any (·.1)=false:=by rfl):PI X (.Tuple elts kk tp) (.Call (.Name "enumerate" p) [e1] [] pos) (iEnum X.K ta):=by
 intro pins s σ H R I h
 refine Call_ (ld_blt I hg hm PyProof.Rows.boot_enumerate (PyProof.Rows.callWith_type1 (thn (ha pos pins s σ H _ I h) fun us s1 ⟨vs,H1,I1,r1,q1⟩=>?_) he hpl))
 obtain ⟨a,e,⟨xs,sx⟩,q⟩:=q1
 subst e
 obtain ⟨u,rfl,ra⟩:=vals1 r1
 cases ra
 obtain ⟨ix,rx,px,_⟩:=I1.list sx
 refine call_enumerate_list px.isList fun h' z1 z4 z6 hk=>?_
 have I2:Inv X pins σ H1 { s1 with heap:=h',toks:=s1.toks }:=I1.kept hk
 refine wpAny_pyIter_enum (s:={ s1 with heap:=h' }) z1 ?_
 refine ⟨s1.heap.objs.size + 1,[s1.heap.objs.size + 1,s1.heap.objs.size],_,Ite X.K a,H1,rfl,I2,turn_enum (s1.heap.objs.size + 1) s1.heap.objs.size a,⟨⟨_,z1⟩,z4⟩,fun c hc=>?_,q⟩
 have hge:s1.heap.objs.size≤c:=by
  simp at hc
  rcases hc with e | e <;> subst e <;> omega
 exact I1.fpOk hge (I1.hok.fresh hge)
end
end L2
namespace L2.EP
open PySem PySem.Spec PyProof.Rows
def enI {α:Type} (xs:List α):List (Int × α):=xs.mapIdx fun i x=>((i:Int),x)
theorem enI_get {α:Type} {xs:List α} {i:Nat} {u:Int × α} (h:(enI xs)[i]?=some u):xs[i]?=some u.2∧u.1=(i:Int):=by
 unfold enI at h
 rw [List.getElem?_mapIdx] at h
 cases e:xs[i]? with
 | none=>rw [e] at h; cases h
 | some x=>rw [e] at h; cases h; exact ⟨rfl,rfl⟩
theorem enI_len {α:Type} (xs:List α):(enI xs).length=xs.length:=by unfold enI; rw [List.length_mapIdx]
section
variable {X:Cx} {Γ:GEnv} {α β:Type} [Py α] [Py β] {e1 e2:Expr} {b1 b2:Bool} {elts:List Expr} {kk:Nat} {tp p ps:Pos}
theorem ei_enum {xs:List α} (hg:Gl X "enumerate") (hm:X.mg "enumerate"=none) (h1:E X Γ e1 b1 xs) (hs1:starEach [e1] X.env=(false,eval e1 X.env) :: starEach [] X.env:=by rfl)
  (hpl:(backTo ps (starEach [] X.env)).any (·.1)=false:=by rfl):EI X Γ (.Tuple elts kk tp) (.Call (.Name "enumerate" p) [e1] [] ps) b1 (enI xs):=by
 with_unfolding_all
  exact ⟨_,pi_enum hg hm (pa_cons h1 pa_nil hs1) hs1 hpl,fun σ H H0 F O R Z q=>⟨H0,F,O,Z,fun v H1 s1 r1=>by
    obtain ⟨a,va,ea,sa,na,ra⟩:=r1
    refine ⟨a,by rw [ea],⟨va,(off_same _ _).seq sa⟩,q _ H1 s1 fun H' O' hO' sm=>⟨fun i u hu=>?_,?_⟩⟩
    ·obtain ⟨hx,hi⟩:=enI_get hu
     obtain ⟨x,gx,rx⟩:=pr_get ra hx
     have sa':=(off_same _ _).seq (sm.seq sa)
     refine ⟨⟨va,x,sa',gx⟩,fun v' H'' hv=>?_⟩
     obtain ⟨T,x',hT,rfl,rfl,f1⟩:=hv
     have ex:=f1 va sa'
     rw [gx] at ex; cases ex
     have hTO:¬ O' T:=fun z=>by
      obtain ⟨zs,w⟩:=hO' T z
      rw [hT] at w; cases w
     refine ⟨same_upd hT _,T,.int (i:Int),x,rfl,.inl (by rw [off_get hTO]; exact upd_same),?_,?_⟩
     ·show V.int _=V.int _
      rw [hi]
     ·exact rp_mono (sm.trans (off_mono (same_upd hT _))) rx
    ·refine ⟨va,(off_same _ _).seq (sm.seq sa),?_⟩
     rw [pr_len ra,enI_len]
     omega⟩⟩
end
end L2.EP
namespace L2.Sx
open PySem
def Inc (xs:Array Nat):Prop:=xs.toList.Pairwise (· < ·)
theorem inc_get {xs:Array Nat} (h:Inc xs) {a b:Nat} (hab:a < b) (hb:b < xs.size):xs.getD a 0 < xs.getD b 0:=by
 have h1:=List.pairwise_iff_getElem.mp h a b (by simpa using Nat.lt_trans hab hb) (by simpa using hb) hab
 rw [Array.getElem_toList,Array.getElem_toList] at h1
 simp only [Array.getD,dif_pos (Nat.lt_trans hab hb),dif_pos hb]
 exact h1
structure Lb (xs:Array Nat) (j i:Nat):Prop where
 le:i≤xs.size
 lo:∀ k,k < i→xs.getD k 0 < j
 hi:∀ k,i≤k→k < xs.size→j≤xs.getD k 0
theorem getD_any {xs:Array Nat} {k d e:Nat} (h:k < xs.size):xs.getD k d=xs.getD k e:=by
 simp only [Array.getD,dif_pos h]
theorem go_lb {xs:Array Nat} {j:Nat} (hx:Inc xs):∀ (fuel lo hi:Nat),hi - lo≤fuel→lo≤hi→hi≤xs.size→(∀ k,k < lo→xs.getD k 0 < j)→(∀ k,hi≤k→k < xs.size→j≤xs.getD k 0)→Lb xs j (SetTable.below.go xs j fuel lo hi)
 | 0,lo,hi,h1,h2,h3,h4,h5=>by
  unfold SetTable.below.go
  exact ⟨by omega,h4,fun k a b=>h5 k (by omega) b⟩
 | fuel + 1,lo,hi,h1,h2,h3,h4,h5=>by
  unfold SetTable.below.go
  by_cases hlt:lo < hi
  ·rw [if_pos hlt]
   dsimp only
   have hm:(lo + hi) / 2 < xs.size:=by omega
   rw [getD_any (e:=0) hm]
   by_cases hc:xs.getD ((lo + hi) / 2) 0 < j
   ·rw [if_pos hc]
    refine go_lb hx fuel _ _ (by omega) (by omega) h3 (fun k hk=>?_) h5
    rcases Nat.lt_or_eq_of_le (Nat.le_of_lt_succ hk) with z | z
    ·exact Nat.lt_trans (inc_get hx z hm) hc
    ·rw [z]; exact hc
   ·rw [if_neg hc]
    refine go_lb hx fuel _ _ (by omega) (by omega) (by omega) h4 (fun k a b=>?_)
    rcases Nat.lt_or_eq_of_le a with z | z
    ·exact Nat.le_trans (Nat.le_of_not_lt hc) (Nat.le_of_lt (inc_get hx z b))
    ·rw [← z]; exact Nat.le_of_not_lt hc
  ·rw [if_neg hlt]
   exact ⟨by omega,h4,fun k a b=>h5 k (by omega) b⟩
theorem below_lb {xs:Array Nat} (hx:Inc xs) (j:Nat):Lb xs j (SetTable.below xs j) :=
 go_lb hx _ _ _ (by omega) (by omega) (Nat.le_refl _) (fun k h=>absurd h (Nat.not_lt_zero k)) (fun k a b=>absurd b (by omega))
theorem below_zero {xs:Array Nat} (hx:Inc xs):SetTable.below xs 0=0:=by
 have h:=below_lb hx 0
 rcases Nat.eq_zero_or_pos (SetTable.below xs 0) with z | z
 ·exact z
 ·exact absurd (h.lo 0 z) (Nat.not_lt_zero _)
theorem below_next {xs:Array Nat} (hx:Inc xs) {i:Nat} (hi:i < xs.size):SetTable.below xs (xs.getD i 0 + 1)=i + 1:=by
 have h:=below_lb hx (xs.getD i 0 + 1)
 rcases Nat.lt_trichotomy (SetTable.below xs (xs.getD i 0 + 1)) (i + 1) with z | z | z
 ·have:=h.hi i (by omega) hi
  omega
 ·exact z
 ·have h1:=h.lo (i + 1) z
  have h2:=inc_get hx (show i < i + 1 by omega) (Nat.lt_of_lt_of_le z h.le)
  omega
theorem inc_range (n:Nat):Inc (Array.range n):=by
 unfold Inc
 rw [Array.toList_range]
 exact List.pairwise_lt_range
theorem inc_put {xs:Array Nat} (hx:Inc xs) {j:Nat} (hj:xs[SetTable.below xs j]?≠some j):Inc (SetTable.insertAt xs (SetTable.below xs j) j):=by
 have h:=below_lb hx j
 unfold Inc
 rw [SetTable.toList_insertAt]
 refine List.pairwise_append.mpr ⟨List.Pairwise.sublist (List.take_sublist ..) hx,List.pairwise_cons.mpr ⟨fun y hy=>?_,List.Pairwise.sublist (List.drop_sublist ..) hx⟩,fun a ha y hy=>?_⟩
 ·obtain ⟨k,hk,e⟩:=List.mem_iff_getElem.mp hy
  rw [List.getElem_drop,Array.getElem_toList] at e
  rw [List.length_drop,Array.length_toList] at hk
  have hk':SetTable.below xs j + k < xs.size:=by omega
  have h1:=h.hi (SetTable.below xs j + k) (by omega) hk'
  simp only [Array.getD,dif_pos hk'] at h1
  rcases Nat.eq_zero_or_pos k with z | z
  ·subst z
   have h2:xs[SetTable.below xs j]?=some xs[SetTable.below xs j]:=Array.getElem?_eq_getElem (by omega)
   rcases Nat.lt_or_eq_of_le h1 with q | q
   ·rw [← e]; exact q
   ·refine absurd ?_ hj
    rw [h2]
    exact congrArg some (by simpa using q.symm)
  ·have h2:=inc_get hx (a:=SetTable.below xs j) (b:=SetTable.below xs j + k) (by omega) hk'
   have h3:=h.hi (SetTable.below xs j) (Nat.le_refl _) (by omega)
   simp only [Array.getD,dif_pos hk'] at h2
   rw [← e]
   exact Nat.lt_of_le_of_lt h3 h2
 ·obtain ⟨k,hk,e⟩:=List.mem_iff_getElem.mp ha
  rw [List.getElem_take,Array.getElem_toList] at e
  rw [List.length_take,Array.length_toList] at hk
  have h1:=h.lo k (by omega)
  simp only [Array.getD,dif_pos (show k < xs.size by omega)] at h1
  have hay:a < j:=by rw [← e]; exact h1
  rcases List.mem_cons.mp hy with z | z
  ·rw [z]; exact hay
  ·obtain ⟨m,hm,e2⟩:=List.mem_iff_getElem.mp z
   rw [List.getElem_drop,Array.getElem_toList] at e2
   rw [List.length_drop,Array.length_toList] at hm
   have hm':SetTable.below xs j + m < xs.size:=by omega
   have h2:=h.hi (SetTable.below xs j + m) (by omega) hm'
   simp only [Array.getD,dif_pos hm'] at h2
   rw [← e2]
   exact Nat.lt_of_lt_of_le hay h2
def notLive (t:SetTable) (j:Nat):Prop:=t.place[SetTable.below t.place j]?≠some j
theorem slot_not {t:SetTable} {j:Nat} (h:t.slot j=.empty∨t.slot j=.dummy):notLive t j:=fun e=>by
 unfold SetTable.slot at h
 simp only [e,beq_self_eq_true,if_true] at h
 rcases h with h | h <;> cases h
theorem adv_dummy (t:SetTable) (p:SetTable.Probe):(t.advance p).dummy=p.dummy:=by
 unfold SetTable.advance
 split <;> rfl
theorem probe_not {t:SetTable} {f:Nat→Int} {h:Int}:∀ (n:Nat) (p:SetTable.Probe),(∀ d,p.dummy=some d→notLive t d)→∀ j d,SetTable.probe.go t f h n p=some (.empty j d)→notLive t (d.getD j)
 | 0,p,_,j,d,e=>by simp [SetTable.probe.go] at e
 | n + 1,p,hp,j,d,e=>by
  unfold SetTable.probe.go at e
  cases hs:t.slot p.j with
  | empty =>
   rw [hs] at e
   simp only [Option.some.injEq,SetTable.Met.empty.injEq] at e
   obtain ⟨rfl,rfl⟩:=e
   cases hd:p.dummy with
   | none=>exact slot_not (.inl hs)
   | some d=>exact hp d hd
  | dummy =>
   rw [hs] at e
   refine probe_not n _ (fun d' hd'=>?_) j d e
   rw [adv_dummy] at hd'
   simp only [Option.some.injEq] at hd'
   rw [← hd']; exact slot_not (.inr hs)
  | live i =>
   rw [hs] at e
   simp only at e
   split at e
   ·simp at e
   ·exact probe_not n _ (fun d' hd'=>hp d' (by rw [adv_dummy] at hd'; exact hd')) j d e
theorem free_not {t:SetTable} {h:Int} {j:Nat} {b:Bool} (e:t.freeSlot h=some (j,b)):notLive t j:=by
 unfold SetTable.freeSlot at e
 split at e
 ·rename_i j' d hq
  have:=probe_not (t:=t) _ _ (fun d hd=>by simp [SetTable.probeStart] at hd) _ _ hq
  simp only [Option.some.injEq,Prod.mk.injEq] at e
  rw [← e.1]; exact this
 ·cases e
structure Gd (l:Bool) (t:SetTable):Prop where
 led:t.led=l
 inc:Inc t.place
theorem gd_fresh (l:Bool):Gd l (.fresh 0 0 l):=⟨rfl,by unfold Inc SetTable.fresh; exact .nil⟩
theorem gd_stand {l:Bool} {t:SetTable} (h:Gd l t) (n:Nat):Gd l (t.standIn n):=⟨h.led,inc_range n⟩
theorem gd_lay {l:Bool} {t:SetTable} (h:Gd l t) (es:Array (Int × Value)) (hs:Int) (x:Value):Gd l (layNew t es hs x).2.1:=by
 unfold layNew
 split
 ·rename_i j b e
  have hn:=free_not e
  have g:Gd l (t.put j).1:=⟨h.led,inc_put h.inc hn⟩
  show Gd l ((t.put j).1.orStandIn _)
  unfold SetTable.orStandIn
  split
  ·exact g
  ·exact gd_stand g _
 ·exact gd_stand h _
theorem gd_laid {mask fi mo:Nat} {l pl:Bool} {hs:Array Int} {t:SetTable} {o:Array Nat} (e:SetTable.laid mask fi mo l pl hs=some (t,o)):Gd l t:=by
 unfold SetTable.laid at e
 cases hc:SetTable.layClean mask hs with
 | none=>rw [hc] at e; cases e
 | some ow =>
  rw [hc] at e
  simp only [Option.bind_eq_bind,Option.bind_some,Option.pure_def,Option.some.injEq,Prod.mk.injEq] at e
  rw [← e.1]
  refine ⟨rfl,?_⟩
  unfold Inc
  simp only
  rw [List.map_filterMap]
  have:∀ l:List Nat,l.Pairwise (· < ·)→(l.filterMap fun j=>Option.map (·.1) ((ow.getD j none).map fun x=>(j,x))).Pairwise (· < ·):=fun l hl=>by
   refine List.Pairwise.filterMap _ (fun a a' haa b hb b' hb'=>?_) hl
   cases ha:ow.getD a none with
   | none=>rw [ha] at hb; simp at hb
   | some u =>
    rw [ha] at hb
    cases ha':ow.getD a' none with
    | none=>rw [ha'] at hb'; simp at hb'
    | some u' =>
     rw [ha'] at hb'
     simp only [Option.map_some,Option.some.injEq] at hb hb'
     rw [← hb,← hb']; exact haa
  exact this _ List.pairwise_lt_range
theorem gd_relay {l:Bool} {t:SetTable} (h:Gd l t) (es:Array (Int × Value)) (n:Nat):Gd l (relayAll t es n).2.1:=by
 unfold relayAll
 split
 ·rename_i t' o e
  dsimp only
  split
  ·unfold SetTable.relaid at e
   rw [h.led] at e
   exact gd_laid e
  ·exact gd_stand h _
 ·exact gd_stand h _
end L2.Sx
namespace L2.Sx
open PySem PyProof.Rows
structure SetG (p:Program) (w:World) (l:Bool) (h:Heap) (a:Addr) (o:Obj) (es:Array (Int × Value)) (ep:Nat) (t:SetTable):Prop where
 get:h.get? a=some o
 ex:o.ExactSet
 dat:o.data=.set es ep t
 el:ElemsOf (intKind p w) es.toList
 bd:es.size < scanBound
 fit:t.fits es.size=true
 gd:Gd l t
def SetN (p:Program) (w:World) (l:Bool) (h:Heap) (a:Addr) (ns:List Int):Prop :=
 ∃ o es ep t,SetG p w l h a o es ep t∧(∀ k,k∈ns↔∃ e∈es.toList,(intKind p w).is k e.2=true)∧es.size=ns.length
theorem SetN.keep {p:Program} {w:World} {l:Bool} {h h':Heap} {a:Addr} {ns:List Int} (q:SetN p w l h a ns) (k:∀ o,h.get? a=some o→h'.get? a=some o):SetN p w l h' a ns:=by
 obtain ⟨o,es,ep,t,g,m,z⟩:=q
 exact ⟨o,es,ep,t,⟨k o g.get,g.ex,g.dat,g.el,g.bd,g.fit,g.gd⟩,m,z⟩
def ins (ns:List Int) (k:Int):List Int:=if k∈ns then ns else ns ++ [k]
section
variable {p:Program} {w:World} {A:Around} {E:Value→Shared→Prop} {s:Shared} {l:Bool} {a:Addr}
theorem setG_put {h:Heap} {o:Obj} {es:Array (Int × Value)} {ep:Nat} {t:SetTable} (g:SetG p w l h a o es ep t) {es':Array (Int × Value)} {t':SetTable} (he:ElemsOf (intKind p w) es'.toList) (hb:es'.size < scanBound) (hf:t'.fits es'.size=true) (hg:Gd l t') :
  SetG p w l (h.update a (Obj.putSet es' t')) a { o with data:=.set es' (ep + 1) t' } es' (ep + 1) t':=by
 refine ⟨?_,g.ex,rfl,he,hb,hf,hg⟩
 have q:=Heap.get?_update_self (Obj.putSet es' t') g.get (by rw [putSet_of es' t' g.dat]; rfl)
 rwa [putSet_of es' t' g.dat] at q
theorem add_int {ns:List Int} {k:Int} {u:Tok} {Q:Bool→Shared→Prop} (hS:SetN p w l s.heap a ns) (hr:ns.length + 1 < scanBound) (h:∀ b h',Heap.SameBut a s.heap h'→SetN p w l h' a (ins ns k)→Q b { s with heap:=h' }) :
  wpAny (model p w) A (setAddHashed a (.int k u) ((intKind p w).hash k)) Q E s:=by
 obtain ⟨o,es,ep,t,g,hm,hz⟩:=hS
 have hk:(intKind p w).is k (.int k u)=true:=intKind_is _ _ _ _
 have hsc:(Value.int k u).scannable=true:=rfl
 have hbs:byScan (.int k u) es=true:=byScan_of hsc g.bd g.el
 unfold setAddHashed setAddHashedIn
 refine wpAny_holding (wpAny_bind (wpAny_setState_of g.get g.dat g.fit ?_))
 dsimp only
 rw [if_pos hbs]
 unfold setAddByScan
 refine wpAny_bind (wpAny_bind (wpAny_rule (wpAny_bind (wpAny_setScan_of hk g.get g.dat g.fit g.el ?_))))
 cases hf:es.toList.findIdx? (fun e=>(intKind p w).is k e.2) with
 | some j =>
  obtain ⟨hj,hp,_⟩:=List.findIdx?_eq_some_iff_getElem.mp hf
  have hin:k∈ns:=(hm k).mpr ⟨_,List.getElem_mem hj,hp⟩
  refine wpAny_pure (wpAny_pure (h false s.heap (Heap.SameBut.refl a s.heap) ?_))
  unfold ins
  rw [if_pos hin]
  exact ⟨o,es,ep,t,g,hm,hz⟩
 | none =>
  have hout:k ∉ ns:=fun z=>by
   obtain ⟨e,he,hp⟩:=(hm k).mp z
   have q:=List.findIdx?_eq_none_iff.mp hf e he
   rw [hp] at q; cases q
  have gw:∀ (b:Bool) (s₁:Shared) (R:Unit→Shared→Prop),R () s₁→wpAny (model p w) A (match b with | true=>rule "set.scan.the-table-gave-way" | false=>pure ()) R E s₁:=fun b s₁ R q=>by
   cases b with
   | true=>exact wpAny_rule q
   | false=>exact wpAny_pure q
  have pm:=layNew_perm t es ((intKind p w).hash k) (.int k u)
  have ft:=layNew_fits t es ((intKind p w).hash k) (.int k u)
  have gd:=gd_lay g.gd es ((intKind p w).hash k) (.int k u)
  generalize layNew t es ((intKind p w).hash k) (.int k u)=L at pm ft gd ⊢
  obtain ⟨es1,t1,wd,gv⟩:=L
  dsimp only at pm ft gd ⊢
  rw [Array.toList_push] at pm
  have sz:es1.size=es.size + 1:=by
   rw [← Array.length_toList,pm.length_eq,List.length_append,Array.length_toList]; rfl
  have el1:ElemsOf (intKind p w) es1.toList:=(g.el.push hk hsc).perm pm
  have mem1:∀ k',k'∈ns ++ [k]↔∃ e∈es1.toList,(intKind p w).is k' e.2=true:=fun k'=>by
   rw [List.mem_append,hm k',List.mem_singleton]
   constructor
   ·rintro (⟨e,he,q⟩ | rfl)
    ·exact ⟨e,pm.mem_iff.mpr (List.mem_append_left _ he),q⟩
    ·exact ⟨_,pm.mem_iff.mpr (List.mem_append_right _ (List.mem_singleton.mpr rfl)),hk⟩
   ·rintro ⟨e,he,q⟩
    rcases List.mem_append.mp (pm.mem_iff.mp he) with z | z
    ·exact .inl ⟨e,z,q⟩
    ·rw [List.mem_singleton.mp z] at q
     exact .inr ((intKind p w).inj _ k' k q hk)
  have hins:ins ns k=ns ++ [k]:=by unfold ins; rw [if_neg hout]
  refine wpAny_bind (gw _ _ _ ?_)
  have tail:∀ t2:SetTable,t2.fits es1.size=true→Gd l t2→wpAny (model p w) A (do
    storeSet a es1 t2
    if (!wd && t2.tooFull)=true then do
      (match (relayAll t2 es1 (SetTable.grown es1.size)).2.2 with | true=>rule "set.scan.the-table-gave-way" | false=>pure ())
      storeSet a (relayAll t2 es1 (SetTable.grown es1.size)).1 (relayAll t2 es1 (SetTable.grown es1.size)).2.1
      pure (some true)
     else pure (some true)) (fun r s'=>wpAny (model p w) A (match r with | some b=>pure b | none=>setAddHashedIn a (.int k u) ((intKind p w).hash k) 99999) Q E s') E s:=fun t2 f2 g2=>by
   have G1:=setG_put g el1 (by omega) f2 g2
   have B1:=Heap.SameBut.update s.heap a (Obj.putSet es1 t2)
   refine wpAny_bind (wpAny_storeSet_of g.get g.dat ?_ (fits_of_scanBound (by omega)))
   by_cases hc:(!wd && t2.tooFull)=true
   ·rw [if_pos hc]
    have pm2:=relayAll_perm t2 es1 (SetTable.grown es1.size)
    have ft2:=relayAll_fits t2 es1 (SetTable.grown es1.size)
    have gd2:=gd_relay g2 es1 (SetTable.grown es1.size)
    generalize relayAll t2 es1 (SetTable.grown es1.size)=R at pm2 ft2 gd2 ⊢
    obtain ⟨es2,t3,gv2⟩:=R
    dsimp only at pm2 ft2 gd2 ⊢
    have sz2:es2.size=es1.size:=by rw [← Array.length_toList,pm2.length_eq,Array.length_toList]
    have G2:=setG_put G1 (el1.perm pm2) (by omega) ft2 gd2
    refine wpAny_bind (gw _ _ _ (wpAny_bind (wpAny_storeSet_of G1.get G1.dat ?_ (fits_of_scanBound (by omega)))))
    refine wpAny_pure (wpAny_pure (h true _ (B1.trans (Heap.SameBut.update _ a _)) ?_))
    rw [hins]
    refine ⟨_,es2,_,t3,G2,fun k'=>(mem1 k').trans ⟨fun ⟨e,he,q⟩=>⟨e,pm2.mem_iff.mpr he,q⟩,fun ⟨e,he,q⟩=>⟨e,pm2.mem_iff.mp he,q⟩⟩,?_⟩
    rw [List.length_append,sz2,sz,hz]; rfl
   ·rw [if_neg hc]
    refine wpAny_pure (wpAny_pure (h true _ B1 ?_))
    rw [hins]
    refine ⟨_,es1,_,t2,G1,mem1,?_⟩
    rw [List.length_append,sz,hz]; rfl
  cases hp:t1.plain with
  | true =>
   rw [if_pos rfl,hashByValue_scannable 8 hsc]
   exact wpAny_bind (wpAny_pure (tail t1 ft gd))
  | false =>
   exact wpAny_bind (wpAny_pure (tail t1 ft gd))
end
end L2.Sx
namespace L2.Sx
open PySem PyProof.Rows PySem.Spec
def met (f:Nat→Int) (i:Nat):List Int:=((List.range i).map f).foldl ins []
theorem met_succ (f:Nat→Int) (i:Nat):met f (i + 1)=ins (met f i) (f i):=by
 unfold met
 rw [List.range_succ,List.map_append,List.foldl_append]; rfl
theorem met_len (f:Nat→Int):∀ i,(met f i).length≤i
 | 0=>Nat.le_refl _
 | i + 1=>by
  have z:=met_len f i
  rw [met_succ]
  unfold ins
  split
  ·omega
  ·rw [List.length_append]; simp; omega
section
variable {p:Program} {w:World} {A:Around} {E:Value→Shared→Prop} {s:Shared} {l:Bool}
theorem set_loop {R:Result→Shared→Prop} {I S:Addr} {fp wr:List Addr} {G:Array GenState→Array GenState→Prop} {n:Nat} {P:Nat→Value→Prop} {St:Nat→Shared→Prop} (W:WalksS p w A.in1 I fp wr G n P St) (hS:S ∉ fp) (f:Nat→Int) (hf:∀ i v,P i v→∃ t,v=.int (f i) t) (hb:n + 1 < scanBound) :
  ∀ (k i:Nat) (s:Shared),i + k=n→St i s→SetN p w l s.heap S (met f i)→(∀ s',Moved (S :: wr) G s s'→SetN p w l s'.heap S (met f n)→R (.ok (.ret .none)) s') →
   codeAny (model p w) A (.builtin "set.update.loop" ⟨[.ref S,.ref I],[]⟩) R s:=by
 have hw:S ∉ wr:=fun z=>hS (W.sub _ z)
 have up:∀ b∈wr,b∈S :: wr:=fun b z=>List.mem_cons_of_mem _ z
 intro k
 induction k with
 | zero =>
  intro i s hk st g fin
  obtain rfl:i=n:=by omega
  refine codeAny_builtin PyProof.Rows.F.entry_set_update_loop ?_
  rw [Around.under_plainId PyProof.Rows.F.plain_set_update_loop _]
  show wpAny _ A.in1 (pyNext (.ref I) >>= _) _ _ s
  exact wpAny_bind (W.done s _ _ st fun s' mv=>wpAny_pure (fin s' (mv.mono up) (g.keep fun o e=>mv.heap S o hw e)))
 | succ k ih =>
  intro i s hk st g fin
  refine codeAny_builtin PyProof.Rows.F.entry_set_update_loop ?_
  rw [Around.under_plainId PyProof.Rows.F.plain_set_update_loop _]
  show wpAny _ A.in1 (pyNext (.ref I) >>= _) _ _ s
  refine wpAny_bind (W.item i s _ _ (by omega) st fun v s' hP st' mv=>?_)
  obtain ⟨t,rfl⟩:=hf i v hP
  have g':=g.keep (h':=s'.heap) fun o e=>mv.heap S o hw e
  show wpAny _ A.in1 (holding [Value.int (f i) t] (setAdd S (.int (f i) t)) >>= _) _ _ s'
  unfold setAdd
  refine wpAny_bind (wpAny_holding (wpAny_holding (wpAny_bind ((intKind p w).pyHash (k:=f i) (intKind_is _ _ _ _) ?_))))
  have room:(met f i).length + 1 < scanBound:=by have:=met_len f i; omega
  refine add_int (s:={ s' with toks:=s'.toks + 1 }) g' room fun b h' sb gn=>?_
  rw [← met_succ] at gn
  refine wpAny_pure ⟨plainId_quiet PyProof.Rows.F.plain_set_update_loop _,ih (i + 1) _ (by omega) (W.frame _ s' _ _ st' (Nat.le_succ _) fun c hc o e=>?_) gn fun s'' mv2 gz=>fin s'' (Moved.trans W.gtrans ((mv.mono up).then_heap (Nat.le_succ _) fun c o hc e=>?_) mv2) gz⟩
  ·rw [sb.2 c fun z=>hS (z ▸ hc)]; exact e
  ·rw [sb.2 c fun z=>hc (z ▸ List.mem_cons_self)]; exact e
abbrev ldd (w:World):Bool:=!w.params.followText "set-order"
abbrev eS (w:World):Obj:={ cls:=.type "set",dict:=none,data:=.set #[] 0 (.fresh 0 0 (ldd w)) }
theorem new_set (a:Value) {R:Value→Shared→Prop} (h:R (.ref s.heap.objs.size) { s with heap:=s.heap.push (eS w) }):codeAny (model p w) A (.call (.builtin "set.__new__") ⟨[.type "set",a],[]⟩) (wants R E) s:=by
 refine codeAny_of_tree (show wpAny _ A.in1 (checkBuiltinCall "set.__new__" ⟨[.type "set",a],[]⟩ >>= fun _=>again (.builtin "set.__new__" ⟨[.type "set",a],[]⟩)) _ _ s from ?_)
 refine wpAny_bind (wpAny_of_eq (PySem.F.newCall_set_1 a) (wpAny_pure ⟨plainId_quiet PySem.F.plain_set_new _,codeAny_builtin PySem.F.entry_set_new ?_⟩))
 rw [Around.under_plainId PySem.F.plain_set_new _]
 unfold Builtin.«set.__new__» Builtin.Frozenset.newClass
 have sub:=sub_set_self
 obtain ⟨hp,g,d,tk,os⟩:=s
 dsimp only
 wp_walk
 refine wpAny_askSetting (wpAny_pure ?_)
 simp only [newObj]
 exact wpAny_bind (wpAny_alloc (wpAny_pure (wpAny_pure h)))
end
end L2.Sx
namespace L2.Sx
open PySem PyProof.Rows PySem.Spec
section
variable {p:Program} {w:World} {A:Around} {E:Value→Shared→Prop} {s:Shared}
theorem empty_n {h:Heap} {a:Addr} (e:h.get? a=some (eS w)):SetN p w (ldd w) h a [] :=
 ⟨_,#[],0,_,⟨e,⟨rfl,rfl,rfl⟩,rfl,(fun x hx=>by simp at hx),by decide,rfl,gd_fresh _⟩,(fun k=>by simp),rfl⟩
theorem init_set {l:Addr} {items:Array Value} {ns:List Int} (hh:A.handled=none) (hl:s.heap.IsList l items) (hi:IntsAre items.toList ns) (hb:items.size + 1 < scanBound) {R:Result→Shared→Prop}
  (h:∀ h' tk,SetN p w (ldd w) h' s.heap.objs.size (met (fun i=>ns.getD i 0) items.size)→(∀ b o,s.heap.get? b=some o→h'.get? b=some o)→R (.ok (.ret .none)) { s with heap:=h',toks:=tk }) :
  wpAny (model p w) A.in1 (Builtin.«set.__init__» ⟨[.ref s.heap.objs.size,.ref l],[]⟩) (fun fin s'=>match fin with | .done f=>R (.ok f) s' | .again c'=>c'.quiet=true∧codeAny (model p w) A c' R s') (fun e s'=>R (.error e) s') { s with heap:=s.heap.push (eS w) }:=by
 obtain ⟨ol,hol,hcl,nl,hdl⟩:=hl
 obtain ⟨ocls,odict,odata,oslots⟩:=ol
 simp only at hcl hdl
 subst hcl hdl
 have hS:(s.heap.push (eS w)).get? s.heap.objs.size=some (eS w):=Heap.get?_push_size _ rfl
 have hol':(s.heap.push (eS w)).get? l=some { cls:=.type "list",dict:=odict,data:=.seq items nl,slots:=oslots }:=Heap.get?_push_of_some _ hol
 have q1:=PySem.F.sub_list_set
 have q2:=PySem.F.sub_list_frozenset
 have q3:(Value.type "list" == Value.type "dict")=false:=by decide
 have hl1:(s.heap.push (eS w)).IsList l items:=⟨_,hol',rfl,nl,rfl⟩
 have hlS:l < s.heap.objs.size:=Heap.lt_size hol
 have sz:(s.heap.push (eS w)).objs.size=s.heap.objs.size + 1:=Heap.size_push ..
 unfold Builtin.«set.__init__» noKeywords Builtin.Frozenset.updateFrom
 generalize hp:pyIter=pI
 wp_walk
 subst hp
 refine wpAny_pyIter_list hl1 (wpAny_bind (wpAny_runValue ?_))
 have nI:l≠(s.heap.push (eS w)).objs.size:=by rw [sz]; exact Nat.ne_of_lt (Nat.lt_succ_of_lt hlS)
 have nS:s.heap.objs.size ∉ [(s.heap.push (eS w)).objs.size,l]:=by
  rw [sz]; simp only [List.mem_cons,List.not_mem_nil,or_false,not_or]; exact ⟨Nat.ne_of_lt (Nat.lt_succ_self _),Nat.ne_of_gt hlS⟩
 refine set_loop (A:=A.in1) (l:=ldd w) ((Walks.list (by simp [hh]) _ l nI items).toS) nS (fun i=>ns.getD i 0) (fun i v hv=>IntsAre.int_at hi i v (by rw [Array.getElem?_toList]; exact hv)) hb items.size 0 _ (by omega) ⟨⟨_,Heap.get?_push_size _ rfl,rfl,rfl⟩,hl1.push _⟩ (empty_n (Heap.get?_push_of_some _ hS)) fun s' mv g=>?_
 obtain ⟨h',gn,dr,tk,os⟩:=s'
 obtain rfl:gn=s.gens:=mv.gens
 obtain rfl:dr=s.drawn:=mv.drawn
 obtain rfl:os=s.os:=mv.os
 refine wpAny_pure (wpAny_pure (h h' tk g fun b o e=>?_))
 have hlt:=Heap.lt_size e
 refine mv.heap b o ?_ (Heap.get?_push_of_some _ (Heap.get?_push_of_some _ e))
 rw [sz]
 simp only [List.mem_cons,List.not_mem_nil,or_false,not_or]
 exact ⟨Nat.ne_of_lt hlt,Nat.ne_of_lt (Nat.lt_succ_of_lt hlt)⟩
theorem call_set {l:Addr} {items:Array Value} {ns:List Int} {Q:Value→Shared→Prop} (hh:A.handled=none) (hl:s.heap.IsList l items) (hi:IntsAre items.toList ns) (hb:items.size + 1 < scanBound)
  (h:∀ h' tk,SetN p w (ldd w) h' s.heap.objs.size (met (fun i=>ns.getD i 0) items.size)→(∀ b o,s.heap.get? b=some o→h'.get? b=some o)→Q (.ref s.heap.objs.size) { s with heap:=h',toks:=tk }) :
  wpAny (model p w) A (call (.type "set") [.ref l]) Q E s:=by
 obtain ⟨c,tl,m1⟩:=PySem.F.called_set.mro
 have m2:=PySem.F.called_set.made
 have m3:=PySem.F.called_set.sub
 have m4:=PySem.F.called_set.notType
 have m5:=PySem.F.called_set.canCreate
 have m6:=PySem.F.typeCall_set_1 (.ref l)
 refine wpAny_call (codeAny_of_tree (show wpAny _ _ (callAny (.type "set") _) _ _ _ from wpAny_pure ⟨Code.quiet_builtin _ (by decide +kernel),codeAny_builtin PySem.F.entry_type_call ?_⟩))
 rw [Around.under_plain (weight_type_call_type "set" [.ref l] []) rfl]
 repeat any_goals first | assumption | wp_step
 refine codeAny_mono (new_set (.ref l) (E:=E) (R:=fun v s₁=>v=.ref s.heap.objs.size∧s₁={ s with heap:=s.heap.push (eS w) }) ⟨rfl,rfl⟩) fun r s₁ hr=>?_
 cases r with
 | error e=>exact hr
 | ok fl =>
  cases fl with
  | ret v =>
   obtain ⟨rfl,rfl⟩:=hr
   have hT:Shared.TypeIs { s with heap:=s.heap.push (eS w) } (.ref s.heap.objs.size) "set":=⟨_,Heap.get?_push_size _ rfl,rfl⟩
   have m7:=PySem.F.called_set.init.lookup
   have m8:=PySem.F.called_set.init.bind (.ref s.heap.objs.size)
   repeat any_goals first | assumption | wp_step
   refine codeAny_mono (codeAny_call_builtin (R:=wants (fun r s₂=>r=.none∧∃ h' tk,s₂={ s with heap:=h',toks:=tk }∧SetN p w (ldd w) h' s.heap.objs.size (met (fun i=>ns.getD i 0) items.size)∧∀ b o,s.heap.get? b=some o→h'.get? b=some o) E) PySem.F.called_set.init.plain PySem.F.entry_set_init (check_set_init_1 hT (init_set (by simp [hh]) hl hi hb fun h' tk g k=>⟨rfl,h',tk,rfl,g,k⟩))) fun r₂ s₂ hr₂=>?_
   cases r₂ with
   | error e=>exact hr₂
   | ok f2 =>
    cases f2 with
    | ret r =>
     obtain ⟨rfl,h',tk,rfl,g,k⟩:=hr₂
     repeat any_goals first | assumption | wp_step
     exact h _ _ g k
    | _=>exact hr₂.elim
  | _=>exact hr.elim
end
end L2.Sx
namespace L2.Sx
open PySem PyProof.Rows PySem.Spec
section
variable {p:Program} {w:World} {A:Around} {E:Value→Shared→Prop} {s:Shared} {S:Addr} {o:Obj} {es:Array (Int × Value)} {ep:Nat} {t:SetTable}
def sl (t:SetTable):Nat→Nat
 | 0=>0
 | i + 1=>t.place.getD i 0 + 1
theorem by_text {Q:Bool→Shared→Prop} (h:Q (w.params.followText "set-order") s):wpAny (model p w) A setsByText Q E s:=by
 unfold setsByText
 exact wpAny_bind (wpAny_askSetting (wpAny_pure h))
theorem next_place (g:SetG p w (ldd w) s.heap S o es ep t) (hb:w.params.followText "set-order"=false) (hd:t.plain=true∨es.size≤1) {i:Nat} (hi:i≤es.size) {Q:Option (Value × Nat)→Shared→Prop} (h:Q (es[i]?.map fun e=>(e.2,sl t (i + 1))) s) :
  wpAny (model p w) A (setNext S (sl t i) i ep) Q E s:=by
 unfold setNext
 refine wpAny_bind (wpAny_setState_of g.get g.dat g.fit (wpAny_bind (by_text ?_)))
 rw [hb]
 have dr:(!t.plain && decide (es.size > 1))=false:=by
  rcases hd with z | z
  ·rw [z]; rfl
  ·rw [decide_eq_false (by omega)]; simp
 refine wpAny_ite_split (fun q=>absurd q Bool.false_ne_true) fun _=>?_
 refine wpAny_ite_split (fun q=>absurd (show (!t.plain && decide (es.size > 1))=true from q) (by rw [dr]; exact Bool.false_ne_true)) fun _=>?_
 have ld:t.led=true:=by rw [g.gd.led]; show (!w.params.followText "set-order")=true; rw [hb]; rfl
 refine wpAny_bind (show wpAny _ _ (if (!t.led && !es.isEmpty)=true then unsupported "set:maker-not-led" else pure ()) _ _ _ from ?_)
 rw [if_neg (by rw [ld]; simp)]
 refine wpAny_pure ?_
 have sz:t.place.size=es.size:=by have f:=g.fit; simp only [SetTable.fits,Bool.and_eq_true,beq_iff_eq] at f; exact f.1
 have hbl:SetTable.below t.place (sl t i)=i:=by
  cases i with
  | zero=>exact below_zero g.gd.inc
  | succ i=>exact below_next g.gd.inc (by omega)
 dsimp only
 rw [hbl]
 refine wpAny_pure ?_
 by_cases hlt:i < es.size
 ·have h1:es[i]?=some es[i]:=Array.getElem?_eq_getElem hlt
  have h2:t.place[i]?=some (t.place.getD i 0):=by
   rw [Array.getElem?_eq_getElem (by omega)]; simp only [Array.getD,dif_pos (show i < t.place.size by omega)]; rfl
  rw [h1,h2]
  rw [h1] at h
  exact h
 ·have h1:es[i]?=none:=Array.getElem?_eq_none (by omega)
  rw [h1]
  rw [h1] at h
  exact h
theorem next_text (g:SetG p w (ldd w) s.heap S o es ep t) (hb:w.params.followText "set-order"=true) {i j:Nat} {Q:Option (Value × Nat)→Shared→Prop} (h:Q ((pickOrder (w.params.setOrder S ep) es)[i]?.map fun e=>(e.2,j)) s) :
  wpAny (model p w) A (setNext S j i ep) Q E s:=by
 unfold setNext
 refine wpAny_bind (wpAny_setState_of g.get g.dat g.fit (wpAny_bind (by_text ?_)))
 rw [hb]
 refine wpAny_ite_split (fun _=>?_) fun q=>absurd rfl q
 refine wpAny_ite_split (fun q=>absurd q (by simp)) fun _=>?_
 unfold setWalk
 refine wpAny_bind (wpAny_bind (wpAny_setState_of g.get g.dat g.fit (wpAny_bind (by_text ?_))))
 rw [hb]
 refine wpAny_ite_split (fun _=>?_) fun q=>absurd rfl q
 exact wpAny_bind (wpAny_askSetting (wpAny_pure (wpAny_pure h)))
end
end L2.Sx
namespace L2.Sx
open PySem PyProof.Rows PySem.Spec
theorem si_slot:Slot "set_iterator" "__next__" "set_iterator.__next__" :=
 .of (owner:="set_iterator") (n:="__next__") (by rw [typeLookup_type,builtinLookup_eq_fast]; kernel_rfl) (by decide +kernel) (by decide +kernel) (by decide +kernel)
  (by first | exact .inr (by decide +kernel) | exact .inl (by decide +kernel)) (by rw [isSubtype_type]; kernel_rfl)
theorem si_entry:entryFor table "set_iterator.__next__"=some Builtin.«set_iterator.__next__»:=entryFor_of_tree (by kernel_rfl)
theorem si_owner:Manifest.owners.lookup (String.ofList ['r','o','t','a','r','e','t','i','_','t','e','s'].reverse)=some Manifest.sig_set_iterator:=by kernel_rfl
theorem si_args (a:Value):argsOk "set_iterator.__next__" ⟨[a],[]⟩:=by
 unfold argsOk; rw [signature?_of (id:="set_iterator.__next__") (n:=['_','_','t','x','e','n','_','_']) (o:=['r','o','t','a','r','e','t','i','_','t','e','s']) (by kernel_rfl) si_owner]; kernel_rfl
theorem si_slotI:Slot "set_iterator" "__iter__" "set_iterator.__iter__" :=
 .of (owner:="set_iterator") (n:="__iter__") (by rw [typeLookup_type,builtinLookup_eq_fast]; kernel_rfl) (by decide +kernel) (by decide +kernel) (by decide +kernel)
  (by first | exact .inr (by decide +kernel) | exact .inl (by decide +kernel)) (by rw [isSubtype_type]; kernel_rfl)
theorem si_entryI:entryFor table "set_iterator.__iter__"=some Builtin.«dict_keyiterator.__iter__»:=entryFor_alias (id':="dict_keyiterator.__iter__") (by kernel_rfl) rfl (by decide +kernel) (by kernel_rfl)
theorem si_argsI (a:Value):argsOk "set_iterator.__iter__" ⟨[a],[]⟩:=by unfold argsOk; kernel_rfl
theorem st_entry:entryFor table "set.__iter__"=some Builtin.«frozenset.__iter__»:=entryFor_alias (id':="frozenset.__iter__") (by kernel_rfl) rfl (by decide +kernel) (by kernel_rfl)
def IsSI (h:Heap) (I:Addr) (f:Value) (i:Nat) (S:Addr) (n ep:Nat):Prop:=∃ o,h.get? I=some o∧o.cls=.type "set_iterator"∧o.data=.fields #[f,.int i 0,.ref S,.int n 0,.int ep 0]
section
variable {p:Program} {w:World} {A:Around} {E:Value→Shared→Prop} {s:Shared} {I S:Addr} {o:Obj} {es:Array (Int × Value)} {ep:Nat} {t:SetTable}
theorem IsSI.ty {f:Value} {i n:Nat} (q:IsSI s.heap I f i S n ep):s.TypeIs (.ref I) "set_iterator":=let ⟨x,a,b,_⟩:=q; ⟨x,a,b⟩
theorem si_self {f:Value} {i n:Nat} {Q:Value→Shared→Prop} (q:IsSI s.heap I f i S n ep) (h:Q (.ref I) s):wpAny (model p w) A (pyIter (.ref I)) Q E s:=by
 refine wpAny_pyIter_slot q.ty si_slotI (wpAny_call_entry si_slotI q.ty si_entryI (show wpAny _ _ (ret (.ref I)) _ _ s from ?_) (si_argsI _))
 exact wpAny_pure ⟨_,rfl,"set_iterator",_,q.ty,si_slot.lookup,h⟩
theorem IsSI.put {h:Heap} {f x:Value} {i n:Nat} (q:IsSI h I f i S n ep):IsSI (h.update I (Obj.mapFields (·.setIfInBounds 0 x))) I x i S n ep∧∀ j:Nat,IsSI (h.update I (Obj.mapFields (·.setIfInBounds 1 (rawInt j)))) I f j S n ep:=by
 obtain ⟨a,b,c,d⟩:=q
 refine ⟨⟨_,Heap.get?_update_self _ b (Obj.isFreed_of_fields (Obj.data_mapFields d _)),(Obj.cls_mapFields ..).trans c,?_⟩,fun j=>⟨_,Heap.get?_update_self _ b (Obj.isFreed_of_fields (Obj.data_mapFields d _)),(Obj.cls_mapFields ..).trans c,?_⟩⟩
 ·rw [Obj.data_mapFields d]; simp
 ·rw [Obj.data_mapFields d]; simp [rawInt]
theorem si_item {u:Nat} {i:Nat} {x:Value} {nx:Nat} (q:IsSI s.heap I (.int u 0) i S es.size ep) (g:SetG p w (ldd w) s.heap S o es ep t) {Q:Option Value→Shared→Prop}
  (hn:∀ (A:Around) (E:Value→Shared→Prop) (R:Option (Value × Nat)→Shared→Prop),R (some (x,nx)) s→wpAny (model p w) A (setNext S u i ep) R E s)
  (h:∀ h',IsSI h' I (.int nx 0) (i + 1) S es.size ep→Heap.SameBut I s.heap h'→Q (some x) { s with heap:=h' }):wpAny (model p w) A (pyNext (.ref I)) Q E s:=by
 obtain ⟨oi,i1,i2,i3⟩:=id q
 unfold pyNext
 refine wpAny_bind (wpAny_attempt (wpAny_callSpecial?_slot (name:=Str.ofString "__next__") q.ty si_slot (wpAny_call_entry si_slot q.ty si_entry ?_ (si_args _))))
 unfold Builtin.«set_iterator.__next__»
 refine wpAny_bind (wpAny_pure (wpAny_bind (wpAny_fieldsOf i1 i3 ?_)))
 dsimp only
 refine wpAny_bind (wpAny_setEntries_of g.get g.dat g.fit ?_)
 refine wpAny_ite_split (fun z=>absurd z (by simp)) fun _=>?_
 dsimp only [Int.toNat_natCast]
 refine wpAny_bind (hn _ _ _ ?_)
 dsimp only
 have q1:=(q.put (x:=rawInt nx)).1
 obtain ⟨oj,j1,j2,j3⟩:=id q1
 refine wpAny_bind (wpAny_setField i1 i3 (by simp) (wpAny_bind (wpAny_setField j1 j3 (by simp) (wpAny_pure ⟨x,rfl,wpAny_pure (h _ ?_ ((Heap.SameBut.update ..).trans (Heap.SameBut.update ..)))⟩))))
 exact (q1.put (x:=.none)).2 (i + 1)
theorem stop_none {Q:Option Value→Shared→Prop} (hh:A.handled=none) (h:∀ h',(∀ b o,s.heap.get? b=some o→h'.get? b=some o)→Q none { s with heap:=h' }) :
  wpAny (model p w) A.in1 (newExc (.type "StopIteration") [] >>= fun x=>raiseNew (α:=Fin) x) (fun fin s'=>∃ v,fin=Fin.done (Flow.ret v)∧wpAny (model p w) A (pure (some v)) Q E s')
   (fun e s'=>wpAny (model p w) A (isInstance e (Value.type "StopIteration") >>= fun b=>if b=true then pure none else throw e) Q E s') s:=by
 refine wpAny_bind ?_
 simp only [newExc,newTuple]
 refine wpAny_bind (wpAny_newObj_type ?_ (by size_fits))
 refine wpAny_bind (m:=firstArgMember _ _) (wpAny_of_eq (a:=Value.none) (by first | (simp only [firstArgMember]; rfl) | rfl) ?_)
 refine wpAny_newObj_type ?_ (by size_fits)
 simp only [raiseNew]
 refine wpAny_bind (wpAny_handled ?_)
 rw [show A.in1.handled=none from hh]
 refine wpAny_bind (wpAny_pure (wpAny_throw ?_))
 refine wpAny_bind (wpAny_isInstance (T:="StopIteration") (b:=true) ⟨_,Heap.get?_push_size _ rfl,rfl⟩ isSubtype_stop (wpAny_pure (h _ fun b o e=>?_)))
 exact Heap.get?_push_of_some _ (Heap.get?_push_of_some _ e)
theorem si_end {u:Nat} {i:Nat} (hh:A.handled=none) (q:IsSI s.heap I (.int u 0) i S es.size ep) (g:SetG p w (ldd w) s.heap S o es ep t) {Q:Option Value→Shared→Prop}
  (hn:∀ (A:Around) (E:Value→Shared→Prop) (R:Option (Value × Nat)→Shared→Prop),R none s→wpAny (model p w) A (setNext S u i ep) R E s)
  (h:∀ h',(∀ b o,b≠I→s.heap.get? b=some o→h'.get? b=some o)→Q none { s with heap:=h' }):wpAny (model p w) A (pyNext (.ref I)) Q E s:=by
 obtain ⟨oi,i1,i2,i3⟩:=id q
 unfold pyNext
 refine wpAny_bind (wpAny_attempt (wpAny_callSpecial?_slot (name:=Str.ofString "__next__") q.ty si_slot (wpAny_call_entry si_slot q.ty si_entry ?_ (si_args _))))
 unfold Builtin.«set_iterator.__next__»
 refine wpAny_bind (wpAny_pure (wpAny_bind (wpAny_fieldsOf i1 i3 ?_)))
 dsimp only
 refine wpAny_bind (wpAny_setEntries_of g.get g.dat g.fit ?_)
 refine wpAny_ite_split (fun z=>absurd z (by simp)) fun _=>?_
 dsimp only [Int.toNat_natCast]
 refine wpAny_bind (hn _ _ _ ?_)
 dsimp only
 refine wpAny_bind (wpAny_setField i1 i3 (by simp) ?_)
 refine stop_none (s:={ s with heap:=s.heap.update I (Obj.mapFields (·.setIfInBounds 2 Value.none)) }) hh fun h' k=>h h' fun b o hb e=>k b o ?_
 rw [(Heap.SameBut.update s.heap I _).2 b hb]; exact e
theorem walk_slots {vs:List Value} {f:Nat→Nat} (hh:A.handled=none) (hne:S≠I) (hl:vs.length=es.size)
  (hn:∀ (s:Shared) (i:Nat) (A:Around) (E:Value→Shared→Prop) (R:Option (Value × Nat)→Shared→Prop),i≤es.size→SetG p w (ldd w) s.heap S o es ep t→R (vs[i]?.map fun v=>(v,f (i + 1))) s→wpAny (model p w) A (setNext S (f i) i ep) R E s) :
  Walks p w A I [I,S] [I] vs.length (fun i v=>vs[i]?=some v) (fun i h=>i≤vs.length∧IsSI h I (.int (f i) 0) i S es.size ep∧SetG p w (ldd w) h S o es ep t) where
 sub:=fun b hb=>by simp at hb; simp [hb]
 frame:=fun i h h' st k=>by
  obtain ⟨st0,⟨x,a,b,c⟩,g⟩:=st
  exact ⟨st0,⟨x,k I (by simp) x a,b,c⟩,⟨k S (by simp) o g.get,g.ex,g.dat,g.el,g.bd,g.fit,g.gd⟩⟩
 item:=fun i s Q E hi st hQ=>by
  obtain ⟨st0,q,g⟩:=st
  have e:vs[i]?=some vs[i]:=List.getElem?_eq_getElem hi
  refine si_item (x:=vs[i]) (nx:=f (i + 1)) q g (fun A E R r=>hn s i A E R (by omega) g (by rw [e]; exact r)) fun h' q' sb=>hQ _ h' s.toks e ⟨hi,q',?_⟩ fun b o' hb e'=>?_
  ·exact ⟨by rw [sb.2 S hne]; exact g.get,g.ex,g.dat,g.el,g.bd,g.fit,g.gd⟩
  ·rw [sb.2 b fun z=>hb (by simp [z])]; exact e'
 done:=fun s Q E st hQ=>by
  obtain ⟨st0,q,g⟩:=st
  exact si_end hh q g (fun A E R r=>hn s _ A E R (by omega) g (by rw [List.getElem?_eq_none (Nat.le_refl _)]; exact r)) fun h' k=>hQ h' s.toks fun b o' hb e'=>k b o' (fun z=>hb (by simp [z])) e'
 self:=fun i s Q E st hQ=>si_self st.2.1 hQ
end
end L2.Sx
namespace L2.Sx
open PySem PyProof.Rows PySem.Spec
section
variable {p:Program} {w:World} {A:Around} {E:Value→Shared→Prop} {s:Shared} {I S T:Addr} {o:Obj} {es:Array (Int × Value)} {ep:Nat} {t:SetTable}
theorem erase_perm {α:Type}:∀ (l:List α) (i:Nat) (h:i < l.length),(l[i] :: l.eraseIdx i).Perm l
 | x :: l,0,_=>.refl _
 | x :: l,i + 1,h=>by
  have:=erase_perm l i (by simpa using h)
  simp only [List.getElem_cons_succ,List.eraseIdx_cons_succ]
  exact (List.Perm.swap ..).trans (this.cons x)
theorem choose_any {n:Nat} {src:Source} {Q:Nat→Shared→Prop} (hn:n≠0) (h:∀ i d,i < n→Q i { s with drawn:=d }):wpAny (model p w) A (choose src n) Q E s:=by
 intro Γ q hA
 show Sem.wp _ _ (.choose src n .pure) _ _ _ _
 rw [Sem.wp_choose]
 exact ⟨hn,h _ _ (Nat.mod_lt _ (Nat.pos_of_ne_zero hn))⟩
theorem draw_any {α:Type}:∀ (n:Nat) (xs:List α) (s:Shared) (Q:List α→Shared→Prop),xs.length=n→(∀ ys d,ys.Perm xs→Q ys { s with drawn:=d })→wpAny (model p w) A (drawOrder n xs) Q E s
 | 0,xs,s,Q,hl,h=>by
  obtain rfl:xs=[]:=List.length_eq_zero_iff.mp hl
  unfold drawOrder
  exact wpAny_pure (h [] s.drawn (.refl _))
 | n + 1,[],s,Q,hl,h=>by simp at hl
 | n + 1,x :: xs,s,Q,hl,h=>by
  unfold drawOrder
  refine wpAny_bind (choose_any (by simp) fun i d hi=>?_)
  have e:(x :: xs)[i]?=some (x :: xs)[i]:=List.getElem?_eq_getElem hi
  rw [e]
  refine wpAny_bind (draw_any n _ _ _ (by rw [List.length_eraseIdx,if_pos hi]; simp at hl ⊢; omega) fun ys d2 pm=>?_)
  refine wpAny_pure (h _ d2 ?_)
  exact (List.Perm.cons _ pm).trans (erase_perm _ i hi)
theorem sd_item {os:List Nat} {i j:Nat} {e:Int × Value} {oT:Obj} {nT:Nat} (q:IsSI s.heap I (.ref T) i S es.size ep) (g:SetG p w (ldd w) s.heap S o es ep t) (hT:s.heap.get? T=some oT) (dT:oT.data=.seq (os.map fun n:Nat=>rawInt (n:Int)).toArray nT) (hj:os[i]?=some j) (he:es[j]?=some e) {Q:Option Value→Shared→Prop}
  (h:∀ h',IsSI h' I (.ref T) (i + 1) S es.size ep→Heap.SameBut I s.heap h'→Q (some e.2) { s with heap:=h' }):wpAny (model p w) A (pyNext (.ref I)) Q E s:=by
 obtain ⟨oi,i1,i2,i3⟩:=id q
 unfold pyNext
 refine wpAny_bind (wpAny_attempt (wpAny_callSpecial?_slot (name:=Str.ofString "__next__") q.ty si_slot (wpAny_call_entry si_slot q.ty si_entry ?_ (si_args _))))
 unfold Builtin.«set_iterator.__next__»
 refine wpAny_bind (wpAny_pure (wpAny_bind (wpAny_fieldsOf i1 i3 ?_)))
 dsimp only
 refine wpAny_bind (wpAny_setEntries_of g.get g.dat g.fit ?_)
 refine wpAny_ite_split (fun z=>absurd z (by simp)) fun _=>?_
 dsimp only [Int.toNat_natCast]
 refine wpAny_bind (wpAny_seqItems hT dT ?_)
 dsimp only
 have e1:(os.map fun n:Nat=>rawInt (n:Int)).toArray[i]?=some (rawInt (j:Int)):=by
  rw [List.getElem?_toArray,List.getElem?_map,hj]; rfl
 rw [e1]
 dsimp only [rawInt,Int.toNat_natCast]
 unfold setNextDrawn
 refine wpAny_bind (wpAny_bind (wpAny_setState_of g.get g.dat g.fit ?_))
 refine wpAny_ite_split (fun z=>absurd z (by simp)) fun _=>?_
 rw [he]
 refine wpAny_pure (wpAny_bind (wpAny_setField i1 i3 (by simp) (wpAny_pure ⟨e.2,rfl,wpAny_pure (h _ ?_ (Heap.SameBut.update ..))⟩)))
 exact (q.put (x:=.none)).2 (i + 1)
theorem sd_end {os:List Nat} {i:Nat} {oT:Obj} {nT:Nat} (hh:A.handled=none) (q:IsSI s.heap I (.ref T) i S es.size ep) (g:SetG p w (ldd w) s.heap S o es ep t) (hT:s.heap.get? T=some oT) (dT:oT.data=.seq (os.map fun n:Nat=>rawInt (n:Int)).toArray nT) (hj:os[i]?=none) {Q:Option Value→Shared→Prop}
  (h:∀ h',(∀ b o,b≠I→s.heap.get? b=some o→h'.get? b=some o)→Q none { s with heap:=h' }):wpAny (model p w) A (pyNext (.ref I)) Q E s:=by
 obtain ⟨oi,i1,i2,i3⟩:=id q
 unfold pyNext
 refine wpAny_bind (wpAny_attempt (wpAny_callSpecial?_slot (name:=Str.ofString "__next__") q.ty si_slot (wpAny_call_entry si_slot q.ty si_entry ?_ (si_args _))))
 unfold Builtin.«set_iterator.__next__»
 refine wpAny_bind (wpAny_pure (wpAny_bind (wpAny_fieldsOf i1 i3 ?_)))
 dsimp only
 refine wpAny_bind (wpAny_setEntries_of g.get g.dat g.fit ?_)
 refine wpAny_ite_split (fun z=>absurd z (by simp)) fun _=>?_
 dsimp only [Int.toNat_natCast]
 refine wpAny_bind (wpAny_seqItems hT dT ?_)
 dsimp only
 have e1:(os.map fun n:Nat=>rawInt (n:Int)).toArray[i]?=none:=by
  rw [List.getElem?_toArray,List.getElem?_map,hj]; rfl
 rw [e1]
 dsimp only
 have q1:=(q.put (x:=rawInt 0)).1
 obtain ⟨oj,j1,j2,j3⟩:=id q1
 refine wpAny_bind (wpAny_setField i1 i3 (by simp) (wpAny_bind (wpAny_setField j1 j3 (by simp) ?_)))
 refine stop_none (s:={ s with heap:=(s.heap.update I (Obj.mapFields (·.setIfInBounds 0 (rawInt 0)))).update I (Obj.mapFields (·.setIfInBounds 2 Value.none)) }) hh fun h' k=>h h' fun b o hb e=>k b o ?_
 rw [(Heap.SameBut.update _ I _).2 b hb,(Heap.SameBut.update s.heap I _).2 b hb]; exact e
theorem walk_drawn {os:List Nat} (hh:A.handled=none) (hne:S≠I) (hT:T≠I) (hp:os.Perm (List.range es.size)) :
  Walks p w A I [I,S,T] [I] os.length (fun i v=>∃ j e,os[i]?=some j∧es[j]?=some e∧v=e.2) (fun i h=>i≤os.length∧IsSI h I (.ref T) i S es.size ep∧SetG p w (ldd w) h S o es ep t∧∃ oT nT,h.get? T=some oT∧oT.data=.seq (os.map fun n:Nat=>rawInt (n:Int)).toArray nT) where
 sub:=fun b hb=>by simp at hb; simp [hb]
 frame:=fun i h h' st k=>by
  obtain ⟨st0,⟨x,a,b,c⟩,g,oT,nT,d1,d2⟩:=st
  exact ⟨st0,⟨x,k I (by simp) x a,b,c⟩,⟨k S (by simp) o g.get,g.ex,g.dat,g.el,g.bd,g.fit,g.gd⟩,oT,nT,k T (by simp) oT d1,d2⟩
 item:=fun i s Q E hi st hQ=>by
  obtain ⟨st0,q,g,oT,nT,d1,d2⟩:=st
  have e:os[i]?=some os[i]:=List.getElem?_eq_getElem hi
  have hj:os[i] < es.size:=List.mem_range.mp (hp.mem_iff.mp (List.getElem_mem hi))
  have e2:es[os[i]]?=some es[os[i]]:=Array.getElem?_eq_getElem hj
  refine sd_item q g d1 d2 e e2 fun h' q' sb=>hQ _ h' s.toks ⟨_,_,e,e2,rfl⟩ ⟨hi,q',?_,oT,nT,by rw [sb.2 T hT]; exact d1,d2⟩ fun b o' hb e'=>?_
  ·exact ⟨by rw [sb.2 S hne]; exact g.get,g.ex,g.dat,g.el,g.bd,g.fit,g.gd⟩
  ·rw [sb.2 b fun z=>hb (by simp [z])]; exact e'
 done:=fun s Q E st hQ=>by
  obtain ⟨st0,q,g,oT,nT,d1,d2⟩:=st
  exact sd_end hh q g d1 d2 (List.getElem?_eq_none (Nat.le_refl _)) fun h' k=>hQ h' s.toks fun b o' hb e'=>k b o' (fun z=>hb (by simp [z])) e'
 self:=fun i s Q E st hQ=>si_self st.2.1 hQ
end
end L2.Sx
namespace L2.Sx
open PySem PyProof.Rows PySem.Spec PySem.W PySem.Calls
structure Grown (s s':Shared):Prop where
 keep:∀ b o,s.heap.get? b=some o→s'.heap.get? b=some o
 gens:s'.gens=s.gens
 os:s'.os=s.os
theorem Grown.trans {s s' s'':Shared} (a:Grown s s') (b:Grown s' s''):Grown s s'':=⟨fun x o e=>b.keep x o (a.keep x o e),b.gens.trans a.gens,b.os.trans a.os⟩
structure SWalk (p:Program) (w:World) (s s':Shared) (S I:Addr) (es:Array (Int × Value)):Prop where
 gr:Grown s s'
 new:s.heap.objs.size≤I
 wk:∃ (fp:List Addr) (n:Nat) (P:Nat→Value→Prop) (St:Nat→Heap→Prop) (vs:List Value),(∀ A:Around,A.handled=none→Walks p w A I fp [I] n P St)∧St 0 s'.heap∧(∀ b∈fp,b=S∨s.heap.objs.size≤b)∧vs.length=n∧(∀ i v,P i v→vs[i]?=some v)∧vs.Perm (es.toList.map (·.2))
theorem pick_go {α:Type} (f:Nat→Nat):∀ (n k:Nat) (l:List α) (out:Array α),l.length=n→(pickOrder.go f n k l out).toList.Perm (out.toList ++ l)
 | 0,k,l,out,h=>by
  obtain rfl:l=[]:=List.length_eq_zero_iff.mp h
  simp [pickOrder.go]
 | n + 1,k,l,out,h=>by
  have hi:f k % l.length < l.length:=Nat.mod_lt _ (by omega)
  unfold pickOrder.go
  rw [List.getElem?_eq_getElem hi]
  refine (pick_go f n (k + 1) _ _ (by rw [List.length_eraseIdx,if_pos hi]; omega)).trans ?_
  rw [Array.toList_push,List.append_assoc]
  exact List.Perm.append_left _ (erase_perm l _ hi)
theorem pick_perm {α:Type} (f:Nat→Nat) (xs:Array α):(pickOrder f xs).toList.Perm xs.toList:=by
 have:=pick_go f xs.size 0 xs.toList #[] (by simp)
 simpa [pickOrder] using this
section
variable {p:Program} {w:World} {A:Around} {E:Value→Shared→Prop} {s:Shared} {S:Addr} {o:Obj} {es:Array (Int × Value)} {ep:Nat} {t:SetTable}
theorem setG_keep {h h':Heap} (g:SetG p w (ldd w) h S o es ep t) (k:∀ b o,h.get? b=some o→h'.get? b=some o):SetG p w (ldd w) h' S o es ep t:=⟨k _ _ g.get,g.ex,g.dat,g.el,g.bd,g.fit,g.gd⟩
theorem set_iter (g:SetG p w (ldd w) s.heap S o es ep t) {Q:Value→Shared→Prop} (h:∀ I s',SWalk p w s s' S I es→Q (.ref I) s'):wpAny (model p w) A (pyIter (.ref S)) Q E s:=by
 have ty:s.TypeIs (.ref S) "set":=⟨o,g.get,g.ex.1⟩
 have hS:S < s.heap.objs.size:=Heap.lt_size g.get
 refine wpAny_pyIter_slot ty PySem.F.slot_set_iter (wpAny_call_entry PySem.F.slot_set_iter ty st_entry ?_ (PySem.F.args_set_iter_1 _))
 unfold Builtin.«frozenset.__iter__» Builtin.Frozenset.slot0 Builtin.Frozenset.sizeOf
 refine wpAny_bind (wpAny_bind (wpAny_pure (wpAny_pure ?_)))
 refine wpAny_bind (wpAny_bind (wpAny_setEntries_of g.get g.dat g.fit (wpAny_pure ?_)))
 unfold setDrawn
 refine wpAny_bind (wpAny_bind (wpAny_setState_of g.get g.dat g.fit (wpAny_bind (by_text (wpAny_pure ?_)))))
 refine wpAny_ite_split (fun hd=>?_) fun hd=>?_
 ·have hd':(!w.params.followText "set-order" && (!t.plain && decide (es.size > 1)))=true:=hd
  refine wpAny_bind (draw_any es.size (List.range es.size) _ _ List.length_range fun os d pm=>?_)
  have lo:os.length=es.size:=by rw [pm.length_eq,List.length_range]
  refine wpAny_bind (wpAny_newTuple ?_ (by rw [List.length_map,lo]; exact fits_of_scanBound g.bd))
  refine wpAny_bind (wpAny_setEpoch_of (Heap.get?_push_of_some _ g.get) g.dat g.fit ?_)
  refine wpAny_bind (wpAny_newObj_type (wpAny_pure ⟨_,rfl,"set_iterator",_,⟨_,Heap.get?_push_size _ rfl,rfl⟩,si_slot.lookup,h _ _ ?_⟩))
  refine ⟨⟨fun b o e=>Heap.get?_push_of_some _ (Heap.get?_push_of_some _ e),rfl,rfl⟩,by rw [Heap.size_push]; exact Nat.le_succ _,?_⟩
  have nS:S≠(s.heap.push { cls:=.type "tuple",data:=.seq (os.map fun n:Nat=>rawInt (n:Int)).toArray }).objs.size:=by rw [Heap.size_push]; exact Nat.ne_of_lt (Nat.lt_succ_of_lt hS)
  have nT:s.heap.objs.size≠(s.heap.push { cls:=.type "tuple",data:=.seq (os.map fun n:Nat=>rawInt (n:Int)).toArray }).objs.size:=by rw [Heap.size_push]; exact Nat.ne_of_lt (Nat.lt_succ_self _)
  refine ⟨_,_,_,_,os.map fun j=>(es.getD j (0,.none)).2,fun A hA=>walk_drawn (o:=o) (t:=t) (ep:=ep) hA nS nT pm,⟨Nat.zero_le _,⟨_,Heap.get?_push_size _ rfl,rfl,rfl⟩,setG_keep g fun b o e=>Heap.get?_push_of_some _ (Heap.get?_push_of_some _ e),_,_,Heap.get?_push_of_some _ (Heap.get?_push_size _ rfl),rfl⟩,?_,?_,?_,?_⟩
  ·intro b hb
   simp only [List.mem_cons,List.not_mem_nil,or_false] at hb
   rcases hb with rfl | rfl | rfl
   ·exact .inr (by rw [Heap.size_push]; exact Nat.le_succ _)
   ·exact .inl rfl
   ·exact .inr (Nat.le_refl _)
  ·rw [List.length_map]
  ·rintro i v ⟨j,e,e1,e2,rfl⟩
   rw [List.getElem?_map,e1]
   show some (es.getD j (0,.none)).2=some e.2
   obtain ⟨hj,e3⟩:=Array.getElem?_eq_some_iff.mp e2
   simp only [Array.getD,dif_pos hj]
   exact congrArg (fun x:Int × Value=>some x.2) e3
  ·refine (pm.map _).trans ?_
   have:(List.range es.size).map (fun j=>(es.getD j (0,.none)).2)=es.toList.map (·.2):=by
    refine List.ext_getElem? fun i=>?_
    rw [List.getElem?_map,List.getElem?_map]
    by_cases hi:i < es.size
    ·have h2:es.toList[i]?=some (es.getD i (0,.none)):=by
      rw [Array.getElem?_toList,Array.getElem?_eq_getElem hi]; simp only [Array.getD,dif_pos hi]; rfl
     rw [List.getElem?_range hi,h2]; rfl
    ·have h2:es.toList[i]?=none:=by rw [Array.getElem?_toList]; exact Array.getElem?_eq_none (by omega)
     rw [List.getElem?_eq_none (by rw [List.length_range]; omega),h2]; rfl
   rw [this]
 ·have hd':¬ (!w.params.followText "set-order" && (!t.plain && decide (es.size > 1)))=true:=hd
  refine wpAny_bind (wpAny_pure (wpAny_bind (wpAny_setEpoch_of g.get g.dat g.fit ?_)))
  refine wpAny_bind (wpAny_newObj_type (wpAny_pure ⟨_,rfl,"set_iterator",_,⟨_,Heap.get?_push_size _ rfl,rfl⟩,si_slot.lookup,h _ _ ?_⟩))
  refine ⟨⟨fun b o e=>Heap.get?_push_of_some _ e,rfl,rfl⟩,Nat.le_refl _,?_⟩
  have nS:S≠s.heap.objs.size:=Nat.ne_of_lt hS
  have fpo:∀ b∈[s.heap.objs.size,S],b=S∨s.heap.objs.size≤b:=fun b hb=>by
   simp only [List.mem_cons,List.not_mem_nil,or_false] at hb
   rcases hb with rfl | rfl
   ·exact .inr (Nat.le_refl _)
   ·exact .inl rfl
  have gk:SetG p w (ldd w) (s.heap.push { cls:=.type "set_iterator",data:=.fields [rawInt 0,rawInt 0,.ref S,rawInt es.size,rawInt ep].toArray }) S o es ep t:=setG_keep g fun b o e=>Heap.get?_push_of_some _ e
  cases hb:w.params.followText "set-order" with
  | false =>
   rw [hb] at hd'
   have hpl:t.plain=true∨es.size≤1:=by
    cases hp:t.plain with
    | true=>exact .inl rfl
    | false =>
     rw [hp] at hd'
     refine .inr ?_
     simpa using hd'
   have lv:(es.toList.map (·.2)).length=es.size:=by rw [List.length_map,Array.length_toList]
   refine ⟨_,_,_,_,es.toList.map (·.2),fun A hA=>walk_slots (vs:=es.toList.map (·.2)) (f:=sl t) (o:=o) (t:=t) (ep:=ep) hA nS lv fun s i A E R hi g r=>next_place g hb hpl hi ?_,⟨Nat.zero_le _,⟨_,Heap.get?_push_size _ rfl,rfl,rfl⟩,gk⟩,fpo,rfl,fun i v e=>e,.refl _⟩
   rw [List.getElem?_map,Array.getElem?_toList,Option.map_map] at r
   exact r
  | true =>
   have pm:=(pick_perm (w.params.setOrder S ep) es).map (·.2)
   have lv:((pickOrder (w.params.setOrder S ep) es).toList.map (·.2)).length=es.size:=by rw [pm.length_eq,List.length_map,Array.length_toList]
   refine ⟨_,_,_,_,(pickOrder (w.params.setOrder S ep) es).toList.map (·.2),fun A hA=>walk_slots (vs:=(pickOrder (w.params.setOrder S ep) es).toList.map (·.2)) (f:=fun _=>0) (o:=o) (t:=t) (ep:=ep) hA nS lv fun s i A E R hi g r=>next_text g hb ?_,⟨Nat.zero_le _,⟨_,Heap.get?_push_size _ rfl,rfl,rfl⟩,gk⟩,fpo,rfl,fun i v e=>e,pm⟩
   rw [List.getElem?_map,Array.getElem?_toList,Option.map_map] at r
   exact r
end
end L2.Sx
namespace L2.Sx
open PySem PyProof.Rows PySem.Spec PySem.W PySem.Calls
section
variable {p:Program} {w:World} {A:Around} {E:Value→Shared→Prop} {s:Shared} {S:Addr} {o:Obj} {es:Array (Int × Value)} {ep:Nat} {t:SetTable}
theorem set_hint {Q:Bool→Shared→Prop} (ty:s.TypeIs (.ref S) "set") (h:Q false s):wpAny (model p w) A (Builtin.List.listLengthHint (.ref S)) Q E s:=by
 unfold Builtin.List.listLengthHint
 refine wpAny_bind (wpAny_specialOf ty PySem.F.slot_set_len.lookup ?_)
 generalize hid:("set.__len__":String)=id0
 wp_delta
 rw [show splitId id0=some ("set","__len__") from by subst hid; decide +kernel]
 subst hid
 refine wpAny_bind (wpAny_isInstance (T:="set") (b:=true) ty (by rw [isSubtype_type]; kernel_rfl) (wpAny_ite_split (fun z=>absurd z (by decide)) fun _=>?_))
 exact wpAny_ite_split (fun _=>wpAny_bind (wpAny_typeOf ty (wpAny_pure h))) fun z=>absurd (by decide +kernel) z
theorem set_extend {L:Addr} {c:Nat} {R:Result→Shared→Prop} {res:Value} (hh:A.handled=none) (g:SetG p w (ldd w) s.heap S o es ep t) (hL:s.heap.get? L=some { cls:=.type "list",data:=.seq #[] c }) (hne:L≠S)
  (h:∀ s' acc c',(∀ b o,b≠L→s.heap.get? b=some o→s'.heap.get? b=some o)→s'.gens=s.gens→s'.os=s.os→s'.heap.get? L=some { cls:=.type "list",dict:=none,data:=.seq acc c',slots:=#[] }→acc.toList.Perm (es.toList.map (·.2))→R (.ok (.ret res)) s') :
  wpAny (model p w) A.in1 (Builtin.List.listExtendWith (.ref L) (.ref S) res) (fun fin s'=>match fin with | .done f=>R (.ok f) s' | .again c'=>c'.quiet=true∧codeAny (model p w) A c' R s') (fun e s'=>R (.error e) s') s:=by
 have ty:s.TypeIs (.ref S) "set":=⟨o,g.get,g.ex.1⟩
 unfold Builtin.List.listExtendWith
 refine wpAny_bind (wpAny_typeOf (T:="set") ty ?_)
 have z1:Builtin.List.listSameRef (.ref L) (.ref S)=false:=by simp [Builtin.List.listSameRef,hne]
 have z2:(Value.type "set" == Value.type "list")=false:=by decide
 have z3:(Value.type "set" == Value.type "tuple")=false:=by decide
 simp only [z1,z2,z3,Bool.or_false,Bool.false_eq_true,if_false]
 refine wpAny_bind (set_iter g fun I s' wk=>?_)
 obtain ⟨gr,nw,fp,n,P,St,vs,W,st,hfp,hl,hP,hpm⟩:=wk
 have hLs:L < s.heap.objs.size:=Heap.lt_size hL
 have hLf:L ∉ fp:=fun z=>by
  rcases hfp L z with q | q
  ·exact hne q
  ·exact absurd hLs (Nat.not_lt.mpr q)
 have nsz:n≤sizeLine:=by
  rw [← hl,hpm.length_eq,List.length_map,Array.length_toList]; exact fits_of_scanBound g.bd
 have key:∀ (s1:Shared) (c1:Nat),St 0 s1.heap→(∀ b o,b≠L→s'.heap.get? b=some o→s1.heap.get? b=some o)→s1.gens=s'.gens→s1.os=s'.os→s1.heap.get? L=some { cls:=.type "list",data:=.seq #[] c1 }→codeAny (model p w) A (.builtin "list.extend.loop" ⟨[.ref L,.ref I,res],[]⟩) R s1:=fun s1 c1 st1 k1 g1 o1 l1=>by
  refine codeAny_extend_loopS ((W A.in1 hh).toS) nsz L hLf res n 0 s1 #[] c1 rfl (Nat.zero_le _) st1 l1 (ItemsOf.nil _) fun s2 acc c2 mv l2 it=>?_
  refine h s2 acc c2 (fun b o hb e=>mv.heap b o (fun z=>?_) (k1 b o hb (gr.keep b o e))) ?_ ?_ l2 ?_
  ·rcases List.mem_cons.mp z with q | q
   ·exact hb q
   ·exact absurd (Heap.lt_size e) (Nat.not_lt.mpr (by rw [List.mem_singleton.mp q]; exact nw))
  ·exact (show s2.gens=s1.gens from mv.gens).trans (g1.trans gr.gens)
  ·exact mv.os.trans (o1.trans gr.os)
  ·have:acc.toList=vs:=by
    refine List.ext_getElem? fun i=>?_
    by_cases hi:i < acc.toList.length
    ·have e:=List.getElem?_eq_getElem hi
     rw [e]
     exact (hP i _ (it.2 i _ (by rw [← Array.getElem?_toList]; exact e))).symm
    ·have hn2:acc.toList.length=n:=by rw [Array.length_toList]; exact it.1
     rw [List.getElem?_eq_none (by omega),List.getElem?_eq_none (by omega)]
   rw [this]; exact hpm
 have L1:=gr.keep _ _ hL
 refine wpAny_bind (wpAny_holding (set_hint ⟨o,gr.keep _ _ g.get,g.ex.1⟩ ?_))
 refine wpAny_ite_split (fun _=>?_) (fun _=>wpAny_pure ⟨plainId_quiet PySem.F.plain_extend_loop _,key _ c st (fun b o _ e=>e) rfl rfl L1⟩)
 refine wpAny_bind (wpAny_rule (wpAny_bind (show wpAny _ _ (updateSeq L (·.push .none) >>= fun _=>updateSeq L (·.pop)) _ _ _ from wpAny_bind (wpAny_updateSeq L1 rfl ?_))))
 have L2:=Heap.get?_update_self (Obj.mapSeq (·.push Value.none)) L1 rfl
 refine wpAny_updateSeq (hz:=by seq_fits) L2 rfl ?_
 have L3:=Heap.get?_update_self (Obj.mapSeq (·.pop)) L2 rfl
 have oth:∀ b o,b≠L→s'.heap.get? b=some o→((s'.heap.update L (Obj.mapSeq (·.push Value.none))).update L (Obj.mapSeq (·.pop))).get? b=some o:=fun b o hb e=>by
  rw [(Heap.SameBut.update _ L _).2 b hb,(Heap.SameBut.update _ L _).2 b hb]; exact e
 exact wpAny_pure ⟨plainId_quiet PySem.F.plain_extend_loop _,key _ _ ((W A.in1 hh).frame 0 _ _ st fun b hb o e=>oth b o (fun q=>hLf (q ▸ hb)) e) oth rfl rfl L3⟩
end
end L2.Sx
namespace L2.Sx
open PySem PyProof.Rows PySem.Spec PySem.W PySem.Calls
def kv:Value→Int
 | .int k _=>k
 | _=>0
theorem ints_kv:∀ {vs:List Value},(∀ v∈vs,∃ k t,v=.int k t)→IntsAre vs (vs.map kv)
 | [],_=>.nil
 | v :: vs,h=>by
  obtain ⟨k,t,rfl⟩:=h v (List.mem_cons_self ..)
  exact .cons k t (ints_kv fun v hv=>h v (List.mem_cons_of_mem _ hv))
theorem perm_of_sub:∀ {m l:List Int},m.Nodup→(∀ x∈m,x∈l)→m.length=l.length→m.Perm l
 | [],l,_,_,h=>by
  obtain rfl:l=[]:=List.length_eq_zero_iff.mp h.symm
  exact .nil
 | x :: m,l,nd,hs,h=>by
  have hx:x∈l:=hs x (List.mem_cons_self ..)
  obtain ⟨n1,n2⟩:=List.nodup_cons.mp nd
  have pl:=List.perm_cons_erase hx
  refine (List.Perm.cons x (perm_of_sub n2 (fun y hy=>?_) ?_)).trans pl.symm
  ·exact (List.mem_erase_of_ne (fun e:y=x=>n1 (e ▸ hy))).mpr (hs y (List.mem_cons_of_mem _ hy))
  ·have:=pl.length_eq
   simp only [List.length_cons] at this h ⊢
   omega
theorem ins_nodup {ns:List Int} {k:Int} (h:ns.Nodup):(ins ns k).Nodup:=by
 unfold ins
 split
 ·exact h
 ·rename_i hk
  rw [List.nodup_append]
  exact ⟨h,by simp,fun a ha b hb e=>hk (by rw [← List.mem_singleton.mp hb,← e]; exact ha)⟩
theorem ins_mem {ns:List Int} {k x:Int}:x∈ins ns k↔x∈ns∨x=k:=by
 unfold ins
 split
 ·rename_i hk
  exact ⟨.inl,fun h=>h.elim id fun e=>e ▸ hk⟩
 ·rw [List.mem_append,List.mem_singleton]
theorem met_nodup (f:Nat→Int):∀ i,(met f i).Nodup
 | 0=>List.nodup_nil
 | i + 1=>by rw [met_succ]; exact ins_nodup (met_nodup f i)
theorem met_mem (f:Nat→Int) {x:Int}:∀ i,x∈met f i↔∃ j,j < i∧f j=x
 | 0=>by simp [met]
 | i + 1=>by
  rw [met_succ,ins_mem,met_mem f i]
  constructor
  ·rintro (⟨j,h1,h2⟩ | e)
   ·exact ⟨j,by omega,h2⟩
   ·exact ⟨i,by omega,e.symm⟩
  ·rintro ⟨j,h1,h2⟩
   rcases Nat.lt_or_eq_of_le (Nat.le_of_lt_succ h1) with z | z
   ·exact .inl ⟨j,z,h2⟩
   ·exact .inr (by rw [← h2,z])
section
variable {p:Program} {w:World} {A:Around} {E:Value→Shared→Prop} {s:Shared} {S:Addr} {o:Obj} {es:Array (Int × Value)} {ep:Nat} {t:SetTable}
theorem set_collect {R:List Value→Shared→Prop} (hh:A.handled=none) (g:SetG p w (ldd w) s.heap S o es ep t) (h:∀ s' vs,Grown s s'→vs.Perm (es.toList.map (·.2))→R vs s'):wpAny (model p w) A (collect (.ref S)) R E s:=by
 have hS:S < s.heap.objs.size:=Heap.lt_size g.get
 unfold collect
 refine wpAny_bind (wpAny_runValue (codeAny_builtin entry_proto_collect' ?_))
 rw [Around.under_plainId PySem.F.plain_proto_collect _]
 refine (show wpAny _ A.in1 (newList [] >>= fun l=>again (.builtin "list.__iadd__" ⟨[l,.ref S],[]⟩)) _ _ s from wpAny_bind (wpAny_newObj_type (wpAny_pure ⟨plainId_quiet PySem.F.plain_list_iadd _,codeAny_builtin entry_list_iadd' ?_⟩)))
 rw [Around.under_plainId PySem.F.plain_list_iadd _]
 have hL:(s.heap.push { cls:=.type "list",data:=.seq ([]:List Value).toArray }).get? s.heap.objs.size=some { cls:=.type "list",data:=.seq #[] }:=Heap.get?_push_size _ rfl
 refine (show wpAny _ A.in1 (Builtin.List.listExtendWith (.ref s.heap.objs.size) (.ref S) (.ref s.heap.objs.size)) _ _ _ from ?_)
 have key:=set_extend (A:=A) (s:={ s with heap:=s.heap.push { cls:=.type "list",data:=.seq ([]:List Value).toArray } }) (res:=.ref s.heap.objs.size)
  (R:=fun q s'=>∃ acc c',q=.ok (.ret (.ref s.heap.objs.size))∧Grown s s'∧s'.heap.get? s.heap.objs.size=some { cls:=.type "list",dict:=none,data:=.seq acc c',slots:=#[] }∧acc.toList.Perm (es.toList.map (·.2)))
  hh (setG_keep g fun b o e=>Heap.get?_push_of_some _ e) hL (Nat.ne_of_gt hS) fun s' acc c' k gn os l pm=>⟨acc,c',rfl,⟨fun b o e=>k b o (Nat.ne_of_lt (Heap.lt_size e)) (Heap.get?_push_of_some _ e),gn,os⟩,l,pm⟩
 refine wpAny_mono key (fun fin s' x=>?_) fun e s' x=>?_
 ·cases fin with
  | done f =>
   obtain ⟨acc,c',e,gr,l,pm⟩:=x
   cases e
   exact show wpAny _ A (load s.heap.objs.size >>= _) _ _ _ from wpAny_bind (wpAny_load l (wpAny_pure (h s' _ gr pm)))
  | again c1 =>
   refine ⟨x.1,codeAny_mono x.2 fun q s2 y=>?_⟩
   obtain ⟨acc,c',e,gr,l,pm⟩:=y
   cases e
   exact show wpAny _ A (load s.heap.objs.size >>= _) _ _ _ from wpAny_bind (wpAny_load l (wpAny_pure (h s2 _ gr pm)))
 ·obtain ⟨_,_,e',_⟩:=x
  cases e'
theorem call_sorted {Q:Value→Shared→Prop} {m:List Int} (hh:A.handled=none) (q:SetN p w (ldd w) s.heap S m) (nd:m.Nodup) (h64:m.length < 64)
  (h:∀ (s1:Shared) (vs:List Value) (out:Array Value) (ns:List Int),Grown s s1→IntsAre out.toList ns→ns.Perm m→ns.Pairwise (·≤·)→Q (.ref s1.heap.objs.size) { s1 with heap:=sortedHeap (s1.heap.push (seqObj "list" vs.toArray 0)) s1.heap.objs.size vs out }) :
  wpAny (model p w) A (call (.builtin "sorted") [.ref S]) Q E s:=by
 obtain ⟨o,es,ep,t,g,hm,hz⟩:=q
 refine Calls.call_function_entry kind_sorted plain_sorted entry_sorted (args_sorted1 _) ?_
 unfold Builtin.«sorted»
 refine wpAny_bind (m:=checkCount "sorted" 1 1 _) (wpAny_pure (wpAny_bind (set_collect (A:=A.in1) hh g fun s1 vs gr pm=>?_)))
 have lv:vs.length=m.length:=by rw [pm.length_eq,List.length_map,Array.length_toList,hz]
 have allI:∀ v∈vs,∃ k t,v=.int k t:=fun v hv=>by
  obtain ⟨e,he,rfl⟩:=List.mem_map.mp (pm.mem_iff.mp hv)
  obtain ⟨⟨k,hk,_⟩,_⟩:=g.el e he
  obtain ⟨t,ht⟩:=Value.isInt_shape hk
  exact ⟨k,t,ht⟩
 have pk:(vs.map kv).Perm m:=by
  refine (perm_of_sub nd (fun x hx=>?_) (by rw [List.length_map,lv])).symm
  obtain ⟨e,he,hk⟩:=(hm x).mp hx
  obtain ⟨t,ht⟩:=Value.isInt_shape hk
  exact List.mem_map.mpr ⟨e.2,pm.mem_iff.mpr (List.mem_map.mpr ⟨e,he,rfl⟩),by rw [ht]; rfl⟩
 refine wpAny_bind (wpAny_newList ?_ (by rw [lv]; exact Nat.le_trans (Nat.le_of_lt h64) (by decide)))
 have hL:(s1.heap.push (seqObj "list" vs.toArray 0)).get? s1.heap.objs.size=some (seqObj "list" vs.toArray 0):=Heap.get?_push_size _ rfl
 refine wpAny_bind (wpAny_holding (wpAny_call_entry slot_list_sort ⟨_,hL,rfl⟩ entry_list_sort (list_sort_tree hL (ints_kv allI) (by omega) fun out ns a1 a2 a3=>⟨_,rfl,?_⟩) (args_list_sort _)))
 exact wpAny_pure ⟨_,rfl,h s1 vs out ns gr a1 (a2.trans pk) a3⟩
end
end L2.Sx
namespace L2.EP
open PySem PySem.Spec PyProof.Rows L2.Sx
def isrt (x:Int):List Int→List Int
 | []=>[x]
 | y :: l=>if x < y then x :: y :: l else if x=y then y :: l else y :: isrt x l
def sset (ns:List Int):List Int:=ns.foldr isrt []
theorem isrt_mem {x a:Int}:∀ {l:List Int},a∈isrt x l↔a=x∨a∈l
 | []=>by simp [isrt]
 | y :: l=>by
  unfold isrt
  split
  ·simp
  ·split
   ·rename_i h; subst h; simp
   ·rw [List.mem_cons,isrt_mem (l:=l),List.mem_cons]
    constructor
    ·rintro (h | h | h)
     ·exact .inr (.inl h)
     ·exact .inl h
     ·exact .inr (.inr h)
    ·rintro (h | h | h)
     ·exact .inr (.inl h)
     ·exact .inl h
     ·exact .inr (.inr h)
theorem isrt_inc {x:Int}:∀ {l:List Int},l.Pairwise (· < ·)→(isrt x l).Pairwise (· < ·)
 | [],_=>by simp [isrt]
 | y :: l,h=>by
  obtain ⟨h1,h2⟩:=List.pairwise_cons.mp h
  unfold isrt
  split
  ·rename_i hxy
   refine List.pairwise_cons.mpr ⟨fun a ha=>?_,h⟩
   rcases List.mem_cons.mp ha with z | z
   ·omega
   ·have:=h1 a z; omega
  ·split
   ·exact h
   ·refine List.pairwise_cons.mpr ⟨fun a ha=>?_,isrt_inc h2⟩
    rcases isrt_mem.mp ha with z | z
    ·omega
    ·exact h1 a z
theorem sset_mem {a:Int}:∀ {ns:List Int},a∈sset ns↔a∈ns
 | []=>by simp [sset]
 | x :: ns=>by
  show a∈isrt x (sset ns)↔_
  rw [isrt_mem,sset_mem (ns:=ns),List.mem_cons]
theorem sset_inc:∀ (ns:List Int),(sset ns).Pairwise (· < ·)
 | []=>.nil
 | x :: ns=>isrt_inc (sset_inc ns)
theorem inc_uniq:∀ {l m:List Int},l.Pairwise (· < ·)→m.Pairwise (· < ·)→(∀ a,a∈l↔a∈m)→l=m
 | [],[],_,_,_=>rfl
 | [],y :: m,_,_,h=>absurd ((h y).mpr (List.mem_cons_self ..)) (by simp)
 | x :: l,[],_,_,h=>absurd ((h x).mp (List.mem_cons_self ..)) (by simp)
 | x :: l,y :: m,h1,h2,h=>by
  obtain ⟨a1,a2⟩:=List.pairwise_cons.mp h1
  obtain ⟨b1,b2⟩:=List.pairwise_cons.mp h2
  have e:x=y:=by
   rcases List.mem_cons.mp ((h x).mp (List.mem_cons_self ..)) with z | z
   ·exact z
   ·rcases List.mem_cons.mp ((h y).mpr (List.mem_cons_self ..)) with q | q
    ·exact q.symm
    ·have:=b1 x z; have:=a1 y q; omega
  subst e
  refine congrArg (x :: ·) (inc_uniq a2 b2 fun a=>⟨fun ha=>?_,fun ha=>?_⟩)
  ·rcases List.mem_cons.mp ((h a).mp (List.mem_cons_of_mem _ ha)) with z | z
   ·have:=a1 a ha; omega
   ·exact z
  ·rcases List.mem_cons.mp ((h a).mpr (List.mem_cons_of_mem _ ha)) with z | z
   ·have:=b1 a ha; omega
   ·exact z
theorem sset_of {ns m r:List Int} (h1:r.Perm m) (nd:m.Nodup) (h2:r.Pairwise (·≤·)) (hm:∀ a,a∈m↔a∈ns):r=sset ns:=by
 refine inc_uniq ?_ (sset_inc ns) fun a=>by rw [h1.mem_iff,hm,sset_mem]
 have nd':r.Nodup:=h1.symm.nodup nd
 exact (List.Pairwise.and h2 nd').imp fun {a b} q=>by
  have:=q.1
  have:=q.2
  omega
theorem Inv.grown {X:Cx} {pins:List (Addr × Obj)} {σ:St} {H:Hp} {s s':Shared} (I:Inv X pins σ H s) (g:Grown s s'):Inv X pins σ H s':=by
 obtain ⟨h',gn,d,tk,os⟩:=s'
 obtain ⟨k,e1,e2⟩:=g
 have J:=I.kept (h':=h') (t':=tk) k
 simp only at e1 e2
 subst e1 e2
 exact ⟨J.ok,J.os,J.bare,J.base,J.loc,J.cell,J.free,J.freeC,J.pin,J.hok,J.len⟩
theorem vals_of:∀ {vs:List Value} {ns:List Int},IntsAre vs ns→Vals (ns.map V.int) vs
 | _,_,.nil=>.nil
 | _,_,.cons n t h=>.cons ⟨t,rfl⟩ (vals_of h)
section
variable {X:Cx} {Γ:GEnv} {D:GD} {e:Expr} {b:Bool} {te:TE}
theorem pe_sortset {p1 p2 pos pos2:Pos} (hc:X.calm=true) (hg1:Gl X "sorted") (hm1:X.mg "sorted"=none) (hg2:Gl X "set") (hm2:X.mg "set"=none) (ha:PE X e te)
  (hs:starEach [e] X.env=(false,eval e X.env) :: starEach [] X.env:=by rfl) (hs2:starEach [.Call (.Name "set" p2) [e] [] pos2] X.env=(false,eval (.Call (.Name "set" p2) [e] [] pos2) X.env) :: starEach [] X.env:=by rfl)
  (hp1:(backTo pos (starEach [] X.env)).any (·.1)=false:=by rfl) (hp2:(backTo pos2 (starEach [] X.env)).any (·.1)=false:=by rfl) :
  PE X (.Call (.Name "sorted" p1) [.Call (.Name "set" p2) [e] [] pos2] [] pos) (fun σ H Q=>te σ H fun v H1=>∃ a,∃ ns:List Int,v=.ref a∧SqL X.K H1 a (ns.map V.int)∧ns.length < 64∧∀ l,H1 l=none→Q (.ref l) (upd H1 l (.lst ((sset ns).map V.int)))):=by
 intro pins s σ H Q I h
 have inner:wpAny (model X.prog X.w) X.A (eval (.Call (.Name "set" p2) [e] [] pos2) X.env) (fun u s1=>∃ (S:Addr) (H1:Hp) (ns:List Int),u=.ref S∧Inv X pins σ H1 s1∧SetN X.prog X.w (ldd X.w) s1.heap S (met (fun i=>ns.getD i 0) ns.length)∧ns.length < 64∧∀ l,H1 l=none→Q (.ref l) (upd H1 l (.lst ((sset ns).map V.int)))) X.xe s:=by
  refine wpAny_Call_Name_kw (ld_blt I hg2 hm2 PyProof.Rows.boot_set ?_ (by decide) (by decide))
  refine PyProof.Rows.callWith_type1 (thn (pa_cons ha pa_nil hs pos2 pins s σ H (fun xs H1=>match xs with | [v]=>∃ a,∃ ns:List Int,v=.ref a∧SqL X.K H1 a (ns.map V.int)∧ns.length < 64∧∀ l,H1 l=none→Q (.ref l) (upd H1 l (.lst ((sset ns).map V.int))) | _=>False) I h) fun us s1 ⟨xs,H1,I1,r1,q1⟩=>?_) hs hp2
  cases r1 with
  | nil=>exact q1.elim
  | @cons v u vs us rv rr =>
   cases rr with
   | cons _ _=>exact q1.elim
   | nil =>
    obtain ⟨a,ns,rfl,sq,h64,q⟩:=q1
    cases rv
    obtain ⟨its,rr,pl,_⟩:=I1.list sq
    have hi:=intsAre_of rr
    have hl:its.length=ns.length:=by rw [← rr.length,List.length_map]
    refine call_set (items:=its.toArray) (ns:=ns) (I1.ok.hd hc) pl.isList (by simpa using hi) (by rw [List.size_toArray,hl]; exact Nat.lt_of_lt_of_le (Nat.add_lt_add_right h64 1) (by decide)) fun h' tk g k=>?_
    rw [show its.toArray.size=ns.length by rw [List.size_toArray,hl]] at g
    exact ⟨_,H1,ns,rfl,I1.kept k,g,h64,q⟩
 refine wpAny_Call_Name_kw (ld_blt I hg1 hm1 PyProof.Rows.boot_sorted ?_ (by decide) (by decide))
 refine PyProof.Rows.callWith_builtin1 ?_ hs2 hp1
 rw [hs2]
 refine Calls.spliced_cons (thn inner fun u s1 ⟨S,H1,ns,e,I1,g,h64,q⟩=>Calls.spliced_nil ?_)
 subst e
 refine call_sorted (I1.ok.hd hc) g (met_nodup _ _) (Nat.lt_of_le_of_lt (met_len _ _) h64) fun s2 vs out ns' gr ia pm pw=>?_
 have hr:ns'=sset ns:=sset_of pm (met_nodup _ _) pw fun a=>by
  rw [met_mem]
  constructor
  ·rintro ⟨j,hj,rfl⟩
   rw [List.getD_eq_getElem?_getD,List.getElem?_eq_getElem hj]
   exact List.getElem_mem hj
  ·intro ha
   obtain ⟨j,hj,e⟩:=List.mem_iff_getElem.mp ha
   exact ⟨j,hj,by rw [List.getD_eq_getElem?_getD,List.getElem?_eq_getElem hj]; exact e⟩
 subst hr
 have I2:=Inv.grown I1 gr
 have lo:((sset ns).map V.int).length≤sizeLine:=by
  rw [List.length_map,pm.length_eq]
  exact Nat.le_trans (met_len _ _) (Nat.le_trans (Nat.le_of_lt h64) (by decide))
 have hne:∀ b o,s2.heap.get? b=some o→b≠s2.heap.objs.size:=fun b o e=>Nat.ne_of_lt (Heap.lt_size e)
 have kp:∀ b o,s2.heap.get? b=some o→(sortedHeap (s2.heap.push (seqObj "list" vs.toArray 0)) s2.heap.objs.size vs out).get? b=some o:=fun b o e=>by
  unfold sortedHeap
  rw [(Heap.SameBut.update _ _ _).2 b (hne b o e)]
  refine Heap.get?_push_of_some _ (Heap.get?_push_of_some _ ?_)
  rw [(Heap.SameBut.update _ _ _).2 b (hne b o e)]
  exact Heap.get?_push_of_some _ e
 obtain ⟨c1,g1⟩:∃ c1,(((s2.heap.push (seqObj "list" vs.toArray 0)).update s2.heap.objs.size (Obj.mapSeq fun _=>#[])).get? s2.heap.objs.size)=some (seqObj "list" #[] c1):=⟨_,get?_update_seq (Heap.get?_push_size _ rfl) (fun _=>#[])⟩
 have g2:=get?_update_seq (Heap.get?_push_of_some (seqObj "list" #[] 0) (Heap.get?_push_of_some (seqObj "tuple" vs.toArray 0) g1)) (fun _=>out)
 refine ⟨.ref s2.heap.objs.size,_,I2.laid (t':=s2.toks) (o:=.lst ((sset ns).map V.int)) kp (Nat.le_refl _) ⟨lo,out.toList,_,vals_of ia,g2⟩,rfl,q _ (I2.hok.fresh (Nat.le_refl _))⟩
theorem e_sortset {ns:List Int} {p1 p2 pos pos2:Pos} (hc:X.calm=true) (hg1:Gl X "sorted") (hm1:X.mg "sorted"=none) (hg2:Gl X "set") (hm2:X.mg "set"=none) (ha:E X Γ e b ns) (hl:ns.length < 64)
  (hs:starEach [e] X.env=(false,eval e X.env) :: starEach [] X.env:=by rfl) (hs2:starEach [.Call (.Name "set" p2) [e] [] pos2] X.env=(false,eval (.Call (.Name "set" p2) [e] [] pos2) X.env) :: starEach [] X.env:=by rfl)
  (hp1:(backTo pos (starEach [] X.env)).any (·.1)=false:=by rfl) (hp2:(backTo pos2 (starEach [] X.env)).any (·.1)=false:=by rfl) :
  E X Γ (.Call (.Name "sorted" p1) [.Call (.Name "set" p2) [e] [] pos2] [] pos) true (sset ns):=by
 with_unfolding_all
  exact pe_wk (pe_sortset hc hg1 hm1 hg2 hm2 ha hs hs2 hp1 hp2) fun σ H Q ⟨H0,F,O,S,q⟩=>⟨H0,F,O,S,fun v H1 s1 r1=>by
    obtain ⟨a,vs,e,sq,n,r⟩:=r1
    rw [pr_int r] at sq
    refine ⟨a,ns,by rw [e],(off_same _ _).seq sq,hl,fun l hl'=>?_⟩
    obtain ⟨z1,z2⟩:=laid_lst (xs:=(sset ns).map V.int) (S.go s1) hl'
    refine q _ _ (s1.trans z1) ⟨l,_,rfl,SqL.of z2,Nf.wk (b:=true) ((S.go s1).free0 hl') z2,?_⟩
    generalize sset ns=m
    induction m with
    | nil=>exact .nil
    | cons x m ih=>exact .cons rfl ih⟩
end
end L2.EP
namespace EP
theorem evn_append (f:Int→Bool):∀ (xs ys:List Int),evn (xs ++ ys) f=(evn xs f == evn ys f)
 | [],ys=>by rw [List.nil_append,evn_nil]; cases evn ys f <;> rfl
 | x :: xs,ys=>by
  rw [List.cons_append,evn_cons,evn_cons,evn_append f xs ys]
  generalize f x=a
  generalize evn xs f=b
  generalize evn ys f=c
  revert a b c
  decide
noncomputable def qv (p:Int):List Int→Bool
 | []=>true
 | a :: r=>evn r (fun b=>saysF a b p) == qv p r
noncomputable def no2 (p:Int):List Int→Nat
 | []=>0
 | a :: r=>(r.filter fun b=>!saysF a b p).length + no2 p r
theorem no2_par (p:Int):∀ row:List Int,decide (no2 p row % 2=0)=qv p row
 | []=>rfl
 | a :: r=>by
  have ih:=no2_par p r
  have e:evn r (fun b=>saysF a b p)=decide ((r.filter fun b=>!saysF a b p).length % 2=0):=rfl
  rw [qv,no2,e,← ih]
  generalize (r.filter fun b=>!saysF a b p).length=m
  generalize no2 p r=n
  by_cases h1:m % 2=0 <;> by_cases h2:n % 2=0
  ·have:(m + n) % 2=0:=by omega
   simp [h1,h2,this]
  ·have:¬ (m + n) % 2=0:=by omega
   simp [h1,h2,this]
  ·have:¬ (m + n) % 2=0:=by omega
   simp [h1,h2,this]
  ·have:(m + n) % 2=0:=by omega
   simp [h1,h2,this]
noncomputable def crs (p:Int) (xs ys:List Int):Bool:=evn xs fun x=>evn ys fun y=>saysF x y p
theorem qv_append (p:Int):∀ (xs ys:List Int),qv p (xs ++ ys)=(crs p xs ys == (qv p xs == qv p ys))
 | [],ys=>by show qv p ys=(true == (true == qv p ys)); cases qv p ys <;> rfl
 | x :: xs,ys=>by
  have ih:=qv_append p xs ys
  have e:crs p (x :: xs) ys=(evn ys (fun y=>saysF x y p) == crs p xs ys):=evn_cons x xs _
  rw [List.cons_append,qv,qv,evn_append,ih,e]
  generalize evn xs (fun b=>saysF x b p)=a
  generalize evn ys (fun b=>saysF x b p)=b
  generalize crs p xs ys=c
  generalize qv p xs=d
  generalize qv p ys=g
  revert a b c d g
  decide
theorem qv_snoc (p:Int) (xs:List Int) (x:Int):qv p (xs ++ [x])=(qv p xs == evn xs fun y=>saysF y x p):=by
 rw [qv_append]
 have e1:qv p [x]=true:=by show (evn [] _ == true)=true; rw [evn_nil]; rfl
 have e2:crs p xs [x]=evn xs fun y=>saysF y x p:=evn_cong fun y _=>by rw [evn_cons,evn_nil]; cases saysF y x p <;> rfl
 rw [e1,e2]
 generalize qv p xs=a
 generalize evn xs (fun y=>saysF y x p)=b
 revert a b
 decide
theorem qv_unit {p:Int} (hp:isP p=true) (h2:p≠2):∀ {row:List Int},(∀ n∈row,¬ p ∣ n)→qv p row=true
 | [],_=>rfl
 | a :: r,h=>by
  rw [qv,qv_unit hp h2 fun n hn=>h n (List.mem_cons_of_mem _ hn),evn_all fun b hb=>says_unit hp h2 (h a List.mem_cons_self) (h b (List.mem_cons_of_mem _ hb))]
  rfl
theorem nd_len:∀ {L M:List Int},L.Nodup→(∀ x∈L,x∈M)→L.length≤M.length
 | [],M,_,_=>Nat.zero_le _
 | x :: L,M,hn,h=>by
  obtain ⟨n1,n2⟩:=List.nodup_cons.mp hn
  have hx:=h x List.mem_cons_self
  have ih:=nd_len (M:=M.erase x) n2 fun y hy=>(List.mem_erase_of_ne (by rintro rfl; exact n1 hy)).mpr (h y (List.mem_cons_of_mem _ hy))
  have hm:0 < M.length:=List.length_pos_of_mem hx
  rw [List.length_erase_of_mem hx] at ih
  rw [List.length_cons]
  omega
theorem prt_few {k:Int} {M:List Int} (hk:1≤k) (h:∀ q,isP q=true→q ∣ k→q∈M):(prt k).length≤M.length:=by
 obtain ⟨⟨b,hr⟩,_⟩:=prt_ok hk
 have hn:((prt k).map (·.1)).Nodup:=(rise_fst hr).1.imp fun h=>by omega
 have:=nd_len hn fun q hq=>by
  obtain ⟨h1,h2⟩:=(mem_prt hk).mp hq
  exact h q h1 h2
 rwa [List.length_map] at this
end EP
namespace EP
theorem dml {p x:Int} (c:Int) (h:p ∣ x):p ∣ c * x:=Int.dvd_trans h ⟨c,Int.mul_comm _ _⟩
theorem root_of {a p:Int} (hp:isP p=true) (h:sqb a p=1):∃ r t:Int,r * r=a + p * t:=by
 cases ho:rbp a p with
 | none=>rw [rbp_none.mp ho] at h; cases h
 | some r =>
  obtain ⟨_,t,ht⟩:=rbp_all hp ho
  exact ⟨r,t,by omega⟩
theorem ndm {p a b:Int} (hp:isP p=true) (ha:¬ p ∣ a) (hb:¬ p ∣ b):¬ p ∣ a * b:=fun z=>(euclid hp z).elim ha hb
end EP
namespace EP
def PZ (l:List Int) (p N:Int):Prop:=∃ xs:List Int,xs.length=l.length∧N ∣ wth l xs∧∃ x∈xs,¬ p ∣ x
theorem sq_mod_inj {p a x y:Int} (hp:isP p=true) (ha:¬ p ∣ a) (h:p ∣ a * x * x - a * y * y):p ∣ x - y∨p ∣ x + y:=by
 rw [show a * x * x - a * y * y=a * ((x - y) * (x + y)) by grind] at h
 rcases euclid hp h with h | h
 ·exact absurd h ha
 ·exact euclid hp h
def half (p:Int):List Int:=(List.range ((p + 1) / 2).toNat).map fun (i:Nat)=>(i:Int)
theorem mem_half {p x:Int} (hp:2≤p):x∈half p↔0≤x∧x < (p + 1) / 2:=by
 unfold half
 simp only [List.mem_map,List.mem_range]
 constructor
 ·rintro ⟨i,h,rfl⟩; omega
 ·rintro ⟨h1,h2⟩; exact ⟨x.toNat,by omega,by omega⟩
theorem nodup_map_on {f:Int→Int}:∀ {l:List Int},l.Nodup→(∀ x∈l,∀ y∈l,f x=f y→x=y)→(l.map f).Nodup
 | [],_,_=>List.nodup_nil
 | a :: l,hn,hf=>by
  rw [List.nodup_cons] at hn
  rw [List.map_cons,List.nodup_cons]
  refine ⟨fun h=>?_,nodup_map_on hn.2 fun x hx y hy=>hf x (by simp [hx]) y (by simp [hy])⟩
  obtain ⟨b,hb,e⟩:=List.mem_map.mp h
  have:=hf b (by simp [hb]) a (by simp) e
  subst this
  exact hn.1 hb
theorem half_nodup (p:Int):(half p).Nodup:=by
 unfold half
 rw [show (List.range ((p + 1) / 2).toNat).map (fun (i:Nat)=>(i:Int))=((List.range ((p + 1) / 2).toNat).map fun (i:Nat)=>(i:Int)) from rfl]
 exact List.nodup_range.map _ fun a b h e=>h (by omega)
theorem half_inj {p c s x y:Int} (hp:isP p=true) (h2:p≠2) (hs:¬ p ∣ s) (hx:x∈half p) (hy:y∈half p) (e:(c + s * x * x) % p=(c + s * y * y) % p):x=y:=by
 have hp2:=isP_ge hp
 have ho:=prime_odd hp h2
 rw [mem_half hp2] at hx hy
 have hd:p ∣ s * x * x - s * y * y:=by
  have:=cong.mp e
  rwa [show c + s * x * x - (c + s * y * y)=s * x * x - s * y * y by omega] at this
 rcases sq_mod_inj hp hs hd with h | h
 ·have:=small_dvd h (by omega) (by omega); omega
 ·have:=small_dvd h (by omega) (by omega); omega
theorem two_make {p a b:Int} (c:Int) (hp:isP p=true) (h2:p≠2) (ha:¬ p ∣ a) (hb:¬ p ∣ b):∃ x y:Int,p ∣ a * x * x + b * y * y - c:=by
 have hp2:=isP_ge hp
 have ho:=prime_odd hp h2
 apply Classical.byContradiction
 intro hn
 have hb':¬ p ∣ -b:=fun z=>hb (Int.dvd_neg.mp z)
 have n1:((half p).map fun x=>(0 + a * x * x) % p).Nodup:=nodup_map_on (half_nodup p) fun x hx y hy e=>half_inj hp h2 ha hx hy e
 have n2:((half p).map fun y=>(c + -b * y * y) % p).Nodup:=nodup_map_on (half_nodup p) fun x hx y hy e=>half_inj hp h2 hb' hx hy e
 have nd:((half p).map (fun x=>(0 + a * x * x) % p) ++ (half p).map fun y=>(c + -b * y * y) % p).Nodup:=by
  rw [List.nodup_append]
  refine ⟨n1,n2,fun u hu v hv e=>hn ?_⟩
  obtain ⟨x,_,rfl⟩:=List.mem_map.mp hu
  obtain ⟨y,_,rfl⟩:=List.mem_map.mp hv
  refine ⟨x,y,?_⟩
  have:=cong.mp e
  rwa [show 0 + a * x * x - (c + -b * y * y)=a * x * x + b * y * y - c by grind] at this
 have hl:=nd_len nd (M:=(List.range p.toNat).map fun (i:Nat)=>(i:Int)) fun u hu=>by
  have hu':∃ w,u=w % p:=by
   rcases List.mem_append.mp hu with h | h
   ·obtain ⟨x,_,rfl⟩:=List.mem_map.mp h; exact ⟨_,rfl⟩
   ·obtain ⟨x,_,rfl⟩:=List.mem_map.mp h; exact ⟨_,rfl⟩
  obtain ⟨w,rfl⟩:=hu'
  have h1:=Int.emod_nonneg w (b:=p) (by omega)
  have h3:=Int.emod_lt_of_pos w (b:=p) (by omega)
  exact List.mem_map.mpr ⟨(w % p).toNat,List.mem_range.mpr (by omega),by omega⟩
 have hh:(half p).length=((p + 1) / 2).toNat:=by unfold half; simp
 simp only [List.length_append,List.length_map,List.length_range,hh] at hl
 omega
theorem wth_nil (xs:List Int):wth [] xs=0:=by cases xs <;> rfl
theorem wth_zeros:∀ l:List Int,wth l (List.replicate l.length 0)=0
 | []=>rfl
 | a :: l=>by
  show a * 0 * 0 + wth l (List.replicate l.length 0)=0
  rw [wth_zeros l]; omega
theorem wth_append:∀ {l m xs ys:List Int},l.length=xs.length→wth (l ++ m) (xs ++ ys)=wth l xs + wth m ys
 | [],_,[],_,_=>by rw [wth_nil]; show wth _ _=_; simp
 | a :: l,m,x :: xs,ys,h=>by
  show a * x * x + wth (l ++ m) (xs ++ ys)=a * x * x + wth l xs + wth m ys
  rw [wth_append (by simpa using h)]; omega
theorem PZ.more {l:List Int} {p N:Int} (m:List Int) (h:PZ l p N):PZ (l ++ m) p N:=by
 obtain ⟨xs,h1,h2,x,h3,h4⟩:=h
 refine ⟨xs ++ List.replicate m.length 0,by simp [h1],?_,x,by simp [h3],h4⟩
 rw [wth_append h1.symm,wth_zeros]
 simpa using h2
theorem pz_units {p:Int} (hp:isP p=true) (h2:p≠2):∀ {l:List Int},(∀ a∈l,¬ p ∣ a)→(PZ l p p↔3≤l.length∨∃ a b,l=[a,b]∧sqb (-a * b) p=1)
 | [],_=>by
  constructor
  ·rintro ⟨xs,h1,_,x,h3,_⟩
   cases xs with
   | nil=>cases h3
   | cons _ _=>cases h1
  ·rintro (h | ⟨a,b,h,_⟩)
   ·cases h
   ·cases h
 | [a],hu=>by
  constructor
  ·rintro ⟨xs,h1,h3,x,h4,h5⟩
   match xs,h1 with
   | [y],_ =>
    have e:x=y:=by simpa using h4
    subst e
    have h3':p ∣ a * x * x:=by simpa [wth] using h3
    exact absurd h3' (ndm hp (ndm hp (hu a (by simp)) h5) h5)
  ·rintro (h | ⟨c,b,h,_⟩)
   ·exact absurd h (by simp)
   ·cases h
 | [a,b],hu=>by
  have ha:=hu a (by simp)
  have hb:=hu b (by simp)
  constructor
  ·rintro ⟨xs,h1,h3,x,h4,h5⟩
   match xs,h1 with
   | [y,z],_ =>
    have hd:p ∣ a * y * y + b * z * z:=by simpa [wth] using h3
    have hyz:¬ p ∣ y∧¬ p ∣ z:=by
     have k1:p ∣ y→p ∣ z:=fun hy=>by
      have:p ∣ b * z * z:=by
       have:=Int.dvd_sub hd (dml (a * y) hy)
       rwa [show a * y * y + b * z * z - a * y * y=b * z * z by omega] at this
      rcases euclid hp this with w | w
      ·exact (euclid hp w).elim (fun w=>absurd w hb) id
      ·exact w
     have k2:p ∣ z→p ∣ y:=fun hz=>by
      have:p ∣ a * y * y:=by
       have:=Int.dvd_sub hd (dml (b * z) hz)
       rwa [show a * y * y + b * z * z - b * z * z=a * y * y by omega] at this
      rcases euclid hp this with w | w
      ·exact (euclid hp w).elim (fun w=>absurd w ha) id
      ·exact w
     rcases List.mem_cons.mp h4 with e | e
     ·subst e; exact ⟨h5,fun w=>h5 (k2 w)⟩
     ·have e:x=z:=by simpa using e
      subst e; exact ⟨fun w=>h5 (k1 w),h5⟩
    refine .inr ⟨a,b,rfl,?_⟩
    have e:sqb (-a * b * z * z) p=sqb ((a * y) * (a * y)) p:=sqb_cong (cong.mpr (by
     rw [show -a * b * z * z - a * y * (a * y)=-a * (a * y * y + b * z * z) by grind]
     exact dml _ hd))
    have hab:¬ p ∣ -a * b:=ndm hp (fun w=>ha (Int.dvd_neg.mp w)) hb
    rw [sqb_mul hp,sqb_mul hp,sqb_mul hp (a * y)] at e
    have hay:=ndm hp ha hyz.1
    rcases sqb_pm hab with u | u <;> rcases sqb_pm hyz.2 with v | v <;> rcases sqb_pm hay with w | w <;> rw [u,v,w] at e <;> first | exact u | (exfalso; revert e; decide)
  ·rintro (h | ⟨c,d,h,hs⟩)
   ·exact absurd h (by simp)
   ·cases h
    obtain ⟨r,t,hr⟩:=root_of hp hs
    refine ⟨[r,a],rfl,?_,a,by simp,ha⟩
    show p ∣ a * r * r + (b * a * a + 0)
    rw [show a * r * r + (b * a * a + 0)=a * (r * r + a * b) by grind,hr]
    exact ⟨a * t,by grind⟩
 | a :: b :: c :: l,hu=>by
  refine ⟨fun _=>.inl (by simp),fun _=>?_⟩
  obtain ⟨x,y,hxy⟩:=two_make (-c) hp h2 (hu a (by simp)) (hu b (by simp))
  have:PZ [a,b,c] p p:=by
   refine ⟨[x,y,1],rfl,?_,1,by simp,fun w=>by have:=Int.le_of_dvd (by decide) w; have:=isP_ge hp; omega⟩
   show p ∣ a * x * x + (b * y * y + (c * 1 * 1 + 0))
   rwa [show a * x * x + (b * y * y + (c * 1 * 1 + 0))=a * x * x + b * y * y - -c by omega]
  exact this.more l
end EP
namespace EP
def sel (f:Int→Bool):List Int→List Int→List Int
 | a :: l,x :: xs=>if f a then x :: sel f l xs else sel f l xs
 | _,_=>[]
def dvb (p a:Int):Bool:=decide (a % p=0)
def usL (p:Int) (l:List Int):List Int:=l.filter fun a=>!dvb p a
def vsL (p:Int) (l:List Int):List Int:=(l.filter (dvb p)).map (· / p)
theorem usL_d {p a:Int} {l:List Int} (z:dvb p a=true):usL p (a :: l)=usL p l:=by unfold usL; exact List.filter_cons_of_neg (p:=fun a=>!dvb p a) (by simp [z])
theorem vsL_d {p a:Int} {l:List Int} (z:dvb p a=true):vsL p (a :: l)=a / p :: vsL p l:=by unfold vsL; rw [List.filter_cons_of_pos z]; rfl
theorem usL_u {p a:Int} {l:List Int} (z:¬ dvb p a=true):usL p (a :: l)=a :: usL p l:=by unfold usL; exact List.filter_cons_of_pos (p:=fun a=>!dvb p a) (by simp [z])
theorem vsL_u {p a:Int} {l:List Int} (z:¬ dvb p a=true):vsL p (a :: l)=vsL p l:=by unfold vsL; rw [List.filter_cons_of_neg z]
theorem sel_pos {f:Int→Bool} {a x:Int} {l xs:List Int} (z:f a=true):sel f (a :: l) (x :: xs)=x :: sel f l xs:=if_pos z
theorem sel_neg {f:Int→Bool} {a x:Int} {l xs:List Int} (z:¬ f a=true):sel f (a :: l) (x :: xs)=sel f l xs:=if_neg z
theorem sel_len (f:Int→Bool):∀ {l xs:List Int},xs.length=l.length→(sel f l xs).length=(l.filter f).length
 | [],[],_=>rfl
 | a :: l,x :: xs,h=>by
  have ih:=sel_len f (l:=l) (xs:=xs) (by simpa using h)
  unfold sel
  by_cases z:f a=true
  ·rw [if_pos z,List.filter_cons_of_pos z,List.length_cons,List.length_cons,ih]
  ·rw [if_neg z,List.filter_cons_of_neg z,ih]
theorem wth_split {p:Int} (hp:2≤p):∀ {l xs:List Int},xs.length=l.length→wth l xs=wth (usL p l) (sel (fun a=>!dvb p a) l xs) + p * wth (vsL p l) (sel (dvb p) l xs)
 | [],[],_=>by simp [wth,usL,vsL]
 | a :: l,x :: xs,h=>by
  have ih:=wth_split hp (l:=l) (xs:=xs) (by simpa using h)
  show a * x * x + wth l xs=_
  rw [ih]
  by_cases z:dvb p a=true
  ·have z':¬ (!dvb p a)=true:=by simp [z]
   have e:p * (a / p)=a:=Int.mul_ediv_cancel' (Int.dvd_of_emod_eq_zero (of_decide_eq_true z))
   rw [usL_d z,vsL_d z,sel_pos z,sel_neg (f:=fun a=>!dvb p a) z']
   show _=_ + p * (a / p * x * x + _)
   rw [Int.mul_add,show p * (a / p * x * x)=(p * (a / p)) * x * x by grind,e]
   omega
  ·have z':(!dvb p a)=true:=by simp [z]
   rw [usL_u z,vsL_u z,sel_neg z,sel_pos (f:=fun a=>!dvb p a) z']
   show _=a * x * x + _ + _
   omega
theorem sel_ex (f:Int→Bool):∀ {l xs:List Int} {Q:Int→Prop},xs.length=l.length→(∃ x∈xs,Q x)→(∃ x∈sel f l xs,Q x)∨∃ x∈sel (fun a=>!f a) l xs,Q x
 | [],[],_,_,⟨x,h,_⟩=>by cases h
 | a :: l,x :: xs,Q,h,he=>by
  have ih:=sel_ex f (l:=l) (xs:=xs) (Q:=Q) (by simpa using h)
  rw [ex_cons] at he
  by_cases z:f a=true
  ·have z':¬ (!f a)=true:=by simp [z]
   rw [sel_pos z,sel_neg (f:=fun a=>!f a) z',ex_cons]
   rcases he with he | he
   ·exact .inl (.inl he)
   ·exact (ih he).imp .inr id
  ·have z':(!f a)=true:=by simp [z]
   rw [sel_neg z,sel_pos (f:=fun a=>!f a) z',ex_cons]
   rcases he with he | he
   ·exact .inr (.inl he)
   ·exact (ih he).imp id .inr
def mrg (f:Int→Bool):List Int→List Int→List Int→List Int
 | a :: l,ys,zs=>if f a then (match ys with | y :: ys=>y :: mrg f l ys zs | []=>0 :: mrg f l [] zs) else (match zs with | z :: zs=>z :: mrg f l ys zs | []=>0 :: mrg f l ys [])
 | [],_,_=>[]
theorem mrg_ok (f:Int→Bool):∀ {l ys zs:List Int},ys.length=(l.filter f).length→zs.length=(l.filter fun a=>!f a).length→(mrg f l ys zs).length=l.length∧sel f l (mrg f l ys zs)=ys∧sel (fun a=>!f a) l (mrg f l ys zs)=zs
 | [],ys,zs,h1,h2=>by
  have e1:ys=[]:=List.length_eq_zero_iff.mp h1
  have e2:zs=[]:=List.length_eq_zero_iff.mp h2
  subst e1; subst e2
  exact ⟨rfl,rfl,rfl⟩
 | a :: l,ys,zs,h1,h2=>by
  by_cases z:f a=true
  ·have z':¬ (!f a)=true:=by simp [z]
   rw [List.filter_cons_of_pos z] at h1
   rw [List.filter_cons_of_neg (p:=fun a=>!f a) z'] at h2
   match ys,h1 with
   | y :: ys,h1 =>
    obtain ⟨k1,k2,k3⟩:=mrg_ok f (l:=l) (ys:=ys) (zs:=zs) (by simpa using h1) h2
    unfold mrg
    rw [if_pos z]
    dsimp only
    rw [sel_pos z,sel_neg (f:=fun a=>!f a) z',k2,k3]
    exact ⟨by simp [k1],rfl,rfl⟩
  ·have z':(!f a)=true:=by simp [z]
   rw [List.filter_cons_of_neg z] at h1
   rw [List.filter_cons_of_pos (p:=fun a=>!f a) z'] at h2
   match zs,h2 with
   | w :: zs,h2 =>
    obtain ⟨k1,k2,k3⟩:=mrg_ok f (l:=l) (ys:=ys) (zs:=zs) h1 (by simpa using h2)
    unfold mrg
    rw [if_neg z]
    dsimp only
    rw [sel_neg z,sel_pos (f:=fun a=>!f a) z',k2,k3]
    exact ⟨by simp [k1],rfl,rfl⟩
theorem sel_mem (f:Int→Bool):∀ {l xs:List Int} {x:Int},x∈sel f l xs→x∈xs
 | [],_,_,h=>by simp [sel] at h
 | _ :: _,[],_,h=>by simp [sel] at h
 | a :: l,y :: xs,x,h=>by
  unfold sel at h
  split at h
  ·rcases List.mem_cons.mp h with e | e
   ·exact List.mem_cons.mpr (.inl e)
   ·exact List.mem_cons.mpr (.inr (sel_mem f e))
  ·exact List.mem_cons.mpr (.inr (sel_mem f h))
theorem wth_dvd {d:Int}:∀ {l xs:List Int},(∀ x∈xs,d ∣ x)→d * d ∣ wth l xs
 | [],xs,_=>by rw [wth_nil]; exact Int.dvd_zero _
 | _ :: _,[],_=>Int.dvd_zero _
 | a :: l,x :: xs,h=>by
  show d * d ∣ a * x * x + wth l xs
  obtain ⟨t,rfl⟩:=h x (by simp)
  exact Int.dvd_add ⟨a * t * t,by grind⟩ (wth_dvd fun y hy=>h y (by simp [hy]))
theorem lift1 {p:Int} (hp:isP p=true) (h2:p≠2):∀ {l xs:List Int} (r:Int),xs.length=l.length→(∀ a∈l,¬ p ∣ a)→p ∣ wth l xs - r→(∃ x∈xs,¬ p ∣ x)→∃ ys:List Int,ys.length=l.length∧p * p ∣ wth l ys - r∧∃ y∈ys,¬ p ∣ y
 | [],[],_,_,_,_,⟨x,h,_⟩=>by cases h
 | a :: l,x :: xs,r,hl,hu,hd,he=>by
  have hp2:=isP_ge hp
  by_cases hx:p ∣ x
  ·have he':∃ y∈xs,¬ p ∣ y:=by
    rw [ex_cons] at he
    exact he.resolve_left fun z=>z hx
   obtain ⟨ys,k1,k2,k3⟩:=lift1 hp h2 (l:=l) (xs:=xs) (r - a * x * x) (by simpa using hl) (fun b hb=>hu b (by simp [hb])) (by
    show p ∣ wth l xs - (r - a * x * x)
    rwa [show wth l xs - (r - a * x * x)=(a * x * x + wth l xs) - r by omega]) he'
   refine ⟨x :: ys,by simp [k1],?_,?_⟩
   ·show p * p ∣ a * x * x + wth l ys - r
    rwa [show a * x * x + wth l ys - r=wth l ys - (r - a * x * x) by omega]
   ·obtain ⟨y,hy,hn⟩:=k3
    exact ⟨y,by simp [hy],hn⟩
  ·-- x + p t: a (x + p t)^2=a x^2 + 2 a x p t + p^2 ..
   obtain ⟨q,hq⟩:=hd
   have hn2:¬ p ∣ (2:Int):=fun z=>h2 (prime_dvd_prime hp isP_two z)
   have hn:¬ p ∣ 2 * a * x:=ndm hp (ndm hp hn2 (hu a (by simp))) hx
   obtain ⟨u,v,huv⟩:∃ u v:Int,2 * a * x * u=1 + p * v:=by
    have hf:=fermat hp hn
    obtain ⟨v,hv⟩:=hf
    have hpe:(p - 1).toNat=(p - 2).toNat + 1:=by omega
    refine ⟨(2 * a * x) ^ (p - 2).toNat,v,?_⟩
    rw [hpe,Int.pow_succ] at hv
    have:2 * a * x * (2 * a * x) ^ (p - 2).toNat=(2 * a * x) ^ (p - 2).toNat * (2 * a * x):=Int.mul_comm _ _
    omega
   refine ⟨(x + p * (-(q * u))) :: xs,by simpa using hl,?_,x + p * (-(q * u)),by simp,fun z=>hx ?_⟩
   ·show p * p ∣ a * (x + p * (-(q * u))) * (x + p * (-(q * u))) + wth l xs - r
    have e:a * x * x + wth l xs - r=p * q:=hq
    refine ⟨-(q * v) + a * (q * u) * (q * u),?_⟩
    have e2:a * (x + p * (-(q * u))) * (x + p * (-(q * u))) + wth l xs - r=(a * x * x + wth l xs - r) - p * q * (2 * a * x * u) + p * p * (a * (q * u) * (q * u)):=by grind
    rw [e2,e,huv]
    grind
   ·have:=Int.dvd_sub z ⟨-(q * u),rfl⟩
    rwa [show x + p * (-(q * u)) - p * (-(q * u))=x by omega] at this
theorem pz_split {p:Int} (hp:isP p=true) (h2:p≠2) {l:List Int}:PZ l p (p * p)↔PZ (usL p l) p p∨PZ (vsL p l) p p:=by
 have hp2:=isP_ge hp
 have hU:∀ a∈usL p l,¬ p ∣ a:=fun a ha z=>by
  have:=(List.mem_filter.mp ha).2
  simp only [dvb,Bool.not_eq_true',decide_eq_false_iff_not] at this
  exact this (Int.emod_eq_zero_of_dvd z)
 have lv:(vsL p l).length=(l.filter (dvb p)).length:=by unfold vsL; rw [List.length_map]
 constructor
 ·rintro ⟨xs,h1,h3,h4⟩
  have hs:=wth_split hp2 h1
  have n1:=sel_len (fun a=>!dvb p a) h1
  have n2:=sel_len (dvb p) h1
  by_cases hx:∃ x∈sel (fun a=>!dvb p a) l xs,¬ p ∣ x
  ·refine .inl ⟨_,n1,?_,hx⟩
   have:p ∣ wth l xs:=Int.dvd_trans ⟨p,rfl⟩ h3
   rw [hs] at this
   have:=Int.dvd_sub this ⟨wth (vsL p l) (sel (dvb p) l xs),rfl⟩
   rwa [Int.add_sub_cancel] at this
  ·refine .inr ⟨_,n2.trans lv.symm,?_,?_⟩
   ·have hz:∀ x∈sel (fun a=>!dvb p a) l xs,p ∣ x:=fun x hxm=>Classical.byContradiction fun z=>hx ⟨x,hxm,z⟩
    have h5:=wth_dvd (l:=usL p l) hz
    rw [hs] at h3
    have h6:=Int.dvd_sub h3 h5
    rw [show wth (usL p l) (sel (fun a=>!dvb p a) l xs) + p * wth (vsL p l) (sel (dvb p) l xs) - wth (usL p l) (sel (fun a=>!dvb p a) l xs)=p * wth (vsL p l) (sel (dvb p) l xs) by omega] at h6
    exact Int.dvd_of_mul_dvd_mul_left (by omega) h6
   ·exact (sel_ex (dvb p) h1 h4).resolve_right hx
 ·rintro (⟨ys,h1,h3,h4⟩ | ⟨zs,h1,h3,h4⟩)
  ·obtain ⟨ys',k1,k2,k3⟩:=lift1 hp h2 (l:=usL p l) (xs:=ys) 0 h1 hU (by simpa using h3) h4
   obtain ⟨m1,m2,m3⟩:=mrg_ok (fun a=>!dvb p a) (l:=l) (ys:=ys') (zs:=List.replicate (vsL p l).length 0) k1 (by
    rw [List.length_replicate,lv]; congr 2; funext a; simp)
   refine ⟨_,m1,?_,?_⟩
   ·rw [wth_split hp2 m1,m2]
    have:sel (dvb p) l (mrg (fun a=>!dvb p a) l ys' (List.replicate (vsL p l).length 0))=List.replicate (vsL p l).length 0:=by
     have q:=m3
     rw [show (fun a=>!!dvb p a)=dvb p by funext a; simp] at q
     exact q
    rw [this,wth_zeros]
    simpa using k2
   ·obtain ⟨y,hy,hn⟩:=k3
    exact ⟨y,sel_mem _ (by rw [m2]; exact hy),hn⟩
  ·obtain ⟨m1,m2,m3⟩:=mrg_ok (fun a=>!dvb p a) (l:=l) (ys:=List.replicate (usL p l).length 0) (zs:=zs) (by simp [usL]) (by
    rw [h1,lv]; congr 2; funext a; simp)
   have e:sel (dvb p) l (mrg (fun a=>!dvb p a) l (List.replicate (usL p l).length 0) zs)=zs:=by
    have:=m3
    rw [show (fun a=>!!dvb p a)=dvb p by funext a; simp] at this
    exact this
   refine ⟨_,m1,?_,?_⟩
   ·rw [wth_split hp2 m1,m2,e,wth_zeros]
    obtain ⟨t,ht⟩:=h3
    exact ⟨t,by rw [ht]; grind⟩
   ·obtain ⟨y,hy,hn⟩:=h4
    exact ⟨y,sel_mem _ (by rw [e]; exact hy),hn⟩
end EP
namespace EP
def hvC (m:Int):List (Int × Int)→Bool
 | []=>true
 | [_]=>false
 | [a,b]=>decide (cmul (cmul (0,m) a 3) b 3=(0,1))
 | [a,b,c]=>oddM (cmul (cmul (0,m) a 3) c 3) (cmul (cmul (0,m) b 3) c 3) m
 | [a,b,c,d]=>!decide (cmul (cmul (cmul a b 3) c 3) d 3=(0,1)) || oddM (cmul (cmul (0,m) a 3) c 3) (cmul (cmul (0,m) b 3) c 3) m
 | _=>true
def grC (m:Int) (cs:List (Int × Int)):Bool:=match cs with
 | [a,b]=>decide (m * a.2 * b.2=1)
 | _ :: _ :: _ :: _=>true
 | _=>false
def exC (m:Int) (cs:List (Int × Int)):Bool:=grC m (cs.filter fun c=>decide (c.1=0)) || grC m (cs.filter fun c=>decide (c.1=1))
theorem ex1:∀ m∈[(1:Int),-1],∀ a∈CO,hvC m [a]=exC m [a]:=by decide +kernel
theorem ex2:∀ m∈[(1:Int),-1],∀ a∈CO,∀ b∈CO,hvC m [a,b]=exC m [a,b]:=by decide +kernel
theorem ex3:∀ m∈[(1:Int),-1],∀ a∈CO,∀ b∈CO,∀ c∈CO,hvC m [a,b,c]=exC m [a,b,c]:=by decide +kernel
theorem ex4:∀ m∈[(1:Int),-1],∀ a∈CO,∀ b∈CO,∀ c∈CO,∀ d∈CO,hvC m [a,b,c,d]=exC m [a,b,c,d]:=by decide +kernel
theorem grC_three {m:Int} {cs:List (Int × Int)} (h:3≤cs.length):grC m cs=true:=by
 match cs,h with
 | _ :: _ :: _ :: _,_=>rfl
theorem filt_sum {cs:List (Int × Int)} (h:∀ c∈cs,c.1=0∨c.1=1):(cs.filter fun c=>decide (c.1=0)).length + (cs.filter fun c=>decide (c.1=1)).length=cs.length:=by
 induction cs with
 | nil=>rfl
 | cons c cs ih =>
  have ih:=ih fun d hd=>h d (by simp [hd])
  rcases h c (by simp) with z | z
  ·rw [List.filter_cons_of_pos (by simp [z]),List.filter_cons_of_neg (by simp [z])]
   simp only [List.length_cons]; omega
  ·rw [List.filter_cons_of_neg (by simp [z]),List.filter_cons_of_pos (by simp [z])]
   simp only [List.length_cons]; omega
theorem CO_v {c:Int × Int} (h:c∈CO):c.1=0∨c.1=1:=by
 revert c; decide
theorem hvC_ex {m:Int} (hm:m∈[(1:Int),-1]):∀ {cs:List (Int × Int)},(∀ c∈cs,c∈CO)→1≤cs.length→hvC m cs=exC m cs
 | [a],h,_=>ex1 m hm a (h a (by simp))
 | [a,b],h,_=>ex2 m hm a (h a (by simp)) b (h b (by simp))
 | [a,b,c],h,_=>ex3 m hm a (h a (by simp)) b (h b (by simp)) c (h c (by simp))
 | [a,b,c,d],h,_=>ex4 m hm a (h a (by simp)) b (h b (by simp)) c (h c (by simp)) d (h d (by simp))
 | a :: b :: c :: d :: e :: l,h,_=>by
  have hs:=filt_sum fun c hc=>CO_v (h c hc)
  show true=_
  unfold exC
  simp only [List.length_cons] at hs
  rcases Nat.lt_or_ge ((a :: b :: c :: d :: e :: l).filter fun (c:Int × Int)=>decide (c.1=0)).length 3 with z | z
  ·rw [grC_three (cs:=(a :: b :: c :: d :: e :: l).filter fun (c:Int × Int)=>decide (c.1=1)) (by omega),Bool.or_true]
  ·rw [grC_three z,Bool.true_or]
theorem sqb1_CO {p:Int} (hp:isP p=true):sqb (-1) p∈[(1:Int),-1]:=m1_pm (isP_ge hp)
theorem cls_neg {p a:Int} (hp:isP p=true) (h2:p≠2) (ha:a≠0):cls (-a) p=cmul (0,sqb (-1) p) (cls a p) 3:=by
 rw [show -a=-1 * a by omega,cls_mul hp (by decide) ha,sqb_m1 hp,if_neg h2,cmul_odd h2]
theorem hvZ_cls {p:Int} (hp:isP p=true) (h2:p≠2):∀ {l:List Int},(∀ a∈l,a≠0)→hvZ l p=hvC (sqb (-1) p) (l.map fun a=>cls a p)
 | [],_=>by unfold hvZ hvC; have:=isP_ge hp; rw [if_neg (by omega)]; rfl
 | [a],_=>by have:=isP_ge hp; rw [hvZ_one (by omega)]; rfl
 | [a,b],h=>by
  have:=isP_ge hp
  have ha:=h a (by simp)
  have hb:=h b (by simp)
  rw [hvZ_two (by omega)]
  show decide (cls (-a * b) p=(0,1))=decide (_=_)
  rw [cls_mul hp (by omega) hb,cls_neg hp h2 ha,cmul_odd h2]
 | [a,b,c],h=>by
  have:=isP_ge hp
  have ha:=h a (by simp)
  have hb:=h b (by simp)
  have hc:=h c (by simp)
  rw [hvZ_three (by omega)]
  unfold tzN
  rw [saysF_odd (by omega) h2,cls_mul hp (by omega) hc,cls_mul hp (by omega) hc,cls_neg hp h2 ha,cls_neg hp h2 hb,cmul_odd h2,cmul_odd h2]
  rfl
 | [a,b,c,d],h=>by
  have:=isP_ge hp
  have ha:=h a (by simp)
  have hb:=h b (by simp)
  have hc:=h c (by simp)
  have hd:=h d (by simp)
  have hab:=Int.mul_ne_zero ha hb
  rw [hvZ_four (by omega)]
  unfold tzN
  rw [saysF_odd (by omega) h2,cls_mul hp (a:=-a) (by omega) hc,cls_mul hp (a:=-b) (by omega) hc,cls_neg hp h2 ha,cls_neg hp h2 hb,cmul_odd h2,cmul_odd h2]
  show (!decide (cls (a * b * c * d) p=(0,1)) || _)=(!decide (_=_) || _)
  rw [cls_mul hp (Int.mul_ne_zero hab hc) hd,cls_mul hp hab hc,cls_mul hp ha hb,cmul_odd h2,cmul_odd h2,cmul_odd h2]
 | a :: b :: c :: d :: e :: l,_=>by
  have:=isP_ge hp
  rw [hvZ_five (by omega) (by simp)]
  rfl
def On (p:Int) (l:List Int):Prop:=∀ a∈l,¬ p * p ∣ a
theorem On.nz {p:Int} {l:List Int} (h:On p l):∀ a∈l,a≠0:=fun a ha z=>h a ha (by rw [z]; exact Int.dvd_zero _)
theorem cls_u {p a:Int} (hp:isP p=true) (h2:p≠2) (h:¬ dvb p a=true):cls a p=(0,sqb a p):=cls_odd_unit hp h2 fun z=>h (decide_eq_true (Int.emod_eq_zero_of_dvd z))
theorem cls_d {p a:Int} (hp:isP p=true) (h2:p≠2) (h:dvb p a=true) (hn:¬ p * p ∣ a):cls a p=(1,sqb (a / p) p)∧¬ p ∣ a / p:=by
 have e:p * (a / p)=a:=Int.mul_ediv_cancel' (Int.dvd_of_emod_eq_zero (of_decide_eq_true h))
 have hb:¬ p ∣ a / p:=fun ⟨t,z⟩=>hn ⟨t,by rw [← e,z]; grind⟩
 refine ⟨?_,hb⟩
 have:=cls_pb hp h2 hb
 rwa [e] at this
theorem filt_u {p:Int} (hp:isP p=true) (h2:p≠2):∀ {l:List Int},On p l→((l.map fun a=>cls a p).filter fun c=>decide (c.1=0))=(usL p l).map fun a=>((0:Int),sqb a p)
 | [],_=>rfl
 | a :: l,h=>by
  have ih:=filt_u hp h2 (l:=l) fun b hb=>h b (by simp [hb])
  rw [List.map_cons]
  by_cases z:dvb p a=true
  ·have e:=(cls_d hp h2 z (h a (by simp))).1
   rw [usL_d z,List.filter_cons_of_neg (by rw [e]; simp),ih]
  ·have e:=cls_u hp h2 z
   rw [usL_u z,List.filter_cons_of_pos (by rw [e]; simp),ih,e,List.map_cons]
theorem filt_v {p:Int} (hp:isP p=true) (h2:p≠2):∀ {l:List Int},On p l→((l.map fun a=>cls a p).filter fun c=>decide (c.1=1))=(vsL p l).map fun a=>((1:Int),sqb a p)
 | [],_=>rfl
 | a :: l,h=>by
  have ih:=filt_v hp h2 (l:=l) fun b hb=>h b (by simp [hb])
  rw [List.map_cons]
  by_cases z:dvb p a=true
  ·have e:=(cls_d hp h2 z (h a (by simp))).1
   rw [vsL_d z,List.filter_cons_of_pos (by rw [e]; simp),ih,e,List.map_cons]
  ·have e:=cls_u hp h2 z
   rw [vsL_u z,List.filter_cons_of_neg (by rw [e]; simp),ih]
theorem us_unit {p:Int} {l:List Int}:∀ a∈usL p l,¬ p ∣ a:=fun a ha z=>by
 have:=(List.mem_filter.mp ha).2
 simp only [dvb,Bool.not_eq_true',decide_eq_false_iff_not] at this
 exact this (Int.emod_eq_zero_of_dvd z)
theorem vs_unit {p:Int} {l:List Int} (h:On p l):∀ a∈vsL p l,¬ p ∣ a:=fun a ha ⟨t,z⟩=>by
 obtain ⟨b,hb,rfl⟩:=List.mem_map.mp ha
 obtain ⟨h1,h2⟩:=List.mem_filter.mp hb
 have e:p * (b / p)=b:=Int.mul_ediv_cancel' (Int.dvd_of_emod_eq_zero (of_decide_eq_true h2))
 exact h b h1 ⟨t,by rw [← e,z]; grind⟩
theorem gr_units {p v:Int} (hp:isP p=true) (h2:p≠2) {l:List Int} (h:∀ a∈l,¬ p ∣ a):PZ l p p↔grC (sqb (-1) p) (l.map fun a=>(v,sqb a p))=true:=by
 rw [pz_units hp h2 h]
 match l with
 | []=>exact ⟨fun z=>by rcases z with z | ⟨_,_,z,_⟩; (· cases z); (· cases z),fun z=>by cases z⟩
 | [a]=>exact ⟨fun z=>by rcases z with z | ⟨_,_,z,_⟩; (· exact absurd z (by simp)); (· cases z),fun z=>by cases z⟩
 | [a,b] =>
  show _↔decide (sqb (-1) p * sqb a p * sqb b p=1)=true
  rw [decide_eq_true_iff,← sqb_mul hp,← sqb_mul hp]
  constructor
  ·rintro (z | ⟨c,d,z,q⟩)
   ·exact absurd z (by simp)
   ·cases z; rwa [show -1 * a * b=-a * b by grind]
  ·intro q
   exact .inr ⟨a,b,rfl,by rwa [show -a * b=-1 * a * b by grind]⟩
 | a :: b :: c :: l=>exact ⟨fun _=>rfl,fun _=>.inl (by simp)⟩
theorem pz_odd {p:Int} (hp:isP p=true) (h2:p≠2) {l:List Int} (h:On p l) (h1:1≤l.length):PZ l p (p * p)↔hvZ l p=true:=by
 rw [pz_split hp h2,gr_units (v:=0) hp h2 us_unit,gr_units (v:=1) hp h2 (vs_unit h),hvZ_cls hp h2 h.nz,hvC_ex (sqb1_CO hp) ?_ (by simpa using h1)]
 ·unfold exC
  rw [filt_u hp h2 h,filt_v hp h2 h,Bool.or_eq_true]
 ·intro c hc
  obtain ⟨a,ha,rfl⟩:=List.mem_map.mp hc
  exact cls_odd (isP_ge hp) h2 (h.nz a ha)
end EP
namespace EP
def L168:List Int:=[2,3,5,7,11,13,17,19,23,29,31,37,41,43,47,53,59,61,67,71,73,79,83,89,97,101,103,107,109,113,127,131,137,139,149,151,157,163,167,173,179,181,191,193,197,199,211,223,227,229,233,239,241,251,257,263,269,271,277,281,283,293,307,311,313,317,331,337,347,349,353,359,367,373,379,383,389,397,401,409,419,421,431,433,439,443,449,457,461,463,467,479,487,491,499,503,509,521,523,541,547,557,563,569,571,577,587,593,599,601,607,613,617,619,631,641,643,647,653,659,661,673,677,683,691,701,709,719,727,733,739,743,751,757,761,769,773,787,797,809,811,821,823,827,829,839,853,857,859,863,877,881,883,887,907,911,919,929,937,941,947,953,967,971,977,983,991,997]
def PRM:Nat:=19590340644999083431262508198206381046123972390589368223882605328968666316379870661851951648789482321596229559115436019149189529725215266728292282990852649023362731392404017939142010958261393634959471483757196721672243410067118516227661133135192488848989914892157188308679896875137439519338903968094905549750386407106033836586660683539201011635917900039904495065203299749542985993134669814805318474080581207891125910
def TBL:List (Nat × Nat):=[(11,570),(13,5658),(17,107286),(19,199410),(23,340830),(29,332473074),(31,303908790),(37,96068509338),(41,1870503675702),(43,3678700564050),(47,4626135339998),(53,5310023542746834),(59,156326468341437114),(61,1662926210933060154),(67,61808106872519771730),(71,20052041432995567486),(73,9059857384996697084766),(79,89932533647391829339958),(83,2911111237809585785085594),(89,526807005835216593886842678),(97,152076272278209298711361952606),(101,1550432784880709368503235994226),(103,1760368345969468176824550810518),(107,50079290986288516948354744811034)]
def bitN (M p x:Nat):Bool:=Nat.beq (Nat.land (Nat.shiftRight M (x % p)) 1) 1
noncomputable def prt2 (M p:Nat) (L:List Nat):List Nat→List Nat→List Nat × List Nat:=@List.rec Nat (fun _=>List Nat→List Nat→List Nat × List Nat) (fun A B=>(A,B)) (fun x _ ih A B=>cond (bitN M p x) (ih (x :: A) B) (ih A (x :: B))) L
def few:List Nat→Bool
 | []=>true
 | [_]=>true
 | _=>false
noncomputable def sepN:List (Nat × Nat)→List Nat→Bool
 | [],L=>few L
 | (p,M) :: ps,L=>cond (few L) true (sepN ps (prt2 M p L [] []).1 && sepN ps (prt2 M p L [] []).2)
def genN (r:Nat) (n:Nat) (L:List Nat):List Nat:=@Nat.rec (fun _=>List Nat) L (fun k ih=>cond (Nat.beq (Nat.gcd (r + 840 * k) PRM) 1) ((r + 840 * k) :: ih) ih) n
def genL (rs:List Nat):List Nat:=rs.foldr (fun r L=>genN r 1191 L) []
def res (c a b d:Nat):List Nat:=(List.range 840).filter fun r=>Nat.beq (r % 8) c && (Nat.beq (r % 3) a && (cond (Nat.beq b 1) (Nat.beq (r % 5) 1 || Nat.beq (r % 5) 4) (Nat.beq (r % 5) 2 || Nat.beq (r % 5) 3) && cond (Nat.beq d 1) (Nat.beq (r % 7) 1 || (Nat.beq (r % 7) 2 || Nat.beq (r % 7) 4)) (Nat.beq (r % 7) 3 || (Nat.beq (r % 7) 5 || Nat.beq (r % 7) 6))))
noncomputable def okN (c a b d:Nat):Bool:=sepN TBL (genL (res c a b d))
theorem ok_1100:okN 1 1 0 0=true:=by decide +kernel
theorem ok_1101:okN 1 1 0 1=true:=by decide +kernel
theorem ok_1110:okN 1 1 1 0=true:=by decide +kernel
theorem ok_1111:okN 1 1 1 1=true:=by decide +kernel
theorem ok_1200:okN 1 2 0 0=true:=by decide +kernel
theorem ok_1201:okN 1 2 0 1=true:=by decide +kernel
theorem ok_1210:okN 1 2 1 0=true:=by decide +kernel
theorem ok_1211:okN 1 2 1 1=true:=by decide +kernel
theorem ok_3100:okN 3 1 0 0=true:=by decide +kernel
theorem ok_3101:okN 3 1 0 1=true:=by decide +kernel
theorem ok_3110:okN 3 1 1 0=true:=by decide +kernel
theorem ok_3111:okN 3 1 1 1=true:=by decide +kernel
theorem ok_3200:okN 3 2 0 0=true:=by decide +kernel
theorem ok_3201:okN 3 2 0 1=true:=by decide +kernel
theorem ok_3210:okN 3 2 1 0=true:=by decide +kernel
theorem ok_3211:okN 3 2 1 1=true:=by decide +kernel
theorem ok_5100:okN 5 1 0 0=true:=by decide +kernel
theorem ok_5101:okN 5 1 0 1=true:=by decide +kernel
theorem ok_5110:okN 5 1 1 0=true:=by decide +kernel
theorem ok_5111:okN 5 1 1 1=true:=by decide +kernel
theorem ok_5200:okN 5 2 0 0=true:=by decide +kernel
theorem ok_5201:okN 5 2 0 1=true:=by decide +kernel
theorem ok_5210:okN 5 2 1 0=true:=by decide +kernel
theorem ok_5211:okN 5 2 1 1=true:=by decide +kernel
theorem ok_7100:okN 7 1 0 0=true:=by decide +kernel
theorem ok_7101:okN 7 1 0 1=true:=by decide +kernel
theorem ok_7110:okN 7 1 1 0=true:=by decide +kernel
theorem ok_7111:okN 7 1 1 1=true:=by decide +kernel
theorem ok_7200:okN 7 2 0 0=true:=by decide +kernel
theorem ok_7201:okN 7 2 0 1=true:=by decide +kernel
theorem ok_7210:okN 7 2 1 0=true:=by decide +kernel
theorem ok_7211:okN 7 2 1 1=true:=by decide +kernel
theorem ok_all {c a b d:Nat} (hc:c∈[1,3,5,7]) (ha:a∈[1,2]) (hb:b∈[0,1]) (hd:d∈[0,1]):okN c a b d=true:=by
 simp only [List.mem_cons,List.not_mem_nil,or_false] at hc ha hb hd
 rcases hc with rfl | rfl | rfl | rfl <;> rcases ha with rfl | rfl <;> rcases hb with rfl | rfl <;> rcases hd with rfl | rfl
 ·exact ok_1100
 ·exact ok_1101
 ·exact ok_1110
 ·exact ok_1111
 ·exact ok_1200
 ·exact ok_1201
 ·exact ok_1210
 ·exact ok_1211
 ·exact ok_3100
 ·exact ok_3101
 ·exact ok_3110
 ·exact ok_3111
 ·exact ok_3200
 ·exact ok_3201
 ·exact ok_3210
 ·exact ok_3211
 ·exact ok_5100
 ·exact ok_5101
 ·exact ok_5110
 ·exact ok_5111
 ·exact ok_5200
 ·exact ok_5201
 ·exact ok_5210
 ·exact ok_5211
 ·exact ok_7100
 ·exact ok_7101
 ·exact ok_7110
 ·exact ok_7111
 ·exact ok_7200
 ·exact ok_7201
 ·exact ok_7210
 ·exact ok_7211
end EP
namespace EP
theorem prt2_mem {M p:Nat}:∀ {L A B:List Nat},(∀ x,x∈(prt2 M p L A B).1↔x∈A∨(x∈L∧bitN M p x=true))∧∀ x,x∈(prt2 M p L A B).2↔x∈B∨(x∈L∧bitN M p x=false)
 | [],A,B=>⟨fun x=>by show x∈A↔_; simp,fun x=>by show x∈B↔_; simp⟩
 | y :: L,A,B=>by
  have e:prt2 M p (y :: L) A B=cond (bitN M p y) (prt2 M p L (y :: A) B) (prt2 M p L A (y :: B)):=rfl
  rw [e]
  cases h:bitN M p y with
  | true =>
   obtain ⟨h1,h2⟩:=prt2_mem (M:=M) (p:=p) (L:=L) (A:=y :: A) (B:=B)
   refine ⟨fun x=>?_,fun x=>?_⟩
   ·show x∈(prt2 M p L (y :: A) B).1↔_
    rw [h1,List.mem_cons,List.mem_cons]
    constructor
    ·rintro ((rfl | z) | ⟨z1,z2⟩)
     ·exact .inr ⟨.inl rfl,h⟩
     ·exact .inl z
     ·exact .inr ⟨.inr z1,z2⟩
    ·rintro (z | ⟨rfl | z1,z2⟩)
     ·exact .inl (.inr z)
     ·exact .inl (.inl rfl)
     ·exact .inr ⟨z1,z2⟩
   ·show x∈(prt2 M p L (y :: A) B).2↔_
    rw [h2,List.mem_cons]
    constructor
    ·rintro (z | ⟨z1,z2⟩)
     ·exact .inl z
     ·exact .inr ⟨.inr z1,z2⟩
    ·rintro (z | ⟨rfl | z1,z2⟩)
     ·exact .inl z
     ·rw [h] at z2; cases z2
     ·exact .inr ⟨z1,z2⟩
  | false =>
   obtain ⟨h1,h2⟩:=prt2_mem (M:=M) (p:=p) (L:=L) (A:=A) (B:=y :: B)
   refine ⟨fun x=>?_,fun x=>?_⟩
   ·show x∈(prt2 M p L A (y :: B)).1↔_
    rw [h1,List.mem_cons]
    constructor
    ·rintro (z | ⟨z1,z2⟩)
     ·exact .inl z
     ·exact .inr ⟨.inr z1,z2⟩
    ·rintro (z | ⟨rfl | z1,z2⟩)
     ·exact .inl z
     ·rw [h] at z2; cases z2
     ·exact .inr ⟨z1,z2⟩
   ·show x∈(prt2 M p L A (y :: B)).2↔_
    rw [h2,List.mem_cons,List.mem_cons]
    constructor
    ·rintro ((rfl | z) | ⟨z1,z2⟩)
     ·exact .inr ⟨.inl rfl,h⟩
     ·exact .inl z
     ·exact .inr ⟨.inr z1,z2⟩
    ·rintro (z | ⟨rfl | z1,z2⟩)
     ·exact .inl (.inr z)
     ·exact .inl (.inl rfl)
     ·exact .inr ⟨z1,z2⟩
theorem few_eq {L:List Nat} {x y:Nat} (h:few L=true) (hx:x∈L) (hy:y∈L):x=y:=by
 match L,h with
 | [a],_=>rw [List.mem_singleton.mp hx,List.mem_singleton.mp hy]
theorem sep_ok:∀ {ps:List (Nat × Nat)} {L:List Nat},sepN ps L=true→∀ {x y:Nat},x∈L→y∈L→x≠y→∃ u∈ps,bitN u.2 u.1 x≠bitN u.2 u.1 y
 | [],L,h,x,y,hx,hy,hn=>absurd (few_eq h hx hy) hn
 | (p,M) :: ps,L,h,x,y,hx,hy,hn=>by
  have e:sepN ((p,M) :: ps) L=cond (few L) true (sepN ps (prt2 M p L [] []).1 && sepN ps (prt2 M p L [] []).2):=rfl
  rw [e] at h
  cases hf:few L with
  | true=>exact absurd (few_eq hf hx hy) hn
  | false =>
   rw [hf] at h
   obtain ⟨h1,h2⟩:=Bool.and_eq_true_iff.mp h
   obtain ⟨m1,m2⟩:=prt2_mem (M:=M) (p:=p) (L:=L) (A:=[]) (B:=[])
   by_cases hb:bitN M p x=bitN M p y
   ·cases hv:bitN M p x with
    | true =>
     obtain ⟨u,hu,q⟩:=sep_ok h1 ((m1 x).mpr (.inr ⟨hx,hv⟩)) ((m1 y).mpr (.inr ⟨hy,by rw [← hb]; exact hv⟩)) hn
     exact ⟨u,List.mem_cons_of_mem _ hu,q⟩
    | false =>
     obtain ⟨u,hu,q⟩:=sep_ok h2 ((m2 x).mpr (.inr ⟨hx,hv⟩)) ((m2 y).mpr (.inr ⟨hy,by rw [← hb]; exact hv⟩)) hn
     exact ⟨u,List.mem_cons_of_mem _ hu,q⟩
   ·exact ⟨(p,M),List.mem_cons_self ..,hb⟩
theorem gen_mem {r:Nat}:∀ {n:Nat} {L:List Nat} {x:Nat},x∈genN r n L↔x∈L∨∃ k,k < n∧x=r + 840 * k∧Nat.gcd x PRM=1
 | 0,L,x=>by
  show x∈L↔_
  exact ⟨.inl,fun z=>z.elim id fun ⟨k,h,_⟩=>absurd h (Nat.not_lt_zero k)⟩
 | n + 1,L,x=>by
  have ih:=gen_mem (r:=r) (n:=n) (L:=L) (x:=x)
  have e:genN r (n + 1) L=cond (Nat.beq (Nat.gcd (r + 840 * n) PRM) 1) ((r + 840 * n) :: genN r n L) (genN r n L):=rfl
  rw [e]
  cases hb:Nat.beq (Nat.gcd (r + 840 * n) PRM) 1 with
  | true =>
   show x∈(r + 840 * n) :: genN r n L↔_
   rw [List.mem_cons,ih]
   constructor
   ·rintro (rfl | z | ⟨k,h1,h2⟩)
    ·exact .inr ⟨n,Nat.lt_succ_self n,rfl,Nat.eq_of_beq_eq_true hb⟩
    ·exact .inl z
    ·exact .inr ⟨k,by omega,h2⟩
   ·rintro (z | ⟨k,h1,h2,h3⟩)
    ·exact .inr (.inl z)
    ·by_cases ek:k=n
     ·subst ek; exact .inl h2
     ·exact .inr (.inr ⟨k,by omega,h2,h3⟩)
  | false =>
   show x∈genN r n L↔_
   rw [ih]
   constructor
   ·rintro (z | ⟨k,h1,h2⟩)
    ·exact .inl z
    ·exact .inr ⟨k,by omega,h2⟩
   ·rintro (z | ⟨k,h1,h2,h3⟩)
    ·exact .inl z
    ·by_cases ek:k=n
     ·subst ek
      rw [← h2,h3] at hb
      cases hb
     ·exact .inr ⟨k,by omega,h2,h3⟩
theorem genF_mem {x n:Nat}:∀ {rs:List Nat},x∈rs.foldr (fun r L=>genN r n L) []↔∃ r∈rs,∃ k,k < n∧x=r + 840 * k∧Nat.gcd x PRM=1
 | []=>⟨fun h=>absurd (show x∈[] from h) (by simp),fun ⟨r,h,_⟩=>absurd h (by simp)⟩
 | r :: rs=>by
  rw [List.foldr_cons,gen_mem,genF_mem]
  constructor
  ·rintro (⟨r',h1,h2⟩ | h)
   ·exact ⟨r',List.mem_cons_of_mem _ h1,h2⟩
   ·exact ⟨r,List.mem_cons_self ..,h⟩
  ·rintro ⟨r',h1,h2⟩
   rcases List.mem_cons.mp h1 with e | e
   ·subst e; exact .inr h2
   ·exact .inl ⟨r',e,h2⟩
theorem genL_mem {x:Nat} {rs:List Nat}:x∈genL rs↔∃ r∈rs,∃ k,k < 1191∧x=r + 840 * k∧Nat.gcd x PRM=1:=by
 unfold genL
 generalize 1191=n
 exact genF_mem
end EP
namespace EP
theorem L168_ok:(L168.all fun p=>decide (p=2) || ((List.range 16).any fun m=>nodiv p.toNat m && decide (p.toNat < (2 * m + 3) * (2 * m + 3)) && decide (3≤p.toNat) && decide (p.toNat % 2=1) && decide (0≤p)))=true:=by decide +kernel
theorem L168_prime {p:Int} (h:p∈L168):isP p=true:=by
 have:=(List.all_eq_true.mp L168_ok) p h
 rw [Bool.or_eq_true,decide_eq_true_iff,List.any_eq_true] at this
 rcases this with rfl | ⟨m,_,hm⟩
 ·exact isP_two
 ·simp only [Bool.and_eq_true,decide_eq_true_iff] at hm
  obtain ⟨⟨⟨⟨h1,h2⟩,h3⟩,h4⟩,h5⟩:=hm
  have:=isP_of h1 h3 h4 h2
  rwa [Int.toNat_of_nonneg h5] at this
theorem L168_le:(L168.all fun p=>decide (2≤p∧p≤997))=true:=by decide +kernel
theorem L168_bd {p:Int} (h:p∈L168):2≤p∧p≤997:=of_decide_eq_true ((List.all_eq_true.mp L168_le) p h)
theorem PRM_eq:(PRM:Int)=lprod L168:=by decide +kernel
theorem TBL_ok:(TBL.all fun u=>L168.contains (u.1:Int) && Nat.ble 3 u.1 && (List.range u.1).all fun r=>Nat.beq r 0 || (bitN u.2 u.1 r == Nat.beq (r ^ ((u.1 - 1) / 2) % u.1) 1))=true:=by decide +kernel
theorem bitN_mod (M p x:Nat):bitN M p (x % p)=bitN M p x:=by unfold bitN; rw [Nat.mod_mod]
theorem bit_sqb {u:Nat × Nat} (hu:u∈TBL) {x:Int} (hx:0≤x) (hn:¬ (u.1:Int) ∣ x):(bitN u.2 u.1 x.toNat=true)↔sqb x u.1=1:=by
 have h:=(List.all_eq_true.mp TBL_ok) u hu
 rw [Bool.and_eq_true,Bool.and_eq_true,Nat.ble_eq,List.all_eq_true] at h
 obtain ⟨⟨_,h3⟩,h⟩:=h
 have h:=h (x.toNat % u.1) (List.mem_range.mpr (Nat.mod_lt _ (by omega)))
 rw [bitN_mod,Bool.or_eq_true,Nat.beq_eq] at h
 have e:((x.toNat % u.1:Nat):Int)=x % u.1:=by rw [Int.natCast_emod,Int.toNat_of_nonneg hx]
 have hne:¬ x % (u.1:Int)=0:=fun z=>hn (Int.dvd_of_emod_eq_zero z)
 rcases h with h | h
 ·exact absurd (by rw [← e,h]; rfl) hne
 ·rw [eq_of_beq h,Nat.beq_eq]
  unfold sqb
  rw [if_neg hne,if_neg (by omega)]
  have e2:(((x.toNat % u.1) ^ ((u.1 - 1) / 2) % u.1:Nat):Int)=(x % (u.1:Int)) ^ (((u.1:Int) - 1) / 2).toNat % (u.1:Int):=by
   rw [Int.natCast_emod,Int.natCast_pow,e,show (((u.1:Int) - 1) / 2).toNat=(u.1 - 1) / 2 by omega]
  rw [← e2]
  split
  ·rename_i z; exact ⟨fun _=>rfl,fun _=>by omega⟩
  ·rename_i z; exact ⟨fun w=>absurd (by rw [w]; rfl) z,fun w=>by cases w⟩
def EqC (f g:Int):Prop:=∀ p∈L168,cls f p=cls g p
theorem cls_one_fst {k p:Int} (hp:isP p=true) (h:¬ p ∣ k):(cls (k * p) p).1=1:=by
 have:=tko_pow (k:=k) (d:=p) (v:=1) (isP_ge hp) h
 rw [Int.pow_one] at this
 unfold cls
 rw [this]
 rfl
theorem cls_zero_fst {k p:Int} (hp:isP p=true) (h:¬ p ∣ k):(cls k p).1=0:=by rw [cls_unit (isP_ge hp) h]
theorem sqf_part {f p:Int} (hf:Sqf f) (hp:isP p=true) (hd:p ∣ f):∃ f',f=f' * p∧¬ p ∣ f'∧Sqf f':=by
 obtain ⟨t,ht⟩:=hd
 have hp2:=isP_ge hp
 refine ⟨t,by rw [ht,Int.mul_comm],fun ⟨r,hr⟩=>hf.2 p hp2 ⟨r,by rw [ht,hr]; grind⟩,?_,fun d hd ⟨r,hr⟩=>hf.2 d hd ⟨p * r,by rw [ht,hr]; grind⟩⟩
 intro z; exact hf.1 (by rw [ht,z]; simp)
theorem prime_of {n:Nat}:∀ (k:Nat),n≤k→2≤n→∃ q:Int,isP q=true∧q ∣ (n:Int):=by
 intro k
 induction k generalizing n with
 | zero=>intro h1 h2; omega
 | succ k ih =>
  intro h1 h2
  by_cases hp:isP (n:Int)=true
  ·exact ⟨n,hp,Int.dvd_refl _⟩
  ·by_cases h2':n % 2=0
   ·exact ⟨2,isP_two,by omega⟩
   ·have:¬ OddFree (n:Int):=fun z=>hp (isP_iff.mpr (.inr ⟨by omega,by omega,z⟩))
    unfold OddFree at this
    have:∃ d:Int,3≤d∧d * d≤n∧d ∣ (n:Int):=by
     apply Classical.byContradiction
     intro hn
     exact this fun d h3 h4 _ h6=>hn ⟨d,h3,h4,h6⟩
    obtain ⟨d,h3,h4,h5⟩:=this
    have hlt:d.toNat < n:=by
     have:d * 3≤d * d:=Int.mul_le_mul_of_nonneg_left h3 (by omega)
     omega
    obtain ⟨q,hq1,hq2⟩:=ih (n:=d.toNat) (by omega) (by omega)
    exact ⟨q,hq1,Int.dvd_trans hq2 (by rw [Int.toNat_of_nonneg (by omega)]; exact h5)⟩
theorem dvd_lprod {q:Int} (hq:isP q=true):∀ {L:List Int},(∀ p∈L,isP p=true)→q ∣ lprod L→q∈L
 | [],_,h=>by
  have:q ∣ (1:Int):=h
  have h1:=Int.le_of_dvd (by decide) this
  have:=isP_ge hq
  omega
 | p :: L,hL,h=>by
  rcases euclid hq (show q ∣ p * lprod L from h) with z | z
  ·rw [prime_dvd_prime hq (hL p (by simp)) z]; simp
  ·exact List.mem_cons_of_mem _ (dvd_lprod hq (fun r hr=>hL r (by simp [hr])) z)
theorem cop_PRM {f:Int} (hf:1≤f) (h:∀ p∈L168,¬ p ∣ f):Nat.gcd f.toNat PRM=1:=by
 apply Classical.byContradiction
 intro hn
 have h0:Nat.gcd f.toNat PRM≠0:=fun z=>by have:=Nat.eq_zero_of_gcd_eq_zero_left z; omega
 obtain ⟨q,hq,hd⟩:=prime_of _ (Nat.le_refl _) (show 2≤Nat.gcd f.toNat PRM by omega)
 have h1:q ∣ f:=by
  have:((Nat.gcd f.toNat PRM:Nat):Int) ∣ ((f.toNat:Nat):Int):=Int.natCast_dvd_natCast.mpr (Nat.gcd_dvd_left _ _)
  rw [Int.toNat_of_nonneg (by omega)] at this
  exact Int.dvd_trans hd this
 have h2:q ∣ lprod L168:=by
  rw [← PRM_eq]
  exact Int.dvd_trans hd (Int.natCast_dvd_natCast.mpr (Nat.gcd_dvd_right _ _))
 exact h q (dvd_lprod hq (fun p hp=>L168_prime hp) h2) h1
def c5 (f:Int):Nat:=if sqb f 5=1 then 1 else 0
def c7 (f:Int):Nat:=if sqb f 7=1 then 1 else 0
theorem res_mem {f:Int} (h0:1≤f) (h2:¬ (2:Int) ∣ f) (h3:¬ (3:Int) ∣ f) (h5:¬ (5:Int) ∣ f) (h7:¬ (7:Int) ∣ f):f.toNat % 840∈res (f.toNat % 8) (f.toNat % 3) (c5 f) (c7 f):=by
 unfold res
 rw [List.mem_filter,List.mem_range]
 refine ⟨Nat.mod_lt _ (by decide),?_⟩
 have s5:c5 f=if (f.toNat % 5=1∨f.toNat % 5=4) then 1 else 0:=by
  unfold c5
  rw [← sqb_mod]
  have e:f % 5=1∨f % 5=2∨f % 5=3∨f % 5=4:=by omega
  rcases e with e | e | e | e <;> rw [e]
  ·rw [if_pos (by decide),if_pos (by omega)]
  ·rw [if_neg (by decide),if_neg (by omega)]
  ·rw [if_neg (by decide),if_neg (by omega)]
  ·rw [if_pos (by decide),if_pos (by omega)]
 have s7:c7 f=if (f.toNat % 7=1∨f.toNat % 7=2∨f.toNat % 7=4) then 1 else 0:=by
  unfold c7
  rw [← sqb_mod]
  have e:f % 7=1∨f % 7=2∨f % 7=3∨f % 7=4∨f % 7=5∨f % 7=6:=by omega
  rcases e with e | e | e | e | e | e <;> rw [e]
  ·rw [if_pos (by decide),if_pos (by omega)]
  ·rw [if_pos (by decide),if_pos (by omega)]
  ·rw [if_neg (by decide),if_neg (by omega)]
  ·rw [if_pos (by decide),if_pos (by omega)]
  ·rw [if_neg (by decide),if_neg (by omega)]
  ·rw [if_neg (by decide),if_neg (by omega)]
 rw [s5,s7]
 have m8:f.toNat % 840 % 8=f.toNat % 8:=by omega
 have m3:f.toNat % 840 % 3=f.toNat % 3:=by omega
 have m5:f.toNat % 840 % 5=f.toNat % 5:=by omega
 have m7:f.toNat % 840 % 7=f.toNat % 7:=by omega
 rw [m8,m3,m5,m7]
 have n5:f.toNat % 5=1∨f.toNat % 5=2∨f.toNat % 5=3∨f.toNat % 5=4:=by omega
 have n7:f.toNat % 7=1∨f.toNat % 7=2∨f.toNat % 7=3∨f.toNat % 7=4∨f.toNat % 7=5∨f.toNat % 7=6:=by omega
 have b8:Nat.beq (f.toNat % 8) (f.toNat % 8)=true:=by rw [Nat.beq_eq]
 have b3:Nat.beq (f.toNat % 3) (f.toNat % 3)=true:=by rw [Nat.beq_eq]
 rw [b8,b3]
 rcases n5 with e | e | e | e <;> rcases n7 with e' | e' | e' | e' | e' | e' <;> rw [e,e'] <;> decide
theorem eqc_cop {f g:Int} (hf:1≤f) (hf2:f≤1000000) (hg:1≤g) (hg2:g≤1000000) (nf:∀ p∈L168,¬ p ∣ f) (ng:∀ p∈L168,¬ p ∣ g) (h:EqC f g):f=g:=by
 have m2:(2:Int)∈L168:=by decide +kernel
 have m3:(3:Int)∈L168:=by decide +kernel
 have m5:(5:Int)∈L168:=by decide +kernel
 have m7:(7:Int)∈L168:=by decide +kernel
 have odd:∀ p∈L168,p≠2→sqb f p=sqb g p:=fun p hp h2=>by
  have:=h p hp
  rw [cls_odd_unit (L168_prime hp) h2 (nf p hp),cls_odd_unit (L168_prime hp) h2 (ng p hp)] at this
  exact (Prod.mk.injEq .. ▸ this).2
 have e8:f % 8=g % 8:=by
  have:=h 2 m2
  have o1:f % 2=1:=by have:=nf 2 m2; omega
  have o2:g % 2=1:=by have:=ng 2 m2; omega
  rw [cls_two_odd o1,cls_two_odd o2] at this
  exact (Prod.mk.injEq .. ▸ this).2
 have e3:f % 3=g % 3:=by
  have:=odd 3 m3 (by decide)
  rw [← sqb_mod f,← sqb_mod g] at this
  have a1:f % 3=1∨f % 3=2:=by have:=nf 3 m3; omega
  have a2:g % 3=1∨g % 3=2:=by have:=ng 3 m3; omega
  rcases a1 with a1 | a1 <;> rcases a2 with a2 | a2 <;> rw [a1,a2] at this ⊢
  ·exact absurd this (by decide)
  ·exact absurd this (by decide)
 have e5:c5 f=c5 g:=by unfold c5; rw [odd 5 m5 (by decide)]
 have e7:c7 f=c7 g:=by unfold c7; rw [odd 7 m7 (by decide)]
 have mem:∀ {x:Int},1≤x→x≤1000000→(∀ p∈L168,¬ p ∣ x)→x.toNat∈genL (res (x.toNat % 8) (x.toNat % 3) (c5 x) (c7 x)):=fun {x} h1 h2 hn =>
  genL_mem.mpr ⟨_,res_mem h1 (hn 2 m2) (hn 3 m3) (hn 5 m5) (hn 7 m7),x.toNat / 840,by omega,by omega,cop_PRM h1 hn⟩
 have hmf:=mem hf hf2 nf
 have hmg:=mem hg hg2 ng
 rw [show g.toNat % 8=f.toNat % 8 by omega,show g.toNat % 3=f.toNat % 3 by omega,← e5,← e7] at hmg
 apply Classical.byContradiction
 intro hne
 have hok:okN (f.toNat % 8) (f.toNat % 3) (c5 f) (c7 f)=true:=by
  refine ok_all ?_ ?_ ?_ ?_
  ·have:=nf 2 m2
   simp only [List.mem_cons,List.not_mem_nil,or_false]; omega
  ·have:=nf 3 m3
   simp only [List.mem_cons,List.not_mem_nil,or_false]; omega
  ·unfold c5; split <;> decide
  ·unfold c7; split <;> decide
 obtain ⟨u,hu,hb⟩:=sep_ok hok hmf hmg (by omega)
 have hm:(u.1:Int)∈L168∧3≤u.1:=by
  have:=(List.all_eq_true.mp TBL_ok) u hu
  rw [Bool.and_eq_true,Bool.and_eq_true,Nat.ble_eq,List.contains_iff_mem] at this
  exact this.1
 have k1:=bit_sqb hu (x:=f) (by omega) (nf _ hm.1)
 have k2:=bit_sqb hu (x:=g) (by omega) (ng _ hm.1)
 rw [odd _ hm.1 (by omega)] at k1
 exact hb (Bool.eq_iff_iff.mpr (k1.trans k2.symm))
theorem eqc_free:∀ (n:Nat) {f g:Int},f.natAbs≤n→Sqf f→Sqf g→0 < f→0 < g→f≤1000000→g≤1000000→EqC f g→f=g
 | 0,f,g,hn,_,_,h0,_,_,_,_=>by omega
 | n + 1,f,g,hn,sf,sg,hf,hg,hf2,hg2,h=>by
  by_cases hp:∃ p∈L168,p ∣ f
  ·obtain ⟨p,hp,hd⟩:=hp
   have pr:=L168_prime hp
   have p2:=isP_ge pr
   obtain ⟨f',e1,n1,s1⟩:=sqf_part sf pr hd
   have hdg:p ∣ g:=Classical.byContradiction fun z=>by
    have:=h p hp
    have a:=cls_one_fst pr n1
    have b:=cls_zero_fst pr z
    rw [← e1,this,b] at a
    cases a
   obtain ⟨g',e2,n2,s2⟩:=sqf_part sg pr hdg
   have f0:0 < f':=by
    rcases Int.lt_or_le 0 f' with z | z
    ·exact z
    ·have:f' * p≤0:=Int.mul_nonpos_of_nonpos_of_nonneg z (by omega)
     omega
   have g0:0 < g':=by
    rcases Int.lt_or_le 0 g' with z | z
    ·exact z
    ·have:g' * p≤0:=Int.mul_nonpos_of_nonpos_of_nonneg z (by omega)
     omega
   have l1:f' * 2≤f' * p:=Int.mul_le_mul_of_nonneg_left p2 (by omega)
   have l2:g' * 2≤g' * p:=Int.mul_le_mul_of_nonneg_left p2 (by omega)
   have:=eqc_free n (f:=f') (g:=g') (by omega) s1 s2 f0 g0 (by omega) (by omega) fun q hq=>by
    have qr:=L168_prime hq
    rw [← cls_sq qr (show f'≠0 by omega) (show p≠0 by omega),← cls_sq qr (show g'≠0 by omega) (show p≠0 by omega),← e1,← e2,cls_mul qr (by omega) (by omega),cls_mul qr (by omega) (by omega),h q hq]
   rw [e1,e2,this]
  ·have nf:∀ p∈L168,¬ p ∣ f:=fun p h1 h2=>hp ⟨p,h1,h2⟩
   refine eqc_cop (by omega) hf2 (by omega) hg2 nf (fun p hp hd=>?_) h
   have pr:=L168_prime hp
   obtain ⟨g',e2,n2,s2⟩:=sqf_part sg pr hd
   have:=h p hp
   have a:=cls_one_fst pr n2
   have b:=cls_zero_fst pr (nf p hp)
   rw [← e2,← this,b] at a
   cases a
theorem no_sq_at {a b f g s t:Int} (hf:Sqf f) (hg:Sqf g) (f0:0 < f) (g0:0 < g) (f2:f≤1000000) (g2:g≤1000000) (hs:s≠0) (ht:t≠0) (ea:a=f * s * s) (eb:b=g * t * t) (h:∀ p∈L168,sqc (a * b) p):∃ r,r * r=a * b:=by
 have:f=g:=eqc_free _ (Nat.le_refl _) hf hg f0 g0 f2 g2 fun p hp=>by
  have pr:=L168_prime hp
  have h1:=h p hp
  have fn:f≠0:=by omega
  have gn:g≠0:=by omega
  unfold sqc at h1
  rw [ea,eb,cls_mul pr (Int.mul_ne_zero (Int.mul_ne_zero fn hs) hs) (Int.mul_ne_zero (Int.mul_ne_zero gn ht) ht),cls_sq pr fn hs,cls_sq pr gn ht] at h1
  by_cases h2:p=2
  ·subst h2
   have c1:=cls_two fn
   have c2:=cls_two gn
   revert h1 c1 c2
   generalize cls f 2=x
   generalize cls g 2=y
   have:∀ x∈C2,∀ y∈C2,cmul x y 2=(0,1)→x=y:=by decide
   exact fun h1 c1 c2=>this x c1 y c2 h1
  ·have c1:=cls_odd (isP_ge pr) h2 fn
   have c2:=cls_odd (isP_ge pr) h2 gn
   rw [cmul_odd h2] at h1
   revert h1 c1 c2
   generalize cls f p=x
   generalize cls g p=y
   have:∀ x∈CO,∀ y∈CO,cmul x y 3=(0,1)→x=y:=by decide
   exact fun h1 c1 c2=>this x c1 y c2 h1
 subst this
 exact ⟨f * s * t,by rw [ea,eb]; grind⟩
end EP
namespace EP
def FwS (l:List Int):Option Int→Prop
 | none=>hvZ l 0=true∧∀ q,isP q=true→hvZ l q=true
 | some p=>hvZ l p=false∧(p=0∨(isP p=true∧hvZ l 0=true∧∀ q,isP q=true→q < p→hvZ l q=true))
theorem FwS.uniq {l:List Int}:∀ r r',FwS l r→FwS l r'→r=r'
 | none,none,_,_=>rfl
 | none,some p,h,h'=>by
  obtain ⟨h1,h2⟩:=h
  obtain ⟨k1,k2⟩:=h'
  rcases k2 with rfl | ⟨k2,_⟩
  ·rw [h1] at k1; cases k1
  ·rw [h2 p k2] at k1; cases k1
 | some p,none,h',h=>by
  obtain ⟨h1,h2⟩:=h
  obtain ⟨k1,k2⟩:=h'
  rcases k2 with rfl | ⟨k2,_⟩
  ·rw [h1] at k1; cases k1
  ·rw [h2 p k2] at k1; cases k1
 | some p,some q,h,h'=>by
  obtain ⟨h1,h2⟩:=h
  obtain ⟨k1,k2⟩:=h'
  rcases h2 with rfl | ⟨h2,h3,h4⟩
  ·rcases k2 with rfl | ⟨k2,k3,k4⟩
   ·rfl
   ·rw [k3] at h1; cases h1
  ·rcases k2 with rfl | ⟨k2,k3,k4⟩
   ·rw [h3] at k1; cases k1
   ·have a:¬ q < p:=fun z=>by rw [h4 q k2 z] at k1; cases k1
    have b:¬ p < q:=fun z=>by rw [k4 p h2 z] at h1; cases h1
    rw [show p=q by omega]
noncomputable def fwF (l:List Int):Option Int:=Classical.epsilon (FwS l)
theorem fwF_eq {l:List Int} {r:Option Int} (h:FwS l r):r=fwF l:=eps_eq FwS.uniq h
theorem hvZ_unit {p:Int} (hp:isP p=true) (h2:p≠2) {l:List Int} (h3:3≤l.length) (h:∀ a∈l,¬ p ∣ a):hvZ l p=true:=by
 rw [← pz_odd hp h2 (fun a ha z=>h a ha (Int.dvd_trans ⟨p,rfl⟩ z)) (by omega),pz_split hp h2]
 refine .inl ?_
 have e:usL p l=l:=by
  unfold usL
  rw [List.filter_eq_self]
  intro a ha
  simp only [dvb,Bool.not_eq_true',decide_eq_false_iff_not]
  exact fun z=>h a ha (Int.dvd_of_emod_eq_zero z)
 rw [e,pz_units hp h2 h]
 exact .inl h3
theorem hvZ_sq {a b r p:Int} (hp:isP p=true) (ha:a≠0) (hb:b≠0) (e:r * r=-a * b):hvZ [a,b] p=true:=by
 have:=isP_ge hp
 rw [hvZ_two (by omega),decide_eq_true_iff,← e]
 exact sqc_sq hp fun z=>by
  rw [z] at e
  exact Int.mul_ne_zero (show -a≠0 by omega) hb (by rw [← e]; rfl)
def NpS (k r:Int):Prop:=isP r=true∧k < r∧∀ q,isP q=true→k < q→r≤q
theorem NpS.uniq {k:Int}:∀ r r',NpS k r→NpS k r'→r=r':=fun r r' h h'=>by
 have a:=h.2.2 r' h'.1 h'.2.1
 have b:=h'.2.2 r h.1 h.2.1
 omega
noncomputable def npF (k:Int):Int:=Classical.epsilon (NpS k)
theorem npF_eq {k r:Int} (h:NpS k r):r=npF k:=eps_eq NpS.uniq h
theorem np_ex {k p:Int} (hp:isP p=true) (h:k < p):∃ r,NpS k r:=by
 have:∀ n:Nat,∀ p:Int,isP p=true→k < p→p - k≤n→∃ r,NpS k r:=by
  intro n
  induction n with
  | zero=>intro p _ h1 h2; omega
  | succ n ih =>
   intro p hp h1 h2
   by_cases hq:∃ q,isP q=true∧k < q∧q < p
   ·obtain ⟨q,q1,q2,q3⟩:=hq
    exact ih q q1 q2 (by omega)
   ·exact ⟨p,hp,h1,fun q q1 q2=>Classical.byContradiction fun z=>hq ⟨q,q1,q2,by omega⟩⟩
 exact this (p - k).toNat p hp h (by omega)
theorem npF_ok {k:Int} (h:k < PB):NpS k (npF k):=by
 obtain ⟨r,hr⟩:=np_ex PB_prime h
 rw [← npF_eq hr]; exact hr
def Fin2 (a b:Int):Prop:=(∃ r,r * r=-a * b)∨∃ q,isP q=true∧q≤997∧hvZ [a,b] q=false
theorem fin2_of {a b f g s t:Int} (hf:Sqf f) (hg:Sqf g) (f0:0 < f) (g0:0 < g) (f2:f≤1000000) (g2:g≤1000000) (hs:s≠0) (ht:t≠0) (e:-a * b=(f * s * s) * (g * t * t)):Fin2 a b:=by
 by_cases h:∀ p∈L168,sqc ((f * s * s) * (g * t * t)) p
 ·obtain ⟨r,hr⟩:=no_sq_at hf hg f0 g0 f2 g2 hs ht rfl rfl h
  exact .inl ⟨r,by rw [hr,e]⟩
 ·have:∃ p∈L168,¬ sqc ((f * s * s) * (g * t * t)) p:=Classical.byContradiction fun z=>h fun p hp=>Classical.byContradiction fun w=>z ⟨p,hp,w⟩
  obtain ⟨p,hp,hn⟩:=this
  have:=L168_bd hp
  refine .inr ⟨p,L168_prime hp,by omega,?_⟩
  rw [hvZ_two (by omega),e]
  exact decide_eq_false hn
theorem fw_two {a b:Int} (ha:a≠0) (hb:b≠0) (hz:hvZ [a,b] 0=true) (h:Fin2 a b):(FwS [a,b] none∧∃ r,r * r=-a * b)∨∃ p,FwS [a,b] (some p)∧isP p=true∧p≤997∧¬ ∃ r,r * r=-a * b:=by
 by_cases hs:∃ r,r * r=-a * b
 ·obtain ⟨r,hr⟩:=id hs
  exact .inl ⟨⟨hz,fun q hq=>hvZ_sq hq ha hb hr⟩,hs⟩
 ·obtain ⟨q,q1,q2,q3⟩:=h.resolve_left hs
  have:∀ n:Nat,∀ q:Int,isP q=true→q≤997→hvZ [a,b] q=false→q≤n→∃ p,FwS [a,b] (some p)∧isP p=true∧p≤997:=by
   intro n
   induction n with
   | zero=>intro q h1 _ _ h2; have:=isP_ge h1; omega
   | succ n ih =>
    intro q h1 h2 h3 h4
    by_cases hq:∃ r,isP r=true∧r < q∧hvZ [a,b] r=false
    ·obtain ⟨r,r1,r2,r3⟩:=hq
     exact ih r r1 (by omega) r3 (by omega)
    ·exact ⟨q,⟨h3,.inr ⟨h1,hz,fun r r1 r2=>Classical.byContradiction fun z=>hq ⟨r,r1,r2,by simpa using z⟩⟩⟩,h1,h2⟩
  obtain ⟨p,p1,p2,p3⟩:=this q.toNat q q1 q2 q3 (by omega)
  exact .inr ⟨p,p1,p2,p3,hs⟩
end EP
namespace EP
theorem fwF_ok (l:List Int):FwS l (fwF l):=by
 have:∃ r,FwS l r:=by
  by_cases hz:hvZ l 0=true
  ·by_cases hp:∃ p,isP p=true∧hvZ l p=false
   ·obtain ⟨p,hp,hf⟩:=hp
    have:∀ n:Nat,∀ q:Int,isP q=true→hvZ l q=false→q≤n→∃ p,FwS l (some p):=by
     intro n
     induction n with
     | zero=>intro q h1 _ h2; have:=isP_ge h1; omega
     | succ n ih =>
      intro q h1 h3 h4
      by_cases hq:∃ r,isP r=true∧r < q∧hvZ l r=false
      ·obtain ⟨r,r1,r2,r3⟩:=hq
       exact ih r r1 r3 (by omega)
      ·exact ⟨q,h3,.inr ⟨h1,hz,fun r r1 r2=>Classical.byContradiction fun z=>hq ⟨r,r1,r2,by simpa using z⟩⟩⟩
    obtain ⟨r,hr⟩:=this p.toNat p hp hf (by omega)
    exact ⟨some r,hr⟩
   ·exact ⟨none,hz,fun q hq=>Classical.byContradiction fun z=>hp ⟨q,hq,by simpa using z⟩⟩
  ·exact ⟨some 0,by simpa using hz,.inl rfl⟩
 obtain ⟨r,hr⟩:=this
 rw [← fwF_eq hr]; exact hr
end EP
namespace EP
def AllY (a b:Int):Prop:=∀ p,Pl p→saysF a b p=true
theorem AllY.swap {a b:Int} (ha:a≠0) (hb:b≠0) (h:AllY a b):AllY b a:=fun p hp=>by
 rw [says_sym hp ha hb]; exact h p hp
theorem yes_diff {a r p:Int} (hp:Pl p) (ha:a≠0) (h:r * r - a≠0):saysF a (r * r - a) p=true:=by
 by_cases hr:r=0
 ·subst hr
  have:=says_neg hp ha
  rw [Int.mul_zero]
  exact this
 ·have h1:=says_two (x:=1) (y:=1) (w:=r * r) hp ha h (Int.mul_ne_zero hr hr) (by simp only [Int.mul_one]; omega)
  rw [← Int.mul_assoc,← Int.mul_assoc,says_sq hp ha hr,says_sq2 hp ha h hr] at h1
  exact h1
theorem AllY.step {a b c s r:Int} (ha:a≠0) (hb:b≠0) (hc:c≠0) (hs:s≠0) (h:AllY a b) (e:r * r - a=b * c * (s * s)):AllY a c:=fun p hp=>by
 have hbc:b * c≠0:=Int.mul_ne_zero hb hc
 have h1:=yes_diff (r:=r) hp ha (by rw [e]; exact Int.mul_ne_zero hbc (Int.mul_ne_zero hs hs))
 rw [e,← Int.mul_assoc,says_sq2 hp ha hbc hs,says_mul hp ha hb hc,h p hp] at h1
 cases q:saysF a c p with
 | true=>rfl
 | false=>rw [q] at h1; cases h1
theorem sqf_all {n:Int}:∀ (k:Nat) (m:Int),m.natAbs≤k→0 < m→Sqf m→(∀ q,isP q=true→q ∣ m→q ∣ n)→m ∣ n
 | 0,m,hk,h0,_,_=>by omega
 | k + 1,m,hk,h0,hs,h=>by
  by_cases h1:m=1
  ·rw [h1]; exact Int.one_dvd n
  ·obtain ⟨q,hq,⟨m',rfl⟩⟩:=has_prime (k:=m) (by omega)
   have q2:=isP_ge hq
   have m0:0 < m':=Int.pos_of_mul_pos_right h0 (by omega)
   have lt:m' < q * m':=by
    have:=Int.mul_le_mul_of_nonneg_right q2 (show 0≤m' by omega)
    omega
   obtain ⟨t,ht⟩:=sqf_all k m' (by omega) m0 (sqf_dvd hs (Int.dvd_mul_left _ _)) fun r hr hd=>h r hr (Int.dvd_trans hd (Int.dvd_mul_left _ _))
   have hqn:=h q hq (Int.dvd_mul_right _ _)
   rw [ht] at hqn
   rcases euclid hq hqn with z | z
   ·exfalso
    obtain ⟨c,rfl⟩:=z
    exact hs.2 q q2 ⟨c,by rw [Int.mul_assoc]⟩
   ·obtain ⟨c,rfl⟩:=z
    exact ⟨c,by rw [ht]; grind⟩
end EP
namespace EP
def oc:Int→Nat→Int
 | _,0=>1
 | m,n + 1=>(m + 2) * oc (m + 2) n
theorem oc_pos:∀ (n:Nat) {m:Int},0≤m→1≤oc m n
 | 0,_,_=>Int.le_refl 1
 | n + 1,m,h=>by
  have:=oc_pos n (m:=m + 2) (by omega)
  have:=Int.mul_le_mul (show (1:Int)≤m + 2 by omega) this (by decide) (by omega)
  show 1≤(m + 2) * oc (m + 2) n
  omega
theorem oc_mono:∀ (n:Nat) {m:Int},0≤m→oc m n≤oc m (n + 1)
 | 0,m,h=>by show 1≤(m + 2) * 1; omega
 | n + 1,m,h=>by
  show (m + 2) * oc (m + 2) n≤(m + 2) * oc (m + 2) (n + 1)
  exact Int.mul_le_mul_of_nonneg_left (oc_mono n (by omega)) (by omega)
theorem oc_le {m:Int} (h:0≤m) (n:Nat):∀ k,oc m n≤oc m (n + k)
 | 0=>Int.le_refl _
 | k + 1=>Int.le_trans (oc_le h n k) (oc_mono (n + k) h)
theorem rise_oc:∀ {us:List (Int × Int)} {a b m:Int},m % 2=1→1≤m→m≤a→2≤a→Rise a us b→oc m us.length≤pp us
 | [],a,b,m,_,_,_,_,_=>Int.le_refl 1
 | u :: us,a,b,m,ho,h1,hm,ha,h=>by
  obtain ⟨r1,r2,r3,r4⟩:=h
  have od:u.1 % 2=1:=by rcases isP_iff.mp r2 with z | z <;> omega
  have ih:=rise_oc (m:=m + 2) (by omega) (by omega) (by omega) (by omega) r4
  have o1:=oc_pos us.length (m:=m + 2) (by omega)
  obtain ⟨n,hn⟩:∃ n,u.2.toNat=n + 1:=⟨u.2.toNat - 1,by omega⟩
  have hp:m + 2≤u.1 ^ u.2.toNat:=by
   rw [hn,Int.pow_succ]
   have p1:(1:Int)≤u.1 ^ n:=by have:=Int.pow_pos (n:=u.1) (m:=n) (by omega); omega
   have:=Int.mul_le_mul p1 (show m + 2≤u.1 by omega) (by omega) (by omega)
   omega
  show (m + 2) * oc (m + 2) us.length≤u.1 ^ u.2.toNat * pp us
  exact Int.mul_le_mul hp ih (by omega) (by omega)
theorem prt_oc {k:Int} (h1:1≤k) {n:Nat} (hn:n + 1≤(prt k).length):2 * oc 1 n≤k:=by
 obtain ⟨⟨b,hr⟩,e⟩:=prt_ok h1
 cases hq:prt k with
 | nil=>rw [hq] at hn; simp at hn
 | cons u us =>
  rw [hq] at hr e hn
  obtain ⟨r1,r2,r3,r4⟩:=hr
  have f:=rise_oc (m:=1) (by decide) (by decide) (by omega) (by omega) r4
  have e':u.1 ^ u.2.toNat * pp us=k:=e
  obtain ⟨c,hc⟩:∃ c,us.length=n + c:=⟨us.length - n,by simp at hn; omega⟩
  have f2:=oc_le (m:=1) (by decide) n c
  rw [hc] at f
  have o1:=oc_pos n (m:=1) (by decide)
  obtain ⟨j,hj⟩:∃ j,u.2.toNat=j + 1:=⟨u.2.toNat - 1,by omega⟩
  have hp:2≤u.1 ^ u.2.toNat:=by
   rw [hj,Int.pow_succ]
   have p1:(1:Int)≤u.1 ^ j:=by have:=Int.pow_pos (n:=u.1) (m:=j) (by omega); omega
   have:=Int.mul_le_mul p1 (show (2:Int)≤u.1 by omega) (by omega) (by omega)
   omega
  rw [← e']
  exact Int.mul_le_mul hp (by omega) (by omega) (by omega)
def k1 (r:Int):Int:=if r=3∨r=7 then 1 else 0
def k2 (r:Int):Int:=if r=3∨r=5 then 1 else 0
def Lst (P:Int→Prop):Option Int→Prop
 | none=>∀ x,¬ P x
 | some m=>P m∧∀ x,P x→m≤x
theorem Lst.uniq {P Q:Int→Prop} (e:∀ x,P x↔Q x):∀ {r r':Option Int},Lst P r→Lst Q r'→r=r'
 | none,none,_,_=>rfl
 | none,some m,h,h'=>absurd ((e m).mpr h'.1) (h m)
 | some m,none,h,h'=>absurd ((e m).mp h.1) (h' m)
 | some m,some m',h,h'=>by
  have h1:=h.2 m' ((e m').mpr h'.1)
  have h2:=h'.2 m ((e m).mp h.1)
  rw [show m=m' by omega]
def PW:List Int:=[2,3,5,7,11,13,17,19,23,29,31,97,101,997,10007,32771,32779,40009,40013]
def PWm:List (Nat × Nat):=[(3,0),(5,0),(7,0),(11,1),(13,1),(17,2),(19,2),(23,2),(29,3),(31,3),(97,4),(101,5),(997,15),(10007,49),(32771,90),(32779,90),(40009,99),(40013,99)]
theorem PW_p {p:Int} (h:p∈PW):isP p=true:=by
 have hb:∀ u∈PWm,nodiv u.1 u.2=true∧3≤u.1∧u.1 % 2=1∧u.1 < (2 * u.2 + 3) * (2 * u.2 + 3):=by decide +kernel
 have hq:∀ q∈PW,q=2∨∃ u∈PWm,((u.1:Nat):Int)=q:=by decide +kernel
 rcases hq p h with rfl | ⟨u,hu,rfl⟩
 ·exact isP_two
 ·obtain ⟨a,b,c,d⟩:=hb u hu
  exact isP_of a b c d
end EP
namespace EP
theorem says_cls {a b c p:Int} (hp:isP p=true) (h:cls b p=cls c p):saysF a b p=saysF a c p:=by
 have p2:=isP_ge hp
 unfold saysF
 rw [if_neg (show p≠0 by omega),if_neg (show p≠0 by omega),h]
theorem cls_ng {b c p:Int} (hp:isP p=true) (hb:b≠0) (hc:c≠0) (h:cls b p=cls c p):cls (-b) p=cls (-c) p:=by
 have e:∀ x:Int,-x=-1 * x:=fun x=>by omega
 rw [e b,e c,cls_mul hp (by decide) hb,cls_mul hp (by decide) hc,h]
theorem sqc_cls {b c p:Int} (h:cls b p=cls c p):sqc b p↔sqc c p:=by unfold sqc; rw [h]
noncomputable def hasP (p:Int) (n:Nat) (d:Int) (o:Bool):Bool:=if n < 2 then false else if n=2 then decide (sqc (-d) p) else if n=3 then o != saysF (-1) (-d) p else if n=4 then !decide (sqc d p) || (o != saysF (-1) (-1) p) else true
noncomputable def wiP (p:Int):Nat→Int→Bool→Nat
 | 0,_,_=>0
 | 1,_,_=>0
 | n + 2,d,o=>if hasP p (n + 2) d o=true then 1 + wiP p n (-d) (o == saysF (-1) (-d) p) else 0
theorem wi_go {p:Int} {n:Nat} {d:Int} {o:Bool} (h:hasP p (n + 2) d o=true):wiP p (n + 2) d o=1 + wiP p n (-d) (o == saysF (-1) (-d) p):=by rw [wiP.eq_3]; exact if_pos h
theorem wi_no {p:Int} {n:Nat} {d:Int} {o:Bool} (h:hasP p n d o=false):wiP p n d o=0:=by
 match n,h with
 | 0,_=>rfl
 | 1,_=>rfl
 | n + 2,h=>rw [wiP.eq_3,h]; rfl
theorem has_congr {p:Int} (hp:isP p=true) {n:Nat} {d d':Int} {o:Bool} (h0:d≠0) (h1:d'≠0) (h:cls d p=cls d' p):hasP p n d o=hasP p n d' o:=by
 have hn:=cls_ng hp h0 h1 h
 unfold hasP
 rw [says_cls hp hn,decide_eq_decide.mpr (sqc_cls hn),decide_eq_decide.mpr (sqc_cls h)]
theorem wi_congr {p:Int} (hp:isP p=true):∀ {n:Nat} {d d':Int} {o:Bool},d≠0→d'≠0→cls d p=cls d' p→wiP p n d o=wiP p n d' o
 | 0,_,_,_,_,_,_=>rfl
 | 1,_,_,_,_,_,_=>rfl
 | n + 2,d,d',o,h0,h1,h=>by
  have hn:=cls_ng hp h0 h1 h
  rw [wiP.eq_3,wiP.eq_3,has_congr hp h0 h1 h,says_cls hp hn,wi_congr hp (by omega) (by omega) hn]
theorem wi_le {p:Int}:∀ {n:Nat} {d:Int} {o:Bool},2 * wiP p n d o≤n
 | 0,_,_=>Nat.le_refl 0
 | 1,_,_=>by show 2 * 0≤1; decide
 | n + 2,d,o=>by
  rw [wiP.eq_3]
  split
  ·have:=wi_le (p:=p) (n:=n) (d:=-d) (o:=o == saysF (-1) (-d) p)
   omega
  ·omega
def sgD (n:Nat) (d:Int):Int:=if (n / 2) % 2=1 then -d else d
theorem sgD_two (n:Nat) (d:Int):sgD (n + 2) d=sgD n (-d):=by
 unfold sgD
 have:(n + 2) / 2=n / 2 + 1:=by omega
 rw [this]
 by_cases h:(n / 2) % 2=1
 ·rw [if_pos h,if_neg (by omega),Int.neg_neg]
 ·rw [if_neg h,if_pos (by omega)]
theorem wi_full {p:Int}:∀ {n:Nat} {d:Int} {o:Bool},2≤n→n % 2=0→2 * wiP p n d o=n→sqc (sgD n d) p
 | 0,_,_,h,_,_=>by omega
 | 1,_,_,h,_,_=>by omega
 | n + 2,d,o,_,he,hw=>by
  have hh:hasP p (n + 2) d o=true:=by
   cases q:hasP p (n + 2) d o with
   | true=>rfl
   | false=>rw [wi_no q] at hw; omega
  rw [wi_go hh] at hw
  rw [sgD_two]
  by_cases h2:n=0
  ·subst h2
   unfold hasP at hh
   rw [if_neg (by decide),if_pos rfl] at hh
   have:=of_decide_eq_true hh
   unfold sgD
   rw [if_neg (by decide)]
   exact this
  ·exact wi_full (o:=o == saysF (-1) (-d) p) (by omega) (by omega) (by omega)
theorem wi_unit {p:Int} (hp:isP p=true) (h2:p≠2):∀ {n:Nat} {d:Int},¬ p ∣ d→n≤2 * wiP p n d false + 2∧(n % 2=1→2 * wiP p n d false=n - 1)∧(n % 2=0→sqc (sgD n d) p→2 * wiP p n d false=n)
 | 0,_,_=>⟨by omega,fun h=>by omega,fun _ _=>rfl⟩
 | 1,_,_=>⟨by show 1≤2 * 0 + 2; decide,fun _=>rfl,fun h=>by omega⟩
 | n + 2,d,hd=>by
  have p2:=isP_ge hp
  have hnd:¬ p ∣ -d:=fun z=>hd (Int.dvd_neg.mp z)
  have u1:¬ p ∣ (-1:Int):=fun z=>by
   have:=Int.le_of_dvd (by decide) (Int.dvd_neg.mp z)
   omega
  have s1:saysF (-1) (-d) p=true:=says_unit hp h2 u1 hnd
  have s2:saysF (-1) (-1) p=true:=says_unit hp h2 u1 u1
  obtain ⟨i1,i2,i3⟩:=wi_unit hp h2 (n:=n) hnd
  by_cases n0:n=0
  ·subst n0
   cases q:hasP p 2 d false with
   | true =>
    rw [wi_go q]
    exact ⟨by omega,fun h=>by omega,fun _ _=>rfl⟩
   | false =>
    rw [wi_no q]
    refine ⟨by omega,fun h=>by omega,fun _ h=>?_⟩
    unfold hasP at q
    rw [if_neg (by decide),if_pos rfl] at q
    have:=of_decide_eq_false q
    exact absurd h this
  ·have hh:hasP p (n + 2) d false=true:=by
    unfold hasP
    rw [if_neg (by omega),if_neg (by omega),s1,s2]
    split
    ·rfl
    ·split
     ·rw [Bool.or_eq_true]; exact .inr rfl
     ·rfl
   rw [wi_go hh,s1]
   show n + 2≤2 * (1 + wiP p n (-d) false) + 2∧_
   refine ⟨by omega,fun h=>?_,fun h hs=>?_⟩
   ·have:=i2 (by omega)
    show 2 * (1 + wiP p n (-d) false)=n + 2 - 1
    omega
   ·rw [sgD_two] at hs
    have:=i3 (by omega) hs
    show 2 * (1 + wiP p n (-d) false)=n + 2
    omega
def mlL:List Int→Int
 | []=>1
 | a :: r=>a * mlL r
theorem mlL_nz:∀ {l:List Int},(∀ a∈l,a≠0)→mlL l≠0
 | [],_=>by show (1:Int)≠0; decide
 | a :: l,h=>Int.mul_ne_zero (h a (List.mem_cons_self ..)) (mlL_nz fun x hx=>h x (List.mem_cons_of_mem _ hx))
theorem mlL_app:∀ (l m:List Int),mlL (l ++ m)=mlL l * mlL m
 | [],m=>by show mlL m=1 * mlL m; omega
 | a :: l,m=>by show a * mlL (l ++ m)=a * mlL l * mlL m; rw [mlL_app l m,Int.mul_assoc]
noncomputable def wiR (p:Int) (l:List Int):Nat:=wiP p l.length (mlL l) (!qv p l)
theorem evn_prod {p a:Int} (hp:Pl p) (ha:a≠0):∀ {l:List Int},(∀ x∈l,x≠0)→evn l (fun b=>saysF a b p)=saysF a (mlL l) p
 | [],_=>by
  have:=says_one (r:=1) hp ha (by decide)
  rw [Int.mul_one] at this
  show true=saysF a 1 p
  rw [this]
 | b :: l,h=>by
  have hb:=h b (List.mem_cons_self ..)
  have hl:=fun x hx=>h x (List.mem_cons_of_mem b hx)
  rw [evn_cons,evn_prod hp ha hl]
  show _=saysF a (b * mlL l) p
  rw [says_mul hp ha hb (mlL_nz hl)]
theorem qv_cons {p a:Int} (hp:Pl p) (ha:a≠0) {l:List Int} (h:∀ x∈l,x≠0):qv p (a :: l)=(saysF a (mlL l) p == qv p l):=by
 show (evn l (fun b=>saysF a b p) == qv p l)=_
 rw [evn_prod hp ha h]
theorem qv_pair {p t:Int} (hp:Pl p) (ht:t≠0) {l:List Int} (h:∀ x∈l,x≠0):qv p (t :: -t :: l)=(saysF (-1) (mlL l) p == qv p l):=by
 have h0:=mlL_nz h
 have ht':-t≠0:=by omega
 have hl':∀ x∈-t :: l,x≠0:=fun x hx=>by
  rcases List.mem_cons.mp hx with rfl | hx
  ·exact ht'
  ·exact h x hx
 rw [qv_cons hp ht hl',qv_cons hp ht' h]
 show (saysF t (-t * mlL l) p == (saysF (-t) (mlL l) p == qv p l))=_
 rw [says_mul hp ht ht' h0]
 have e1:saysF t (-t) p=true:=by have:=says_neg hp ht; rw [show 0 - t=-t by omega] at this; exact this
 have e2:saysF (-t) (mlL l) p=(saysF (-1) (mlL l) p == saysF t (mlL l) p):=by
  rw [show -t=-1 * t by omega,says_mulL hp (by decide) ht h0]
 rw [e1,e2]
 cases saysF t (mlL l) p <;> cases saysF (-1) (mlL l) p <;> cases qv p l <;> rfl
theorem has_pair {p t:Int} (hp:isP p=true) (ht:t≠0) {l:List Int} (h:∀ x∈l,x≠0) (h1:1≤l.length):hasP p (l.length + 2) (mlL (t :: -t :: l)) (!qv p (t :: -t :: l))=true:=by
 have hP:Pl p:=.inr hp
 have h0:=mlL_nz h
 have e:mlL (t :: -t :: l)=-mlL l * t * t:=by show t * (-t * mlL l)=_; grind
 have ec:cls (mlL (t :: -t :: l)) p=cls (-mlL l) p:=by rw [e]; exact cls_sq hp (by omega) ht
 rw [has_congr hp (by rw [e]; exact Int.mul_ne_zero (Int.mul_ne_zero (by omega) ht) ht) (by omega) ec,qv_pair hP ht h]
 unfold hasP
 rw [if_neg (by omega),if_neg (by omega)]
 match l,h,h1 with
 | [a],h,_ =>
  rw [if_pos (show [a].length + 2=3 from rfl),Int.neg_neg]
  show ((!(saysF (-1) (mlL [a]) p == true)) != saysF (-1) (mlL [a]) p)=true
  cases saysF (-1) (mlL [a]) p <;> rfl
 | [a,b],h,_ =>
  have ha:=h a (by simp)
  have hb:=h b (by simp)
  rw [if_neg (show ¬ [a,b].length + 2=3 by simp),if_pos (show [a,b].length + 2=4 from rfl)]
  by_cases hs:sqc (-mlL [a,b]) p
  ·rw [decide_eq_true hs]
   have ep:mlL [a,b]=a * b:=by show a * (b * 1)=a * b; rw [Int.mul_one]
   rw [ep] at hs ⊢
   have eq1:saysF (-1) (a * b) p=saysF (-1) (-1) p:=by
    have k:saysF (-1) (-1 * (a * b)) p=true:=by
     rw [show -1 * (a * b)=-(a * b) by omega]
     exact says_sqc hp (by decide) hs
    rw [says_mul hP (by decide) (by decide) (Int.mul_ne_zero ha hb)] at k
    cases q1:saysF (-1) (-1) p <;> cases q2:saysF (-1) (a * b) p <;> rw [q1,q2] at k <;> first | rfl | cases k
   have eq2:qv p [a,b]=true:=by
    show (evn [b] (fun c=>saysF a c p) == qv p [b])=true
    have k:saysF a b p=true:=by
     have k1:saysF a (-(a * b)) p=true:=says_sqc hp ha hs
     rw [show -(a * b)=(0 - a) * b by grind,says_mul hP ha (by omega) hb,says_neg hP ha] at k1
     cases q:saysF a b p
     ·rw [q] at k1; cases k1
     ·rfl
    rw [evn_cons,k]; rfl
   rw [eq1,eq2]
   cases saysF (-1) (-1) p <;> rfl
  ·rw [decide_eq_false hs]; rfl
 | a :: b :: c :: r,_,_ =>
  rw [if_neg (by simp),if_neg (by simp)]
theorem wi_pair {p t:Int} (hp:isP p=true) (ht:t≠0) {l:List Int} (h:∀ x∈l,x≠0) (h1:1≤l.length):wiR p (t :: -t :: l)=1 + wiR p l:=by
 have hP:Pl p:=.inr hp
 have h0:=mlL_nz h
 have hh:=has_pair hp ht h h1
 have e:-mlL (t :: -t :: l)=mlL l * t * t:=by show -(t * (-t * mlL l))=_; grind
 have e0:mlL (t :: -t :: l)≠0:=fun z=>by rw [z] at e; exact Int.mul_ne_zero (Int.mul_ne_zero h0 ht) ht (by rw [← e]; rfl)
 unfold wiR
 show wiP p (l.length + 2) _ _=_
 rw [wi_go hh,e,says_cls hp (cls_sq hp h0 ht),wi_congr hp (Int.mul_ne_zero (Int.mul_ne_zero h0 ht) ht) h0 (cls_sq hp h0 ht),qv_pair hP ht h]
 congr 2
 cases saysF (-1) (mlL l) p <;> cases qv p l <;> rfl
theorem tz_qv {p a b c:Int} (hp:Pl p) (ha:a≠0) (hb:b≠0) (hc:c≠0):tzN a b c p=(qv p [a,b,c] == saysF (-1) (-(a * b * c)) p):=by
 have n1:(-1:Int)≠0:=by decide
 have na:-1 * a≠0:=by omega
 have nb:-1 * b≠0:=by omega
 have nY:-1 * b * c≠0:=Int.mul_ne_zero nb hc
 have ex:∀ z:Int,z≠0→saysF z (-1 * b * c) p=((saysF z (-1) p == saysF z b p) == saysF z c p):=fun z hz=>by rw [says_mul hp hz nb hc,says_mul hp hz n1 hb]
 have e1:tzN a b c p=((((saysF (-1) (-1) p == saysF (-1) b p) == saysF (-1) c p) == ((saysF (-1) a p == saysF a b p) == saysF a c p)) == ((saysF (-1) c p == saysF b c p) == saysF (-1) c p)):=by
  unfold tzN
  rw [show -a * c=-1 * a * c by grind,show -b * c=-1 * b * c by grind,says_mulL hp na hc nY,says_mulL hp n1 ha nY,ex _ n1,ex _ ha,ex _ hc,says_sym hp n1 ha,says_sym hp n1 hc,says_sym hp hb hc,says_self hp hc,says_sym hp n1 hc]
 have e2:saysF (-1) (-(a * b * c)) p=(((saysF (-1) (-1) p == saysF (-1) a p) == saysF (-1) b p) == saysF (-1) c p):=by
  rw [show -(a * b * c)=-1 * a * b * c by grind,says_mul hp n1 (Int.mul_ne_zero na hb) hc,says_mul hp n1 na hb,says_mul hp n1 n1 ha]
 have e3:qv p [a,b,c]=((saysF a b p == (saysF a c p == true)) == ((saysF b c p == true) == (true == true))):=by
  show (evn [b,c] (fun y=>saysF a y p) == (evn [c] (fun y=>saysF b y p) == (evn [] (fun y=>saysF c y p) == true)))=_
  rw [evn_cons,evn_cons,evn_cons,evn_nil,evn_nil,evn_nil]
 rw [e1,e2,e3]
 generalize saysF (-1) (-1) p=x1
 generalize saysF (-1) a p=x2
 generalize saysF (-1) b p=x3
 generalize saysF (-1) c p=x4
 generalize saysF a b p=x5
 generalize saysF a c p=x6
 generalize saysF b c p=x7
 revert x1 x2 x3 x4 x5 x6 x7
 decide
theorem has_hv {p:Int} (hp:isP p=true) {l:List Int} (h:∀ x∈l,x≠0) (h1:1≤l.length):hasP p l.length (mlL l) (!qv p l)=hvZ l p:=by
 have hP:Pl p:=.inr hp
 have p2:=isP_ge hp
 have p0:p≠0:=by omega
 match l,h,h1 with
 | [a],_,_=>rw [hvZ_one p0]; rfl
 | [a,b],_,_ =>
  rw [hvZ_two p0]
  unfold hasP
  rw [if_neg (show ¬ [a,b].length < 2 by simp),if_pos (show [a,b].length=2 from rfl),show -mlL [a,b]=-a * b by show -(a * (b * 1))=_; grind]
 | [a,b,c],h,_ =>
  have ha:=h a (by simp)
  have hb:=h b (by simp)
  have hc:=h c (by simp)
  rw [hvZ_three p0]
  unfold hasP
  rw [if_neg (show ¬ [a,b,c].length < 2 by simp),if_neg (show ¬ [a,b,c].length=2 by simp),if_pos (show [a,b,c].length=3 from rfl)]
  have key:=tz_qv hP ha hb hc
  rw [key,show mlL [a,b,c]=a * b * c by show a * (b * (c * 1))=_; grind]
  cases qv p [a,b,c] <;> cases saysF (-1) (-(a * b * c)) p <;> rfl
 | [a,b,c,d],h,_ =>
  have ha:=h a (by simp)
  have hb:=h b (by simp)
  have hc:=h c (by simp)
  have hd:=h d (by simp)
  rw [hvZ_four p0]
  unfold hasP
  rw [if_neg (show ¬ [a,b,c,d].length < 2 by simp),if_neg (show ¬ [a,b,c,d].length=2 by simp),if_neg (show ¬ [a,b,c,d].length=3 by simp),if_pos (show [a,b,c,d].length=4 from rfl),show mlL [a,b,c,d]=a * b * c * d by show a * (b * (c * (d * 1)))=_; grind]
  by_cases hs:sqc (a * b * c * d) p
  ·rw [decide_eq_true hs]
   have habc:a * b * c≠0:=Int.mul_ne_zero (Int.mul_ne_zero ha hb) hc
   have k1:saysF (a * b * c) d p=saysF (a * b * c) (-1) p:=by
    have k:=says_sqc hp habc hs
    rw [says_mul hP habc habc hd,says_self hP habc] at k
    cases q1:saysF (a * b * c) (-1) p <;> cases q2:saysF (a * b * c) d p <;> rw [q1,q2] at k <;> first | rfl | cases k
   have k2:qv p [a,b,c,d]=(qv p [a,b,c] == saysF (a * b * c) d p):=by
    have e:=qv_snoc p [a,b,c] d
    have e':qv p [a,b,c,d]=(qv p [a,b,c] == (saysF a d p == (saysF b d p == (saysF c d p == true)))):=by
     rw [evn_cons,evn_cons,evn_cons,evn_nil] at e
     exact e
    rw [e',says_mulL hP (Int.mul_ne_zero ha hb) hc hd,says_mulL hP ha hb hd]
    cases saysF a d p <;> cases saysF b d p <;> cases saysF c d p <;> rfl
   have k3:saysF (-1) (-(a * b * c)) p=(saysF (-1) (-1) p == saysF (a * b * c) (-1) p):=by
    rw [show -(a * b * c)=-1 * (a * b * c) by omega,says_mul hP (by decide) (by decide) habc,says_sym hP habc (by decide)]
   rw [tz_qv hP ha hb hc,k2,k1,k3]
   cases qv p [a,b,c] <;> cases saysF (a * b * c) (-1) p <;> cases saysF (-1) (-1) p <;> rfl
  ·rw [decide_eq_false hs]; rfl
 | a :: b :: c :: d :: e :: r,_,_ =>
  rw [hvZ_five p0 (by simp)]
  unfold hasP
  rw [if_neg (by simp),if_neg (by simp),if_neg (by simp),if_neg (by simp)]
end EP
namespace EP
theorem mlL_perm {l m:List Int} (h:l.Perm m):mlL l=mlL m:=by
 induction h with
 | nil=>rfl
 | cons a _ ih=>show a * _=a * _; rw [ih]
 | swap a b l=>show b * (a * mlL l)=a * (b * mlL l); grind
 | trans _ _ i1 i2=>rw [i1,i2]
theorem qv_perm {p:Int} (hp:Pl p) {l m:List Int} (h:l.Perm m):(∀ x∈l,x≠0)→qv p l=qv p m:=by
 induction h with
 | nil=>intro _; rfl
 | @cons a l m hlm ih =>
  intro h
  have hl:=fun x hx=>h x (List.mem_cons_of_mem a hx)
  have hm:∀ x∈m,x≠0:=fun x hx=>hl x (hlm.mem_iff.mpr hx)
  rw [qv_cons hp (h a (List.mem_cons_self ..)) hl,qv_cons hp (h a (List.mem_cons_self ..)) hm,ih hl,mlL_perm hlm]
 | swap a b l =>
  intro h
  have ha:=h a (by simp)
  have hb:=h b (by simp)
  have hl:∀ x∈l,x≠0:=fun x hx=>h x (by simp [hx])
  have h0:=mlL_nz hl
  have hal:∀ x∈a :: l,x≠0:=fun x hx=>h x (by rcases List.mem_cons.mp hx with e | e <;> simp [e])
  have hbl:∀ x∈b :: l,x≠0:=fun x hx=>h x (by rcases List.mem_cons.mp hx with e | e <;> simp [e])
  rw [qv_cons hp hb hal,qv_cons hp ha hbl,qv_cons hp ha hl,qv_cons hp hb hl]
  show (saysF b (a * mlL l) p == _)=(saysF a (b * mlL l) p == _)
  rw [says_mul hp hb ha h0,says_mul hp ha hb h0,says_sym hp ha hb]
  cases saysF a b p <;> cases saysF a (mlL l) p <;> cases saysF b (mlL l) p <;> cases qv p l <;> rfl
 | trans h1 _ i1 i2=>intro h; rw [i1 h,i2 fun x hx=>h x (h1.mem_iff.mpr hx)]
theorem wiR_perm {p:Int} (hp:Pl p) {l m:List Int} (h:l.Perm m) (hl:∀ x∈l,x≠0):wiR p l=wiR p m:=by
 unfold wiR
 rw [h.length_eq,mlL_perm h,qv_perm hp h hl]
inductive Sqs:List Int→List Int→Prop
 | nil:Sqs [] []
 | cons {a r:Int} {l m:List Int}:r≠0→Sqs l m→Sqs (a :: l) (a * r * r :: m)
theorem Sqs.ok {p:Int} (hp:Pl p) {l m:List Int} (h:Sqs l m):(∀ x∈l,x≠0)→qv p l=qv p m∧(∀ x∈m,x≠0)∧l.length=m.length∧∃ s,s≠0∧mlL m=mlL l * s * s:=by
 induction h with
 | nil=>intro _; exact ⟨rfl,(fun x hx=>by cases hx),rfl,1,by decide,by decide⟩
 | @cons a r l m hr _ ih =>
  intro h
  have ha:=h a (List.mem_cons_self ..)
  have hl:=fun x hx=>h x (List.mem_cons_of_mem a hx)
  obtain ⟨i1,i2,i3,s,s0,i4⟩:=ih hl
  have har:a * r * r≠0:=Int.mul_ne_zero (Int.mul_ne_zero ha hr) hr
  refine ⟨?_,fun x hx=>?_,by rw [List.length_cons,List.length_cons,i3],r * s,Int.mul_ne_zero hr s0,?_⟩
  ·rw [qv_cons hp ha hl,qv_cons hp har i2,i1,i4,says_sq hp ha hr,says_sq2 hp ha (mlL_nz hl) s0]
  ·rcases List.mem_cons.mp hx with rfl | hx
   ·exact har
   ·exact i2 x hx
  ·show a * r * r * mlL m=a * mlL l * (r * s) * (r * s)
   rw [i4]; grind
theorem wiR_eq {p:Int} (hp:isP p=true) {l m:List Int} (hl:∀ x∈l,x≠0) (hm:∀ x∈m,x≠0) (h1:l.length=m.length) (h2:cls (mlL l) p=cls (mlL m) p) (h3:qv p l=qv p m):wiR p l=wiR p m:=by
 unfold wiR
 rw [h1,h3]
 exact wi_congr hp (mlL_nz hl) (mlL_nz hm) h2
theorem wiR_sqs {p:Int} (hp:isP p=true) {l m:List Int} (h:Sqs l m) (hl:∀ x∈l,x≠0):wiR p m=wiR p l:=by
 obtain ⟨h1,h2,h3,s,s0,h4⟩:=h.ok (.inr hp) hl
 exact (wiR_eq hp hl h2 h3 (by rw [h4]; exact (cls_sq hp (mlL_nz hl) s0).symm) h1).symm
theorem qv_turn {p a b c e x y s t:Int} (hp:Pl p) {l:List Int} (ha:a≠0) (hb:b≠0) (hc:c≠0) (he:e≠0) (hs:s≠0) (ht:t≠0) (hl:∀ x∈l,x≠0) (e1:a * x * x + b * y * y=c * s * s) (e2:a * b * c=e * t * t):qv p (c :: e :: l)=qv p (a :: b :: l):=by
 have h0:=mlL_nz hl
 have hbl:∀ x∈b :: l,x≠0:=fun x hx=>by
  rcases List.mem_cons.mp hx with rfl | hx
  ·exact hb
  ·exact hl x hx
 have hel:∀ x∈e :: l,x≠0:=fun x hx=>by
  rcases List.mem_cons.mp hx with rfl | hx
  ·exact he
  ·exact hl x hx
 rw [qv_cons hp hc hel,qv_cons hp he hl,qv_cons hp ha hbl,qv_cons hp hb hl]
 show (saysF c (e * mlL l) p == _)=(saysF a (b * mlL l) p == _)
 rw [says_mul hp hc he h0,says_mul hp ha hb h0]
 -- cross terms
 have k1:(saysF c (mlL l) p == saysF e (mlL l) p)=(saysF a (mlL l) p == saysF b (mlL l) p):=by
  rw [← says_mulL hp hc he h0,← says_mulL hp ha hb h0]
  have e3:c * e * t * t=a * b * c * c:=by
   have:c * e * t * t=c * (e * t * t):=by grind
   rw [this,← e2]; grind
  have z1:=says_sq (b:=mlL l) hp (Int.mul_ne_zero hc he) ht
  have z2:=says_sq (b:=mlL l) hp (Int.mul_ne_zero ha hb) hc
  rw [← z1,e3,z2]
 have k2:saysF c e p=saysF a b p:=by
  have w0:c * s * s≠0:=Int.mul_ne_zero (Int.mul_ne_zero hc hs) hs
  have z:=says_two hp ha hb w0 e1
  have z1:saysF (a * c) (b * c) p=true:=by
   rw [show a * (c * s * s)=a * c * s * s by grind,show b * (c * s * s)=b * c * s * s by grind,says_sq hp (Int.mul_ne_zero ha hc) hs,says_sq2 hp (Int.mul_ne_zero ha hc) (Int.mul_ne_zero hb hc) hs] at z
   exact z
  have z2:saysF c e p=saysF c (a * b * c) p:=by rw [e2,says_sq2 hp hc he ht]
  rw [says_mulL hp ha hc (Int.mul_ne_zero hb hc),says_mul hp ha hb hc,says_mul hp hc hb hc,says_self hp hc] at z1
  rw [z2,says_mul hp hc (Int.mul_ne_zero ha hb) hc,says_mul hp hc ha hb,says_self hp hc,says_sym hp ha hc]
  generalize saysF a c p=q1 at *
  generalize saysF c b p=q2 at *
  generalize saysF c (-1) p=q3 at *
  generalize saysF a b p=q4 at *
  revert z1
  cases q1 <;> cases q2 <;> cases q3 <;> cases q4 <;> decide
 rw [k2]
 generalize saysF c (mlL l) p=q1 at *
 generalize saysF e (mlL l) p=q2 at *
 generalize saysF a (mlL l) p=q3 at *
 generalize saysF b (mlL l) p=q4 at *
 generalize saysF a b p=q5 at *
 generalize qv p l=q6 at *
 revert k1
 cases q1 <;> cases q2 <;> cases q3 <;> cases q4 <;> cases q5 <;> cases q6 <;> decide
theorem wiR_turn {p a b c e x y s t:Int} (hp:isP p=true) {l:List Int} (ha:a≠0) (hb:b≠0) (hc:c≠0) (he:e≠0) (hs:s≠0) (ht:t≠0) (hl:∀ x∈l,x≠0) (e1:a * x * x + b * y * y=c * s * s) (e2:a * b * c=e * t * t):wiR p (c :: e :: l)=wiR p (a :: b :: l):=by
 have h0:=mlL_nz hl
 have mem:∀ {u v:Int},u≠0→v≠0→∀ x∈u :: v :: l,x≠0:=fun {u v} hu hv x hx=>by
  rcases List.mem_cons.mp hx with rfl | hx
  ·exact hu
  ·rcases List.mem_cons.mp hx with rfl | hx
   ·exact hv
   ·exact hl x hx
 refine wiR_eq hp (mem hc he) (mem ha hb) rfl ?_ (qv_turn (.inr hp) ha hb hc he hs ht hl e1 e2)
 show cls (c * (e * mlL l)) p=cls (a * (b * mlL l)) p
 have e3:c * (e * mlL l) * t * t=a * (b * mlL l) * c * c:=by
  have:c * (e * mlL l) * t * t=c * (e * t * t) * mlL l:=by grind
  rw [this,← e2]; grind
 have z1:=cls_sq hp (Int.mul_ne_zero hc (Int.mul_ne_zero he h0)) ht
 have z2:=cls_sq hp (Int.mul_ne_zero ha (Int.mul_ne_zero hb h0)) hc
 rw [← z1,e3,z2]
theorem is_square {D:Int} (h0:D≠0) (h:∀ p,isP p=true→(p=2∨p ∣ D)→sqc D p):∃ s,D=s * s:=by
 obtain ⟨f,s,hf,hs,e⟩:=free_ex _ D h0 (Nat.le_refl _)
 have f0:=hf.1
 have ec:∀ p,isP p=true→cls D p=cls f p:=fun p hp=>by
  rw [e,← Int.mul_assoc]; exact cls_sq hp f0 (by omega)
 have key:∀ p,isP p=true→(p=2∨p ∣ D)→cls f p=(0,1):=fun p hp hd=>by rw [← ec p hp]; exact h p hp hd
 have nop:∀ p,isP p=true→¬ p ∣ f:=fun p hp hd=>by
  have p2:=isP_ge hp
  have hdD:p ∣ D:=by rw [e]; exact Int.dvd_trans hd (Int.dvd_mul_right f _)
  have k:=key p hp (.inr hdD)
  by_cases h2:p=2
  ·subst h2
   rcases even_cls f0 (Int.emod_eq_zero_of_dvd hd) with ⟨x,_,_,hx⟩ | ⟨x,_,hx,_⟩ | hx
   ·rw [hx] at k; cases k
   ·exact hf.2 2 (by decide) ⟨x,by omega⟩
   ·exact hf.2 2 (by decide) (Int.dvd_of_emod_eq_zero (by omega))
  ·rw [(cls_d hp h2 (by simpa [dvb] using Int.emod_eq_zero_of_dvd hd) (fun z=>hf.2 p p2 z)).1] at k
   cases k
 have f1:f.natAbs=1:=by
  apply Classical.byContradiction
  intro hn
  obtain ⟨q,hq,hd⟩:=has_prime (k:=(f.natAbs:Int)) (by omega)
  exact nop q hq (Int.dvd_natAbs.mp hd)
 have:f=1∨f=-1:=by omega
 rcases this with rfl | rfl
 ·exact ⟨s,by omega⟩
 ·have k:=key 2 isP_two (.inl rfl)
  rw [sqb_m1 isP_two] at k
  exact absurd k (by decide)
theorem dvd_ml {p:Int} (hp:isP p=true):∀ (l:List Int),p ∣ mlL l→∃ a∈l,p ∣ a
 | [],h=>by
  have:=Int.le_of_dvd (by decide) (show p ∣ 1 from h)
  have:=isP_ge hp
  omega
 | a :: l,h=>by
  rcases euclid hp (show p ∣ a * mlL l from h) with z | z
  ·exact ⟨a,by simp,z⟩
  ·obtain ⟨b,hb,hd⟩:=dvd_ml hp l z
   exact ⟨b,by simp [hb],hd⟩
theorem not_full {n W:Nat} (h1:2 * W≤n) (h2:2 * W≠n) (h3:n % 2=0):2 * W + 2≤n:=by omega
theorem other_place {q:Int} (hq:isP q=true) (h2:q≠2) {l:List Int} (hl:∀ x∈l,x≠0) (h1:1≤l.length) (hu:∀ x∈l,¬ q ∣ x):∃ p,isP p=true∧(p=2∨∃ a∈l,p ∣ a)∧wiR p l≤wiR q l:=by
 have ud:¬ q ∣ mlL l:=fun z=>by
  obtain ⟨a,ha,hd⟩:=dvd_ml hq l z
  exact hu a ha hd
 have qq:qv q l=true:=qv_unit hq h2 hu
 obtain ⟨i1,i2,i3⟩:=wi_unit hq h2 (n:=l.length) ud
 have eW:wiR q l=wiP q l.length (mlL l) false:=by unfold wiR; rw [qq]; rfl
 rw [eW]
 have b2:2 * wiR 2 l≤l.length:=wi_le
 by_cases ho:l.length % 2=1
 ·exact ⟨2,isP_two,.inl rfl,by have:=i2 ho; omega⟩
 ·by_cases hs:sqc (sgD l.length (mlL l)) q
  ·exact ⟨2,isP_two,.inl rfl,by have:=i3 (by omega) hs; omega⟩
  ·have h0:=mlL_nz hl
   have D0:sgD l.length (mlL l)≠0:=by unfold sgD; split <;> omega
   have hn:¬ ∀ p,isP p=true→(p=2∨p ∣ sgD l.length (mlL l))→sqc (sgD l.length (mlL l)) p:=fun h=>by
    obtain ⟨s,e⟩:=is_square D0 h
    apply hs
    rw [e]
    exact sqc_sq hq (fun z=>by rw [e,z] at D0; exact D0 rfl)
   have ⟨p,hp⟩:=Classical.not_forall.mp hn
   have ⟨hp1,hp⟩:=Classical.not_imp.mp hp
   have ⟨hp2,hp3⟩:=Classical.not_imp.mp hp
   refine ⟨p,hp1,?_,?_⟩
   ·rcases hp2 with e | e
    ·exact .inl e
    ·right
     have e':p ∣ mlL l:=by
      unfold sgD at e
      split at e
      ·exact Int.dvd_neg.mp e
      ·exact e
     exact dvd_ml hp1 l e'
   ·have b:2 * wiR p l≤l.length:=wi_le
    have nf:2 * wiR p l≠l.length:=fun z=>hp3 (wi_full (by omega) (by omega) z)
    have:=not_full b nf (by omega)
    omega
def abv (l:List Int):Nat:=(l.filter fun k=>decide (0 < k)).length
noncomputable def wiA (p:Int) (l:List Int):Nat:=if p=0 then min (abv l) (l.length - abv l) else wiR p l
def HM (l:List Int) (m:Nat):Prop:=(∀ p,Pl p→m≤wiA p l)∧∃ p,Pl p∧wiA p l=m
theorem HM.uniq {l m:List Int} {a b:Nat} (h:∀ p,Pl p→wiA p l=wiA p m) (h1:HM l a) (h2:HM m b):a=b:=by
 obtain ⟨p,hp,e⟩:=h1.2
 obtain ⟨q,hq,e'⟩:=h2.2
 have k1:=h2.1 p hp
 have k2:=h1.1 q hq
 rw [← h p hp,e] at k1
 rw [h q hq,e'] at k2
 omega
theorem HM.add {l m:List Int} {a b k:Nat} (h:∀ p,Pl p→wiA p m=k + wiA p l) (h1:HM l a) (h2:HM m b):b=k + a:=by
 obtain ⟨p,hp,e⟩:=h1.2
 obtain ⟨q,hq,e'⟩:=h2.2
 have k1:=h2.1 p hp
 have k2:=h1.1 q hq
 rw [h p hp,e] at k1
 rw [h q hq] at e'
 omega
theorem abv_le (l:List Int):abv l≤l.length:=List.length_filter_le _ _
theorem hm_of {l:List Int} {m:Nat} (hl:∀ x∈l,x≠0) (h1:1≤l.length) (a0:m≤wiA 0 l) (ap:∀ p,isP p=true→(p=2∨∃ a∈l,p ∣ a)→m≤wiR p l) (ex:m=wiA 0 l∨∃ p,isP p=true∧m=wiR p l):HM l m:=by
 have ne:∀ p,isP p=true→wiA p l=wiR p l:=fun p hp=>by
  have:=isP_ge hp
  unfold wiA
  rw [if_neg (by omega)]
 refine ⟨fun p hp=>?_,?_⟩
 ·rcases hp with rfl | hp
  ·exact a0
  ·rw [ne p hp]
   by_cases hd:p=2∨∃ a∈l,p ∣ a
   ·exact ap p hp hd
   ·obtain ⟨q,hq,hq2,hle⟩:=other_place hp (fun z=>hd (.inl z)) hl h1 fun x hx z=>hd (.inr ⟨x,hx,z⟩)
    exact Nat.le_trans (ap q hq hq2) hle
 ·rcases ex with e | ⟨p,hp,e⟩
  ·exact ⟨0,.inl rfl,e.symm⟩
  ·exact ⟨p,.inr hp,by rw [ne p hp]; exact e.symm⟩
theorem wiA_perm {p:Int} (hp:Pl p) {l m:List Int} (h:l.Perm m) (hl:∀ x∈l,x≠0):wiA p l=wiA p m:=by
 unfold wiA
 split
 ·have e:abv l=abv m:=(h.filter _).length_eq
  rw [e,h.length_eq]
 ·exact wiR_perm hp h hl
theorem wiA_pair {p t:Int} (hp:Pl p) (ht:t≠0) {l:List Int} (h:∀ x∈l,x≠0) (h1:1≤l.length):wiA p (t :: -t :: l)=1 + wiA p l:=by
 unfold wiA
 split
 ·have:=abv_le l
  have e:abv (t :: -t :: l)=1 + abv l:=by
   unfold abv
   by_cases z:0 < t
   ·rw [List.filter_cons_of_pos (by simpa using z),List.filter_cons_of_neg (by simp; omega),List.length_cons]; omega
   ·rw [List.filter_cons_of_neg (by simpa using z),List.filter_cons_of_pos (by simp; omega),List.length_cons]; omega
  rw [e,List.length_cons,List.length_cons]
  omega
 ·rename_i p0
  exact wi_pair (hp.resolve_left p0) ht h h1
theorem wiA_sqs {p:Int} (hp:Pl p) {l m:List Int} (h:Sqs l m) (hl:∀ x∈l,x≠0):wiA p m=wiA p l:=by
 unfold wiA
 split
 ·have e:abv l=abv m∧l.length=m.length:=by
   clear hl
   induction h with
   | nil=>exact ⟨rfl,rfl⟩
   | @cons a r l m hr _ ih =>
    have hs:0 < a * r * r↔0 < a:=by
     have:0 < r * r:=by
      rcases Int.lt_or_gt_of_ne hr with z | z
      ·exact Int.mul_pos_of_neg_of_neg z z
      ·exact Int.mul_pos z z
     rw [Int.mul_assoc]
     constructor
     ·intro z
      exact Int.pos_of_mul_pos_left z this
     ·intro z
      exact Int.mul_pos z this
    unfold abv at ih ⊢
    refine ⟨?_,by rw [List.length_cons,List.length_cons,ih.2]⟩
    by_cases z:0 < a
    ·rw [List.filter_cons_of_pos (by simpa using z),List.filter_cons_of_pos (by simpa using hs.mpr z),List.length_cons,List.length_cons,ih.1]
    ·rw [List.filter_cons_of_neg (by simpa using z),List.filter_cons_of_neg (by simpa using fun w=>z (hs.mp w)),ih.1]
  rw [e.1,e.2]
 ·rename_i p0
  exact wiR_sqs (hp.resolve_left p0) h hl
theorem wi_zero {p:Int} (hp:isP p=true) {l:List Int} (h:∀ x∈l,x≠0) (h1:1≤l.length):wiR p l=0↔hvZ l p=false:=by
 rw [← has_hv hp h h1]
 unfold wiR
 constructor
 ·intro z
  cases q:hasP p l.length (mlL l) (!qv p l) with
  | false=>rfl
  | true =>
   exfalso
   have h2:2≤l.length:=by
    apply Classical.byContradiction
    intro hn
    unfold hasP at q
    rw [if_pos (by omega)] at q
    cases q
   obtain ⟨n,hn⟩:∃ n,l.length=n + 2:=⟨l.length - 2,by omega⟩
   rw [hn] at q z
   rw [wi_go q] at z
   omega
 ·exact wi_no
theorem wiA_zero {p:Int} (hp:Pl p) {l:List Int} (h:∀ x∈l,x≠0) (h1:1≤l.length):wiA p l=0↔hvZ l p=false:=by
 unfold wiA
 split
 ·rename_i e
  subst e
  have key:hvZ l 0=true↔0 < abv l∧abv l < l.length:=by
   rw [hvZ_nought]
   unfold abv
   constructor
   ·rintro ⟨⟨x,hx,x0⟩,⟨y,hy,y0⟩⟩
    refine ⟨List.length_pos_of_mem (List.mem_filter.mpr ⟨hy,by simpa using y0⟩),?_⟩
    apply Classical.byContradiction
    intro hn
    have e:=List.length_filter_eq_length_iff.mp (Nat.le_antisymm (List.length_filter_le (fun k=>decide (0 < k)) l) (by omega))
    have:=e x hx
    have:0 < x:=by simpa using this
    omega
   ·rintro ⟨z1,z2⟩
    refine ⟨?_,?_⟩
    ·apply Classical.byContradiction
     intro hn
     have:(l.filter fun k=>decide (0 < k)).length=l.length:=List.length_filter_eq_length_iff.mpr fun x hx=>by
      have:=h x hx
      have:¬ x < 0:=fun z=>hn ⟨x,hx,z⟩
      simp
      omega
     omega
    ·obtain ⟨y,hy⟩:=List.exists_mem_of_length_pos z1
     obtain ⟨hy1,hy2⟩:=List.mem_filter.mp hy
     exact ⟨y,hy1,by simpa using hy2⟩
  have:=abv_le l
  cases q:hvZ l 0 with
  | true =>
   have:=key.mp q
   constructor
   ·intro z; omega
   ·intro z; cases z
  | false =>
   have hn:¬ (0 < abv l∧abv l < l.length):=fun z=>by rw [key.mpr z] at q; cases q
   constructor
   ·intro _; rfl
   ·intro _; omega
 ·rename_i p0
  exact wi_zero (hp.resolve_left p0) h h1
end EP
namespace EP
theorem perm_one:∀ (l:List Int) (i:Nat),i < l.length→∃ r,l.Perm (l.getD i 0 :: r)∧∀ u,(l.set i u).Perm (u :: r)
 | [],_,h=>by cases h
 | x :: l,0,_=>⟨l,List.Perm.refl _,fun u=>List.Perm.refl _⟩
 | x :: l,i + 1,h=>by
  obtain ⟨r,h1,h2⟩:=perm_one l i (by simpa using h)
  refine ⟨x :: r,?_,fun u=>?_⟩
  ·have e:(x :: l).getD (i + 1) 0=l.getD i 0:=by simp
   rw [e]
   exact (h1.cons x).trans (List.Perm.swap ..)
  ·show (x :: l.set i u).Perm _
   exact ((h2 u).cons x).trans (List.Perm.swap ..)
theorem perm_two:∀ (l:List Int) (i j:Nat),i≠j→i < l.length→j < l.length→∃ r,l.Perm (l.getD i 0 :: l.getD j 0 :: r)∧∀ u v,((l.set j v).set i u).Perm (u :: v :: r)
 | [],_,_,_,h,_=>by cases h
 | x :: l,0,0,h,_,_=>absurd rfl h
 | x :: l,0,j + 1,_,_,h=>by
  obtain ⟨r,h1,h2⟩:=perm_one l j (by simpa using h)
  refine ⟨r,?_,fun u v=>?_⟩
  ·have e:(x :: l).getD (j + 1) 0=l.getD j 0:=by simp
   rw [e]
   exact h1.cons x
  ·show (u :: l.set j v).Perm _
   exact (h2 v).cons u
 | x :: l,i + 1,0,_,h,_=>by
  obtain ⟨r,h1,h2⟩:=perm_one l i (by simpa using h)
  refine ⟨r,?_,fun u v=>?_⟩
  ·have e:(x :: l).getD (i + 1) 0=l.getD i 0:=by simp
   rw [e]
   exact (h1.cons x).trans (List.Perm.swap ..)
  ·show (v :: l.set i u).Perm _
   exact ((h2 u).cons v).trans (List.Perm.swap ..)
 | x :: l,i + 1,j + 1,hn,hi,hj=>by
  obtain ⟨r,h1,h2⟩:=perm_two l i j (by omega) (by simpa using hi) (by simpa using hj)
  refine ⟨x :: r,?_,fun u v=>?_⟩
  ·have e1:(x :: l).getD (i + 1) 0=l.getD i 0:=by simp
   have e2:(x :: l).getD (j + 1) 0=l.getD j 0:=by simp
   rw [e1,e2]
   exact (h1.cons x).trans ((List.Perm.swap ..).trans ((List.Perm.swap ..).cons _))
  ·show (x :: (l.set j v).set i u).Perm _
   exact ((h2 u v).cons x).trans ((List.Perm.swap ..).trans ((List.Perm.swap ..).cons _))
theorem sgn_sq {c s:Int} (hs:s≠0):(0 < c * s * s↔0 < c)∧(c * s * s < 0↔c < 0):=by
 have p:0 < s * s:=by
  rcases Int.lt_or_gt_of_ne hs with z | z
  ·exact Int.mul_pos_of_neg_of_neg z z
  ·exact Int.mul_pos z z
 rw [Int.mul_assoc]
 refine ⟨⟨fun z=>Int.pos_of_mul_pos_left z p,fun z=>Int.mul_pos z p⟩,fun z=>?_,fun z=>Int.mul_neg_of_neg_of_pos z p⟩
 apply Classical.byContradiction
 intro hn
 have:=Int.mul_nonneg (show 0≤c by omega) (show 0≤s * s by omega)
 omega
theorem sq_nn (x:Int):0≤x * x:=by
 rcases Int.le_total 0 x with z | z
 ·exact Int.mul_nonneg z z
 ·exact Int.mul_nonneg_of_nonpos_of_nonpos z z
theorem turn_sgn {a b c e x y s t:Int} (ha:a≠0) (hb:b≠0) (hc:c≠0) (he:e≠0) (hs:s≠0) (ht:t≠0) (e1:a * x * x + b * y * y=c * s * s) (e2:a * b * c=e * t * t) :
  ((0 < a∧0 < b)→(0 < c∧0 < e))∧((a < 0∧b < 0)→(c < 0∧e < 0))∧((0 < a∧b < 0)∨(a < 0∧0 < b)→(0 < c∧e < 0)∨(c < 0∧0 < e)):=by
 obtain ⟨c1,c2⟩:=sgn_sq (c:=c) hs
 obtain ⟨t1,t2⟩:=sgn_sq (c:=e) ht
 have cs0:c * s * s≠0:=Int.mul_ne_zero (Int.mul_ne_zero hc hs) hs
 have x0:=sq_nn x
 have y0:=sq_nn y
 rw [← e1] at c1 c2 cs0
 rw [← e2] at t1 t2
 rw [Int.mul_assoc a x x,Int.mul_assoc b y y] at c1 c2 cs0
 refine ⟨fun ⟨p,q⟩=>?_,fun ⟨p,q⟩=>?_,fun h=>?_⟩
 ·have k1:=Int.mul_nonneg (show 0≤a by omega) x0
  have k2:=Int.mul_nonneg (show 0≤b by omega) y0
  have cp:0 < c:=c1.mp (by omega)
  exact ⟨cp,t1.mp (Int.mul_pos (Int.mul_pos p q) cp)⟩
 ·have k1:=Int.mul_nonpos_of_nonpos_of_nonneg (show a≤0 by omega) x0
  have k2:=Int.mul_nonpos_of_nonpos_of_nonneg (show b≤0 by omega) y0
  have cn:c < 0:=c2.mp (by omega)
  exact ⟨cn,t2.mp (Int.mul_neg_of_pos_of_neg (Int.mul_pos_of_neg_of_neg p q) cn)⟩
 ·have ab:a * b < 0:=by
   rcases h with ⟨p,q⟩ | ⟨p,q⟩
   ·exact Int.mul_neg_of_pos_of_neg p q
   ·exact Int.mul_neg_of_neg_of_pos p q
  rcases Int.lt_or_gt_of_ne hc with z | z
  ·exact .inr ⟨z,t1.mp (Int.mul_pos_of_neg_of_neg ab z)⟩
  ·exact .inl ⟨z,t2.mp (Int.mul_neg_of_neg_of_pos ab z)⟩
theorem abv_cons (a:Int) (l:List Int):abv (a :: l)=(if 0 < a then 1 else 0) + abv l:=by
 unfold abv
 by_cases z:0 < a
 ·rw [List.filter_cons_of_pos (by simpa using z),List.length_cons,if_pos z]; omega
 ·rw [List.filter_cons_of_neg (by simpa using z),if_neg z]; omega
theorem wiA_turn {p a b c e x y s t:Int} (hp:Pl p) {l:List Int} (ha:a≠0) (hb:b≠0) (hc:c≠0) (he:e≠0) (hs:s≠0) (ht:t≠0) (hl:∀ x∈l,x≠0) (e1:a * x * x + b * y * y=c * s * s) (e2:a * b * c=e * t * t):wiA p (c :: e :: l)=wiA p (a :: b :: l):=by
 unfold wiA
 split
 ·have k:abv (c :: e :: l)=abv (a :: b :: l):=by
   obtain ⟨q1,q2,q3⟩:=turn_sgn ha hb hc he hs ht e1 e2
   rw [abv_cons,abv_cons,abv_cons,abv_cons]
   rcases Int.lt_or_gt_of_ne ha with za | za <;> rcases Int.lt_or_gt_of_ne hb with zb | zb
   ·have:=q2 ⟨za,zb⟩
    rw [if_neg (by omega),if_neg (by omega),if_neg (by omega),if_neg (by omega)]
   ·rcases q3 (.inr ⟨za,zb⟩) with w | w
    ·rw [if_pos (by omega),if_neg (by omega),if_neg (by omega),if_pos (by omega)]; omega
    ·rw [if_neg (by omega),if_pos (by omega),if_neg (by omega),if_pos (by omega)]
   ·rcases q3 (.inl ⟨za,zb⟩) with w | w
    ·rw [if_pos (by omega),if_neg (by omega),if_pos (by omega),if_neg (by omega)]
    ·rw [if_neg (by omega),if_pos (by omega),if_pos (by omega),if_neg (by omega)]; omega
   ·have:=q1 ⟨za,zb⟩
    rw [if_pos (by omega),if_pos (by omega),if_pos (by omega),if_pos (by omega)]
  rw [k]
  rfl
 ·rename_i p0
  exact wiR_turn (hp.resolve_left p0) ha hb hc he hs ht hl e1 e2
theorem wiA_set {l:List Int} {i j:Nat} {a b c e x y s t:Int} (hl:∀ x∈l,x≠0) (hij:i≠j) (hi:i < l.length) (hj:j < l.length) (ea:l.getD i 0=a) (eb:l.getD j 0=b) (hc:c≠0) (he:e≠0) (hs:s≠0) (ht:t≠0) (e1:a * x * x + b * y * y=c * s * s) (e2:a * b * c=e * t * t) {p:Int} (hp:Pl p):wiA p ((l.set j e).set i c)=wiA p l:=by
 obtain ⟨r,h1,h2⟩:=perm_two l i j hij hi hj
 rw [ea,eb] at h1
 have mem:∀ z∈a :: b :: r,z≠0:=fun z hz=>hl z (h1.mem_iff.mpr hz)
 have ha:=mem a (by simp)
 have hb:=mem b (by simp)
 have hr:∀ z∈r,z≠0:=fun z hz=>mem z (by simp [hz])
 have k:=h2 c e
 have mem2:∀ z∈(l.set j e).set i c,z≠0:=fun z hz=>by
  have:=k.mem_iff.mp hz
  rcases List.mem_cons.mp this with rfl | w
  ·exact hc
  ·rcases List.mem_cons.mp w with rfl | w
   ·exact he
   ·exact hr z w
 rw [wiA_perm hp k mem2,wiA_perm hp h1 hl]
 exact wiA_turn hp ha hb hc he hs ht hr e1 e2
end EP
namespace L2.EP
open PySem PySem.Spec PyProof.Rows
theorem pr_of {α β:Type} {R:α→β→Prop}:∀ {xs:List α} {us:List β},xs.length=us.length→(∀ (i:Nat) x u,xs[i]?=some x→us[i]?=some u→R x u)→Paired R xs us
 | [],[],_,_=>.nil
 | [],_ :: _,h,_=>nomatch h
 | _ :: _,[],h,_=>nomatch h
 | x :: xs,u :: us,h,f=>.cons (f 0 x u rfl rfl) (pr_of (Nat.succ.inj h) fun i a b h1 h2=>f (i + 1) a b h1 h2)
theorem Inv.grownL {X:Cx} {pins:List (Addr × Obj)} {σ:St} {H:Hp} {s s':Shared} (J:Inv X pins σ H { s with heap:=s'.heap,toks:=s'.toks }) (e1:s'.gens=s.gens) (e2:s'.os=s.os):Inv X pins σ H s':=by
 obtain ⟨h',gn,d,tk,os⟩:=s'
 simp only at e1 e2
 subst e1 e2
 exact ⟨J.ok,J.os,J.bare,J.base,J.loc,J.cell,J.free,J.freeC,J.pin,J.hok,J.len⟩
section
variable {X:Cx} {Γ:GEnv} {D:GD} {α β γ:Type} [Py α] [Py β] [Py γ] {e e1 e2 ek ec:Expr} {b b1 b2:Bool} {pos:Pos} {rest st:List Stmt}
end
end L2.EP
namespace L2.EP
open PySem PySem.Spec PyProof.Rows
section
variable {X:Cx} {Γ:GEnv} {D:GD} {α β γ:Type} [Py α] [Py β] [Py γ] {e e1 e2:Expr} {b b1 b2:Bool} {pos:Pos} {rest st:List Stmt}
theorem g_two (i j:Nat) {x y:Str} {p1 p2 p3:Pos} {k:Nat} (hN:X.N.Nodup) (hc:X.calm=true:=by rfl) (hi:X.N[i]?=some x:=by rfl) (hj:X.N[j]?=some y:=by rfl)
  (hx:Loc X.env.scope x:=by first | exact Or.inl rfl | exact Or.inr rfl) (hy:Loc X.env.scope y:=by first | exact Or.inl rfl | exact Or.inr rfl)
  (hf:X.fn x=true∨X.env.scope.names.lookup x=some .local:=by first | exact .inl rfl | exact .inr rfl) (hf2:X.fn y=true∨X.env.scope.names.lookup y=some .local:=by first | exact .inl rfl | exact .inr rfl)
  (hn:(assignEach [.Name x p1,.Name y p2] X.env).length=2:=by rfl)
  (hst:(assignEach [.Name x p1,.Name y p2] X.env).findIdx? (·.1)=none:=by rfl) (ha1:assignEach [.Name x p1,.Name y p2] X.env=(false,assign (.Name x p1) X.env) :: assignEach [.Name y p2] X.env:=by rfl) (ha2:assignEach [.Name y p2] X.env=(false,assign (.Name y p2) X.env) :: assignEach [] X.env:=by rfl) :
  G X (.Tuple [.Name x p1,.Name y p2] k p3) (gTup X.K 2 (gCons (gName i) (gCons (gName j) gNil))) (α × β) (fun b u Γ=>(Γ.set i (some (.val b u.1))).set j (some (.val b u.2))) (fun k=>k=i∨k=j):=by
 with_unfolding_all
  exact ⟨pg_tup hc (pgs_cons (pg_name hN hi hx hf) (pgs_cons (pg_name hN hj hy hf2) pgs_nil)),gp_two i j⟩
end
end L2.EP
namespace L2.EP
open PySem PySem.Spec PyProof.Rows
section
variable {X:Cx} {Γ:GEnv} {D:GD} {α β γ:Type} [Py α] [Py β] [Py γ] {e e1 e2 e3:Expr} {b b1 b2 b3:Bool} {pos:Pos} {rest st:List Stmt}
theorem e_catB [PyT α] {xs ys:List α} (ha:E X Γ e1 b1 xs) (hb:E X Γ e2 b2 ys) (hl:xs.length + ys.length≤2 ^ 23):E X Γ (.BinOp e1 .Add e2 pos) true (xs ++ ys):=by
 with_unfolding_all
  exact pe_wk (pe_op op_catS ha hb) fun σ H Q ⟨H0,F,O,S,q⟩=>⟨H0,F,O,S,fun v H1 s1 r1=>⟨H0,F,O,S.go s1,fun w H2 s2 r2=>by
    obtain ⟨p,vs,e1,sq1,n1,rr1⟩:=r1
    obtain ⟨p',vs',e2,sq2,n2,rr2⟩:=r2
    refine ⟨p,p',vs,vs',e1,e2,(off_same _ _).seq ((off_mono s2).seq sq1),(off_same _ _).seq sq2,by rw [pr_len rr1,pr_len rr2]; exact Nat.le_trans hl (by decide),fun l hl'=>?_⟩
    obtain ⟨z1,z2⟩:=laid_lst (xs:=vs ++ vs') ((S.go s1).go s2) hl'
    refine q _ _ (s1.trans (s2.trans z1)) ⟨l,_,rfl,SqL.of z2,Nf.wk (b:=true) (((S.go s1).go s2).free0 hl') z2,pr_cat ?_ ?_⟩
    ·exact pr_imp (fun _ _ z=>PyT.free (fun _ _ t=>Same.rt ((off_mono s2).trans (off_mono z1)) t) z) rr1
    ·exact pr_imp (fun _ _ z=>PyT.free (fun _ _ t=>Same.rt (off_mono z1) t) z) rr2⟩⟩
end
instance:PyD (Int ⊕ (Int × Int)) where
 dat a:=match a with | .inl i=>.int i | .inr u=>.tuple [.int u.1,.int u.2]
 dr {K N H v a} h:=by
  cases a with
  | inl i=>exact PyD.dr (α:=Int) (N:=N) h
  | inr u=>exact PyD.dr (α:=Int × Int) (N:=N) h
 lay a:=by
  cases a with
  | inl i=>exact PyD.lay (α:=Int) i
  | inr u=>exact PyD.lay (α:=Int × Int) u
 dep:=PyD.dep (Int × Int)
 depth a:=by
  cases a with
  | inl i=>exact Nat.le_trans (PyD.depth (α:=Int) i) (Nat.zero_le _)
  | inr u=>exact PyD.depth (α:=Int × Int) u
 eqv a b:=by
  cases a with
  | inl i=>cases b with
   | inl j=>exact (PyD.eqv (α:=Int) i j).trans ⟨fun h=>by rw [h],fun h=>by injection h⟩
   | inr u=>simp [PyData.eqv]
  | inr v=>cases b with
   | inl j=>simp [PyData.eqv]
   | inr u=>exact (PyD.eqv (α:=Int × Int) v u).trans ⟨fun h=>by rw [h],fun h=>by injection h⟩
end L2.EP
namespace L2.EP
open PySem PySem.Spec PyProof.Rows
section
variable {X:Cx} {Γ:GEnv} {D:GD} {α β γ:Type} [Py α] [Py β] [Py γ] {e e1 e2 ek:Expr} {b b1 b2:Bool} {pos:Pos} {rest st:List Stmt}
theorem s_setO (i:Nat) {as:List α} {a:α} {k:Int} {x:Str} {p p':Pos} (hg:Γ[i]?=some (some (.own b as))) (hk:E X Γ ek b2 k) (he:E X Γ e b a) (h0:0≤k) (hl:k < as.length) (h:S X (Γ.set i (some (.own b (as.set k.toNat a)))) rest D) (hi:X.N[i]?=some x:=by rfl)
  (hv:Vis X.env.scope x:=by first | exact Or.inl rfl | exact Or.inr (Or.inl rfl) | exact Or.inr (Or.inr rfl)) (hd:(x == ("__debug__":Str))=false:=by decide) (hcd:(x == ("__classdict__":Str))=false:=by decide)
  (ha:∀ v,assign (.Subscript (.Name x p) ek p') X.env v=(do
   let ov ← holding [v] (eval (.Name x p) X.env)
   let iv ← holding [v,ov] (eval ek X.env)
   standAt p'
   holding [v,ov,iv] (setItem ov iv v)
   release [v,ov,iv] []):=by intro _; rfl)
  (hs:swapsWithSole [.Subscript (.Name x p) ek p'] e pos.line X.env=pure false:=by rfl) (hw:swappedStores [.Subscript (.Name x p) ek p'] e X.env=pure none:=by rfl)
  (h1:(assignEach [.Subscript (.Name x p) ek p'] X.env).map (·.2)=[assign (.Subscript (.Name x p) ek p') X.env]:=by rfl):S X Γ (.Assign [.Subscript (.Name x p) ek p'] e pos :: rest) D:=by
 with_unfolding_all
  exact s_seq (ps_wk (ps_asg he (pg_sub (pv i hi hv hd hcd) hk set_list ha) hs hw h1) fun De σ H ⟨H0,F,O,Z,n,_⟩=>⟨H0,F,O,Z,fun u H1 z1 ru=>by
    obtain ⟨v,Di,hv1,_,_,_⟩:=(Z.go z1).write hg True.intro
    refine ⟨v,hv1,H0,F,O,Z.go z1,fun y H3 z3 ry=>?_⟩
    obtain ⟨v',Di,hv2,⟨q,ys,e1,w2,hq,rr⟩,hO,wr⟩:=(Z.go (z1.trans z3)).write hg True.intro
    rw [hv1] at hv2
    have ev:v=v':=Option.some.inj (Option.some.inj hv2)
    subst ev
    have ey:y=V.int k:=ry
    subst ey
    have hly:k < ys.length:=by rw [pr_len rr]; exact hl
    have hix:ixN ys.length k=some k.toNat:=by
     unfold ixN; rw [if_pos h0,if_pos (by omega)]
    refine ⟨q,ys,k,k.toNat,e1,rfl,hq,hix,?_⟩
    obtain ⟨Z',eo⟩:=wr q (ys.set k.toNat u) (some (.own b (as.set k.toNat a))) w2 fun g'' e'=>by
     cases e'
     refine ⟨True.intro,q,_,e1,w2,upd_same,?_⟩
     rw [off_upd (hO q w2).1]
     exact pr_set (rp_mono (off_mono z3) ru) k.toNat rr
    exact n _ _ _ _ (by rw [eo]; exact off_mono (z1.trans z3)) Z' h⟩)
end
end L2.EP
namespace L2.EP
open PySem PySem.Spec PyProof.Rows
instance {α:Type} [Py α] [PyT α]:PyT (Option α) where
 free {K N N' H H' v b} t h:=by
  cases b with
  | none=>exact h
  | some b=>exact PyT.free (β:=α) t h
 nl {K N H q b xs} h e:=by
  cases b with
  | none=>exact nomatch h
  | some b=>exact PyT.nl (β:=α) h e
section
variable {X:Cx} {Γ:GEnv} {D:GD} {α β γ:Type} [Py α] [Py β] [Py γ] {e e1 e2:Expr} {b b1 b2:Bool} {pos:Pos} {rest st:List Stmt}
theorem e_ixO (o:Nat) {as:List α} {i:Int} {a:α} {x:Str} {p:Pos} (hg:Γ[o]?=some (some (.own b as))) (hk:E X Γ e2 b2 i) (h:atI as i=some a) (hi:X.N[o]?=some x:=by rfl)
  (hv:Vis X.env.scope x:=by first | exact Or.inl rfl | exact Or.inr (Or.inl rfl) | exact Or.inr (Or.inr rfl)) (hd:(x == ("__debug__":Str))=false:=by decide) (hcd:(x == ("__classdict__":Str))=false:=by decide)
  (hs:PlainIx e2:=by intro _ _; rfl):E X Γ (.Subscript (.Name x p) e2 pos) b a:=by
 with_unfolding_all
  exact pe_wk (pe_ix ix_list (pv o hi hv hd hcd) hk hs) fun σ H Q ⟨H0,F,O,Z,q⟩=>by
   obtain ⟨v,Di,hv1,_,_,_⟩:=Z.write hg True.intro
   refine ⟨v,hv1,H0,F,O,Z,fun w H2 s2 r2=>?_⟩
   obtain ⟨v',Di,hv2,⟨q',ys,e1,w2,hq,rr⟩,_,_⟩:=(Z.go s2).write hg True.intro
   rw [hv1] at hv2
   have ev:v=v':=Option.some.inj (Option.some.inj hv2)
   subst ev
   obtain ⟨j,h1,h2,h3,h4,h5⟩:=atI_get h
   obtain ⟨y,g1,g2⟩:=pr_get rr h2
   refine ⟨q',ys,i,y,e1,r2,SqL.of hq,?_,q y H2 s2 g2⟩
   unfold atI at h ⊢
   rw [pr_len rr]
   cases hx:ixN as.length i with
   | none=>rw [hx] at h; cases h
   | some k =>
    have hk:=(ixN_seq hx).1
    rw [h1] at hk; cases hk
    exact g1
theorem e_borrowO [PyT β] (i:Nat) {as:List α} {c:β} (hg:Γ[i]?=some (some (.own b1 as))) (h:E X (Γ.set i (some (.val b1 as))) e b c):E X Γ e true c:=by
 with_unfolding_all
  exact pe_wk h fun σ H Q ⟨H0,F,O,Z,q⟩=>by
   obtain ⟨O',Z',so⟩:=Z.freeze hg True.intro (g':=.val b1 as) (fun z=>z) fun Di O' v z1 z2 z3 _=>ok_own z1 z2 z3
   refine ⟨H0,F,O',Z',fun v H' s r=>q v H' s ?_⟩
   exact PyT.free (fun p xs w=>rd_tup_off (Z.go s).own p xs (Same.rt (off_same _ _) w)) r
end
section
variable {X:Cx} {Γ:GEnv} {D:GD} {α β γ:Type} [Py α] [Py β] [Py γ] {elt target iter c:Expr} {b b' b1:Bool} {pos:Pos} {scope:Scope} {tn:List Str} {js:List Nat} {g:TG} {tc:Nat→Prop} {put:Bool→α→GEnv→GEnv} {as:List α} {f:α→β} {p:α→Bool} {ifs:List Expr}
end
end L2.EP
namespace L2.EP
open PySem PySem.Spec PyProof.Rows
abbrev Xo (C:Addr) (vs:Array Value):Obj:={ cls:=.ref C,data:=.fields vs }
structure Chg (fs:List Addr) (ch:Addr→Prop) (h h':Heap):Prop where
 keep:∀ b o,h.get? b=some o→b ∉ fs→¬ ch b→h'.get? b=some o
 slot:∀ b o,h.get? b=some o→¬ ch b→∃ sl,h'.get? b=some { o with slots:=sl }
def Tr (h:Heap) (C e:Addr) (T:Option Addr):Prop:=∃ vs,h.get? e=some (Xo C vs)∧match T with
 | none=>vs[1]?=some .none
 | some t=>vs[1]?=some (.ref t)∧t≠e∧∃ oT ts,h.get? t=some oT∧oT.data=.fields ts∧ts[3]?=some .none
section
variable {M:Model} {A:Around} {E:Value→Shared→Prop} {s:Shared} {base:Heap} {env:Env} {outer:List Env} {L C e:Addr}
theorem Chg.trans {fs:List Addr} {ch c1 c2:Addr→Prop} {h h1 h2:Heap} (a:Chg fs c1 h h1) (b:Chg fs c2 h1 h2) (w1:∀ b,c1 b→ch b) (w2:∀ b o,h.get? b=some o→c2 b→ch b):Chg fs ch h h2 :=
 ⟨fun x o q n nc=>b.keep x o (a.keep x o q n fun z=>nc (w1 x z)) n fun z=>nc (w2 x o q z),fun x o q nc=>by
  obtain ⟨sl,q1⟩:=a.slot x o q fun z=>nc (w1 x z)
  obtain ⟨sl2,q2⟩:=b.slot x _ q1 fun z=>nc (w2 x o q z)
  exact ⟨sl2,q2⟩⟩
theorem Chg.mono {fs fs':List Addr} {ch ch':Addr→Prop} {h h':Heap} (a:Chg fs ch h h') (w:∀ b,ch b→ch' b) (v:∀ b,b∈fs→b∈fs'):Chg fs' ch' h h' :=
 ⟨fun x o q n nc=>a.keep x o q (fun z=>n (v x z)) fun z=>nc (w x z),fun x o q nc=>a.slot x o q fun z=>nc (w x z)⟩
end
end L2.EP
namespace L2.EP
open PySem PySem.Spec PyProof.Rows
theorem ObjOk.there {P:Program} {w:World} {H:Hp} {h:Heap} {a:Addr} {o:HO} (x:ObjOk P w H h a o):∃ ob,h.get? a=some ob:=by
 cases o with
 | lst xs=>obtain ⟨_,_,_,_,e⟩:=x; exact ⟨_,e⟩
 | tup xs=>obtain ⟨_,_,_,o,e,_⟩:=x; exact ⟨_,e⟩
 | dK kvs=>obtain ⟨_,_,_,_,o,_,_,e,_⟩:=x; exact ⟨_,e⟩
 | dT kvs=>obtain ⟨_,_,_,_,o,_,_,e,_⟩:=x; exact ⟨_,e⟩
 | dB kvs=>obtain ⟨_,_,_,_,o,_,_,e,_⟩:=x; exact ⟨_,e⟩
 | set S n=>obtain ⟨o,_,_,_,e,_⟩:=x; exact ⟨_,e⟩
 | ins C dx fs=>obtain ⟨_,_,_,e,_⟩:=x; exact ⟨_,e⟩
 | own y=>exact x
 | xd fs=>obtain ⟨_,⟨_,_,_,e,_⟩,_⟩:=x; exact ⟨_,e⟩
 | rng lo hi=>obtain ⟨_,_,_,e⟩:=x; exact ⟨_,e⟩
 | frz ob u=>obtain ⟨e,_⟩:=x; exact ⟨_,e⟩
 | tbl ps=>exact ⟨_,(show h.get? a=some _ from x)⟩
 | met f y=>exact ⟨_,(show h.get? a=some _ from x)⟩
 | ext φ=>exact x.2.1
section
variable {X:Cx} {pins:List (Addr × Obj)} {σ:St} {H H':Hp} {s:Shared} {h':Heap} {C e:Addr}
end
def CX1 (P:Program) (w:World):CXT:=fun outer H s E ev s'=>∃ e C t H',ev=.ref e∧s'.os=s.os∧AllBare s'.gens∧Un (frs outer) [] H H' s.heap s'.heap∧HOk P w H' s'.heap ∧
 s.heap.get? e=none∧H' e=none∧s.heap.get? t=none∧H' t=none∧Tr s'.heap C e (some t)∧E (.ref C) none H'
section
variable {X:Cx} {pins:List (Addr × Obj)} {σ:St} {H:Hp} {s s':Shared} {E:XK}
end
end L2.EP
namespace L2.EP
open PySem PySem.Spec PyProof.Rows
structure Xn where
 e:Addr
instance:Py Xn where
 rp _ _ _ v a:=v=.ref a.e
 tr _ _ h:=h
structure RB where
 B:Hp
 H0:Hp
 F:Addr→Prop
def Stb (K:PySem.W.Frag) (R:RB) (Γ:GEnv) (σ:St) (H:Hp):Prop:=∃ O,Same R.B (off H O)∧Sta K R.H0 R.F O Γ σ H
theorem Stb.go {K:PySem.W.Frag} {R:RB} {Γ:GEnv} {σ:St} {H H':Hp} (z:Stb K R Γ σ H) (s:Same H H'):Stb K R Γ σ H':=let ⟨O,m,Z⟩:=z; ⟨O,m.trans (off_mono s),Z.go s⟩
@[irreducible] def SR (X:Cx) (R:RB) (Γ:GEnv) (st:List Stmt):Prop:=PSs X st (fun _ σ H=>Stb X.K R Γ σ H)
section
variable {X:Cx} {R:RB} {Γ:GEnv} {D:GD} {α β γ:Type} [Py α] [Py β] [Py γ] {e e1 e2 e3:Expr} {b b1 b2 b3:Bool} {p pos np cpos cps:Pos} {st:Stmt} {rest body orelse:List Stmt} {C:Addr} {cn:Str}
end
structure CalR (P:Program) (w:World) (K:PySem.W.Frag) (mg:Str→Option Value) (base:Heap) (k:Nat) (name:Str) (ps:List Str) (sp:Sp):Prop where
 ex:∃ (f:Addr) (fd:FuncData),FnOk P w K mg base (CX1 P w) k f fd ps sp∧Binds K fd ps []∧PySem.W.keepIn K (.ref f)=true∧mg name=some (.ref f)
section
variable {X:Cx} {R:RB} {Γ:GEnv} {α β γ:Type} [Py α] [Py β] [Py γ] {e e1 e2 e3:Expr} {es:List Expr} {b b1 b2 b3:Bool} {p pos:Pos} {C f:Addr} {x name:Str} {k:Nat} {ps:List Str} {fd:FuncData} {t:TA} {sp:Sp}
end
section
variable {P:Program} {w:World} {K:PySem.W.Frag} {mg:Str→Option Value} {base:Heap} {N ps:List Str} {k:Nat} {x qual:Str} {st:Stmt} {f:Addr} {fd:FuncData}
end
end L2.EP
namespace L2.EP
open PySem PySem.Spec PyProof.Rows
section
variable {X:Cx} {Γ:GEnv} {D:GD} {α β γ:Type} [Py α] [Py β] [Py γ] {e e1 e2 e3:Expr} {b b1 b2 b3:Bool} {p p2 pos np hpos:Pos} {b₀:Stmt} {rest body suite:List Stmt} {C Cd:Addr} {n dn:Str}
end
section
variable {prog:Program} {w:World} {A:Around} {E:Value→Shared→Prop} {s:Shared} {K:PySem.W.Frag} {a C:Addr} {ox:Obj}
end
section
variable {X:Cx} {Γ:GEnv} {e:Expr} {b c:Bool} {p p2 pos:Pos} {a C Cd:Addr} {T:Str}
end
structure RoomH (k:Nat) (A:Around):Prop where
 dp:A.depth + 3 * k + 5 < recursionLimit
 un:A.units + 16 * k + 200 < cLine
structure CalH (P:Program) (w:World) (K:PySem.W.Frag) (mg:Str→Option Value) (base:Heap) (k:Nat) (name:Str) (C:Addr) (c:Bool):Prop where
 ex:∃ f:Addr,PySem.W.keepIn K (.ref f)=true∧mg name=some (.ref f)∧∀ (A:Around) (outer:List Env) (s:Shared) (H:Hp) (a:Addr) (vs:Array Value),RoomH k A→Env0 P w K mg base A outer s H→s.heap.get? a=some (Xo C vs)→H a=none→a ∉ frs outer →
  codeAny (model P w) A (.call (.ref f) ⟨[.ref a],[]⟩) (CR CX0 outer P w H s (fun v H'=>v=.bl c∧Same H H') E0) s
section
variable {P:Program} {w:World} {K:PySem.W.Frag} {mg:Str→Option Value} {base h:Heap} {N:List Str} {k:Nat} {x y:Str} {st:Stmt} {C:Addr} {c:Bool}
end
end L2.EP
namespace L2.EP
open PySem PySem.Spec PyProof.Rows
mutual
inductive DN (K:PySem.W.Frag) (N:Nn) (H:Hp):V→PyData→Prop
 | non:DN K N H .non .none
 | bl (b:Bool):DN K N H (.bl b) (.bool b)
 | int (i:Int):DN K N H (.int i) (.int i)
 | str (x:Str):DN K N H (.str x) (.str x)
 | lst {a:Addr} {xs:List V} {ds:List PyData}:SqL K H a xs→N.has H a (.inl xs)→DNs K N H xs ds→DN K N H (.ref a) (.list ds)
 | tup {a:Addr} {xs:List V} {ds:List PyData}:Rt H a xs→DNs K N H xs ds→DN K N H (.ref a) (.tuple ds)
inductive DNs (K:PySem.W.Frag) (N:Nn) (H:Hp):List V→List PyData→Prop
 | nil:DNs K N H [] []
 | cons {x:V} {xs:List V} {d:PyData} {ds:List PyData}:DN K N H x d→DNs K N H xs ds→DNs K N H (x :: xs) (d :: ds)
end
mutual
theorem DN.tr {K:PySem.W.Frag} {N N':Nn} {H H':Hp} (l:∀ p (o:Mt),Mo K H p o→N.has H p o→Mo K H' p o∧N'.has H' p o) (t:∀ p xs,Rt H p xs→Rt H' p xs):∀ {v:V} {d:PyData},DN K N H v d→DN K N' H' v d
 | _,_,.non=>.non
 | _,_,.bl b=>.bl b
 | _,_,.int i=>.int i
 | _,_,.str x=>.str x
 | _,_,.lst (xs:=xs) s n r=>.lst (l _ (.inl xs) s n).1 (l _ (.inl xs) s n).2 (DNs.tr l t r)
 | _,_,.tup s r=>.tup (t _ _ s) (DNs.tr l t r)
theorem DNs.tr {K:PySem.W.Frag} {N N':Nn} {H H':Hp} (l:∀ p (o:Mt),Mo K H p o→N.has H p o→Mo K H' p o∧N'.has H' p o) (t:∀ p xs,Rt H p xs→Rt H' p xs):∀ {v:List V} {d:List PyData},DNs K N H v d→DNs K N' H' v d
 | _,_,.nil=>.nil
 | _,_,.cons h r=>.cons (DN.tr l t h) (DNs.tr l t r)
end
structure Dt where
 d:PyData
instance:Py Dt where
 rp K N H v a:=DN K N H v a.d
 tr l t h:=DN.tr l t h
mutual
theorem DN.dr {K:PySem.W.Frag} {N:Nn} {H:Hp}:∀ {v:V} {d:PyData},DN K N H v d→DR K H v d
 | _,_,.non=>.non
 | _,_,.bl b=>.bl b
 | _,_,.int i=>.int i
 | _,_,.str x=>.str x
 | _,_,.lst s _ r=>.lst s (DNs.dr r)
 | _,_,.tup s r=>.tup (SqU.t (.inl s)) (DNs.dr r)
theorem DNs.dr {K:PySem.W.Frag} {N:Nn} {H:Hp}:∀ {v:List V} {d:List PyData},DNs K N H v d→DRs K H v d
 | _,_,.nil=>.nil
 | _,_,.cons h r=>.cons (DN.dr h) (DNs.dr r)
end
section
variable {X:Cx} {Γ:GEnv} {α β:Type} [Py α] [Py β] {e e1 e2:Expr} {b b1 b2:Bool} {p p2 pos:Pos}
theorem e_fromN [PyT α] {xs:List α} {k:Int} (ha:E X Γ e1 b xs) (hb:E X Γ e2 b2 k) (h0:0≤k):E X Γ (.Subscript e1 (.Slice (some e2) none none p2) pos) true (xs.drop k.toNat):=by
 with_unfolding_all
  exact pe_wk (pe_slice sl_list ha (po_some hb) po_none) fun σ H Q ⟨H0,F,O,S,q⟩=>⟨H0,F,O,S,fun v H1 s1 r1=>⟨H0,F,O,S.go s1,fun w H2 s2 r2=>by
    obtain ⟨p,vs,e,sq,n,r⟩:=r1
    refine ⟨k,r2,p,vs,e,(off_same _ _).seq ((off_mono s2).seq sq),fun l hl=>?_⟩
    obtain ⟨z1,z2⟩:=laid_lst (xs:=cutV vs (some k) none) ((S.go s1).go s2) hl
    refine q _ _ (s1.trans (s2.trans z1)) ⟨l,_,rfl,SqL.of z2,Nf.wk (b:=true) (((S.go s1).go s2).free0 hl) z2,?_⟩
    have ec:cutV vs (some k) none=vs.drop k.toNat:=by
     unfold cutV
     have hk:k=((k.toNat:Nat):Int):=by omega
     rw [hk,HT.sIx_nat,HT.sIx_none]
     simp only [Int.toNat_natCast]
     by_cases hkn:k.toNat≤vs.length
     ·rw [Nat.min_eq_left hkn,List.take_of_length_le (by rw [List.length_drop]; exact Nat.le_refl _)]
     ·rw [Nat.min_eq_right (by omega),List.drop_eq_nil_of_le (Nat.le_refl _),List.drop_eq_nil_of_le (by omega)]; simp
    have rr:=pr_imp (fun _ _ z=>PyT.free (N':=Nf H0 true) (fun _ _ t=>Same.rt ((off_mono s2).trans (off_mono z1)) t) z) (pr_drop k.toNat r)
    rw [← ec] at rr
    exact rr⟩⟩
end
section
variable {X:Cx} {Γ:GEnv} {D:GD} {α β γ:Type} [Py α] [Py β] [Py γ] {e e1 e2:Expr} {b b1 b2:Bool} {pos:Pos} {rest st:List Stmt}
end
end L2.EP
namespace L2.EP
open PySem PySem.Spec PyProof.Rows
section
variable {X:Cx} {Γ:GEnv} {D:GD} {α β γ:Type} [Py α] [Py β] [Py γ] {e e1 e2:Expr} {b b1 b2:Bool} {pos:Pos} {rest st:List Stmt}
theorem s_ownlistT [PyT α] (i:Nat) {as:List α} {x:Str} {p pl p1:Pos} (hN:X.N.Nodup) (hg:Gl X "list") (hm:X.mg "list"=none) (ha:E X Γ e b as) (h:S X (Γ.set i (some (.own true as))) rest D) (hs0:starEach [e] X.env=(false,eval e X.env) :: starEach [] X.env:=by rfl) (hi:X.N[i]?=some x:=by rfl) (hx:Loc X.env.scope x:=by first | exact Or.inl rfl | exact Or.inr rfl)
  (hs2:swapsWith (.Call (.Name "list" pl) [e] [] p) (some (.Name x p1)) pos.line X.env=pure false:=by rfl) (hf:X.fn x=true∨X.env.scope.names.lookup x=some .local:=by first | exact .inl rfl | exact .inr rfl):S X Γ (.Assign [.Name x p1] (.Call (.Name "list" pl) [e] [] p) pos :: rest) D:=by
 with_unfolding_all
  exact s_seq (ps_wk (ps_set hN hi hx (pe_callTy call_list_of hg hm PyProof.Rows.boot_list (pa_cons ha pa_nil hs0) (he:=hs0)) hs2 hf) fun De σ H ⟨H0,F,O,Z,n,_⟩=>⟨H0,F,O,Z,fun v H1 s1 r1=>by
    obtain ⟨q0,vs,ev,sq,nn,r⟩:=r1
    refine ⟨q0,vs,by rw [ev],.inl ((off_same _ _).seq sq),fun q hq=>?_⟩
    have zz:=same_upd hq (.lst vs)
    have hq0:H q=none:=s1.free hq
    have kp:Same (off H1 O) (off (upd H1 q (.lst vs)) fun p=>O p∨p=q):=fun a o w=>by
     obtain ⟨w1,w2⟩:=off_some w
     have haq:a≠q:=ne_of_none w2 hq
     rw [off_get (by rintro (z | z); exact w1 z; exact haq z),upd_ne haq]
     exact w2
    obtain ⟨Z',so⟩:=Z.putOwn (i:=i) (v:=.ref q) (s1.trans zz) (·=q) (fun r e=>by subst e; exact ⟨hq0,.inl vs,upd_same⟩) (Bd.own true as) True.intro ⟨q,vs,rfl,rfl,upd_same,pr_imp (fun _ _ z=>PyT.free (fun _ _ t=>Same.rt kp t) z) r⟩
    exact n _ _ _ _ so Z' h⟩)
end
structure CalS (P:Program) (w:World) (K:PySem.W.Frag) (mg:Str→Option Value) (base:Heap) (k:Nat) (name:Str) (C:Addr) (c:Str):Prop where
 ex:∃ f:Addr,PySem.W.keepIn K (.ref f)=true∧mg name=some (.ref f)∧∀ (A:Around) (outer:List Env) (s:Shared) (H:Hp) (a:Addr) (vs:Array Value),RoomH k A→Env0 P w K mg base A outer s H→s.heap.get? a=some (Xo C vs)→H a=none→a ∉ frs outer →
  codeAny (model P w) A (.call (.ref f) ⟨[.ref a],[]⟩) (CR CX0 outer P w H s (fun v H'=>v=.str c∧Same H H') E0) s
section
variable {P:Program} {w:World} {K:PySem.W.Frag} {mg:Str→Option Value} {base h:Heap} {N:List Str} {k:Nat} {x y:Str} {st:Stmt} {C:Addr} {c:Str}
end
end L2.EP
namespace L2.EP
open PySem PySem.Spec PyProof.Rows
@[irreducible] def EX {α:Type} [Py α] (X:Cx) (Γ:GEnv) (e:Expr) (b:Bool) (post:α→Prop):Prop:=PE X e fun σ H Q=>∃ H0 F O,Sta X.K H0 F O Γ σ H∧∀ a v H',post a→Same H H'→Py.rp X.K (Nf H0 b) (off H' O) v a→Q v H'
def RTE {α:Type} [Py α] (b:Bool) (post:α→Prop):GD:={ nx:=fun _=>False,rt:=fun g=>∃ a,post a∧g=.val b a }
def spE2 {α β γ:Type} [Py α] [Py β] [Py γ] (K:PySem.W.Frag) (pre:α→β→Prop) (b:Bool) (post:α→β→γ→Prop):Sp:=fun vs H Q _=>∃ O v w a c,OwnL H O∧vs=[v,w]∧Py.rp K .any (off H O) v a∧Py.rp K .any (off H O) w c∧pre a c∧∀ z r H',post a c z→Same H H'→Py.rp K (Nf H b) (off H' O) r z→Q r H'
section
variable {X:Cx} {Γ:GEnv} {D:GD} {α β γ δ:Type} [Py α] [Py β] [Py γ] [Py δ] {e e1 e2 e3:Expr} {b b1 b2 b3:Bool} {p pos:Pos} {rest:List Stmt} {k:Nat} {name:Str} {ps:List Str}
theorem ex_call2 {pre:α→β→Prop} {post:α→β→γ→Prop} {a:α} {c:β} (C:Cal X.prog X.w X.K X.mg X.base k name ps (spE2 X.K pre b post)) (hr:Room k X.A) (hg:Gl X name) (h1:E X Γ e1 b1 a) (h2:E X Γ e2 b2 c) (hp:pre a c)
  (hs1:starEach [e1,e2] X.env=(false,eval e1 X.env) :: starEach [e2] X.env:=by rfl) (hs2:starEach [e2] X.env=(false,eval e2 X.env) :: starEach [] X.env:=by rfl) (hdb:(name == ("__debug__":Str))=false:=by decide) (hpl:(backTo pos (starEach [e2] X.env)).any (·.1)=false:=by rfl) :
  EX X Γ (.Call (.Name name p) [e1,e2] [] pos) b (post a c):=by
 with_unfolding_all
  obtain ⟨fa,fd,F,B,kp,m⟩:=C.ex
  exact pe_wk (pe_call F hr hg m kp B .nil pass0 (pa_cons h1 (pa_cons h2 pa_nil hs2) hs1) hdb hs1 hpl) fun σ H Q ⟨H0,F,O,S,q⟩=>⟨H0,F,O,S,fun v1 H1 s1 r1=>⟨H0,F,O,S.go s1,fun v2 H2 s2 r2 =>
   ⟨O,v1,v2,a,c,(S.go (s1.trans s2)).own,rfl,rp_wid nf_true (rp_mono (off_mono s2) r1),rp_wid nf_true r2,hp,fun z r H' hz s' rz=>q z r H' hz (s1.trans (s2.trans s')) ((S.go (s1.trans s2)).back rz)⟩⟩⟩
theorem s_asgX (i:Nat) {x:Str} {post:α→Prop} {p:Pos} (hN:X.N.Nodup) (he:EX X Γ e b post) (h:∀ a,post a→S X (Γ.set i (some (.val b a))) rest D) (hi:X.N[i]?=some x:=by rfl) (hx:Loc X.env.scope x:=by first | exact Or.inl rfl | exact Or.inr rfl)
  (hs:swapsWith e (some (.Name x p)) pos.line X.env=pure false:=by rfl) (hf:X.fn x=true∨X.env.scope.names.lookup x=some .local:=by first | exact .inl rfl | exact .inr rfl):S X Γ (.Assign [.Name x p] e pos :: rest) D:=by
 with_unfolding_all
  exact s_seq (ps_wk (ps_set hN hi hx he hs hf) fun De σ H ⟨H0,F,O,Z,n,_⟩=>⟨H0,F,O,Z,fun a v H1 hz s1 r1=>n _ _ H1 O (off_mono s1) ((Z.go s1).set r1) (h a hz)⟩)
end
section
variable {P:Program} {w:World} {K:PySem.W.Frag} {mg:Str→Option Value} {base:Heap} {N ps:List Str} {k:Nat} {x qual:Str} {st:Stmt} {f:Addr} {fd:FuncData}
theorem body_runE {gs:List Bd} {vs:List V} {H:Hp} {O:Addr→Prop} {α:Type} [Py α] {b:Bool} {post:α→Prop} {Q:VK} {cdv:Value} {A:Around} {outer:List Env} {s:Shared} {E:XK} (B:Body P w K mg base N qual st f k gs (RTE b post)) (hr:Room k (A.deeper (envOfC qual (defScope st) s.heap.objs.size f cdv)))
  (ho:OwnL H O) (h:Args K (off H O) vs gs) (q:∀ a r H',post a→Same H H'→Py.rp K (Nf H b) (off H' O) r a→Q r H') :
  ∃ t,PSs (cxOf CX0 P w K mg base N qual (defScope st) f cdv A outer s H E).nox (defBody st) t∧t { nx:=fun _ H'=>Q .non H',rt:=Q } (start N vs) H:=by
 with_unfolding_all
  refine ⟨_,B cdv A outer s H E hr,H,O,O,sta_start ho h,fun _ _ _ _ _ _ z=>z.elim,fun g v H' sm z e=>?_,fun _ _ _ _ _ _ z=>z.elim,fun _ _ _ _ _ _ z=>z.elim⟩
  obtain ⟨a,ha,e'⟩:=e
  subst e'
  exact q a v H' ha sm z
theorem fnE2 {α β γ:Type} [Py α] [Py β] [Py γ] {pre:α→β→Prop} {b:Bool} {post:α→β→γ→Prop} (F:Fun K x qual st f fd) (sc:FnScope N ps (defScope st)) (hl:ps.length=2) (B:∀ a c,pre a c→Body P w K mg base N qual st f k [.val false a,.val false c] (RTE b (post a c))) :
  FnOk P w K mg base CX0 (k + 1) f fd ps (spE2 K pre b post):=by
 with_unfolding_all
  refine F.ok sc (fun vs H Q E h=>?_) fun cdv A outer s H vs Q E hr h=>?_
  ·obtain ⟨O,v,v2,a,c,_,rfl,_⟩:=h; rw [hl]; rfl
  ·obtain ⟨O,v,v2,a,c,ho,rfl,r,r2,hp,q⟩:=h
   exact body_runE (B a c hp) hr ho (.cons r (.cons r2 .nil)) q
end
end L2.EP
namespace PySem
theorem nolen_lri:typeLookup (.type "list_reverseiterator") "__len__"=pure none:=by rw [typeLookup_type,builtinLookup_eq_fast]; kernel_rfl
theorem hint_lri:typeLookup (.type "list_reverseiterator") "__length_hint__"=pure (some (.builtin "list_reverseiterator.__length_hint__")):=by rw [typeLookup_type,builtinLookup_eq_fast]; kernel_rfl
section
variable {prog:Program} {w:World} {A:Around} {s:Shared} {R:Result→Shared→Prop}
variable {I:Addr} {fp wr:List Addr} {G:Array GenState→Array GenState→Prop} {n:Nat} {P:Nat→Value→Prop} {St:Nat→Shared→Prop}
theorem wpAny_extend_rev (W:WalksS prog w A.in1 I fp wr G n P St) (hT:∀ i s,St i s→s.TypeIs (.ref I) "list_reverseiterator") (S:Addr) (res:Value) (c₀:Nat) (hst:St 0 s) (hSf:S ∉ fp) (hI:I∈fp)
  (hS:s.heap.get? S=some { cls:=.type "list",data:=.seq #[] c₀ })
  (hR:∀ s' acc' c',Moved (S :: wr) G s s'→s'.heap.get? S=some { cls:=.type "list",dict:=none,data:=.seq acc' c',slots:=#[] }→ItemsOf P acc' n→R (.ok (.ret res)) s') (hn:n≤sizeLine:=by size_fits) :
  wpAny (model prog w) A.in1 (Builtin.List.listExtendWith (.ref S) (.ref I) res)
   (fun fin s'=>match fin with | .done f=>R (.ok f) s' | .again c'=>c'.quiet=true∧codeAny (model prog w) A c' R s') (fun e s'=>R (.error e) s') s:=by
 have hSI:S≠I:=fun e=>hSf (e ▸ hI)
 unfold Builtin.List.listExtendWith
 refine wpAny_bind (wpAny_typeOf (hT 0 _ hst) ?_)
 have h1:Builtin.List.listSameRef (.ref S) (.ref I)=false:=by simp [Builtin.List.listSameRef,hSI]
 rw [if_neg (by rw [h1]; decide)]
 refine wpAny_bind (W.self 0 _ _ _ hst ?_)
 refine wpAny_bind (wpAny_holding ?_)
 unfold Builtin.List.listLengthHint
 refine wpAny_bind (wpAny_specialOf (hT 0 _ hst) nolen_lri ?_)
 show wpAny _ A.in1 (specialOf (Value.ref I) (Str.ofString "__length_hint__") >>= _) _ _ _
 refine wpAny_bind (wpAny_specialOf (hT 0 _ hst) hint_lri ?_)
 (generalize hid:("list_reverseiterator.__length_hint__":String)=id0; (fail_if_success (clear hid id0)); wp_delta; rw [show splitId id0=some ("list_reverseiterator","__length_hint__") from by subst hid; decide +kernel]; subst hid)
 refine wpAny_bind (wpAny_isInstance (b:=true) (hT 0 _ hst) (by rw [isSubtype_type]; kernel_rfl) ?_)
 refine wpAny_pure ?_
 rw [if_neg (by decide)]
 refine wpAny_pure ⟨plainId_quiet F.plain_extend_loop _,codeAny_extend_loopS W hn _ hSf _ n 0 _ _ _ rfl (Nat.zero_le _) hst hS (ItemsOf.nil P) fun s' acc' c' hm hS' hacc=>?_⟩
 exact hR s' acc' c' hm hS' hacc
theorem wpAny_list_init_rev (W:WalksS prog w A.in1 I fp wr G n P St) (hT:∀ i s,St i s→s.TypeIs (.ref I) "list_reverseiterator") (S:Addr) (hst:St 0 s) (hSf:S ∉ fp) (hI:I∈fp)
  (hS:s.heap.get? S=some { cls:=.type "list",data:=.seq #[] })
  (hR:∀ s' acc' c',Moved (S :: wr) G s s'→s'.heap.get? S=some { cls:=.type "list",dict:=none,data:=.seq acc' c',slots:=#[] }→ItemsOf P acc' n→R (.ok (.ret .none)) s') (hn:n≤sizeLine:=by size_fits) :
  wpAny (model prog w) A.in1 (Builtin.«list.__init__» ⟨[.ref S,.ref I],[]⟩)
   (fun fin s'=>match fin with | .done f=>R (.ok f) s' | .again c'=>c'.quiet=true∧codeAny (model prog w) A c' R s') (fun e s'=>R (.error e) s') s:=by
 show wpAny _ A.in1 (do let old ← Builtin.List.listItems (.ref S); Builtin.List.listUpdate (.ref S) (fun _=>#[]); letGo old.toList.reverse; Builtin.List.listExtendWith (.ref S) (.ref I) .none) _ _ s
 refine wpAny_bind ?_
 unfold Builtin.List.listItems
 refine wpAny_bind (wpAny_seqItems hS rfl (wpAny_pure ?_))
 show wpAny _ A.in1 (updateSeq S (fun _=>#[]) >>= fun _=>letGo (#[]:Array Value).toList.reverse >>= fun _=>Builtin.List.listExtendWith (.ref S) (.ref I) .none) _ _ s
 refine wpAny_bind (wpAny_updateSeq hS rfl ?_)
 have hS₂:=Heap.get?_update_self (Obj.mapSeq (fun _=>(#[]:Array Value))) hS rfl
 have oth:∀ b o,b≠S→s.heap.get? b=some o→(s.heap.update S (Obj.mapSeq (fun _=>(#[]:Array Value)))).get? b=some o :=
  fun b o hb e=>(Heap.get?_update_other _ _ (Ne.symm hb)).trans e
 refine wpAny_bind (wpAny_letGo ?_)
 refine wpAny_extend_rev (hn:=hn) W hT S .none _ (W.frame 0 s _ s.toks hst (Nat.le_refl _) fun b hb o e=>oth b o (fun h=>hSf (h ▸ hb)) e) hSf hI hS₂ fun s' acc' c' hm hS' hacc=>?_
 exact hR s' acc' c' (Moved.trans W.gtrans ((Moved.refl W.grefl).then_heap (Nat.le_refl _) fun b o hb e=>oth b o (fun h=>hb (h ▸ List.mem_cons_self)) e) hm) hS' hacc
end
section
variable {prog:Program} {w:World} {A:Around} {E:Value→Shared→Prop} {s:Shared}
variable {I:Addr} {fp wr:List Addr} {G:Array GenState→Array GenState→Prop} {n:Nat} {P:Nat→Value→Prop} {St:Nat→Shared→Prop}
theorem call_list_rev {Q:Value→Shared→Prop} (W:WalksS prog w A.in1.in1 I fp wr G n P St) (hT:∀ i s,St i s→s.TypeIs (.ref I) "list_reverseiterator") (hst:St 0 s) (hfp:∀ b∈fp,b < s.heap.objs.size) (hI:I∈fp)
  (hQ:∀ s' acc' c',Moved (s.heap.objs.size :: wr) G { s with heap:=s.heap.push { cls:=.type "list",data:=.seq #[] } } s' →
   s'.heap.get? s.heap.objs.size=some { cls:=.type "list",dict:=none,data:=.seq acc' c',slots:=#[] }→ItemsOf P acc' n→Q (.ref s.heap.objs.size) s') (hn:n≤sizeLine:=by size_fits) :
  wpAny (model prog w) A (call (.type "list") [.ref I]) Q E s:=by
 have hSf:s.heap.objs.size ∉ fp:=fun hm=>Nat.lt_irrefl _ (hfp _ hm)
 refine callType_codes (Q₁:=fun obj s₁=>obj=.ref s.heap.objs.size∧s₁={ s with heap:=s.heap.push { cls:=.type "list",data:=.seq #[] } }) F.called_list (F.typeCall_list_1 _) F.entry_list_init
  (code_list_new _ ⟨rfl,rfl⟩) fun obj s₁ h₁=>?_
 obtain ⟨rfl,rfl⟩:=h₁
 have hS:(s.heap.push { cls:=.type "list",data:=.seq #[] }).get? s.heap.objs.size=some { cls:=.type "list",data:=.seq #[] }:=Heap.get?_push_size _ rfl
 refine ⟨⟨_,hS,rfl⟩,F.args_list_init_2 _ _,wpAny_list_init_rev (hn:=hn) W hT _ (W.frame 0 s _ s.toks hst (Nat.le_refl _) fun b _ o e=>Heap.get?_push_of_some _ e) hSf hI hS fun s' acc' c' hm hS' hacc=>?_⟩
 exact ⟨rfl,hQ s' acc' c' hm hS' hacc⟩
end
end PySem
namespace L2.EP
open PySem PySem.Spec PyProof.Rows
section
variable {X:Cx} {Γ:GEnv} {α:Type} [Py α] {e:Expr} {b:Bool} {pos:Pos}
def tLR (K:PySem.W.Frag) (t:TA):TE:=fun σ H Q=>t σ H fun vs H1=>∃ a xs,vs=[.ref a]∧SqL K H1 a xs∧∀ l,H1 l=none→Q (.ref l) (upd H1 l (.lst xs.reverse))
theorem pe_listRev {t:TA} {p ps pl:Pos} (hc:X.calm=true) (hgl:Gl X "list") (hml:X.mg "list"=none) (hg:Gl X "reversed") (hm:X.mg "reversed"=none) (ha:PA X [e] t)
  (hs1:starEach [e] X.env=(false,eval e X.env) :: starEach [] X.env:=by rfl) (hpl:(backTo ps (starEach [] X.env)).any (·.1)=false:=by rfl)
  (hs0:starEach [.Call (.Name "reversed" p) [e] [] ps] X.env=(false,eval (.Call (.Name "reversed" p) [e] [] ps) X.env) :: starEach [] X.env:=by rfl) (hpl0:(backTo pos (starEach [] X.env)).any (·.1)=false:=by rfl) :
  PE X (.Call (.Name "list" pl) [.Call (.Name "reversed" p) [e] [] ps] [] pos) (tLR X.K t):=by
 intro pins s σ H Q I h
 refine wpAny_Call_Name_kw (ld_blt I hgl hml PyProof.Rows.boot_list ?_)
 refine PyProof.Rows.callWith_type1 ?_ hs0 hpl0
 rw [hs0]
 show wpAny _ _ (spliced ((false,eval (.Call (.Name "reversed" p) [e] [] ps) X.env) :: [])) _ _ s
 refine Calls.spliced_cons ?_
 refine wpAny_Call_Name_kw (ld_blt I hg hm PyProof.Rows.boot_reversed ?_)
 refine PyProof.Rows.callWith_type1 (thn (ha ps pins s σ H _ I h) fun us s1 ⟨vs,H1,I1,r1,q1⟩=>?_) hs1 hpl
 obtain ⟨a,xs,e1,sq,q⟩:=q1
 subst e1
 obtain ⟨u,rfl,ra⟩:=vals1 r1
 cases ra
 obtain ⟨its,rv,px,hz⟩:=I1.list sq
 have hlen:xs.length=its.length:=rv.length
 have hl1:=px.isList
 have alt:a < s1.heap.objs.size:=by obtain ⟨o,ho,_⟩:=hl1; exact Heap.lt_size ho
 refine call_reversed_list hl1 ?_
 refine Calls.spliced_nil ?_
 have hl2:(s1.heap.push (revObj a ((its.toArray.size:Int) - 1))).IsList a its.toArray:=hl1.at fun o eo=>Heap.get?_push_of_some _ eo
 refine call_list_rev (Walks.listRev (A:=X.A.in1.in1) (I1.ok.hd hc) s1.heap.objs.size a (Nat.ne_of_lt alt) its.toArray).toS (fun i s st=>st.2.1.typeIs) ⟨Nat.zero_le _,⟨_,Heap.get?_push_size _ rfl,rfl,by show Data.fields _=Data.fields _; simp⟩,hl2⟩ ?_ (List.mem_cons_self ..) (fun s' acc c' hm hS' hacc=>?_) (by simp; omega)
 ·intro b hb
  have hD:s1.heap.objs.size < (s1.heap.push (revObj a ((its.toArray.size:Int) - 1))).objs.size:=Heap.lt_size (Heap.get?_push_size _ rfl)
  show b < (s1.heap.push (revObj a ((its.toArray.size:Int) - 1))).objs.size
  rcases List.mem_cons.mp hb with e | e
  ·rw [e]; exact hD
  ·rw [List.mem_singleton.mp e]; exact Nat.lt_trans alt hD
 have hv:Vals xs.reverse acc.toList:=by
  refine pr_of (by rw [List.length_reverse,hlen]; have:=hacc.1; simp at this ⊢; omega) fun i x v h1 h2=>?_
  have il:i < xs.length:=by
   have:=(List.getElem?_eq_some_iff.mp h1).1
   rwa [List.length_reverse] at this
  rw [List.getElem?_reverse il] at h1
  have h3:=hacc.2 i v (by rw [← Array.getElem?_toList]; exact h2)
  obtain ⟨y,g1,g2⟩:=pr_get' rv h1
  have h4:its[its.length - 1 - i]?=some v:=by simpa using h3
  rw [hlen] at g1
  rw [g1] at h4
  cases h4
  exact g2
 have hkeep:∀ b u,s1.heap.get? b=some u→s'.heap.get? b=some u:=fun b u eb=>by
  have bl:=Heap.lt_size eb
  have hD:s1.heap.objs.size < (s1.heap.push (revObj a ((its.toArray.size:Int) - 1))).objs.size:=Heap.lt_size (Heap.get?_push_size _ rfl)
  refine hm.heap b u (fun hb=>?_) (Heap.get?_push_of_some _ (Heap.get?_push_of_some _ eb))
  rcases List.mem_cons.mp hb with e | e
  ·rw [e] at bl; exact Nat.lt_irrefl _ (Nat.lt_trans bl hD)
  ·rw [List.mem_singleton.mp e] at bl; exact Nat.lt_irrefl _ bl
 have hD:s1.heap.objs.size < (s1.heap.push (revObj a ((its.toArray.size:Int) - 1))).objs.size:=Heap.lt_size (Heap.get?_push_size _ rfl)
 have J:=I1.laid (t':=s'.toks) (h':=s'.heap) (a:=(s1.heap.push (revObj a ((its.toArray.size:Int) - 1))).objs.size) (o:=.lst xs.reverse) hkeep (Nat.le_of_lt hD) ⟨by rw [List.length_reverse]; exact hz,acc.toList,c',hv,by rw [Array.toArray_toList]; exact hS'⟩
 exact ⟨.ref _,_,Inv.grownL J hm.gens hm.os,rfl,q _ (I1.hok.fresh (Nat.le_of_lt hD))⟩
theorem e_listRev {xs:List α} {p ps pl:Pos} (hc:X.calm=true) (hgl:Gl X "list") (hml:X.mg "list"=none) (hg:Gl X "reversed") (hm:X.mg "reversed"=none) (ha:E X Γ e b xs)
  (hs1:starEach [e] X.env=(false,eval e X.env) :: starEach [] X.env:=by rfl) (hpl:(backTo ps (starEach [] X.env)).any (·.1)=false:=by rfl)
  (hs0:starEach [.Call (.Name "reversed" p) [e] [] ps] X.env=(false,eval (.Call (.Name "reversed" p) [e] [] ps) X.env) :: starEach [] X.env:=by rfl) (hpl0:(backTo pos (starEach [] X.env)).any (·.1)=false:=by rfl) :
  E X Γ (.Call (.Name "list" pl) [.Call (.Name "reversed" p) [e] [] ps] [] pos) b xs.reverse:=by
 with_unfolding_all
  exact pe_wk (pe_listRev hc hgl hml hg hm (pa_cons ha pa_nil hs1) hs1 hpl hs0 hpl0) fun σ H Q ⟨H0,F,O,S,q⟩=>⟨H0,F,O,S,fun v H1 s1 r1=>by
    obtain ⟨p,vs,e,sq,n,r⟩:=r1
    refine ⟨p,vs,by rw [e],(off_same _ _).seq sq,fun l hl=>?_⟩
    obtain ⟨z1,z2⟩:=laid_lst (xs:=vs.reverse) (S.go s1) hl
    refine q _ _ (s1.trans z1) ⟨l,vs.reverse,rfl,SqL.of z2,Nf.wk ((S.go s1).free0 hl) z2,?_⟩
    refine pr_of (by rw [List.length_reverse,List.length_reverse,pr_len r]) fun i x u h1 h2=>?_
    have il:i < vs.length:=by
     have:=(List.getElem?_eq_some_iff.mp h1).1
     rwa [List.length_reverse] at this
    have ev:=pr_len r
    rw [List.getElem?_reverse il] at h1
    rw [List.getElem?_reverse (by omega)] at h2
    obtain ⟨y,g1,g2⟩:=pr_get r h2
    rw [← ev] at g1
    rw [g1] at h1
    cases h1
    exact rp_mono (off_mono z1) g2⟩
end
end L2.EP
namespace L2.EP
open PySem PySem.Spec PyProof.Rows
section
variable {X:Cx} {Γ:GEnv} {α β γ:Type} [Py α] [Py β] [Py γ] {e1 e2:Expr} {b b1 b2:Bool} {p pos:Pos} {k:Nat} {name:Str} {ps:List Str}
theorem ex_argE2 {pre:α→β→Prop} {post:α→β→γ→Prop} {c:β} {po:α→Prop} (C:Cal X.prog X.w X.K X.mg X.base k name ps (spE2 X.K pre b post)) (hr:Room k X.A) (hg:Gl X name) (h1:EX X Γ e1 b1 po) (h2:E X Γ e2 b2 c) (hp:∀ a,po a→pre a c)
  (hs1:starEach [e1,e2] X.env=(false,eval e1 X.env) :: starEach [e2] X.env:=by rfl) (hs2:starEach [e2] X.env=(false,eval e2 X.env) :: starEach [] X.env:=by rfl) (hdb:(name == ("__debug__":Str))=false:=by decide) (hpl:(backTo pos (starEach [e2] X.env)).any (·.1)=false:=by rfl) :
  EX X Γ (.Call (.Name name p) [e1,e2] [] pos) b (fun r=>∃ a,po a∧post a c r):=by
 with_unfolding_all
  obtain ⟨fa,fd,F,B,kp,m⟩:=C.ex
  exact pe_wk (pe_call F hr hg m kp B .nil pass0 (pa_cons h1 (pa_cons h2 pa_nil hs2) hs1) hdb hs1 hpl) fun σ H Q ⟨H0,F,O,S,q⟩=>⟨H0,F,O,S,fun a v1 H1 ha s1 r1=>⟨H0,F,O,S.go s1,fun v2 H2 s2 r2 =>
   ⟨O,v1,v2,a,c,(S.go (s1.trans s2)).own,rfl,rp_wid nf_true (rp_mono (off_mono s2) r1),rp_wid nf_true r2,hp a ha,fun z r H' hz s' rz=>q z r H' ⟨a,ha,hz⟩ (s1.trans (s2.trans s')) ((S.go (s1.trans s2)).back rz)⟩⟩⟩
end
end L2.EP
namespace L2.EP.K
open PySem PySem.Spec PyProof.Rows
open _root_.EP (fr fd)
def top (i:Nat):Stmt:=PySem.Challenge.pw_everyplace_k60_how_many_pairs.main.body.getD i (.Pass ⟨0,0,0,0⟩)
abbrev s_is_whole:Stmt:=top 4
abbrev N_is_whole:List Str:=["k"]
theorem sc_is_whole:FnScope N_is_whole ["k"] (defScope s_is_whole):=⟨rfl,rfl,rfl,by decide +kernel,rfl,by decide +kernel,by decide +kernel⟩
abbrev s_power_by:Stmt:=top 5
abbrev N_power_by:List Str:=["base","exponent","m","answer","square"]
theorem sc_power_by:FnScope N_power_by ["base","exponent","m"] (defScope s_power_by):=⟨rfl,rfl,rfl,by decide +kernel,rfl,by decide +kernel,by decide +kernel⟩
abbrev s_taken_out:Stmt:=top 6
abbrev N_taken_out:List Str:=["k","divisor","often","left"]
theorem sc_taken_out:FnScope N_taken_out ["k","divisor"] (defScope s_taken_out):=⟨rfl,rfl,rfl,by decide +kernel,rfl,by decide +kernel,by decide +kernel⟩
abbrev s_square_root:Stmt:=top 7
abbrev N_square_root:List Str:=["k","root"]
theorem sc_square_root:FnScope N_square_root ["k"] (defScope s_square_root):=⟨rfl,rfl,rfl,by decide +kernel,rfl,by decide +kernel,by decide +kernel⟩
abbrev s_square_root_or_none:Stmt:=top 8
abbrev N_square_root_or_none:List Str:=["k","root"]
theorem sc_square_root_or_none:FnScope N_square_root_or_none ["k"] (defScope s_square_root_or_none):=⟨rfl,rfl,rfl,by decide +kernel,rfl,by decide +kernel,by decide +kernel⟩
abbrev s_next_divisor:Stmt:=top 11
abbrev N_next_divisor:List Str:=["k","begin","end","divisor"]
theorem sc_next_divisor:FnScope N_next_divisor ["k","begin","end"] (defScope s_next_divisor):=⟨rfl,rfl,rfl,by decide +kernel,rfl,by decide +kernel,by decide +kernel⟩
abbrev s_is_prime:Stmt:=top 12
abbrev N_is_prime:List Str:=["k"]
theorem sc_is_prime:FnScope N_is_prime ["k"] (defScope s_is_prime):=⟨rfl,rfl,rfl,by decide +kernel,rfl,by decide +kernel,by decide +kernel⟩
abbrev s_next_prime:Stmt:=top 13
abbrev N_next_prime:List Str:=["k","answer"]
theorem sc_next_prime:FnScope N_next_prime ["k"] (defScope s_next_prime):=⟨rfl,rfl,rfl,by decide +kernel,rfl,by decide +kernel,by decide +kernel⟩
abbrev s_divided:Stmt:=top 14
abbrev N_divided:List Str:=["k","end","out","found","left","divisor"]
theorem sc_divided:FnScope N_divided ["k","end"] (defScope s_divided):=⟨rfl,rfl,rfl,by decide +kernel,rfl,by decide +kernel,by decide +kernel⟩
abbrev s_parts:Stmt:=top 15
abbrev N_parts:List Str:=["k","known","last"]
theorem sc_parts:FnScope N_parts ["k"] (defScope s_parts):=⟨rfl,rfl,rfl,by decide +kernel,rfl,by decide +kernel,by decide +kernel⟩
abbrev s_square_by:Stmt:=top 17
abbrev N_square_by:List Str:=["k","p","rest"]
theorem sc_square_by:FnScope N_square_by ["k","p"] (defScope s_square_by):=⟨rfl,rfl,rfl,by decide +kernel,rfl,by decide +kernel,by decide +kernel⟩
abbrev s_class_at:Stmt:=top 19
abbrev N_class_at:List Str:=["k","p","out","rest"]
theorem sc_class_at:FnScope N_class_at ["k","p"] (defScope s_class_at):=⟨rfl,rfl,rfl,by decide +kernel,rfl,by decide +kernel,by decide +kernel⟩
abbrev s_is_square_at:Stmt:=top 20
abbrev N_is_square_at:List Str:=["k","p"]
theorem sc_is_square_at:FnScope N_is_square_at ["k","p"] (defScope s_is_square_at):=⟨rfl,rfl,rfl,by decide +kernel,rfl,by decide +kernel,by decide +kernel⟩
abbrev s_two_says:Stmt:=top 21
abbrev N_two_says:List Str:=["one","other","reasons"]
theorem sc_two_says:FnScope N_two_says ["one","other"] (defScope s_two_says):=⟨rfl,rfl,rfl,by decide +kernel,rfl,by decide +kernel,by decide +kernel⟩
abbrev s_odd_says:Stmt:=top 22
abbrev N_odd_says:List Str:=["one","other","p","said"]
theorem sc_odd_says:FnScope N_odd_says ["one","other","p"] (defScope s_odd_says):=⟨rfl,rfl,rfl,by decide +kernel,rfl,by decide +kernel,by decide +kernel⟩
abbrev s_says:Stmt:=top 23
abbrev N_says:List Str:=["a","b","p","one","other"]
theorem sc_says:FnScope N_says ["a","b","p"] (defScope s_says):=⟨rfl,rfl,rfl,by decide +kernel,rfl,by decide +kernel,by decide +kernel⟩
abbrev s_primes_of:Stmt:=top 24
abbrev N_primes_of:List Str:=["numbers","found","k","part"]
theorem sc_primes_of:FnScope N_primes_of ["numbers"] (defScope s_primes_of):=⟨rfl,rfl,rfl,by decide +kernel,rfl,by decide +kernel,by decide +kernel⟩
abbrev s_is_row_number:Stmt:=top 27
abbrev N_is_row_number:List Str:=["k"]
theorem sc_is_row_number:FnScope N_is_row_number ["k"] (defScope s_is_row_number):=⟨rfl,rfl,rfl,by decide +kernel,rfl,by decide +kernel,by decide +kernel⟩
abbrev s_is_row:Stmt:=top 28
abbrev N_is_row:List Str:=["row"]
theorem sc_is_row:FnScope N_is_row ["row"] (defScope s_is_row):=⟨rfl,rfl,rfl,by decide +kernel,rfl,by decide +kernel,by decide +kernel⟩
abbrev s_refuse_no_row:Stmt:=top 29
abbrev N_refuse_no_row:List Str:=["row"]
theorem sc_refuse_no_row:FnScope N_refuse_no_row ["row"] (defScope s_refuse_no_row):=⟨rfl,rfl,rfl,by decide +kernel,rfl,by decide +kernel,by decide +kernel⟩
abbrev s_is_no:Stmt:=top 30
abbrev N_is_no:List Str:=["row","p","noes","i","a"]
theorem sc_is_no:FnScope N_is_no ["row","p"] (defScope s_is_no):=⟨rfl,rfl,rfl,by decide +kernel,rfl,by decide +kernel,by decide +kernel⟩
abbrev s_three_have_zero:Stmt:=top 31
abbrev N_three_have_zero:List Str:=["a","b","c","p"]
theorem sc_three_have_zero:FnScope N_three_have_zero ["a","b","c","p"] (defScope s_three_have_zero):=⟨rfl,rfl,rfl,by decide +kernel,rfl,by decide +kernel,by decide +kernel⟩
abbrev s_four_have_zero:Stmt:=top 32
abbrev N_four_have_zero:List Str:=["numbers","p","product"]
theorem sc_four_have_zero:FnScope N_four_have_zero ["numbers","p"] (defScope s_four_have_zero):=⟨rfl,rfl,rfl,by decide +kernel,rfl,by decide +kernel,by decide +kernel⟩
abbrev s_have_zero:Stmt:=top 33
abbrev N_have_zero:List Str:=["numbers","p"]
theorem sc_have_zero:FnScope N_have_zero ["numbers","p"] (defScope s_have_zero):=⟨rfl,rfl,rfl,by decide +kernel,rfl,by decide +kernel,by decide +kernel⟩
abbrev s_first_prime_without:Stmt:=top 34
abbrev N_first_prime_without:List Str:=["row","p"]
theorem sc_first_prime_without:FnScope N_first_prime_without ["row"] (defScope s_first_prime_without):=⟨rfl,rfl,rfl,by decide +kernel,rfl,by decide +kernel,by decide +kernel⟩
abbrev s_first_barring:Stmt:=top 35
abbrev N_first_barring:List Str:=["numbers","barring"]
theorem sc_first_barring:FnScope N_first_barring ["numbers"] (defScope s_first_barring):=⟨rfl,rfl,rfl,by decide +kernel,rfl,by decide +kernel,by decide +kernel⟩
abbrev s_first_without:Stmt:=top 36
abbrev N_first_without:List Str:=["row"]
theorem sc_first_without:FnScope N_first_without ["row"] (defScope s_first_without):=⟨rfl,rfl,rfl,by decide +kernel,rfl,by decide +kernel,by decide +kernel⟩
abbrev s_product_of_all:Stmt:=top 38
abbrev N_product_of_all:List Str:=["row","answer","k"]
theorem sc_product_of_all:FnScope N_product_of_all ["row"] (defScope s_product_of_all):=⟨rfl,rfl,rfl,by decide +kernel,rfl,by decide +kernel,by decide +kernel⟩
abbrev s_has_pair_at:Stmt:=top 39
abbrev N_has_pair_at:List Str:=["size","number","odd","p"]
theorem sc_has_pair_at:FnScope N_has_pair_at ["size","number","odd","p"] (defScope s_has_pair_at):=⟨rfl,rfl,rfl,by decide +kernel,rfl,by decide +kernel,by decide +kernel⟩
abbrev s_pairs_at_prime:Stmt:=top 40
abbrev N_pairs_at_prime:List Str:=["row","p","size","number","odd","often"]
theorem sc_pairs_at_prime:FnScope N_pairs_at_prime ["row","p"] (defScope s_pairs_at_prime):=⟨rfl,rfl,rfl,by decide +kernel,rfl,by decide +kernel,by decide +kernel⟩
abbrev s_pairs_at_nought:Stmt:=top 41
abbrev N_pairs_at_nought:List Str:=["row","above"]
theorem sc_pairs_at_nought:FnScope N_pairs_at_nought ["row"] (defScope s_pairs_at_nought):=⟨rfl,rfl,rfl,by decide +kernel,rfl,by decide +kernel,by decide +kernel⟩
abbrev s_how_many_pairs:Stmt:=top 42
abbrev N_how_many_pairs:List Str:=["row"]
theorem sc_how_many_pairs:FnScope N_how_many_pairs ["row"] (defScope s_how_many_pairs):=⟨rfl,rfl,rfl,by decide +kernel,rfl,by decide +kernel,by decide +kernel⟩
abbrev s_law_cell_at:Stmt:=top 44
abbrev N_law_cell_at:List Str:=["_law_script","_law_k"]
theorem sc_law_cell_at:FnScope N_law_cell_at ["_law_script","_law_k"] (defScope s_law_cell_at):=⟨rfl,rfl,rfl,by decide +kernel,rfl,by decide +kernel,by decide +kernel⟩
abbrev s_law_big:Stmt:=top 45
abbrev N_law_big:List Str:=["_law_cell","_law_k","_law_number","_law_j","_law_part"]
theorem sc_law_big:FnScope N_law_big ["_law_cell","_law_k"] (defScope s_law_big):=⟨rfl,rfl,rfl,by decide +kernel,rfl,by decide +kernel,by decide +kernel⟩
abbrev s_law_small:Stmt:=top 46
abbrev N_law_small:List Str:=["_law_cell","_law_number","_law_bits","_law_p"]
theorem sc_law_small:FnScope N_law_small ["_law_cell"] (defScope s_law_small):=⟨rfl,rfl,rfl,by decide +kernel,rfl,by decide +kernel,by decide +kernel⟩
abbrev s_law_row:Stmt:=top 47
abbrev N_law_row:List Str:=["_law_cell","_law_size","_law_row_here","_law_rest","_law_k","_law_root_here"]
theorem sc_law_row:FnScope N_law_row ["_law_cell","_law_size"] (defScope s_law_row):=⟨rfl,rfl,rfl,by decide +kernel,rfl,by decide +kernel,by decide +kernel⟩
abbrev s_law_common:Stmt:=top 48
abbrev N_law_common:List Str:=["_law_a","_law_b","_law_rest"]
theorem sc_law_common:FnScope N_law_common ["_law_a","_law_b"] (defScope s_law_common):=⟨rfl,rfl,rfl,by decide +kernel,rfl,by decide +kernel,by decide +kernel⟩
abbrev s_law_root:Stmt:=top 49
abbrev N_law_root:List Str:=["_law_k","_law_root_here"]
theorem sc_law_root:FnScope N_law_root ["_law_k"] (defScope s_law_root):=⟨rfl,rfl,rfl,by decide +kernel,rfl,by decide +kernel,by decide +kernel⟩
abbrev s_law_free:Stmt:=top 50
abbrev N_law_free:List Str:=["_law_number","_law_left","_law_free_here","_law_d","_law_often"]
theorem sc_law_free:FnScope N_law_free ["_law_number"] (defScope s_law_free):=⟨rfl,rfl,rfl,by decide +kernel,rfl,by decide +kernel,by decide +kernel⟩
abbrev s_law_free_times:Stmt:=top 51
abbrev N_law_free_times:List Str:=["_law_one","_law_other_here","_law_part"]
theorem sc_law_free_times:FnScope N_law_free_times ["_law_one","_law_other_here"] (defScope s_law_free_times):=⟨rfl,rfl,rfl,by decide +kernel,rfl,by decide +kernel,by decide +kernel⟩
abbrev s_law_is_small:Stmt:=top 52
abbrev N_law_is_small:List Str:=["_law_number","_law_left","_law_p"]
theorem sc_law_is_small:FnScope N_law_is_small ["_law_number"] (defScope s_law_is_small):=⟨rfl,rfl,rfl,by decide +kernel,rfl,by decide +kernel,by decide +kernel⟩
abbrev s_law_other:Stmt:=top 53
abbrev N_law_other:List Str:=["_law_row_here","_law_cell","_law_new","_law_turn","_law_i","_law_j","_law_x","_law_y","_law_made","_law_c"]
theorem sc_law_other:FnScope N_law_other ["_law_row_here","_law_cell"] (defScope s_law_other):=⟨rfl,rfl,rfl,by decide +kernel,rfl,by decide +kernel,by decide +kernel⟩
abbrev s_law_drawn:Stmt:=top 54
abbrev N_law_drawn:List Str:=["_law_cell","_law_other_here","_law_size","_law_row_here","_law_k"]
theorem sc_law_drawn:FnScope N_law_drawn ["_law_cell","_law_other_here"] (defScope s_law_drawn):=⟨rfl,rfl,rfl,by decide +kernel,rfl,by decide +kernel,by decide +kernel⟩
abbrev s_law_turned_alike:Stmt:=top 55
abbrev N_law_turned_alike:List Str:=["_law_cell","_law_other_here","_law_size","_law_row_here","_law_pairs","_law_turned","_law_many"]
theorem sc_law_turned_alike:FnScope N_law_turned_alike ["_law_cell","_law_other_here"] (defScope s_law_turned_alike):=⟨rfl,rfl,rfl,by decide +kernel,rfl,by decide +kernel,by decide +kernel⟩
abbrev s_law_held:Stmt:=top 56
abbrev N_law_held:List Str:=["_law_row_here","_law_t","_law_place","_law_handed","_law_many","_law_above","_law_longer","_law_root_here","_law_wide_row"]
theorem sc_law_held:FnScope N_law_held ["_law_row_here","_law_t","_law_place"] (defScope s_law_held):=⟨rfl,rfl,rfl,by decide +kernel,rfl,by decide +kernel,by decide +kernel⟩
abbrev s_law:Stmt:=top 57
abbrev N_law:List Str:=["_law_script","_law_k","_law_cells","_law_row_here","_law_t"]
theorem sc_law:FnScope N_law ["_law_script"] (defScope s_law):=⟨rfl,rfl,rfl,by decide +kernel,rfl,by decide +kernel,by decide +kernel⟩
section
variable {P:Program} {w:World} {K:PySem.W.Frag} {mg:Str→Option Value} {base:Heap} {f:Addr} {k:Nat} (B:Bu mg)
include B in
theorem b_is_whole (x:Int):Body P w K mg base N_is_whole "is_whole" s_is_whole f kk [.val false x] (RT true true):=by
 intro cdv A outer s H E hr
 exact s_ret (e_and (e_isII rfl B.isinstance rfl B.int (e_var 0)) fun _=>(e_one (e_not (e_isIB rfl B.isinstance rfl B.bool (e_var 0))))) rfl
def pwm (b e m:Int):Int:=b ^ e.toNat % m
theorem fmodE {a m:Int} (h:1≤m):a.fmod m=a % m:=Int.fmod_eq_emod_of_nonneg a (by omega)
theorem pwm_odd {A S m:Int} {n:Nat} (h:n % 2=1):(A * S % m) * (S * S % m) ^ (n / 2) % m=A * S ^ n % m:=by
 rw [Int.mul_emod,Int.emod_emod_of_dvd _ (Int.dvd_refl m),_root_.EP.emod_pow,← Int.mul_emod,Int.mul_pow,← Int.pow_add,Int.mul_assoc]
 congr 2
 have e:S ^ n=S ^ (1 + (n / 2 + n / 2)):=by congr 1; omega
 rw [e,Int.pow_add S 1,Int.pow_succ,Int.pow_zero,Int.one_mul,Int.pow_add]
theorem pwm_even {A S m:Int} {n:Nat} (h:n % 2=0):A * (S * S % m) ^ (n / 2) % m=A * S ^ n % m:=by
 rw [Int.mul_emod,_root_.EP.emod_pow,← Int.mul_emod,Int.mul_pow,← Int.pow_add]
 congr 3
 omega
theorem half_toNat {e:Int} (h:0≤e):(e.fdiv 2).toNat=e.toNat / 2∧0≤e.fdiv 2:=by
 rw [Int.fdiv_eq_ediv_of_nonneg _ (by decide)]; omega
theorem b_power_by (x e m:Int) (he:0≤e) (hm:1≤m) (hm2:m < 2 ^ 62):Body P w K mg base N_power_by "power_by" s_power_by f kk [.val false x,.val false e,.val false m] (RT true (pwm x e m)):=by
 intro cdv A outer s H E hr
 refine s_asg 3 sc_power_by.nd (e_mod e_int (e_var 2) (by omega)) ?_
 refine s_asg 4 sc_power_by.nd (e_mod (e_var 0) (e_var 2) (by omega)) ?_
 rw [fmodE hm,fmodE hm]
 refine s_while (ι:=Bool × Int × Int × Int) (fun i Γ=>Γ=[some (.val false x),some (.val i.1 i.2.1),some (.val false m),some (.val true i.2.2.1),some (.val true i.2.2.2)]∧0≤i.2.1∧i.2.2.1 * i.2.2.2 ^ i.2.1.toNat % m=x ^ e.toNat % m∧0≤i.2.2.1∧i.2.2.1 < m∧0≤i.2.2.2∧i.2.2.2 < m) (fun i=>i.2.1.toNat) (false,e,1 % m,x % m)
  ⟨rfl,he,by dsimp only; rw [Int.mul_emod,Int.emod_emod_of_dvd _ (Int.dvd_refl m),_root_.EP.emod_pow,← Int.mul_emod,Int.one_mul],Int.emod_nonneg _ (by omega),Int.emod_lt_of_pos _ (by omega),Int.emod_nonneg _ (by omega),Int.emod_lt_of_pos _ (by omega)⟩ ?_
 rintro ⟨bb,n,a,q⟩ Γ' ⟨rfl,hn,hi,a0,a1,q0,q1⟩
 dsimp only at *
 refine ⟨_,t_cmp cv_gt (e_var 1) e_int,fun hc=>?_,fun hc=>?_⟩
 ·have hpos:0 < n:=by simpa using hc
  have hh:=half_toNat hn
  have z1:=Int.emod_nonneg (q * q) (show m≠0 by omega)
  have z2:=Int.emod_lt_of_pos (q * q) (show 0 < m by omega)
  refine s_if1 (t_cmp cv_eqI (e_mod (e_var 1) e_int (by decide)) e_int) (fun hc=>?_) (fun hc=>?_)
  ·have ho:n.toNat % 2=1:=by
    have:n.fmod 2=1:=by simpa using hc
    rw [fmodE (by decide)] at this
    omega
   refine s_asg 3 sc_power_by.nd (e_mod (e_mul (e_var 3) (e_var 4) (mulL (by omega) (by omega))) (e_var 2) (by omega)) (s_nil ?_)
   refine s_asg 4 sc_power_by.nd (e_mod (e_mul (e_var 4) (e_var 4) (mulL (by omega) (by omega))) (e_var 2) (by omega)) ?_
   refine s_asg 1 sc_power_by.nd (e_fdiv (e_var 1) e_int cdK) ?_
   rw [fmodE hm,fmodE hm]
   refine s_nil ⟨(true,n.fdiv 2,a * q % m,q * q % m),⟨rfl,hh.2,?_,Int.emod_nonneg _ (by omega),Int.emod_lt_of_pos _ (by omega),z1,z2⟩,?_⟩
   ·dsimp only; rw [hh.1,pwm_odd ho,hi]
   ·dsimp only; omega
  ·have ho:n.toNat % 2=0:=by
    have:¬ n.fmod 2=1:=by simpa using hc
    rw [fmodE (by decide)] at this
    omega
   refine s_asg 4 sc_power_by.nd (e_mod (e_mul (e_var 4) (e_var 4) (mulL (by omega) (by omega))) (e_var 2) (by omega)) ?_
   refine s_asg 1 sc_power_by.nd (e_fdiv (e_var 1) e_int cdK) ?_
   rw [fmodE hm]
   refine s_nil ⟨(true,n.fdiv 2,a,q * q % m),⟨rfl,hh.2,?_,a0,a1,z1,z2⟩,?_⟩
   ·dsimp only; rw [hh.1,pwm_even ho,hi]
   ·dsimp only; omega
 ·have hz:n.toNat=0:=by
   have:¬ 0 < n:=by simpa using hc
   omega
  rw [hz,Int.pow_zero,Int.mul_one,Int.emod_eq_of_lt a0 a1] at hi
  refine s_ret (e_var 3) ?_
  show Bd.val _ _=Bd.val _ _
  unfold pwm
  rw [← hi]
theorem tko_go {k d l n:Int} (h0:0≤n) (he:k=l * d ^ n.toNat) (hd:2≤d) (hl:l.fmod d=0) (hz:l≠0):0≤n + 1∧k=l.fdiv d * d ^ (n + 1).toNat∧l.fdiv d≠0∧(l.fdiv d).natAbs < l.natAbs:=by
 obtain ⟨a,b,c⟩:=_root_.EP.tko_step hd (_root_.EP.dvd_fmod.mp hl) hz
 refine ⟨by omega,?_,b,c⟩
 rw [show (n + 1).toNat=n.toNat + 1 by omega,Int.pow_succ,he]
 generalize d ^ n.toNat=t
 generalize l.fdiv d=q at *
 rw [← a]
 grind
theorem b_taken_out (x d:Int) (h0:x≠0) (hd:2≤d) (hs:Sm 9000 d):Body P w K mg base N_taken_out "taken_out" s_taken_out f kk [.val false x,.val false d] (RT true (_root_.EP.tko x d)):=by
 intro cdv A outer s H E hr
 refine s_asg 2 sc_taken_out.nd e_int ?_
 refine s_asg 3 sc_taken_out.nd (e_var 0) ?_
 refine s_while (ι:=Bool × Int × Int) (fun i Γ=>Γ=[some (.val false x),some (.val false d),some (.val true i.2.1),some (.val i.1 i.2.2)]∧0≤i.2.1∧x=i.2.2 * d ^ i.2.1.toNat∧i.2.2≠0) (fun i=>i.2.2.natAbs) (false,0,x) ⟨rfl,Int.le_refl 0,by dsimp only; rw [show (0:Int).toNat=0 from rfl,Int.pow_zero,Int.mul_one],h0⟩ ?_
 rintro ⟨bb,n,l⟩ Γ' ⟨rfl,hn,he,hl⟩
 dsimp only at *
 refine ⟨_,t_cmp cv_eqI (e_mod (e_var 3) (e_var 1) (by omega)) e_int,fun hc=>?_,fun hc=>?_⟩
 ·have hc':l.fmod d=0:=by simpa using hc
  refine s_asg 3 sc_taken_out.nd (e_fdiv (e_var 3) (e_var 1) (hs.div (by omega))) ?_
  refine s_asg 2 sc_taken_out.nd (e_add (e_var 2) e_int) ?_
  obtain ⟨a1,a2,a3,a4⟩:=tko_go hn he hd hc' hl
  exact s_nil ⟨(true,n + 1,l.fdiv d),⟨rfl,a1,a2,a3⟩,a4⟩
 ·have hc':¬ l.fmod d=0:=by simpa using hc
  refine s_ret (e_tup2 (e_var 2) (e_up (b':=true) (e_var 3))) ?_
  show Bd.val _ _=Bd.val _ _
  rw [_root_.EP.tko_eq hd (r:=(n,l)) ⟨hn,he,fun z=>hc' (_root_.EP.dvd_fmod.mpr z)⟩]
  rfl
theorem bits_sq {k:Int} (h0:0≤k):k < (2:Int) ^ ((Builtin.Int.intBits k + 1) / 2) * 2 ^ ((Builtin.Int.intBits k + 1) / 2):=by
 have hb:k.natAbs < 2 ^ Builtin.Int.intBits k:=by
  unfold Builtin.Int.intBits
  by_cases hz:k=0
  ·subst hz; decide
  ·rw [if_neg (by simpa using hz)]
   exact Nat.lt_log2_self
 have h2:Builtin.Int.intBits k≤(Builtin.Int.intBits k + 1) / 2 + (Builtin.Int.intBits k + 1) / 2:=by omega
 have h3:(2:Nat) ^ Builtin.Int.intBits k≤2 ^ ((Builtin.Int.intBits k + 1) / 2 + (Builtin.Int.intBits k + 1) / 2):=Nat.pow_le_pow_right (by decide) h2
 rw [← Int.pow_add]
 have h4:((2 ^ ((Builtin.Int.intBits k + 1) / 2 + (Builtin.Int.intBits k + 1) / 2):Nat):Int)=(2:Int) ^ ((Builtin.Int.intBits k + 1) / 2 + (Builtin.Int.intBits k + 1) / 2):=by rw [Int.natCast_pow]; rfl
 rw [← h4]
 omega
theorem b_square_root (x:Int) (h0:0≤x) (hs:Sm 8000 x):Body P w K mg base N_square_root "square_root" s_square_root f k [.val false x] (RT true (_root_.EP.rt x)):=by
 intro cdv A outer s H E hr
 have hb:Builtin.Int.intBits x≤8000:=hs.bits
 have hj:((Builtin.Int.intBits x:Int) + 1).fdiv 2=(((Builtin.Int.intBits x + 1) / 2:Nat):Int):=by
  rw [Int.fdiv_eq_ediv_of_nonneg _ (by decide)]; omega
 refine s_asg 1 sc_square_root.nd (e_shl e_int (e_fdiv (e_add (e_bits (e_var 0)) e_int) e_int cdK) ⟨by rw [hj]; omega,by rw [hj]; omega,by decide⟩) ?_
 rw [hj,Int.one_mul,Int.toNat_natCast]
 have hR:=bits_sq h0
 have hS:Sm 8001 ((2:Int) ^ ((Builtin.Int.intBits x + 1) / 2)):=by
  unfold Sm
  rw [Int.natAbs_pow]
  exact Nat.pow_lt_pow_right (by decide) (by omega)
 have hp:(0:Int) < 2 ^ ((Builtin.Int.intBits x + 1) / 2):=Int.pow_pos (by decide)
 generalize (2:Int) ^ ((Builtin.Int.intBits x + 1) / 2)=R at *
 refine s_while (ι:=Int) (fun r Γ=>Γ=[some (.val false x),some (.val true r)]∧0≤r∧r≤R∧x < (r + 1) * (r + 1)) (fun r=>r.toNat) R ⟨rfl,by omega,by omega,by
  have:R * R≤(R + 1) * (R + 1):=_root_.EP.sq_le (by omega) (by omega)
  omega⟩ ?_
 rintro r Γ' ⟨rfl,r0,r1,r2⟩
 have hSr:Sm 8001 r:=Sm.of_le (by omega) hS
 refine ⟨_,t_cmp cv_gt (e_mul (e_var 1) (e_var 1) (hSr.ok hSr)) (e_var 0),fun hc=>?_,fun hc=>?_⟩
 ·have hc':x < r * r:=by simpa using hc
  have hpos:0 < r:=by
   rcases Int.lt_or_eq_of_le r0 with z | z
   ·exact z
   ·rw [← z] at hc'; simp at hc'; omega
  refine s_asg 1 sc_square_root.nd (e_fdiv (e_add (e_var 1) (e_fdiv (e_var 0) (e_var 1) (hSr.div (by omega)))) e_int cdK) ?_
  obtain ⟨n0,n1,n2⟩:=_root_.EP.newton h0 hpos hc'
  exact s_nil ⟨_,⟨rfl,n0,by omega,n2⟩,by omega⟩
 ·have hc':r * r≤x:=by simpa using hc
  refine s_ret (e_var 1) ?_
  show Bd.val _ _=Bd.val _ _
  rw [_root_.EP.rt_unique r0 hc' r2]
def rtO (k:Int):Option Int:=if k < 0 then none else if _root_.EP.rt k * _root_.EP.rt k=k then some (_root_.EP.rt k) else none
theorem rt_sm {k:Int} {n:Nat} (h0:0≤k) (hs:Sm n k):Sm n (_root_.EP.rt k):=by
 have h1:=_root_.EP.rt_le h0
 have h2:=_root_.EP.rt_nonneg k
 refine Sm.of_le ?_ hs
 have:_root_.EP.rt k≤k:=by
  rcases Int.lt_or_le (_root_.EP.rt k) 1 with z | z
  ·omega
  ·have:_root_.EP.rt k * 1≤_root_.EP.rt k * _root_.EP.rt k:=Int.mul_le_mul_of_nonneg_left z h2
   omega
 omega
theorem b_square_root_or_none (c_square_root:Cal P w K mg base 1 "square_root" ["k"] (sp1 K (fun k=>0≤k∧Sm 8000 k) true _root_.EP.rt)) (x:Int) (hs:Sm 8000 x):Body P w K mg base N_square_root_or_none "square_root_or_none" s_square_root_or_none f 1 [.val false x] (RT true (rtO x)):=by
 intro cdv A outer s H E hr
 refine s_if1 (t_cmp cv_lt (e_var 0) e_int) (fun hc=>?_) (fun hc=>?_)
 ·have e:rtO x=none:=if_pos (by simpa using hc)
  rw [e]
  exact s_ret (e_non (α:=Int)) rfl
 have h0:¬ x < 0:=by simpa using hc
 refine s_asg 1 sc_square_root_or_none.nd (e_call1 c_square_root (hr.mono (by decide)) rfl (e_var 0) ⟨by omega,hs⟩) ?_
 have hS:=rt_sm (by omega) hs
 refine s_ret (e_if (t_cmp cv_eqI (e_mul (e_var 1) (e_var 1) (hS.ok hS)) (e_var 0)) (fun _=>(e_var 1).some) fun _=>e_non (α:=Int)) ?_
 show Bd.val _ _=Bd.val _ _
 congr 1
 unfold rtO
 rw [if_neg h0]
 by_cases z:_root_.EP.rt x * _root_.EP.rt x=x
 ·rw [if_pos z,if_pos (by simpa using z)]
 ·rw [if_neg z,if_neg (by simpa using z)]
theorem rs_2 {b m:Int} {i:Nat}:i < (Builtin.Range.rangeSize b m 2).toNat↔b + (i:Int) * 2 < m:=by
 unfold Builtin.Range.rangeSize
 simp
 split <;> omega
include B in
theorem b_next_divisor (c_square_root:Cal P w K mg base 1 "square_root" ["k"] (sp1 K (fun k=>0≤k∧Sm 8000 k) true _root_.EP.rt)) (x b e:Int) (hp:1≤x∧Sm 8000 x∧1≤b∧b < 2 ^ 62∧-(2 ^ 62)≤e∧e < 2 ^ 62) :
  Body P w K mg base N_next_divisor "next_divisor" s_next_divisor f 1 [.val false x,.val false b,.val false e] (RT true (_root_.EP.ndv x b e)):=by
 intro cdv A outer s H E hr
 obtain ⟨h1,h2,h3,h4,h5,h6⟩:=hp
 have hrt:=_root_.EP.rt_nonneg x
 have hm:-(2 ^ 62)≤(if _root_.EP.rt x + 1 < e then _root_.EP.rt x + 1 else e)∧(if _root_.EP.rt x + 1 < e then _root_.EP.rt x + 1 else e) < 2 ^ 62:=by split <;> omega
 have hv:_root_.EP.ndv x b e=_root_.EP.ndM x b (if _root_.EP.rt x + 1 < e then _root_.EP.rt x + 1 else e):=rfl
 refine s_forRange3 (fun i Γ=>∃ r,Γ=[some (.val false x),some (.val false b),some (.val false e),r]∧∀ j:Nat,j < i→¬ (b + (j:Int) * 2) ∣ x) rfl B.range (g_name 3 sc_next_divisor.nd) (e_var 1) (e_min rfl rfl B.min (e_var 2) (e_add (e_call1 c_square_root (hr.mono (by decide)) rfl (e_var 0) ⟨by omega,h2⟩) e_int)) e_int ⟨by omega,h4,hm.1,hm.2⟩ (by decide) ⟨none,rfl,fun j hj=>absurd hj (Nat.not_lt_zero _)⟩ ?_ ?_
 ·rintro i Γ' hi ⟨r,rfl,hj⟩
  have hi':=rs_2.mp hi
  refine s_if1 (t_cmp cv_eqI (e_mod (e_var 0) (e_var 3) (by omega)) e_int) (fun hc=>?_) (fun hc=>?_)
  ·have hd:(b + (i:Int) * 2) ∣ x:=_root_.EP.dvd_fmod.mp (by simpa using hc)
   refine s_ret (e_var 3).some ?_
   show Bd.val _ _=Bd.val _ _
   rw [hv,← _root_.EP.ndM_eq (r:=some (b + (i:Int) * 2)) ⟨by omega,hi',by omega,hd,fun d' q1 q2 q3=>?_⟩]
   have:=hj ((d' - b) / 2).toNat (by omega)
   rwa [show b + ((((d' - b) / 2).toNat:Nat):Int) * 2=d' by omega] at this
  ·have hd:¬ (b + (i:Int) * 2) ∣ x:=fun z=>by
    have:=_root_.EP.dvd_fmod.mpr z
    simp [this] at hc
   refine s_nil ⟨_,rfl,fun j hji=>?_⟩
   rcases Nat.lt_succ_iff_lt_or_eq.mp hji with z | z
   ·exact hj j z
   ·rw [z]; exact hd
 ·rintro Γ' ⟨r,rfl,hj⟩
  refine s_ret (e_non (α:=Int)) ?_
  show Bd.val _ _=Bd.val _ _
  rw [hv,← _root_.EP.ndM_eq (r:=none) fun d' q1 q2 q3=>?_]
  have:=hj ((d' - b) / 2).toNat (rs_2.mpr (by omega))
  rwa [show b + ((((d' - b) / 2).toNat:Nat):Int) * 2=d' by omega] at this
theorem fmod2 (k:Int):k.fmod 2=k % 2:=Int.fmod_eq_emod_of_nonneg k (by decide)
theorem b_is_prime (c_next_divisor:Cal P w K mg base 2 "next_divisor" ["k","begin","end"] (sp3 K (fun k b e=>1≤k∧Sm 8000 k∧1≤b∧b < 2 ^ 62∧-(2 ^ 62)≤e∧e < 2 ^ 62) true _root_.EP.ndv)) (x:Int) (hx:x < 2 ^ 62) :
  Body P w K mg base N_is_prime "is_prime" s_is_prime f 2 [.val false x] (RT true (_root_.EP.isP x)):=by
 intro cdv A outer s H E hr
 refine s_if1 (TW.t (tw_or (t_cmp cv_lt (e_var 0) e_int) fun _=>(tw_or1 (t_cmp cv_eqI (e_mod (e_var 0) e_int (by decide)) e_int)))) (fun hc=>?_) (fun hc=>?_)
 ·have hc':x < 3∨x % 2=0:=by simpa [fmod2] using hc
  refine s_ret (e_cmp cv_eqI (e_var 0) e_int) ?_
  show Bd.val _ _=Bd.val _ _
  congr 1
  rw [Bool.eq_iff_iff,_root_.EP.isP_iff,decide_eq_true_iff]
  constructor
  ·exact .inl
  ·rintro (z | z) <;> omega
 ·have hc':3≤x∧x % 2=1:=by
   have:¬ (x < 3∨x % 2=0):=by simpa [fmod2] using hc
   omega
  refine s_ret (e_isN (e_call3 c_next_divisor (hr.mono (by decide)) rfl (e_var 0) e_int (e_var 0) ⟨by omega,Sm.le (m:=62) (by unfold Sm; omega) (by decide),by decide,by decide,by omega,hx⟩) fun _ _ _ _ h=>nomatch h) ?_
  show Bd.val _ _=Bd.val _ _
  rw [_root_.EP.isP_ndv hc'.1 hc'.2]
def PDv (k e:Int):Prop:=1≤k∧Sm 900 k∧0≤e∧e < 2 ^ 61
theorem pp_len:∀ {us:List (Int × Int)} {a b:Int},1≤a→_root_.EP.Rise a us b→(2:Int) ^ us.length≤_root_.EP.pp us
 | [],_,_,_,_=>by show (2:Int) ^ 0≤1; decide
 | u :: us,a,b,ha,h=>by
  have h1:=pp_len (show 1≤u.1 by have:=h.1; omega) h.2.2.2
  have hu:(2:Int)≤u.1 ^ u.2.toNat:=by
   have e:u.2.toNat=(u.2.toNat - 1) + 1:=by have:=h.2.2.1; omega
   rw [e,Int.pow_succ]
   have:(0:Int) < u.1 ^ (u.2.toNat - 1):=Int.pow_pos (by have:=h.1; omega)
   have:=h.1
   have:1 * 2≤u.1 ^ (u.2.toNat - 1) * u.1:=Int.mul_le_mul (by omega) (by omega) (by decide) (by omega)
   omega
  show (2:Int) ^ (us.length + 1)≤u.1 ^ u.2.toNat * _root_.EP.pp us
  rw [Int.pow_succ,Int.mul_comm]
  have h0:(0:Int) < 2 ^ us.length:=Int.pow_pos (by decide)
  exact Int.mul_le_mul hu h1 (by omega) (by omega)
theorem dv_le {k:Int} {fs:List (Int × Int)} {l b:Int} (I:_root_.EP.DvI k fs l b):l≤k∧(2:Int) ^ fs.length≤k:=by
 have h1:=I.prod
 have h2:=_root_.EP.pp_pos (by decide) I.rise
 have h3:=I.pos
 have h4:=pp_len (Int.le_refl 1) I.rise
 have h5:1 * l≤_root_.EP.pp fs * l:=Int.mul_le_mul_of_nonneg_right (by omega) (by omega)
 have h6:_root_.EP.pp fs * 1≤_root_.EP.pp fs * l:=Int.mul_le_mul_of_nonneg_left (by omega) (by omega)
 omega
theorem len_sm {m:Nat} {k:Int} (h:(2:Int) ^ m≤k) (hs:Sm 900 k):m≤900:=by
 apply Classical.byContradiction
 intro hn
 unfold Sm at hs
 have h1:(2:Nat) ^ 900≤2 ^ m:=Nat.pow_le_pow_right (by decide) (by omega)
 have h2:((2 ^ m:Nat):Int)=(2:Int) ^ m:=by rw [Int.natCast_pow]; rfl
 omega
set_option maxHeartbeats 0 in
theorem b_divided (c_taken_out:Cal P w K mg base 1 "taken_out" ["k","divisor"] (sp2 K (fun k d=>k≠0∧2≤d∧Sm 9000 d) true _root_.EP.tko)) (c_next_divisor:Cal P w K mg base 2 "next_divisor" ["k","begin","end"] (sp3 K (fun k b e=>1≤k∧Sm 8000 k∧1≤b∧b < 2 ^ 62∧-(2 ^ 62)≤e∧e < 2 ^ 62) true _root_.EP.ndv)) (x e:Int) (hp:PDv x e) :
  Body P w K mg base N_divided "divided" s_divided f 2 [.val false x,.val false e] (RT true (_root_.EP.dvdF x e)):=by
 intro cdv A outer s H E hr
 obtain ⟨h1,h2,h3,h4⟩:=hp
 obtain ⟨I0,hle0⟩:=_root_.EP.dvd_start h1
 have two:Sm 9000 (2:Int):=Sm.le (m:=2) (by unfold Sm; decide) (by decide)
 refine s_asg 2 sc_divided.nd (e_call2 c_taken_out (hr.mono (by decide)) rfl (e_var 0) e_int ⟨by omega,by decide,two⟩) ?_
 refine s_deep 3 sc_divided.nd (en_if (t_cmp cv_gt (e_fst (e_var 2)) e_int) (fun _=>en_lst (α:=Int × Int) (ea_cons (e_tup2 e_int (e_fst (e_var 2))) ea_nil) (Nat.le_of_ble_eq_true rfl)) fun _=>en_lst (α:=Int × Int) (b:=true) ea_nil (Nat.le_of_ble_eq_true rfl)) ?_
 have e0:(if decide (0 < (_root_.EP.tko x 2).1)=true then [((2:Int),(_root_.EP.tko x 2).1)] else [])=_root_.EP.dvd0 x:=by
  unfold _root_.EP.dvd0
  by_cases z:0 < (_root_.EP.tko x 2).1
  ·rw [if_pos z,if_pos (by simpa using z)]
  ·rw [if_neg z,if_neg (by simpa using z)]
 rw [e0]
 refine s_d2o (α:=Int × Int) 3 true rfl ?_
 refine s_asg 4 sc_divided.nd (e_snd (e_var 2)) ?_
 have sm8:∀ l:Int,0 < l→l≤x→Sm 8000 l:=fun l a b=>Sm.le (Sm.of_le (by omega) h2) (by decide)
 have hp0:=I0.pos
 refine s_asg 5 sc_divided.nd (e_call3 c_next_divisor (hr.mono (by decide)) rfl (e_var 4) e_int (e_var 1) ⟨by omega,sm8 _ hp0 hle0,by decide,by decide,by omega,by omega⟩) ?_
 refine s_while (ι:=Nat × List (Int × Int) × Int × Int) (fun i Γ=>∃ r,Γ=[some (.val false x),some (.val false e),r,some (.own true i.2.1),some (.val true i.2.2.1),some (.val true (_root_.EP.ndv i.2.2.1 i.2.2.2 e))]∧_root_.EP.DvI x i.2.1 i.2.2.1 i.2.2.2∧i.2.2.1≤(i.1:Int)∧_root_.EP.dvF e i.1 i.2.1 i.2.2.1 i.2.2.2=_root_.EP.dvdF x e) (fun i=>i.1) (x.toNat,_root_.EP.dvd0 x,(_root_.EP.tko x 2).2,3) ⟨_,rfl,I0,by dsimp only; omega,rfl⟩ ?_
 rintro ⟨n,fs,l,b⟩ Γ' ⟨r,rfl,I,hn,hd⟩
 dsimp only at *
 have hl0:=I.pos
 have hb3:=I.b3
 obtain ⟨hlx,hlen⟩:=dv_le I
 cases n with
 | zero=>omega
 | succ n =>
 refine ⟨_,t_nN (α:=Int) (e_var 5) notNonI,fun hc=>?_,fun hc=>?_⟩
 ·cases hnd:_root_.EP.ndv l b e with
  | none=>rw [hnd] at hc; cases hc
  | some d =>
   obtain ⟨d1,d2,d3,d4,d5,d6⟩:=_root_.EP.ndv_some (by omega) (by omega) hnd
   obtain ⟨t1,t2,t3,t4⟩:=_root_.EP.tko_lt (show 2≤d by omega) hl0 d5
   refine s_asg 2 sc_divided.nd (e_call2 c_taken_out (hr.mono (by decide)) rfl (e_var 4) (e_get (α:=Int) (a:=d) (e_var 5)) ⟨by omega,by omega,Sm.le (m:=62) (by unfold Sm; omega) (by decide)⟩) ?_
   refine s_append 3 rfl (e_up (b':=true) (e_tup2 (e_get (α:=Int) (a:=d) (e_var 5)) (e_fst (e_var 2)))) (by have:=len_sm hlen h2; omega) ?_
   refine s_asg 4 sc_divided.nd (e_snd (e_var 2)) ?_
   refine s_asg 5 sc_divided.nd (e_call3 c_next_divisor (hr.mono (by decide)) rfl (e_var 4) (e_add (e_get (α:=Int) (a:=d) (e_var 5)) e_int) (e_var 1) ⟨by omega,sm8 _ t1 (by omega),by omega,by omega,by omega,by omega⟩) ?_
   refine s_nil ⟨(n,fs ++ [(d,(_root_.EP.tko l d).1)],(_root_.EP.tko l d).2,d + 2),⟨_,rfl,I.step hnd,by dsimp only; omega,?_⟩,by dsimp only; omega⟩
   rw [← hd]
   show _=_root_.EP.dvF e (n + 1) fs l b
   rw [_root_.EP.dvF,hnd]
 ·have hnd:_root_.EP.ndv l b e=none:=by
   cases hz:_root_.EP.ndv l b e with
   | none=>rfl
   | some d=>rw [hz] at hc; cases hc
  refine s_freeze 3 rfl ?_
  have e2:_root_.EP.dvF e (n + 1) fs l b=(fs,l):=by rw [_root_.EP.dvF,hnd]
  rw [← hd,e2]
  refine s_ret (e_tup2 (e_var 3) (e_var 4)) ?_
  rfl
theorem b_parts (c_divided:Cal P w K mg base 3 "divided" ["k","end"] (sp2 K PDv true _root_.EP.dvdF)) (x:Int) (hp:1≤x∧x < 2 ^ 60):Body P w K mg base N_parts "parts" s_parts f 3 [.val false x] (RT true (_root_.EP.prt x)):=by
 intro cdv A outer s H E hr
 have hs:Sm 900 x:=Sm.le (m:=60) (by unfold Sm; omega) (by decide)
 refine s_asg 1 sc_parts.nd (e_call2 c_divided (hr.mono (by decide)) rfl (e_var 0) (e_add (e_var 0) e_int) ⟨hp.1,hs,by omega,by omega⟩) ?_
 refine s_asg 2 sc_parts.nd (e_if (t_cmp cv_gt (e_snd (e_var 1)) e_int) (fun _=>(e_lst (α:=Int × Int) (ea_cons (e_tup2 (e_snd (e_var 1)) e_int) ea_nil) (Nat.le_of_ble_eq_true rfl))) fun _=>(e_lst (α:=Int × Int) ea_nil (Nat.le_of_ble_eq_true rfl))) ?_
 obtain ⟨b,I,_⟩:=_root_.EP.dvdF_ok (e:=x + 1) hp.1
 obtain ⟨_,hlen⟩:=dv_le I
 have hl:=len_sm hlen hs
 refine s_ret (e_cat (e_fst (e_var 1)) (e_var 2) ?_) ?_
 ·split
  ·show _ + 1≤1000; omega
  ·show _ + 0≤1000; omega
 ·show Bd.val _ _=Bd.val _ _
  unfold _root_.EP.prt
  congr 2
  by_cases z:1 < (_root_.EP.dvdF x (x + 1)).2
  ·rw [if_pos z,if_pos (by simpa using z)]
  ·rw [if_neg z,if_neg (by simpa using z)]
theorem b_square_by (c_power_by:Cal P w K mg base 1 "power_by" ["base","exponent","m"] (sp3 K (fun _ e m=>0≤e∧1≤m∧m < 2 ^ 62) true pwm)) (x p:Int) (hp:2≤p) (hp2:p < 2 ^ 62):Body P w K mg base N_square_by "square_by" s_square_by f 1 [.val false x,.val false p] (RT true (_root_.EP.sqb x p)):=by
 intro cdv A outer s H E hr
 have hh:(p - 1).fdiv 2=(p - 1) / 2:=Int.fdiv_eq_ediv_of_nonneg _ (by decide)
 refine s_asg 2 sc_square_by.nd (e_mod (e_var 0) (e_var 1) (by omega)) ?_
 rw [fmodE (show 1≤p by omega)]
 refine s_if1 (TW.t (tw_or (t_cmp cv_eqI (e_var 2) e_int) fun _=>(tw_or1 (t_cmp cv_eqI (e_var 1) e_int)))) (fun hc=>?_) (fun hc=>?_)
 ·have hc':x % p=0∨p=2:=by simpa using hc
  have e:_root_.EP.sqb x p=x % p:=by
   unfold _root_.EP.sqb
   by_cases z:x % p=0
   ·rw [if_pos z,z]
   ·rcases hc' with w | w
    ·exact absurd w z
    ·rw [if_neg z,if_pos w]
     subst w
     omega
  rw [e]
  exact s_ret (e_var 2) rfl
 ·have hc':¬ (x % p=0∨p=2):=by simpa using hc
  refine s_ret (e_if (t_cmp cv_eqI (e_call3 c_power_by (hr.mono (by decide)) rfl (e_var 2) (e_fdiv (e_sub (e_var 1) e_int) e_int cdK) (e_var 1) ⟨by rw [hh]; omega,by omega,hp2⟩) e_int) (fun _=>e_int) fun _=>(e_neg e_int)) ?_
  show Bd.val _ _=Bd.val _ _
  unfold _root_.EP.sqb pwm
  rw [if_neg (fun z=>hc' (.inl z)),if_neg (fun z=>hc' (.inr z)),hh]
  congr 1
  by_cases z:(x % p) ^ ((p - 1) / 2).toNat % p=1
  ·rw [if_pos z,if_pos (by simpa using z)]
  ·rw [if_neg z,if_neg (by simpa using z)]
theorem b_class_at (c_taken_out:Cal P w K mg base 1 "taken_out" ["k","divisor"] (sp2 K (fun k d=>k≠0∧2≤d∧Sm 9000 d) true _root_.EP.tko)) (c_square_by:Cal P w K mg base 2 "square_by" ["k","p"] (sp2 K (fun _ p=>2≤p∧p < 2 ^ 62) true _root_.EP.sqb)) (x p:Int) (h0:x≠0) (hp:2≤p) (hp2:p < 2 ^ 62):Body P w K mg base N_class_at "class_at" s_class_at f 2 [.val false x,.val false p] (RT true (_root_.EP.cls x p)):=by
 intro cdv A outer s H E hr
 refine s_if1 (t_cmp cv_eqI (e_var 1) e_int) (fun hc=>?_) (fun hc=>?_)
 ·exact absurd (show p=0 by simpa using hc) (by omega)
 refine s_asg 2 sc_class_at.nd (e_call2 c_taken_out (hr.mono (by decide)) rfl (e_var 0) (e_var 1) ⟨h0,hp,Sm.le (m:=62) (by unfold Sm; omega) (by decide)⟩) ?_
 refine s_asg 3 sc_class_at.nd (e_if (t_cmp cv_eqI (e_var 1) e_int) (fun _=>(e_mod (e_snd (e_var 2)) e_int (by decide))) fun _=>(e_call2 c_square_by (hr.mono (by decide)) rfl (e_snd (e_var 2)) (e_var 1) ⟨hp,hp2⟩)) ?_
 refine s_ret (e_tup2 (e_mod (e_fst (e_var 2)) e_int (by decide)) (e_var 3)) ?_
 show Bd.val _ _=Bd.val _ _
 unfold _root_.EP.cls
 rw [fmodE (by decide),fmodE (by decide)]
 congr 2
 by_cases z:p=2
 ·rw [if_pos z,if_pos (by simpa using z)]
 ·rw [if_neg z,if_neg (by simpa using z)]
theorem b_two_says (x y:Int × Int):Body P w K mg base N_two_says "two_says" s_two_says f kk [.val false x,.val false y] (RT true (_root_.EP.twoS x y)):=by
 intro cdv A outer s H E hr
 refine s_asg 2 sc_two_says.nd e_int ?_
 refine s_ifJ (fun Γ=>Γ=[some (.val false x),some (.val false y),some (.val true (0 + _root_.EP.b1 (decide (x.2.fmod 4=3) && decide (y.2.fmod 4=3))))]) (TW.t (tw_and (t_cmp cv_eqI (e_mod (e_snd (e_var 0)) e_int (by decide)) e_int) fun _=>(tw_and1 (t_cmp cv_eqI (e_mod (e_snd (e_var 1)) e_int (by decide)) e_int)))) (fun hc=>?_) (fun hc=>?_) ?_
 ·exact s_asg 2 sc_two_says.nd (e_add (e_var 2) e_int) (s_nil (by rw [hc]; rfl))
 ·exact s_nil (by rw [hc]; rfl)
 rintro Γ' rfl
 refine s_ifJ (fun Γ=>Γ=[some (.val false x),some (.val false y),some (.val true (0 + _root_.EP.b1 (decide (x.2.fmod 4=3) && decide (y.2.fmod 4=3)) + _root_.EP.b1 (decide (x.1=1) && (decide ((3:Int)=y.2) || decide ((5:Int)=y.2)))))]) (TW.t (tw_and (t_cmp cv_eqI (e_fst (e_var 0)) e_int) fun _=>(tw_and1 (t_cmp cv_in2 (e_snd (e_var 1)) (e_tup2 e_int e_int))))) (fun hc=>?_) (fun hc=>?_) ?_
 ·exact s_asg 2 sc_two_says.nd (e_add (e_var 2) e_int) (s_nil (by rw [hc]; rfl))
 ·exact s_nil (by rw [hc]; show [_,_,_]=[_,_,_]; simp [_root_.EP.b1])
 rintro Γ' rfl
 refine s_ifJ (fun Γ=>Γ=[some (.val false x),some (.val false y),some (.val true (0 + _root_.EP.b1 (decide (x.2.fmod 4=3) && decide (y.2.fmod 4=3)) + _root_.EP.b1 (decide (x.1=1) && (decide ((3:Int)=y.2) || decide ((5:Int)=y.2))) + _root_.EP.b1 (decide (y.1=1) && (decide ((3:Int)=x.2) || decide ((5:Int)=x.2)))))]) (TW.t (tw_and (t_cmp cv_eqI (e_fst (e_var 1)) e_int) fun _=>(tw_and1 (t_cmp cv_in2 (e_snd (e_var 0)) (e_tup2 e_int e_int))))) (fun hc=>?_) (fun hc=>?_) ?_
 ·exact s_asg 2 sc_two_says.nd (e_add (e_var 2) e_int) (s_nil (by rw [hc]; rfl))
 ·exact s_nil (by rw [hc]; show [_,_,_]=[_,_,_]; simp [_root_.EP.b1])
 rintro Γ' rfl
 refine s_ret (e_cmp cv_eqI (e_mod (e_var 2) e_int (by decide)) e_int) ?_
 show Bd.val _ _=Bd.val _ _
 unfold _root_.EP.twoS
 congr 1
 rw [fmodE (by decide),fmodE (by decide),fmodE (by decide),Int.zero_add]
 simp only [eq_comm (a:=(3:Int)),eq_comm (a:=(5:Int))]
theorem sqb_small (x p:Int):-2≤_root_.EP.sqb x p∧_root_.EP.sqb x p≤2:=by
 unfold _root_.EP.sqb
 repeat' split
 all_goals decide
theorem b_odd_says (c_square_by:Cal P w K mg base 2 "square_by" ["k","p"] (sp2 K (fun _ p=>2≤p∧p < 2 ^ 62) true _root_.EP.sqb)) (x y:Int × Int) (p:Int) (hp:(-2≤x.2∧x.2≤2)∧(-2≤y.2∧y.2≤2)∧2≤p∧p < 2 ^ 62):Body P w K mg base N_odd_says "odd_says" s_odd_says f 2 [.val false x,.val false y,.val false p] (RT true (_root_.EP.oddS x y p)):=by
 intro cdv A outer s H E hr
 obtain ⟨hx,hy,hp1,hp2⟩:=hp
 have hq:=sqb_small (-1) p
 refine s_asg 3 sc_odd_says.nd e_int ?_
 refine s_ifJ (fun Γ=>Γ=[some (.val false x),some (.val false y),some (.val false p),some (.val true (1 * (if x.1=1 then y.2 else 1)))]) (t_cmp cv_eqI (e_fst (e_var 0)) e_int) (fun hc=>?_) (fun hc=>?_) ?_
 ·exact s_asg 3 sc_odd_says.nd (e_mul (e_var 3) (e_snd (e_var 1)) (mulL (by decide) (by decide))) (s_nil (by rw [if_pos (by simpa using hc)]; rfl))
 ·exact s_nil (by rw [if_neg (by simpa using hc)]; rfl)
 rintro Γ' rfl
 refine s_ifJ (fun Γ=>Γ=[some (.val false x),some (.val false y),some (.val false p),some (.val true (1 * (if x.1=1 then y.2 else 1) * (if y.1=1 then x.2 else 1)))]) (t_cmp cv_eqI (e_fst (e_var 1)) e_int) (fun hc=>?_) (fun hc=>?_) ?_
 ·exact s_asg 3 sc_odd_says.nd (e_mul (e_var 3) (e_snd (e_var 0)) (mulR (by omega) (by omega))) (s_nil (by rw [if_pos (show y.1=1 by simpa using hc)]; rfl))
 ·exact s_nil (by rw [if_neg (show ¬ y.1=1 by simpa using hc),Int.mul_one])
 rintro Γ' rfl
 refine s_ifJ (fun Γ=>Γ=[some (.val false x),some (.val false y),some (.val false p),some (.val true (1 * (if x.1=1 then y.2 else 1) * (if y.1=1 then x.2 else 1) * (if x.1=1∧y.1=1 then _root_.EP.sqb (-1) p else 1)))]) (TW.t (tw_and (t_cmp cv_eqI (e_fst (e_var 0)) e_int) fun _=>(tw_and1 (t_cmp cv_eqI (e_fst (e_var 1)) e_int)))) (fun hc=>?_) (fun hc=>?_) ?_
 ·exact s_asg 3 sc_odd_says.nd (e_mul (e_var 3) (e_call2 c_square_by (hr.mono (by decide)) rfl (e_neg e_int) (e_var 2) ⟨hp1,hp2⟩) (mulR (by omega) (by omega))) (s_nil (by rw [if_pos (show x.1=1∧y.1=1 by simpa using hc)]; rfl))
 ·exact s_nil (by rw [if_neg (show ¬ (x.1=1∧y.1=1) by simpa using hc),Int.mul_one])
 rintro Γ' rfl
 refine s_ret (e_cmp cv_eqI (e_var 3) e_int) ?_
 show Bd.val _ _=Bd.val _ _
 unfold _root_.EP.oddS
 rw [Int.one_mul]
theorem cls_small (x:Int) {p:Int} (h2:p≠2):-2≤(_root_.EP.cls x p).2∧(_root_.EP.cls x p).2≤2:=by
 unfold _root_.EP.cls
 dsimp only
 rw [if_neg h2]
 exact sqb_small _ _
theorem b_says (c_class_at:Cal P w K mg base 3 "class_at" ["k","p"] (sp2 K (fun k p=>k≠0∧2≤p∧p < 2 ^ 62) true _root_.EP.cls)) (c_two_says:Cal P w K mg base 1 "two_says" ["one","other"] (sp2 K (fun _ _=>True) true _root_.EP.twoS))
  (c_odd_says:Cal P w K mg base 3 "odd_says" ["one","other","p"] (sp3 K (fun x y p=>(-2≤x.2∧x.2≤2)∧(-2≤y.2∧y.2≤2)∧2≤p∧p < 2 ^ 62) true _root_.EP.oddS)) (a b p:Int) (ha:a≠0) (hb:b≠0) (hp:p=0∨(2≤p∧p < 2 ^ 62)):Body P w K mg base N_says "says" s_says f 3 [.val false a,.val false b,.val false p] (RT true (_root_.EP.saysF a b p)):=by
 intro cdv A outer s H E hr
 refine s_if1 (t_cmp cv_eqI (e_var 2) e_int) (fun hc=>?_) (fun hc=>?_)
 ·have h0:p=0:=by simpa using hc
  have e:_root_.EP.saysF a b p=(decide (0 < a) || decide (0 < b)):=if_pos h0
  rw [e]
  exact s_ret (e_or (e_cmp cv_gt (e_var 0) e_int) fun _=>(e_one (e_cmp cv_gt (e_var 1) e_int))) rfl
 have h0:¬ p=0:=by simpa using hc
 have hp':2≤p∧p < 2 ^ 62:=by omega
 refine s_asg 3 sc_says.nd (e_call2 c_class_at (hr.mono (by decide)) rfl (e_var 0) (e_var 2) ⟨ha,hp'⟩) ?_
 refine s_asg 4 sc_says.nd (e_call2 c_class_at (hr.mono (by decide)) rfl (e_var 1) (e_var 2) ⟨hb,hp'⟩) ?_
 refine s_ret (e_if (t_cmp cv_eqI (e_var 2) e_int) (fun _=>(e_call2 c_two_says (hr.mono (by decide)) rfl (e_var 3) (e_var 4) True.intro)) fun h2=>(e_call3 c_odd_says (hr.mono (by decide)) rfl (e_var 3) (e_var 4) (e_var 2) ⟨cls_small a (by simpa using h2),cls_small b (by simpa using h2),hp'⟩)) ?_
 show Bd.val _ _=Bd.val _ _
 congr 1
 unfold _root_.EP.saysF
 rw [if_neg h0]
 by_cases z:p=2
 ·rw [if_pos z,if_pos (by simpa using z)]
 ·rw [if_neg z,if_neg (by simpa using z)]
noncomputable def poL (ns:List Int):List Int:=2 :: ns.flatMap fun k=>(_root_.EP.prt (k.natAbs:Int)).map (·.1)
noncomputable def poF (ns:List Int):List Int:=sset (poL ns)
structure PPo (ns:List Int):Prop where
 len:ns.length≤100
 rng:∀ k∈ns,1≤(k.natAbs:Int)∧(k.natAbs:Int) < 2 ^ 60
 few:(poL ns).length < 64
theorem po_take {ns:List Int} {i:Nat} {k:Int} (h:ns[i]?=some k):poL (ns.take (i + 1))=poL (ns.take i) ++ (_root_.EP.prt (k.natAbs:Int)).map (·.1):=by
 unfold poL
 rw [List.take_succ,h]
 simp [List.flatMap_append]
theorem po_len {ns:List Int} (i:Nat):(poL (ns.take i)).length≤(poL ns).length:=by
 unfold poL
 have:ns.flatMap (fun k=>(_root_.EP.prt (k.natAbs:Int)).map (·.1))=(ns.take i).flatMap (fun k=>(_root_.EP.prt (k.natAbs:Int)).map (·.1)) ++ (ns.drop i).flatMap (fun k=>(_root_.EP.prt (k.natAbs:Int)).map (·.1)):=by
  rw [← List.flatMap_append,List.take_append_drop]
 rw [this]
 simp
theorem abs_if (x:Int):(if x < 0 then -x else x)=(x.natAbs:Int):=by split <;> omega
include B in
theorem b_primes_of (c_parts:Cal P w K mg base 4 "parts" ["k"] (sp1 K (fun k=>1≤k∧k < 2 ^ 60) true _root_.EP.prt)) (ns:List Int) (h:PPo ns):Body P w K mg base N_primes_of "primes_of" s_primes_of f 4 [.val false ns] (RT true (poF ns)):=by
 intro cdv A outer s H E hr
 have few:=h.few
 refine s_deep 1 sc_primes_of.nd (en_lst (ea_cons e_int ea_nil) (by simp)) ?_
 refine s_d2o 1 true rfl ?_
 refine s_forL (fun i Γ=>∃ r2 r3,Γ=[some (.val false ns),some (.own true (poL (ns.take i))),r2,r3]) (g_name 2 sc_primes_of.nd) (e_var 0) ⟨none,none,rfl⟩ ?_ ?_
 ·rintro i k Γ' hk ⟨r2,r3,rfl⟩
  obtain ⟨k1,k2⟩:=h.rng k (List.mem_of_getElem? hk)
  rw [po_take hk]
  have le1:=po_len (ns:=ns) (i + 1)
  rw [po_take hk,List.length_append,List.length_map] at le1
  generalize hp:_root_.EP.prt (k.natAbs:Int)=pr at *
  refine s_for (as:=pr) (b:=true) (fun j Γ=>∃ r3,Γ=[some (.val false ns),some (.own true (poL (ns.take i) ++ (pr.take j).map (·.1))),some (.val false k),r3]) (g_name 3 sc_primes_of.nd) (ei_list (e_eq (e_call1 c_parts (hr.mono (by decide)) rfl (e_abs rfl B.abs (e_var 2)) (by rw [abs_if]; exact ⟨k1,k2⟩)) (by rw [abs_if]; exact hp))) ⟨r3,by simp⟩ ?_ ?_
  ·rintro j u Γ' hu ⟨r3,rfl⟩
   refine s_append 1 rfl (e_up (b':=true) (e_fst (e_var 3))) ?_ (s_nil ⟨some (.val true u),?_⟩)
   ·have:(pr.take j).length≤pr.length:=by rw [List.length_take]; omega
    rw [List.length_append,List.length_map]; omega
   ·rw [List.take_succ,hu]; simp
  ·rintro Γ' ⟨r3,rfl⟩
   rw [List.take_length]
   exact s_nil ⟨_,_,rfl⟩
 ·rintro Γ' ⟨r2,r3,rfl⟩
  rw [List.take_length]
  refine s_freeze 1 rfl ?_
  exact s_ret (e_sortset rfl rfl B.sorted rfl B.set (e_var 1) few) rfl
def irn (k:Int):Bool:=decide (k≠0∧k.natAbs < 1073741824)
include B in
theorem b_is_row_number (g_GREAT_FROM:MgI mg "GREAT_FROM" 1073741824) (c_is_whole:Cal P w K mg base 1 "is_whole" ["k"] (sp1 K (fun (_:Int)=>True) true (fun _=>true))) (x:Int):Body P w K mg base N_is_row_number "is_row_number" s_is_row_number f 1 [.val false x] (RT true (irn x)):=by
 intro cdv A outer s H E hr
 refine s_ret (e_and (e_call1 c_is_whole (hr.mono (by decide)) rfl (e_var 0) True.intro) fun _=>(e_and (e_cmp cv_neI (e_var 0) e_int) fun _=>(e_one (e_cmp cv_lt (e_abs rfl B.abs (e_var 0)) (e_glI rfl g_GREAT_FROM))))) ?_
 show Bd.val _ _=Bd.val _ _
 congr 1
 unfold irn
 rw [Bool.eq_iff_iff,decide_eq_true_iff]
 simp
 intro _
 split <;> omega
def isRow (xs:List Int):Bool:=decide (1≤xs.length∧xs.length≤8) && xs.all irn
theorem isRow_len {xs:List Int} (h:isRow xs=true):1≤xs.length∧xs.length≤8:=by
 unfold isRow at h
 have:=(Bool.and_eq_true_iff.mp h).1
 simpa using this
theorem isRow_mem {xs:List Int} (h:isRow xs=true) {x:Int} (hx:x∈xs):x≠0∧x.natAbs < 1073741824:=by
 unfold isRow at h
 have:=List.all_eq_true.mp (Bool.and_eq_true_iff.mp h).2 x hx
 unfold irn at this
 simpa using this
include B in
theorem b_is_row (g_LONGEST:MgI mg "LONGEST" 8) (c_is_row_number:Cal P w K mg base 2 "is_row_number" ["k"] (sp1 K (fun (_:Int)=>True) true irn)) (xs:List Int) (hl:xs.length≤1000):Body P w K mg base N_is_row "is_row" s_is_row f 2 [.val false xs] (RT true (isRow xs)):=by
 intro cdv A outer s H E hr
 refine s_if1 (TW.t (tw_or (t_not (t_val (e_isLL rfl B.isinstance rfl B.list (e_var 0)))) fun _=>(tw_or1 (t_not (t_chain cv_le cv_le e_int (e_lenL rfl B.len (e_var 0)) (e_glI rfl g_LONGEST)))))) (fun hc=>?_) (fun hc=>?_)
 ·have hc':¬ (1≤xs.length∧xs.length≤8):=by
   simp at hc
   omega
  have e:isRow xs=false:=by unfold isRow; rw [decide_eq_false hc']; rfl
  rw [e]
  exact s_ret e_bl rfl
 ·have hc':1≤xs.length∧xs.length≤8:=by
   simp at hc
   omega
  refine s_ret (e_all rfl rfl B.all (e_comp (f:=irn) ["k"] [] (cscope (defScope s_is_row) N_is_row rfl rfl (by decide +kernel)) (ei_list (e_var 0)) (gp_name 0) (fun C s H fp=>pg_cn 0 ["k"]) lt_of_eq (fun i u hu C s H fp=>e_call1 c_is_row_number (hr.mono (by decide)) rfl (e_var 0) True.intro) hl)) ?_
  show Bd.val _ _=Bd.val _ _
  congr 1
  unfold isRow
  rw [decide_eq_true hc',Bool.true_and,List.all_map]
  rfl
theorem b_refuse_no_row (c_is_row:Cal P w K mg base 3 "is_row" ["row"] (sp1 K (fun (xs:List Int)=>xs.length≤1000) true isRow)) (xs:List Int) (hx:isRow xs=true):Body P w K mg base N_refuse_no_row "refuse_no_row" s_refuse_no_row f 3 [.val false xs] RTU:=by
 intro cdv A outer s H E hr
 have:=isRow_len hx
 refine s_if1 (t_not (t_val (e_call1 c_is_row (hr.mono (by decide)) rfl (e_var 0) (by omega)))) (fun hc=>?_) (fun hc=>?_)
 ·rw [hx] at hc; cases hc
 ·exact s_nil True.intro
noncomputable def isnoF (row:List Int) (p:Int):Bool:=!(_root_.EP.qv p row)
include B in
theorem b_is_no (c_says:Cal P w K mg base 4 "says" ["a","b","p"] (sp3 K (fun a b p=>a≠0∧b≠0∧(p=0∨(2≤p∧p < 2 ^ 62))) true _root_.EP.saysF)) (row:List Int) (p:Int) (hl:row.length≤1000) (h0:∀ n∈row,n≠0) (hp:p=0∨(2≤p∧p < 2 ^ 62)) :
  Body P w K mg base N_is_no "is_no" s_is_no f 4 [.val false row,.val false p] (RT true (isnoF row p)):=by
 intro cdv A outer s H E hr
 refine s_asg 2 sc_is_no.nd e_int ?_
 refine s_for (as:=enI row) (fun i Γ=>∃ (n:Int) (r3 r4:Option Bd),Γ=[some (.val false row),some (.val false p),some (.val true n),r3,r4]∧n + (_root_.EP.no2 p (row.drop i):Int)=_root_.EP.no2 p row) (g_two 3 4 sc_is_no.nd) (ei_enum rfl B.enumerate (e_var 0)) ⟨0,none,none,rfl,by rw [List.drop_zero]; omega⟩ ?_ ?_
 ·rintro i u Γ' hu ⟨n,r3,r4,rfl,hn⟩
  obtain ⟨hx,hi⟩:=enI_get hu
  have ha:=h0 u.2 (List.mem_of_getElem? hx)
  rw [_root_.EP.drop_get hx,_root_.EP.no2] at hn
  refine s_asg 2 sc_is_no.nd (e_add (e_var 2) (e_lenL rfl B.len (e_compF (f:=fun q:Int=>q) (p:=fun q=>!(_root_.EP.saysF u.2 q p)) (b':=true) ["b"] [1,4] (cscope (defScope s_is_no) N_is_no rfl rfl (by decide +kernel)) (ei_list (e_from (e_var 0) (e_add (e_var 3) e_int) (by rw [hi]; omega))) (gp_name 0) (fun C s H fp=>pg_cn 0 ["b","p","a"]) lt_of_eq (fun j q hj C s H fp=>ft_one (t_not (t_val (e_call3 c_says (hr.mono (by decide)) rfl (e_var 2) (e_var 0) (e_var 1) ⟨ha,h0 q (List.mem_of_mem_drop (List.mem_of_getElem? hj)),hp⟩)))) (fun j q hj _ C s H fp=>e_up (b':=true) (e_var 0)) (by rw [List.length_drop]; omega)))) ?_
  refine s_nil ⟨_,_,_,rfl,?_⟩
  rw [List.length_map,show (u.1 + 1).toNat=i + 1 by rw [hi]; omega]
  omega
 ·rintro Γ' ⟨n,r3,r4,rfl,hn⟩
  have e:row.drop (enI row).length=[]:=by rw [enI_len]; exact List.drop_length
  rw [e] at hn
  have hn':n=(_root_.EP.no2 p row:Int):=by
   have:_root_.EP.no2 p []=0:=rfl
   omega
  refine s_ret (e_cmp cv_eqI (e_mod (e_var 2) e_int (by decide)) e_int) ?_
  show Bd.val _ _=Bd.val _ _
  congr 1
  unfold isnoF
  rw [← _root_.EP.no2_par,hn',fmodE (by decide)]
  by_cases z:_root_.EP.no2 p row % 2=0
  ·have:¬ ((_root_.EP.no2 p row:Nat):Int) % 2=1:=by omega
   simp [z,this]
  ·have:((_root_.EP.no2 p row:Nat):Int) % 2=1:=by omega
   simp [z,this]
noncomputable def isqF (k p:Int):Bool:=decide (_root_.EP.sqc k p)
theorem b_is_square_at (c_class_at:Cal P w K mg base 3 "class_at" ["k","p"] (sp2 K (fun k p=>k≠0∧2≤p∧p < 2 ^ 62) true _root_.EP.cls)) (k p:Int) (hp:k≠0∧2≤p∧p < 2 ^ 62):Body P w K mg base N_is_square_at "is_square_at" s_is_square_at f 3 [.val false k,.val false p] (RT true (isqF k p)):=by
 intro cdv A outer s H E hr
 refine s_ret (e_cmp (cv_eq (α:=Int × Int) (hu60 hr)) (e_call2 c_class_at (hr.mono (by decide)) rfl (e_var 0) (e_var 1) hp) (e_if (α:=Int × Int) (x:=(0,1)) (y:=(0,1)) (t_cmp cv_eqI (e_var 1) e_int) (fun h=>absurd (show p=0 by simpa using h) (by omega)) fun _=>(e_up (b':=true) (e_tup2 e_int e_int)))) ?_
 show Bd.val _ _=Bd.val _ _
 rw [ite_self]
 rfl
def PTz (a b c p:Int):Prop:=a≠0∧b≠0∧c≠0∧2≤p∧p < 2 ^ 62∧Sm 62 a∧Sm 62 b∧Sm 62 c
theorem b_three_have_zero (c_says:Cal P w K mg base 4 "says" ["a","b","p"] (sp3 K (fun a b p=>a≠0∧b≠0∧(p=0∨(2≤p∧p < 2 ^ 62))) true _root_.EP.saysF)) (a b c p:Int) (hp:PTz a b c p):Body P w K mg base N_three_have_zero "three_have_zero" s_three_have_zero f 4 [.val false a,.val false b,.val false c,.val false p] (RT true (_root_.EP.tzN a b c p)):=by
 intro cdv A outer s H E hr
 obtain ⟨ha,hb,hc,p1,p2,sa,sb,sc⟩:=hp
 exact s_ret (e_call3 c_says (hr.mono (by decide)) rfl (e_mul (e_neg (e_var 0)) (e_var 2) (sa.neg.ok sc)) (e_mul (e_neg (e_var 1)) (e_var 2) (sb.neg.ok sc)) (e_var 3) ⟨Int.mul_ne_zero (by omega) hc,Int.mul_ne_zero (by omega) hc,.inr ⟨p1,p2⟩⟩) rfl
def PFz (l:List Int) (p:Int):Prop:=l.length=4∧(∀ a∈l,a≠0∧Sm 62 a)∧2≤p∧p < 2 ^ 62
theorem b_four_have_zero (c_is_square_at:Cal P w K mg base 4 "is_square_at" ["k","p"] (sp2 K (fun k p=>k≠0∧2≤p∧p < 2 ^ 62) true isqF)) (c_three_have_zero:Cal P w K mg base 5 "three_have_zero" ["a","b","c","p"] (sp4 K PTz true _root_.EP.tzN)) (l:List Int) (p:Int) (hp:PFz l p):Body P w K mg base N_four_have_zero "four_have_zero" s_four_have_zero f 5 [.val false l,.val false p] (RT true (_root_.EP.hvZ l p)):=by
 intro cdv A outer s H E hr
 obtain ⟨h4,hm,p1,p2⟩:=hp
 match l,h4,hm with
 | [a,b,c,d],_,hm =>
 have ha:=hm a (by simp)
 have hb:=hm b (by simp)
 have hc:=hm c (by simp)
 have hd:=hm d (by simp)
 have sab:=ha.2.mul hb.2
 have sabc:=sab.mul hc.2
 refine s_asg 2 sc_four_have_zero.nd (e_mul (e_mul (e_mul (e_ixL (a:=a) (e_var 0) e_int rfl) (e_ixL (a:=b) (e_var 0) e_int rfl) (ha.2.ok hb.2)) (e_ixL (a:=c) (e_var 0) e_int rfl) (sab.ok hc.2)) (e_ixL (a:=d) (e_var 0) e_int rfl) (sabc.ok hd.2)) ?_
 have h0:a * b * c * d≠0:=Int.mul_ne_zero (Int.mul_ne_zero (Int.mul_ne_zero ha.1 hb.1) hc.1) hd.1
 refine s_ret (e_or (e_not (e_call2 c_is_square_at (hr.mono (by decide)) rfl (e_var 2) (e_var 1) ⟨h0,p1,p2⟩)) fun _=>(e_one (e_call4 c_three_have_zero (hr.mono (by decide)) rfl (e_ixL (a:=a) (e_var 0) e_int rfl) (e_ixL (a:=b) (e_var 0) e_int rfl) (e_ixL (a:=c) (e_var 0) e_int rfl) (e_var 1) ⟨ha.1,hb.1,hc.1,p1,p2,ha.2,hb.2,hc.2⟩))) ?_
 show Bd.val _ _=Bd.val _ _
 rw [_root_.EP.hvZ_four (by omega)]
 rfl
def PHz (l:List Int) (p:Int):Prop:=1≤l.length∧(∀ a∈l,a≠0∧Sm 62 a)∧(p=0∨(2≤p∧p < 2 ^ 62))
include B in
theorem b_have_zero (c_is_square_at:Cal P w K mg base 4 "is_square_at" ["k","p"] (sp2 K (fun k p=>k≠0∧2≤p∧p < 2 ^ 62) true isqF)) (c_three_have_zero:Cal P w K mg base 5 "three_have_zero" ["a","b","c","p"] (sp4 K PTz true _root_.EP.tzN)) (c_four_have_zero:Cal P w K mg base 6 "four_have_zero" ["numbers","p"] (sp2 K PFz true _root_.EP.hvZ)) (l:List Int) (p:Int) (hp:PHz l p):Body P w K mg base N_have_zero "have_zero" s_have_zero f 6 [.val false l,.val false p] (RT true (_root_.EP.hvZ l p)):=by
 intro cdv A outer s H E hr
 obtain ⟨h1,hm,hpp⟩:=hp
 refine s_if1 (t_cmp cv_eqI (e_var 1) e_int) (fun hc=>?_) (fun hc=>?_)
 ·have hc':p=0:=by simpa using hc
  subst hc'
  obtain ⟨a1,a2⟩:=_root_.EP.lmn_ok l (by omega)
  obtain ⟨b1,b2⟩:=_root_.EP.lmx_ok l (by omega)
  refine s_ret (e_chain cv_lt cv_lt (e_minL rfl rfl B.min (e_var 0) (by omega) a1 a2) e_int (e_maxL rfl rfl B.max (e_var 0) (by omega) b1 b2)) ?_
  show Bd.val _ _=Bd.val _ _
  unfold _root_.EP.hvZ
  rw [if_pos rfl]
 have hc':¬ p=0:=by simpa using hc
 have p1:2≤p:=by omega
 have p2:p < 2 ^ 62:=by omega
 have len:∀ n:Nat,decide ((l.length:Int)=(n:Int))=true→l.length=n:=fun n h=>by
  have:(l.length:Int)=(n:Int):=by simpa using h
  omega
 have nlen:∀ n:Nat,decide ((l.length:Int)=(n:Int))=false→l.length≠n:=fun n h=>by
  have:¬ (l.length:Int)=(n:Int):=by simpa using h
  omega
 refine s_if1 (t_cmp cv_eqI (e_lenL rfl B.len (e_var 0)) e_int) (fun hc=>?_) (fun c1=>?_)
 ·match l,len 1 hc with
  | [a],_=>rw [_root_.EP.hvZ_one hc']; exact s_ret e_bl rfl
 refine s_if1 (t_cmp cv_eqI (e_lenL rfl B.len (e_var 0)) e_int) (fun hc=>?_) (fun c2=>?_)
 ·match l,len 2 hc,hm with
  | [a,b],_,hm =>
  have ha:=hm a (by simp)
  have hb:=hm b (by simp)
  rw [_root_.EP.hvZ_two hc']
  exact s_ret (e_call2 c_is_square_at (hr.mono (by decide)) rfl (e_mul (e_neg (e_ixL (a:=a) (e_var 0) e_int rfl)) (e_ixL (a:=b) (e_var 0) e_int rfl) (ha.2.neg.ok hb.2)) (e_var 1) ⟨Int.mul_ne_zero (by have:=ha.1; omega) hb.1,p1,p2⟩) rfl
 refine s_if1 (t_cmp cv_eqI (e_lenL rfl B.len (e_var 0)) e_int) (fun hc=>?_) (fun c3=>?_)
 ·match l,len 3 hc,hm with
  | [a,b,c],_,hm =>
  have ha:=hm a (by simp)
  have hb:=hm b (by simp)
  have hc:=hm c (by simp)
  rw [_root_.EP.hvZ_three hc']
  exact s_ret (e_call4 c_three_have_zero (hr.mono (by decide)) rfl (e_ixL (a:=a) (e_var 0) e_int rfl) (e_ixL (a:=b) (e_var 0) e_int rfl) (e_ixL (a:=c) (e_var 0) e_int rfl) (e_var 1) ⟨ha.1,hb.1,hc.1,p1,p2,ha.2,hb.2,hc.2⟩) rfl
 refine s_if1 (t_cmp cv_eqI (e_lenL rfl B.len (e_var 0)) e_int) (fun hc=>?_) (fun c4=>?_)
 ·exact s_ret (e_call2 c_four_have_zero (hr.mono (by decide)) rfl (e_var 0) (e_var 1) ⟨len 4 hc,hm,p1,p2⟩) rfl
 rw [_root_.EP.hvZ_five hc' (by have:=nlen 1 c1; have:=nlen 2 c2; have:=nlen 3 c3; have:=nlen 4 c4; omega)]
 exact s_ret e_bl rfl
theorem row_ok {l:List Int} (h:isRow l=true):∀ a∈l,a≠0∧Sm 62 a:=fun a ha=>by
 have:=isRow_mem h ha
 exact ⟨this.1,by unfold Sm; omega⟩
theorem b_next_prime (c_is_prime:Cal P w K mg base 3 "is_prime" ["k"] (sp1 K (fun k=>k < 2 ^ 62) true _root_.EP.isP)) (k:Int) (hp:2≤k∧k≤100000):Body P w K mg base N_next_prime "next_prime" s_next_prime f 3 [.val false k] (RT true (_root_.EP.npF k)):=by
 intro cdv A outer s H E hr
 have hPB:_root_.EP.PB=1070000011:=rfl
 have ok:=_root_.EP.npF_ok (k:=k) (by omega)
 have hle:=ok.2.2 _ _root_.EP.PB_prime (by omega)
 refine s_asg 1 sc_next_prime.nd (e_add (e_var 0) e_int) ?_
 refine s_while (ι:=Int) (fun a Γ=>Γ=[some (.val false k),some (.val true a)]∧k < a∧a≤_root_.EP.npF k) (fun a=>(_root_.EP.npF k - a).toNat) (k + 1) ⟨rfl,by omega,by have:=ok.2.1; omega⟩ ?_
 rintro a Γ' ⟨rfl,h1,h2⟩
 refine ⟨_,t_not (t_val (e_call1 c_is_prime (hr.mono (by decide)) rfl (e_var 1) (by omega))),fun hc=>?_,fun hc=>?_⟩
 ·have hn:¬ _root_.EP.isP a=true:=by simpa using hc
  have:a≠_root_.EP.npF k:=fun z=>hn (by rw [z]; exact ok.1)
  refine s_asg 1 sc_next_prime.nd (e_add (e_var 1) e_int) (s_nil ⟨a + 1,⟨rfl,by omega,by omega⟩,by omega⟩)
 ·have hn:_root_.EP.isP a=true:=by simpa using hc
  have:_root_.EP.npF k≤a:=ok.2.2 a hn h1
  have e:a=_root_.EP.npF k:=by omega
  rw [← e]
  exact s_ret (e_var 1) rfl
def PFp (l:List Int):Prop:=∃ a b,l=[a,b]∧a≠0∧b≠0∧Sm 62 a∧Sm 62 b∧_root_.EP.hvZ [a,b] 0=true∧_root_.EP.Fin2 a b
theorem rtO_sq {k r:Int} (h:rtO k=some r):r * r=k:=by
 unfold rtO at h
 split at h
 ·cases h
 ·split at h
  ·rename_i e; cases h; exact e
  ·cases h
theorem rtO_none {k:Int} (h:rtO k=none):¬ ∃ r:Int,r * r=k:=fun ⟨r,e⟩=>by
 have h0:0≤k:=by
  rw [← e]
  rcases Int.le_total 0 r with z | z
  ·exact Int.mul_nonneg z z
  ·exact Int.mul_nonneg_of_nonpos_of_nonpos z z
 have:∀ r:Int,0≤r→r * r=k→False:=fun r hr e=>by
  have e2:=_root_.EP.rt_unique (k:=k) (r:=r) hr (by omega) (by
   have:(r + 1) * (r + 1)=r * r + 2 * r + 1:=by grind
   omega)
  unfold rtO at h
  rw [if_neg (by omega),if_pos (by rw [← e2]; exact e)] at h
  cases h
 rcases Int.le_total 0 r with z | z
 ·exact this r z e
 ·exact this (-r) (by omega) (by rw [Int.neg_mul_neg]; exact e)
theorem b_first_prime_without (c_square_root_or_none:Cal P w K mg base 2 "square_root_or_none" ["k"] (sp1 K (fun k=>Sm 8000 k) true rtO)) (c_next_prime:Cal P w K mg base 4 "next_prime" ["k"] (sp1 K (fun k=>2≤k∧k≤100000) true _root_.EP.npF)) (c_have_zero:Cal P w K mg base 7 "have_zero" ["numbers","p"] (sp2 K PHz true _root_.EP.hvZ)) (l:List Int) (hp:PFp l):Body P w K mg base N_first_prime_without "first_prime_without" s_first_prime_without f 7 [.val false l] (RT true (_root_.EP.fwF l)):=by
 intro cdv A outer s H E hr
 obtain ⟨a,b,rfl,ha,hb,sa,sb,hz,hfin⟩:=hp
 have hS:Sm 8000 (-a * b):=Sm.le (sa.neg.mul sb) (by decide)
 have cases':=_root_.EP.fw_two ha hb hz hfin
 cases ho:rtO (-a * b) with
 | some r =>
  have hr2:=rtO_sq ho
  refine s_if1 (t_nN (x:=some r) (α:=Int) (e_eq (e_call1 c_square_root_or_none (hr.mono (by decide)) rfl (e_mul (e_neg (e_ixL (a:=a) (e_var 0) e_int rfl)) (e_ixL (a:=b) (e_var 0) e_int rfl) (sa.neg.ok sb)) hS) ho) fun _ _ _ _ h=>nomatch h) (fun hc=>?_) (fun hc=>by cases hc)
  rcases cases' with ⟨h1,_⟩ | ⟨p,_,_,_,h⟩
  ·rw [← _root_.EP.fwF_eq h1]
   exact s_ret (e_non (α:=Int)) rfl
  ·exact absurd ⟨r,hr2⟩ h
 | none =>
  have hn:=rtO_none ho
  refine s_if1 (t_nN (x:=none) (α:=Int) (e_eq (e_call1 c_square_root_or_none (hr.mono (by decide)) rfl (e_mul (e_neg (e_ixL (a:=a) (e_var 0) e_int rfl)) (e_ixL (a:=b) (e_var 0) e_int rfl) (sa.neg.ok sb)) hS) ho) fun _ _ _ _ h=>nomatch h) (fun hc=>by cases hc) (fun hc=>?_)
  rcases cases' with ⟨_,h⟩ | ⟨p,h1,h2,h3,_⟩
  ·exact absurd h hn
  rw [← _root_.EP.fwF_eq h1]
  obtain ⟨k1,k2⟩:=h1
  have p2:=_root_.EP.isP_ge h2
  obtain ⟨_,_,k4⟩:=k2.resolve_left (by omega)
  refine s_asg 1 sc_first_prime_without.nd e_int ?_
  refine s_while (ι:=Int) (fun q Γ=>Γ=[some (.val false [a,b]),some (.val true q)]∧_root_.EP.isP q=true∧q≤p) (fun q=>(p - q).toNat) 2 ⟨rfl,_root_.EP.isP_two,p2⟩ ?_
  rintro q Γ' ⟨rfl,h4,h5⟩
  have q2:=_root_.EP.isP_ge h4
  refine ⟨_,t_val (e_call2 c_have_zero (hr.mono (by decide)) rfl (e_var 0) (e_var 1) ⟨by simp,fun x hx=>?_,.inr ⟨q2,by omega⟩⟩),fun hc=>?_,fun hc=>?_⟩
  ·rcases List.mem_cons.mp hx with e | e
   ·rw [e]; exact ⟨ha,sa⟩
   ·rw [List.mem_singleton.mp e]; exact ⟨hb,sb⟩
  ·have hne:q≠p:=fun z=>by rw [z,k1] at hc; cases hc
   have ok:=_root_.EP.npF_ok (k:=q) (by show q < 1070000011; omega)
   refine s_asg 1 sc_first_prime_without.nd (e_call1 c_next_prime (hr.mono (by decide)) rfl (e_var 1) ⟨q2,by omega⟩) (s_nil ⟨_,⟨rfl,ok.1,ok.2.2 p h2 (by omega)⟩,?_⟩)
   have:=ok.2.1
   have:=ok.2.2 p h2 (by omega)
   omega
  ·have e:q=p:=by
    rcases Int.lt_or_eq_of_le h5 with z | z
    ·rw [k4 q h4 z] at hc; cases hc
    ·exact z
   rw [← e]
   exact s_ret ((e_var 1).some) rfl
structure PFb (l:List Int):Prop where
 row:isRow l=true
 po:PPo l
 two:∀ a b,l=[a,b]→_root_.EP.hvZ l 0=true→_root_.EP.Fin2 a b
noncomputable def barL (l:List Int):List Int:=(poF l).filter fun p=>!(_root_.EP.hvZ l p)
theorem fw_bar {l:List Int} (hrow:isRow l=true) (hz:_root_.EP.hvZ l 0=true) (h3:3≤l.length):_root_.EP.FwS l (barL l).head?:=by
 have hm:∀ q:Int,q∈poF l↔q=2∨(_root_.EP.isP q=true∧∃ a∈l,q ∣ a):=fun q=>by
  unfold poF
  rw [sset_mem]
  unfold poL
  rw [List.mem_cons,List.mem_flatMap]
  refine or_congr_right ?_
  constructor
  ·rintro ⟨a,ha,hq⟩
   have h1:1≤(a.natAbs:Int):=by have:=isRow_mem hrow ha; omega
   obtain ⟨h4,h5⟩:=(_root_.EP.mem_prt h1).mp hq
   exact ⟨h4,a,ha,Int.dvd_natAbs.mp h5⟩
  ·rintro ⟨h4,a,ha,h5⟩
   have h1:1≤(a.natAbs:Int):=by have:=isRow_mem hrow ha; omega
   exact ⟨a,ha,(_root_.EP.mem_prt h1).mpr ⟨h4,Int.dvd_natAbs.mpr h5⟩⟩
 have hall:∀ q,_root_.EP.isP q=true→q ∉ poF l→_root_.EP.hvZ l q=true:=fun q hq hn=>by
  rw [hm] at hn
  exact _root_.EP.hvZ_unit hq (fun z=>hn (.inl z)) h3 fun a ha hd=>hn (.inr ⟨hq,a,ha,hd⟩)
 have hpr:∀ q,q∈poF l→_root_.EP.isP q=true:=fun q hq=>by
  rcases (hm q).mp hq with z | z
  ·rw [z]; exact _root_.EP.isP_two
  ·exact z.1
 cases hb:barL l with
 | nil =>
  refine ⟨hz,fun q hq=>?_⟩
  by_cases hmem:q∈poF l
  ·apply Classical.byContradiction
   intro hn
   have:q∈barL l:=List.mem_filter.mpr ⟨hmem,by simpa using hn⟩
   rw [hb] at this; cases this
  ·exact hall q hq hmem
 | cons p ps =>
  have hp:p∈barL l:=by rw [hb]; exact List.mem_cons_self ..
  obtain ⟨h1,h2⟩:=List.mem_filter.mp hp
  refine ⟨by simpa using h2,.inr ⟨hpr p h1,hz,fun q hq hlt=>?_⟩⟩
  by_cases hmem:q∈poF l
  ·apply Classical.byContradiction
   intro hn
   have hqb:q∈barL l:=List.mem_filter.mpr ⟨hmem,by simpa using hn⟩
   have hinc:(barL l).Pairwise (· < ·):=(sset_inc _).filter _
   rw [hb] at hqb hinc
   rcases List.mem_cons.mp hqb with e | e
   ·omega
   ·have:=(List.pairwise_cons.mp hinc).1 q e
    omega
  ·exact hall q hq hmem
theorem barL_len {l:List Int} (h:PPo l):(poF l).length≤64:=by
 have h1:(poF l).length≤(poL l).length:=_root_.EP.nd_len ((sset_inc _).imp fun h=>by omega) fun x hx=>sset_mem.mp hx
 have:=h.few
 omega
theorem poF_prime {l:List Int} (hrow:isRow l=true) {q:Int} (h:q∈poF l):2≤q∧q < 2 ^ 62:=by
 unfold poF at h
 rw [sset_mem] at h
 unfold poL at h
 rcases List.mem_cons.mp h with z | z
 ·rw [z]; decide
 ·obtain ⟨a,ha,hq⟩:=List.mem_flatMap.mp z
  have hb:=isRow_mem hrow ha
  have h1:1≤(a.natAbs:Int):=by omega
  obtain ⟨h4,h5⟩:=(_root_.EP.mem_prt h1).mp hq
  have:=Int.le_of_dvd (by omega) h5
  exact ⟨_root_.EP.isP_ge h4,by omega⟩
set_option maxHeartbeats 1000000 in
include B in
theorem b_first_barring (c_primes_of:Cal P w K mg base 5 "primes_of" ["numbers"] (sp1 K PPo true poF)) (c_have_zero:Cal P w K mg base 7 "have_zero" ["numbers","p"] (sp2 K PHz true _root_.EP.hvZ)) (c_first_prime_without:Cal P w K mg base 8 "first_prime_without" ["row"] (sp1 K PFp true _root_.EP.fwF)) (l:List Int) (hp:PFb l):Body P w K mg base N_first_barring "first_barring" s_first_barring f 8 [.val false l] (RT true (_root_.EP.fwF l)):=by
 intro cdv A outer s H E hr
 have hl:=isRow_len hp.row
 have hm:∀ a∈l,a≠0∧Sm 62 a:=row_ok hp.row
 refine s_if1 (t_not (t_val (e_call2 c_have_zero (hr.mono (by decide)) rfl (e_var 0) e_int ⟨hl.1,hm,.inl rfl⟩))) (fun hc=>?_) (fun hc=>?_)
 ·have hz:_root_.EP.hvZ l 0=false:=by simpa using hc
  rw [← _root_.EP.fwF_eq (r:=some 0) ⟨hz,.inl rfl⟩]
  exact s_ret (e_some e_int) rfl
 have hz:_root_.EP.hvZ l 0=true:=by simpa using hc
 refine s_if1 (t_cmp cv_eqI (e_lenL rfl B.len (e_var 0)) e_int) (fun hc=>?_) (fun hc=>?_)
 ·have h2:(l.length:Int)=2:=by simpa using hc
  match l,h2 with
  | [a,b],_ =>
   exact s_ret (e_call1 c_first_prime_without (hr.mono (by decide)) rfl (e_var 0) ⟨a,b,rfl,(hm a (by simp)).1,(hm b (by simp)).1,(hm a (by simp)).2,(hm b (by simp)).2,hz,hp.two a b rfl hz⟩) rfl
 have h2:¬ (l.length:Int)=2:=by simpa using hc
 have h1:l.length≠1:=fun z=>by
  match l,z with
  | [a],_ =>
   rw [_root_.EP.hvZ_nought] at hz
   obtain ⟨⟨x,hx,x0⟩,⟨y,hy,y0⟩⟩:=hz
   rw [List.mem_singleton.mp hx] at x0
   rw [List.mem_singleton.mp hy] at y0
   omega
 refine s_if1 (t_cmp cv_gt (e_lenL rfl B.len (e_var 0)) e_int) (fun hc=>?_) (fun hc=>?_)
 ·have h4:4 < (l.length:Int):=by simpa using hc
  rw [← _root_.EP.fwF_eq (r:=none) ⟨hz,fun q hq=>_root_.EP.hvZ_five (by have:=_root_.EP.isP_ge hq; omega) (by omega)⟩]
  exact s_ret (e_non (α:=Int)) rfl
 have h3:3≤l.length:=by omega
 have hlen:=barL_len hp.po
 refine s_compF (f:=fun q:Int=>q) (p:=fun q=>!(_root_.EP.hvZ l q)) (b':=true) 1 sc_first_barring.nd ["p"] [0] (cscope (defScope s_first_barring) N_first_barring rfl rfl (by decide +kernel)) (ei_list (e_call1 c_primes_of (hr.mono (by decide)) rfl (e_var 0) hp.po)) (gp_name 0) (fun C s H fp=>pg_cn 0 ["p","numbers"]) lt_of_eq (fun i q hi C s H fp=>ft_one (t_not (t_val (e_call2 c_have_zero (hr.mono (by decide)) rfl (e_var 1) (e_var 0) ⟨hl.1,hm,.inr (poF_prime hp.row (List.mem_of_getElem? hi))⟩)))) (fun i q hi _ C s H fp=>e_up (b':=true) (e_var 0)) (by omega) ?_
 rw [List.map_id']
 have hfw:=fw_bar hp.row hz h3
 rw [← _root_.EP.fwF_eq hfw]
 unfold barL
 generalize (poF l).filter (fun q=>!(_root_.EP.hvZ l q))=bl
 cases bl with
 | nil =>
  refine s_ret (e_if (α:=Option Int) (x:=none) (y:=none) (t_cmp cv_gt (e_lenL rfl B.len (e_var 1)) e_int) (fun h=>absurd (show (0:Int) < 0 by simpa using h) (by decide)) fun _=>e_non (α:=Int)) ?_
  show Bd.val _ _=Bd.val _ _
  rw [ite_self]
  rfl
 | cons p ps =>
  refine s_ret (e_if (α:=Option Int) (x:=some p) (y:=some p) (t_cmp cv_gt (e_lenL rfl B.len (e_var 1)) e_int) (fun h=>(e_some (e_ixL (a:=p) (e_var 1) e_int (by rw [atGetD (d:=p) (by decide) (by simp)]; rfl)))) fun h=>absurd (show (0:Int) < ((p :: ps).length:Int) by simp) (by simpa using h)) ?_
  show Bd.val _ _=Bd.val _ _
  rw [ite_self]
  rfl
theorem b_first_without (c_refuse_no_row:Cal P w K mg base 4 "refuse_no_row" ["row"] (sp1 K (fun (xs:List Int)=>isRow xs=true) true unit1)) (c_first_barring:Cal P w K mg base 9 "first_barring" ["numbers"] (sp1 K PFb true _root_.EP.fwF)) (l:List Int) (hp:PFb l):Body P w K mg base N_first_without "first_without" s_first_without f 9 [.val false l] (RT true (_root_.EP.fwF l)):=by
 intro cdv A outer s H E hr
 refine s_expr (e_call1 c_refuse_no_row (hr.mono (by decide)) rfl (e_var 0) hp.row) ?_
 exact s_ret (e_call1 c_first_barring (hr.mono (by decide)) rfl (e_var 0) hp) rfl
theorem mem_po60 {row:List Int} (nz:∀ x∈row,x≠0) {q:Int}:q∈poF row↔q=2∨(_root_.EP.isP q=true∧∃ a∈row,q ∣ a):=by
 unfold poF
 rw [sset_mem]
 unfold poL
 rw [List.mem_cons,List.mem_flatMap]
 refine or_congr_right ?_
 constructor
 ·rintro ⟨a,ha,hq⟩
  have h1:1≤(a.natAbs:Int):=by have:=nz a ha; omega
  obtain ⟨h4,h5⟩:=(_root_.EP.mem_prt h1).mp hq
  exact ⟨h4,a,ha,Int.dvd_natAbs.mp h5⟩
 ·rintro ⟨h4,a,ha,h5⟩
  have h1:1≤(a.natAbs:Int):=by have:=nz a ha; omega
  exact ⟨a,ha,(_root_.EP.mem_prt h1).mpr ⟨h4,Int.dvd_natAbs.mpr h5⟩⟩
open _root_.EP (isP qv mlL wiR wiP hasP wiA abv HM)
theorem ml_take:∀ {r:List Int} {i:Nat} {k:Int},r[i]?=some k→mlL (r.take (i + 1))=mlL (r.take i) * k:=fun {r i k} h=>by
 rw [List.take_add_one,h,_root_.EP.mlL_app]
 show _ * (k * 1)=_
 rw [Int.mul_one]
theorem ml_sm {r:List Int} (h:∀ x∈r,Sm 62 x):∀ i,Sm (1 + 62 * i) (mlL (r.take i))
 | 0=>by show (1:Int).natAbs < 2 ^ 1; decide
 | i + 1=>by
  cases hq:r[i]? with
  | none =>
   have:r.take (i + 1)=r.take i:=by rw [List.take_add_one,hq]; simp
   rw [this]
   exact (ml_sm h i).le (by omega)
  | some k =>
   rw [ml_take hq]
   exact ((ml_sm h i).mul (h k (List.mem_of_getElem? hq))).le (by omega)
theorem b_product_of_all (r:List Int) (h8:r.length≤8) (h:∀ x∈r,Sm 62 x):Body P w K mg base N_product_of_all "product_of_all" s_product_of_all f kk [.val false r] (RT true (mlL r)):=by
 intro cdv A outer s H E hr
 refine s_asg 1 sc_product_of_all.nd e_int ?_
 refine s_forL (b:=false) (fun i Γ=>i≤r.length∧∃ r2,Γ=[some (.val false r),some (.val true (mlL (r.take i))),r2]) (g_name 2 sc_product_of_all.nd) (e_var 0) ⟨Nat.zero_le _,none,rfl⟩ ?_ ?_
 ·rintro i k Γ' hk ⟨hi,r2,rfl⟩
  have hi':i < r.length:=(List.getElem?_eq_some_iff.mp hk).1
  have sm:=(ml_sm h i).le (show 1 + 62 * i≤600 by omega)
  refine s_asg 1 sc_product_of_all.nd (e_mul (e_var 1) (e_var 2) (sm.ok (h k (List.mem_of_getElem? hk)))) ?_
  rw [ml_take hk]
  exact s_nil ⟨hi',_,rfl⟩
 ·rintro Γ' ⟨_,r2,rfl⟩
  rw [List.take_length]
  exact s_ret (e_var 1) rfl
noncomputable def hpF (n d:Int) (o:Bool) (p:Int):Bool:=hasP p n.toNat d o
def PHp (n d:Int) (_:Bool) (p:Int):Prop:=0≤n∧d≠0∧2≤p∧p < 2 ^ 62
theorem b_has_pair_at (c_is_square_at:Cal P w K mg base 4 "is_square_at" ["k","p"] (sp2 K (fun k p=>k≠0∧2≤p∧p < 2 ^ 62) true isqF)) (c_says:Cal P w K mg base 4 "says" ["a","b","p"] (sp3 K (fun a b p=>a≠0∧b≠0∧(p=0∨(2≤p∧p < 2 ^ 62))) true _root_.EP.saysF)) (n d:Int) (o:Bool) (p:Int) (h:PHp n d o p):Body P w K mg base N_has_pair_at "has_pair_at" s_has_pair_at f 4 [.val false n,.val false d,.val false o,.val false p] (RT true (hpF n d o p)):=by
 intro cdv A outer s H E hr
 obtain ⟨n0,d0,p2,p3⟩:=h
 unfold hpF hasP
 refine s_if1 (t_cmp cv_lt (e_var 0) e_int) (fun hc=>?_) (fun hc=>?_)
 ·have:=of_decide_eq_true hc
  rw [if_pos (by omega)]
  exact s_ret e_bl rfl
 have n2:=of_decide_eq_false hc
 rw [if_neg (by omega)]
 refine s_if1 (t_cmp cv_eqI (e_var 0) e_int) (fun hc=>?_) (fun hc=>?_)
 ·have:=of_decide_eq_true hc
  rw [if_pos (by omega)]
  exact s_ret (e_call2 c_is_square_at (hr.mono (by decide)) rfl (e_neg (e_var 1)) (e_var 3) ⟨by omega,p2,p3⟩) rfl
 have n3:=of_decide_eq_false hc
 rw [if_neg (by omega)]
 refine s_if1 (t_cmp cv_eqI (e_var 0) e_int) (fun hc=>?_) (fun hc=>?_)
 ·have:=of_decide_eq_true hc
  rw [if_pos (by omega)]
  refine s_ret (e_cmp (cv_ne (α:=Bool) (hu60 hr)) (e_var 2) (e_call3 c_says (hr.mono (by decide)) rfl (e_neg e_int) (e_neg (e_var 1)) (e_var 3) ⟨by decide,by omega,.inr ⟨p2,p3⟩⟩)) ?_
  show Bd.val _ _=Bd.val _ _
  congr 1
 have n4:=of_decide_eq_false hc
 rw [if_neg (by omega)]
 refine s_if1 (t_cmp cv_eqI (e_var 0) e_int) (fun hc=>?_) (fun hc=>?_)
 ·have:=of_decide_eq_true hc
  rw [if_pos (by omega)]
  refine s_ret (e_or (e_not (e_call2 c_is_square_at (hr.mono (by decide)) rfl (e_var 1) (e_var 3) ⟨d0,p2,p3⟩)) fun _=>(e_one (e_cmp (cv_ne (α:=Bool) (hu60 hr)) (e_var 2) (e_call3 c_says (hr.mono (by decide)) rfl (e_neg e_int) (e_neg e_int) (e_var 3) ⟨by decide,by decide,.inr ⟨p2,p3⟩⟩)))) ?_
  show Bd.val _ _=Bd.val _ _
  congr 1
 have n5:=of_decide_eq_false hc
 rw [if_neg (by omega)]
 exact s_ret e_bl rfl
noncomputable def ppF (row:List Int) (p:Int):Int:=(wiR p row:Int)
def PPp (row:List Int) (p:Int):Prop:=isRow row=true∧2≤p∧p < 2 ^ 62
set_option maxHeartbeats 1000000 in
include B in
theorem b_pairs_at_prime (c_is_no:Cal P w K mg base 5 "is_no" ["row","p"] (sp2 K (fun (row:List Int) p=>row.length≤1000∧(∀ n∈row,n≠0)∧(p=0∨(2≤p∧p < 2 ^ 62))) true isnoF)) (c_says:Cal P w K mg base 4 "says" ["a","b","p"] (sp3 K (fun a b p=>a≠0∧b≠0∧(p=0∨(2≤p∧p < 2 ^ 62))) true _root_.EP.saysF)) (c_product_of_all:Cal P w K mg base 1 "product_of_all" ["row"] (sp1 K (fun (r:List Int)=>r.length≤8∧∀ x∈r,Sm 62 x) true mlL)) (c_has_pair_at:Cal P w K mg base 5 "has_pair_at" ["size","number","odd","p"] (sp4 K PHp true hpF)) (row:List Int) (p:Int) (h:PPp row p):Body P w K mg base N_pairs_at_prime "pairs_at_prime" s_pairs_at_prime f 5 [.val false row,.val false p] (RT true (ppF row p)):=by
 intro cdv A outer s H E hr
 obtain ⟨hR,p2,p3⟩:=h
 have hl:=isRow_len hR
 have nz:∀ x∈row,x≠0:=fun x hx=>(isRow_mem hR hx).1
 refine s_asg 2 sc_pairs_at_prime.nd (e_lenL rfl B.len (e_var 0)) ?_
 refine s_asg 3 sc_pairs_at_prime.nd (e_call1 c_product_of_all (hr.mono (by decide)) rfl (e_var 0) ⟨hl.2,fun x hx=>(row_ok hR x hx).2⟩) ?_
 refine s_asg 4 sc_pairs_at_prime.nd (e_call2 c_is_no (hr.mono (by decide)) rfl (e_var 0) (e_var 1) ⟨by omega,nz,.inr ⟨p2,p3⟩⟩) ?_
 refine s_asg 5 sc_pairs_at_prime.nd e_int ?_
 refine s_while (ι:=Nat × Int × Bool × Nat) (fun u Γ=>Γ=[some (.val false row),some (.val false p),some (.val true (u.1:Int)),some (.val true u.2.1),some (.val true u.2.2.1),some (.val true (u.2.2.2:Int))]∧u.2.1≠0∧u.2.2.2 + wiP p u.1 u.2.1 u.2.2.1=wiR p row) (fun u=>u.1) (row.length,mlL row,!qv p row,0) ⟨rfl,_root_.EP.mlL_nz nz,by show 0 + wiR p row=wiR p row; omega⟩ ?_
 rintro ⟨n,d,o,m⟩ Γ' ⟨rfl,d0,he⟩
 have d0:d≠0:=d0
 have he:m + wiP p n d o=wiR p row:=he
 refine ⟨_,t_val (e_call4 c_has_pair_at (hr.mono (by decide)) rfl (e_var 2) (e_var 3) (e_var 4) (e_var 1) ⟨by dsimp only; omega,d0,p2,p3⟩),fun hc=>?_,fun hc=>?_⟩
 ·have hh:hasP p n d o=true:=by
   have:hasP p (n:Int).toNat d o=true:=hc
   rwa [Int.toNat_natCast] at this
  have n2:2≤n:=by
   apply Classical.byContradiction
   intro hn
   unfold _root_.EP.hasP at hh
   rw [if_pos (by omega)] at hh
   cases hh
  obtain ⟨k,rfl⟩:∃ k,n=k + 2:=⟨n - 2,by omega⟩
  rw [_root_.EP.wi_go hh] at he
  refine s_asg 2 sc_pairs_at_prime.nd (e_eq (a':=(k:Int)) (e_sub (e_var 2) e_int) (by dsimp only; omega)) ?_
  refine s_asg 3 sc_pairs_at_prime.nd (e_neg (e_var 3)) ?_
  refine s_asg 4 sc_pairs_at_prime.nd (e_eq (a':=(o == _root_.EP.saysF (-1) (-d) p)) (e_cmp (cv_eq (α:=Bool) (hu60 hr)) (e_var 4) (e_call3 c_says (hr.mono (by decide)) rfl (e_neg e_int) (e_var 3) (e_var 1) ⟨by decide,by dsimp only; omega,.inr ⟨p2,p3⟩⟩)) (by dsimp only; cases o <;> cases _root_.EP.saysF (-1) (-d) p <;> rfl)) ?_
  refine s_asg 5 sc_pairs_at_prime.nd (e_eq (a':=((m + 1:Nat):Int)) (e_add (e_var 5) e_int) (by dsimp only; omega)) ?_
  exact s_nil ⟨(k,-d,(o == _root_.EP.saysF (-1) (-d) p),m + 1),⟨rfl,by dsimp only; omega,by dsimp only; omega⟩,by dsimp only; omega⟩
 ·have hh:hasP p n d o=false:=by
   have:hasP p (n:Int).toNat d o=false:=hc
   rwa [Int.toNat_natCast] at this
  rw [_root_.EP.wi_no hh] at he
  unfold ppF
  rw [← he]
  exact s_ret (e_var 5) rfl
def pnF (row:List Int):Int:=((min (abv row) (row.length - abv row):Nat):Int)
include B in
theorem b_pairs_at_nought (row:List Int) (h:row.length≤8):Body P w K mg base N_pairs_at_nought "pairs_at_nought" s_pairs_at_nought f kk [.val false row] (RT true (pnF row)):=by
 intro cdv A outer s H E hr
 have ha:=_root_.EP.abv_le row
 refine s_asg 1 sc_pairs_at_nought.nd (e_eq (a':=(abv row:Int)) (e_lenL rfl B.len (e_compF (f:=fun q:Int=>q) (p:=fun q=>decide (0 < q)) (b':=true) ["k"] [] (cscope (defScope s_pairs_at_nought) N_pairs_at_nought rfl rfl (by decide +kernel)) (ei_list (e_var 0)) (gp_name 0) (fun C s H fp=>pg_cn 0 ["k"]) lt_of_eq (fun i q hi C s H fp=>ft_one (t_cmp cv_gt (e_var 0) e_int)) (fun i q hi hp C s H fp=>e_up (e_var 0)) (by omega))) (by rw [List.length_map]; rfl)) ?_
 refine s_ret (e_min rfl rfl B.min (e_var 1) (e_sub (e_lenL rfl B.len (e_var 0)) (e_var 1))) ?_
 show Bd.val _ _=Bd.val _ _
 unfold pnF
 congr 1
 split <;> omega
noncomputable def hmL (row:List Int):List Int:=pnF row :: (poF row).map (ppF row)
noncomputable def hmF (row:List Int):Int:=_root_.EP.lmn (hmL row)
structure PHm (l:List Int):Prop where
 row:isRow l=true
 po:PPo l
include B in
theorem b_how_many_pairs (c_refuse_no_row:Cal P w K mg base 4 "refuse_no_row" ["row"] (sp1 K (fun (xs:List Int)=>isRow xs=true) true unit1)) (c_primes_of:Cal P w K mg base 5 "primes_of" ["numbers"] (sp1 K PPo true poF)) (c_pairs_at_prime:Cal P w K mg base 6 "pairs_at_prime" ["row","p"] (sp2 K PPp true ppF)) (c_pairs_at_nought:Cal P w K mg base 1 "pairs_at_nought" ["row"] (sp1 K (fun (r:List Int)=>r.length≤8) true pnF)) (row:List Int) (h:PHm row):Body P w K mg base N_how_many_pairs "how_many_pairs" s_how_many_pairs f 6 [.val false row] (RT true (hmF row)):=by
 intro cdv A outer s H E hr
 have hl:=isRow_len h.row
 have hpl:=barL_len h.po
 obtain ⟨a1,a2⟩:=_root_.EP.lmn_ok (hmL row) (by unfold hmL; simp)
 refine s_expr (e_call1 c_refuse_no_row (hr.mono (by decide)) rfl (e_var 0) h.row) ?_
 refine s_ret (e_minL rfl rfl B.min (e_cat (xs:=[pnF row]) (ys:=(poF row).map (ppF row)) (e_lst (ea_cons (e_call1 c_pairs_at_nought (hr.mono (by decide)) rfl (e_var 0) hl.2) ea_nil) (by show 1≤1000; decide)) (e_comp (b':=true) (f:=ppF row) ["p"] [0] (cscope (defScope s_how_many_pairs) N_how_many_pairs rfl rfl (by decide +kernel)) (ei_list (e_call1 c_primes_of (hr.mono (by decide)) rfl (e_var 0) h.po)) (gp_name 0) (fun C s H fp=>pg_cn 0 ["p","row"]) lt_of_eq (fun i q hi C s H fp=>e_call2 c_pairs_at_prime (hr.mono (by decide)) rfl (e_var 1) (e_var 0) ⟨h.row,poF_prime h.row (List.mem_of_getElem? hi)⟩) (by omega)) (by rw [List.length_map,List.length_singleton]; omega)) (by simp) a1 a2) rfl
theorem hm_ok {row:List Int} (h:isRow row=true):∃ m,hmF row=((m:Nat):Int)∧HM row m:=by
 have hl:=isRow_len h
 have nz:∀ x∈row,x≠0:=fun x hx=>(isRow_mem h hx).1
 obtain ⟨a1,a2⟩:=_root_.EP.lmn_ok (hmL row) (by unfold hmL; simp)
 have e0:wiA 0 row=min (abv row) (row.length - abv row):=by unfold _root_.EP.wiA; rw [if_pos rfl]
 have mp:∀ q:Int,q∈poF row↔q=2∨(isP q=true∧∃ a∈row,q ∣ a):=fun q=>mem_po60 nz
 have h0:hmF row≤pnF row:=a2 _ (by unfold hmL; exact List.mem_cons_self ..)
 have hp:∀ q∈poF row,hmF row≤(wiR q row:Int):=fun q hq=>a2 _ (by unfold hmL; exact List.mem_cons_of_mem _ (List.mem_map.mpr ⟨q,hq,rfl⟩))
 have nn:0≤hmF row:=by
  have:hmF row∈hmL row:=a1
  unfold hmL at this
  rcases List.mem_cons.mp this with e | e
  ·rw [e]; unfold pnF; omega
  ·obtain ⟨q,_,e⟩:=List.mem_map.mp e
   rw [← e]; unfold ppF; omega
 refine ⟨(hmF row).toNat,by omega,_root_.EP.hm_of nz hl.1 ?_ (fun p hp1 hp2=>?_) ?_⟩
 ·rw [e0]; unfold pnF at h0; omega
 ·have:p∈poF row:=(mp p).mpr (by
   rcases hp2 with e | e
   ·exact .inl e
   ·exact .inr ⟨hp1,e⟩)
  have:=hp p this
  omega
 ·have:hmF row∈hmL row:=a1
  unfold hmL at this
  rcases List.mem_cons.mp this with e | e
  ·exact .inl (by rw [e0,e]; unfold pnF; omega)
  ·obtain ⟨q,hq,e⟩:=List.mem_map.mp e
   refine .inr ⟨q,?_,by rw [← e]; unfold ppF; omega⟩
   rcases (mp q).mp hq with z | z
   ·rw [z]; exact _root_.EP.isP_two
   ·exact z.1
def dcell (xs:List Int) (k:Int):Int:=if k < (xs.length:Int) then xs.getD k.toNat 0 else 0
include B in
theorem b_law_cell_at (xs:List Int) (k:Int) (h0:0≤k):Body P w K mg base N_law_cell_at "_law_cell_at" s_law_cell_at f kk [.val false xs,.val false k] (RT true (dcell xs k)):=by
 intro cdv A outer s H E hr
 refine s_if1 (t_cmp cv_lt (e_var 1) (e_lenL rfl B.len (e_var 0))) (fun hc=>?_) (fun hc=>?_)
 ·have hc':k < (xs.length:Int):=by simpa using hc
  have e:dcell xs k=xs.getD k.toNat 0:=if_pos hc'
  rw [e]
  exact s_ret (e_up (e_ixL (e_var 0) (e_var 1) (atGetD (d:=0) h0 hc'))) rfl
 ·have hc':¬ k < (xs.length:Int):=by simpa using hc
  have e:dcell xs k=0:=if_neg hc'
  rw [e]
  exact s_ret e_int rfl
def bgP (c k j:Int):Int:=(((c.natAbs:Int).fmod 2147483647 + 97 * k + 131 * j + 13) * (16807 + j * j + k)).fmod 2147483647
def bgL (c k:Int):Nat→Int
 | 0=>0
 | i + 1=>bgL c k i * 2147483659 + (bgP c k i * 48271).fmod 2147483647
def bg9 (c k:Int):Int:=if 10 ^ 18≤(c.natAbs:Int) then c else bgL c k 9
include B in
theorem b_law_big (c k:Int) (h0:0≤k) (h1:k≤100):Body P w K mg base N_law_big "_law_big" s_law_big f kk [.val false c,.val false k] (RT true (bg9 c k)):=by
 intro cdv A outer s H E hr
 have ab:∀ i:Int,(if i < 0 then -i else i)=(i.natAbs:Int):=fun i=>by split <;> omega
 refine s_if1 (t_cmp cv_ge (e_abs rfl B.abs (e_var 0)) (e_pow e_int e_int cpK)) (fun hc=>?_) (fun hc=>?_)
 ·rw [ab] at hc
  have e:bg9 c k=c:=if_pos (by simpa using hc)
  rw [e]
  exact s_ret (e_up (e_var 0)) rfl
 rw [ab] at hc
 have e:bg9 c k=bgL c k 9:=if_neg (by simpa using hc)
 rw [e]
 refine s_asg 2 sc_law_big.nd e_int ?_
 refine s_forRange (fun i Γ=>∃ r r',Γ=[some (.val false c),some (.val false k),some (.val true (bgL c k i)),r,r']) rfl B.range (g_name 3 sc_law_big.nd) e_int (by decide) (by decide) ⟨none,none,rfl⟩ ?_ ?_
 ·rintro i Γ' hi ⟨r,r',rfl⟩
  have hi':i < 9:=hi
  have z0:=fmod_pos (a:=(c.natAbs:Int)) (b:=2147483647) (by decide)
  have hjj:(i:Int) * (i:Int)≤9 * 9:=Int.mul_le_mul (by omega) (by omega) (by omega) (by decide)
  have hj0:(0:Int)≤(i:Int) * (i:Int):=Int.mul_nonneg (by omega) (by omega)
  refine s_asg 4 sc_law_big.nd (e_add (e_add (e_add (e_mod (e_abs rfl B.abs (e_var 0)) e_int (by decide)) (e_mul e_int (e_var 1) (mulL (by decide) (by decide)))) (e_mul e_int (e_var 3) (mulL (by decide) (by decide)))) e_int) ?_
  rw [ab]
  refine s_asg 4 sc_law_big.nd (e_mod (e_mul (e_var 4) (e_add (e_add e_int (e_mul (e_var 3) (e_var 3) (mulL (by omega) (by omega)))) (e_var 1)) (mulL (by omega) (by omega))) e_int (by decide)) ?_
  have z1:=fmod_pos (a:=((c.natAbs:Int).fmod 2147483647 + 97 * k + 131 * (i:Int) + 13) * (16807 + (i:Int) * (i:Int) + k)) (b:=2147483647) (by decide)
  refine s_asg 2 sc_law_big.nd (e_add (e_mul (e_var 2) e_int (mulR (by decide) (by decide))) (e_mod (e_mul (e_var 4) e_int (mulR (by decide) (by decide))) e_int (by decide))) ?_
  exact s_nil ⟨_,_,rfl⟩
 ·rintro Γ' ⟨r,r',rfl⟩
  exact s_ret (e_var 2) rfl
def gcI (a b:Int):Int:=((Int.gcd a b:Nat):Int)
include B in
theorem b_law_common (a b:Int):Body P w K mg base N_law_common "_law_common" s_law_common f k [.val false a,.val false b] (RT true (gcI a b)):=by
 intro cdv A outer s H E hr
 refine s_while (ι:=Bool × Bool × Int × Int) (fun i Γ=>∃ r,Γ=[some (.val i.1 i.2.2.1),some (.val i.2.1 i.2.2.2),r]∧Int.gcd i.2.2.1 i.2.2.2=Int.gcd a b) (fun i=>i.2.2.2.natAbs) (false,false,a,b) ⟨none,rfl,rfl⟩ ?_
 rintro ⟨b1,b2,x,y⟩ Γ' ⟨r,rfl,hg⟩
 refine ⟨_,t_cmp cv_neI (e_var 1) e_int,fun hc=>?_,fun hc=>?_⟩
 ·have hy:y≠0:=by simpa using hc
  refine s_asg 2 sc_law_common.nd (e_mod (e_var 0) (e_var 1) hy) ?_
  refine s_asg 0 sc_law_common.nd (e_var 1) ?_
  refine s_asg 1 sc_law_common.nd (e_var 2) ?_
  exact s_nil ⟨(b2,true,y,x.fmod y),⟨_,rfl,(_root_.EP.gcd_fmod x y).trans hg⟩,_root_.EP.fmod_lt x y hy⟩
 ·have hy:y=0:=by simpa using hc
  refine s_ret (e_abs rfl B.abs (e_var 0)) ?_
  dsimp only at hg ⊢
  rw [hy,Int.gcd_zero_right] at hg
  unfold gcI
  rw [← hg]
  show Bd.val _ _=Bd.val _ _
  congr 1
  split <;> omega
theorem b_law_root (x:Int) (h0:0≤x) (hs:Sm 8000 x):Body P w K mg base N_law_root "_law_root" s_law_root f k [.val false x] (RT true (_root_.EP.rt x)):=by
 intro cdv A outer s H E hr
 refine s_asg 1 sc_law_root.nd (e_var 0) ?_
 refine s_while (ι:=Bool × Int) (fun i Γ=>Γ=[some (.val false x),some (.val i.1 i.2)]∧0≤i.2∧i.2≤x∧x < (i.2 + 1) * (i.2 + 1)) (fun i=>i.2.toNat) (false,x) ⟨rfl,h0,Int.le_refl x,by
  dsimp only
  have:(x + 1) * 1≤(x + 1) * (x + 1):=Int.mul_le_mul_of_nonneg_left (by omega) (by omega)
  omega⟩ ?_
 rintro ⟨bb,r⟩ Γ' ⟨rfl,r0,r1,r2⟩
 dsimp only at *
 have hSr:Sm 8000 r:=Sm.of_le (by omega) hs
 refine ⟨_,t_cmp cv_gt (e_mul (e_var 1) (e_var 1) (hSr.ok hSr)) (e_var 0),fun hc=>?_,fun hc=>?_⟩
 ·have hc':x < r * r:=by simpa using hc
  have hpos:0 < r:=by
   rcases Int.lt_or_eq_of_le r0 with z | z
   ·exact z
   ·rw [← z] at hc'; simp at hc'; omega
  refine s_asg 1 sc_law_root.nd (e_fdiv (e_add (e_var 1) (e_fdiv (e_var 0) (e_var 1) (hSr.div (by omega)))) e_int cdK) ?_
  obtain ⟨n0,n1,n2⟩:=_root_.EP.newton h0 hpos hc'
  exact s_nil ⟨(true,(r + x.fdiv r).fdiv 2),⟨rfl,n0,by dsimp only; omega,n2⟩,by dsimp only; omega⟩
 ·have hc':r * r≤x:=by simpa using hc
  rw [← _root_.EP.rt_unique r0 hc' r2]
  exact s_ret (e_up (e_var 1)) rfl
open _root_.EP (Sqf isP prt)
theorem abN (i:Int):(if i < 0 then -i else i)=(i.natAbs:Int):=by split <;> omega
noncomputable def foF (k:Int):Int:=(_root_.EP.frd (k,1)).1
theorem foF_eq {k f s:Int} (hk:k≠0) (hl:k.natAbs < 1073741824) (hf:Sqf f) (hs:0 < s) (e:k=f * (s * s)):foF k=f:=by
 have t:_root_.EP.Tame (k.natAbs * 1):=by rw [Int.mul_one]; exact _root_.EP.tame_lt (by omega) (by omega)
 show (_root_.EP.frN k 1).1=f
 rw [_root_.EP.frN_ok hk (by decide) t hf hs (by rw [Int.mul_one]; exact e)]
theorem foF_ex {k:Int} (hk:k≠0) (hl:k.natAbs < 1073741824):∃ s,Sqf (foF k)∧0 < s∧k=foF k * (s * s):=by
 obtain ⟨f,s,h1,h2,h3⟩:=_root_.EP.free_ex _ k hk (Nat.le_refl _)
 have e:=foF_eq hk hl h1 h2 h3
 rw [e]
 exact ⟨s,h1,h2,h3⟩
theorem foF_le {k:Int} (hk:k≠0) (hl:k.natAbs < 1073741824):foF k≠0∧(foF k).natAbs≤k.natAbs:=by
 obtain ⟨s,h1,h2,h3⟩:=foF_ex hk hl
 exact ⟨h1.1,_root_.EP.free_le h2 h3⟩
theorem sqf_of_primes {n:Int} (h0:n≠0) (h:∀ q,isP q=true→¬ q * q ∣ n):Sqf n:=⟨h0,fun d hd z=>by
 obtain ⟨q,h1,h2⟩:=_root_.EP.has_prime hd
 exact h q h1 (Int.dvd_trans (Int.mul_dvd_mul h2 h2) z)⟩
def jnF (a b:Int):Int:=a.fdiv ((Int.gcd a b:Nat):Int) * b.fdiv ((Int.gcd a b:Nat):Int)
def PJn (a b:Int):Prop:=a≠0∧b≠0∧Sm 400 a∧Sm 400 b
theorem fdiv_g {a g:Int} (h:g ∣ a) (ha:a≠0):g≠0∧a.fdiv g≠0∧(a.fdiv g).natAbs≤a.natAbs:=by
 obtain ⟨c,rfl⟩:=h
 have hg:g≠0:=fun z=>ha (by rw [z,Int.zero_mul])
 have hc:c≠0:=fun z=>ha (by rw [z,Int.mul_zero])
 rw [Int.mul_fdiv_cancel_left c hg]
 refine ⟨hg,hc,?_⟩
 rw [Int.natAbs_mul]
 exact Nat.le_mul_of_pos_left _ (by omega)
theorem jn_parts {a b:Int} (ha:a≠0) (hb:b≠0):((Int.gcd a b:Nat):Int)≠0∧a.fdiv ((Int.gcd a b:Nat):Int)≠0∧(a.fdiv ((Int.gcd a b:Nat):Int)).natAbs≤a.natAbs∧b.fdiv ((Int.gcd a b:Nat):Int)≠0∧(b.fdiv ((Int.gcd a b:Nat):Int)).natAbs≤b.natAbs:=by
 obtain ⟨x1,x2,x3⟩:=fdiv_g (Int.gcd_dvd_left a b) ha
 obtain ⟨_,y2,y3⟩:=fdiv_g (Int.gcd_dvd_right a b) hb
 exact ⟨x1,x2,x3,y2,y3⟩
theorem gcd_sm {n:Nat} {a b:Int} (ha:a≠0) (sa:Sm n a):Sm n ((Int.gcd a b:Nat):Int):=by
 have:Int.gcd a b≤a.natAbs:=Nat.le_of_dvd (by omega) (Int.natAbs_dvd_natAbs.mpr (Int.gcd_dvd_left a b))
 unfold Sm at *
 omega
open _root_.EP (Sqf isP)
structure LfI (n fr l d:Int):Prop where
 d2:2≤d
 l0:0 < l
 f0:0 < fr
 sq:Sqf fr
 lo:∀ q,isP q=true→q < d→¬ q ∣ l
 hi:∀ q,isP q=true→d≤q→¬ q ∣ fr
 ex:∃ s,0 < s∧n=fr * l * (s * s)
theorem LfI.le {n fr l d:Int} (h:LfI n fr l d):fr * l≤n∧l≤n∧fr≤n:=by
 obtain ⟨s,s0,e⟩:=h.ex
 have l0:=h.l0
 have f0:=h.f0
 have p:0 < fr * l:=Int.mul_pos f0 l0
 have q:1≤s * s:=Int.mul_pos s0 s0
 have a:=Int.mul_le_mul_of_nonneg_left q (show 0≤fr * l by omega)
 have b:=Int.mul_le_mul_of_nonneg_right (show 1≤fr by omega) (show 0≤l by omega)
 have c:=Int.mul_le_mul_of_nonneg_left (show 1≤l by omega) (show 0≤fr by omega)
 rw [e]
 omega
theorem LfI.start {n:Int} (h:0 < n):LfI n 1 n 2:=⟨by decide,h,by decide,_root_.EP.sqf_one,fun q hq hl=>by have:=_root_.EP.isP_ge hq; omega,fun q hq _ z=>by
 have:=Int.le_of_dvd (by decide) z
 have:=_root_.EP.isP_ge hq
 omega,1,by decide,by rw [Int.one_mul,Int.mul_one,Int.mul_one]⟩
theorem LfI.prime {n fr l0 l d:Int} {v:Nat} (h:LfI n fr l0 d) (e:l0=l * d ^ (v + 1)):isP d=true:=by
 have hd:d ∣ l0:=⟨l * d ^ v,by rw [e,Int.pow_succ]; grind⟩
 obtain ⟨q,h1,h2⟩:=_root_.EP.has_prime h.d2
 have h3:=Int.le_of_dvd (by have:=h.d2; omega) h2
 by_cases z:q < d
 ·exact absurd (Int.dvd_trans h2 hd) (h.lo q h1 z)
 ·rw [show d=q by omega]; exact h1
theorem LfI.step {n fr l0 l d:Int} {v:Nat} (h:LfI n fr l0 d) (e:l0=l * d ^ v) (hn:¬ d ∣ l) (hl:0 < l):LfI n (if v % 2=1 then fr * d else fr) l (d + 1):=by
 have d2:=h.d2
 have dl:l ∣ l0:=⟨_,e⟩
 obtain ⟨s,s0,ex⟩:=h.ex
 have lo':∀ q,isP q=true→q < d + 1→¬ q ∣ l:=fun q hq hlt z=>by
  by_cases w:q < d
  ·exact h.lo q hq w (Int.dvd_trans z dl)
  ·rw [show q=d by omega] at z; exact hn z
 have pw:∀ m:Nat,0 < d ^ m:=fun m=>Int.pow_pos (by omega)
 by_cases o:v % 2=1
 ·rw [if_pos o]
  obtain ⟨m,hm⟩:∃ m,v=2 * m + 1:=⟨v / 2,by omega⟩
  have hp:isP d=true:=h.prime (v:=2 * m) (by rw [e,hm])
  refine ⟨by omega,hl,Int.mul_pos h.f0 (by omega),_root_.EP.sqf_mul_prime h.sq hp (h.hi d hp (Int.le_refl d)),lo',fun q hq hge z=>?_,s * d ^ m,Int.mul_pos s0 (pw m),?_⟩
  ·rcases _root_.EP.euclid hq z with z | z
   ·exact h.hi q hq (by omega) z
   ·have:=Int.le_of_dvd (by omega) z
    omega
  ·rw [ex,e,hm,Int.pow_succ,show 2 * m=m + m by omega,Int.pow_add]
   grind
 ·rw [if_neg o]
  obtain ⟨m,hm⟩:∃ m,v=2 * m:=⟨v / 2,by omega⟩
  refine ⟨by omega,hl,h.f0,h.sq,lo',fun q hq hge z=>h.hi q hq (by omega) z,s * d ^ m,Int.mul_pos s0 (pw m),?_⟩
  rw [ex,e,hm,show 2 * m=m + m by omega,Int.pow_add]
  grind
theorem LfI.done {n fr l d:Int} (h:LfI n fr l d) (hd:l < d * d * d):∃ s,0 < s∧Sqf (if _root_.EP.rt l * _root_.EP.rt l=l then fr else fr * l)∧n=(if _root_.EP.rt l * _root_.EP.rt l=l then fr else fr * l) * (s * s):=by
 obtain ⟨s,s0,ex⟩:=h.ex
 have l0:=h.l0
 have f0:=h.f0
 have d2:=h.d2
 by_cases r:_root_.EP.rt l * _root_.EP.rt l=l
 ·rw [if_pos r]
  have r0:_root_.EP.rt l≠0:=fun z=>by rw [z] at r; omega
  have ra:0 < ((_root_.EP.rt l).natAbs:Int):=by omega
  refine ⟨s * (_root_.EP.rt l).natAbs,Int.mul_pos s0 ra,h.sq,?_⟩
  have e2:((_root_.EP.rt l).natAbs:Int) * ((_root_.EP.rt l).natAbs:Int)=l:=by rw [← Int.natCast_mul,Int.natAbs_mul_self,r]
  rw [ex]
  grind
 ·rw [if_neg r]
  have sl:∀ q,isP q=true→¬ q * q ∣ l:=fun q hq z=>by
   obtain ⟨m,em⟩:=z
   have q2:=_root_.EP.isP_ge hq
   have hqd:d≤q:=by
    by_cases w:q < d
    ·exact absurd ⟨q * m,by rw [em]; grind⟩ (h.lo q hq w)
    ·omega
   have m0:0 < m:=by
    by_cases w:0 < m
    ·exact w
    ·have:q * q * m≤0:=Int.mul_nonpos_of_nonneg_of_nonpos (by have:=Int.mul_pos (show 0 < q by omega) (show 0 < q by omega); omega) (by omega)
     omega
   by_cases m1:m=1
   ·refine r ?_
    have:_root_.EP.rt l=q:=by
     rw [em,m1,Int.mul_one]
     exact (_root_.EP.rt_unique (by omega) (Int.le_refl _) (by grind)).symm
    rw [this,em,m1,Int.mul_one]
   ·obtain ⟨p,hp,pm⟩:=_root_.EP.has_prime (show 2≤m by omega)
    have hpd:d≤p:=by
     by_cases w:p < d
     ·exact absurd (Int.dvd_trans pm ⟨q * q,by rw [em]; grind⟩) (h.lo p hp w)
     ·omega
    have hpm:=Int.le_of_dvd m0 pm
    have a1:d * d≤q * q:=Int.mul_le_mul hqd hqd (by omega) (by omega)
    have a2:d * d * d≤q * q * m:=Int.mul_le_mul a1 (by omega) (by omega) (by have:=Int.mul_pos (show 0 < q by omega) (show 0 < q by omega); omega)
    omega
  refine ⟨s,s0,sqf_of_primes (Int.mul_ne_zero (by omega) (by omega)) fun q hq z=>?_,ex⟩
  by_cases w:q ∣ l
  ·have hqd:d≤q:=by
    by_cases w':q < d
    ·exact absurd w (h.lo q hq w')
    ·omega
   have hnf:=h.hi q hq hqd
   have g:Int.gcd (q * q) fr=1:=by
    have g1:Int.gcd fr q=1:=_root_.EP.gcd_prime hq hnf
    exact _root_.EP.cop_of (fun r hr h1 h2=>by
     have:r ∣ q:=by rcases _root_.EP.euclid hr h1 with z | z <;> exact z
     rw [_root_.EP.prime_dvd_prime hr hq this] at h2
     exact hnf h2) (by have:=_root_.EP.isP_ge hq; exact Int.mul_ne_zero (by omega) (by omega))
   rw [Int.mul_comm fr l] at z
   exact sl q hq (_root_.EP.cop_dvd z g)
  ·have g:Int.gcd (q * q) l=1:=_root_.EP.cop_of (fun r hr h1 h2=>by
     have:r ∣ q:=by rcases _root_.EP.euclid hr h1 with z | z <;> exact z
     rw [_root_.EP.prime_dvd_prime hr hq this] at h2
     exact w h2) (by have:=_root_.EP.isP_ge hq; exact Int.mul_ne_zero (by omega) (by omega))
   have z':=_root_.EP.cop_dvd z g
   exact h.sq.2 q (by have:=_root_.EP.isP_ge hq; omega) z'
set_option maxHeartbeats 2000000 in
include B in
theorem b_law_free (c_law_root:Cal P w K mg base 1 "_law_root" ["_law_k"] (sp1 K (fun k=>0≤k∧Sm 8000 k) true _root_.EP.rt)) (n:Int) (h0:n≠0) (hl:n.natAbs < 1073741824):Body P w K mg base N_law_free "_law_free" s_law_free f 1 [.val false n] (RT true (foF n)):=by
 intro cdv A outer s H E hr
 have ab:∀ i:Int,(if i < 0 then -i else i)=(i.natAbs:Int):=fun i=>by split <;> omega
 refine s_asg 1 sc_law_free.nd (e_abs rfl B.abs (e_var 0)) ?_
 rw [ab]
 refine s_asg 2 sc_law_free.nd e_int ?_
 refine s_asg 3 sc_law_free.nd e_int ?_
 refine s_while (ι:=Int × Int × Int) (fun i Γ=>∃ r4,Γ=[some (.val false n),some (.val true i.1),some (.val true i.2.1),some (.val true i.2.2),r4]∧LfI n.natAbs i.2.1 i.1 i.2.2∧i.2.2≤n.natAbs + 2) (fun i=>(i.1 - i.2.2 + 5).toNat) ((n.natAbs:Int),1,2) ⟨none,rfl,LfI.start (by omega),by dsimp only; omega⟩ ?_
 rintro ⟨l0,fr0,d⟩ Γ' ⟨r4,rfl,hI,hdn⟩
 dsimp only at *
 have d2:=hI.d2
 have p0:=hI.l0
 have pf0:=hI.f0
 obtain ⟨_,le2,le3⟩:=hI.le
 have sd:Sm 31 d:=by unfold Sm; omega
 refine ⟨_,t_cmp cv_le (e_mul (e_mul (e_var 3) (e_var 3) (sd.ok sd)) (e_var 3) ((sd.mul sd).ok sd)) (e_var 1),fun hc=>?_,fun hc=>?_⟩
 ·have hc':d * d * d≤l0:=by simpa using hc
  have hdl:d < l0:=by
   have a1:2 * d≤d * d:=Int.mul_le_mul_of_nonneg_right d2 (by omega)
   have a2:d * d * 1≤d * d * d:=Int.mul_le_mul_of_nonneg_left (by omega) (by omega)
   omega
  refine s_asg 4 sc_law_free.nd e_int ?_
  refine s_while (ι:=Int × Int) (fun i Γ=>Γ=[some (.val false n),some (.val true i.1),some (.val true fr0),some (.val true d),some (.val true i.2)]∧0≤i.2∧l0=i.1 * d ^ i.2.toNat∧0 < i.1) (fun i=>i.1.natAbs) (l0,0) ⟨rfl,Int.le_refl 0,by dsimp only; rw [show (0:Int).toNat=0 from rfl,Int.pow_zero,Int.mul_one],p0⟩ ?_
  rintro ⟨l,v⟩ Γ' ⟨rfl,hv,he,hl0⟩
  dsimp only at *
  refine ⟨_,t_cmp cv_eqI (e_mod (e_var 1) (e_var 3) (by omega)) e_int,fun hc=>?_,fun hc=>?_⟩
  ·have hc2:l.fmod d=0:=by simpa using hc
   refine s_asg 1 sc_law_free.nd (e_fdiv (e_var 1) (e_var 3) (sd.div (by omega))) ?_
   refine s_asg 4 sc_law_free.nd (e_add (e_var 4) e_int) ?_
   obtain ⟨a1,a2,a3,a4⟩:=tko_go hv he d2 hc2 (by omega)
   obtain ⟨b1,_,_⟩:=_root_.EP.tko_step d2 (_root_.EP.dvd_fmod.mp hc2) (show l≠0 by omega)
   have pos:0 < l.fdiv d:=by
    by_cases w:0 < l.fdiv d
    ·exact w
    ·have:=Int.mul_nonpos_of_nonneg_of_nonpos (show 0≤d by omega) (show l.fdiv d≤0 by omega)
     have:=Int.mul_nonpos_of_nonpos_of_nonneg (show l.fdiv d≤0 by omega) (show 0≤d by omega)
     omega
   exact s_nil ⟨(l.fdiv d,v + 1),⟨rfl,a1,a2,pos⟩,a4⟩
  ·have hc2:¬ d ∣ l:=fun z=>by
    have:=_root_.EP.dvd_fmod.mpr z
    rw [decide_eq_true this] at hc
    cases hc
   have hS:=hI.step (v:=v.toNat) he hc2 hl0
   have ll:l≤l0:=by
    have:=Int.le_of_dvd p0 (show l ∣ l0 from ⟨_,he⟩)
    exact this
   have mv:v.fmod 2=1↔v.toNat % 2=1:=by
    rw [Int.fmod_eq_emod_of_nonneg _ (by decide)]
    omega
   refine s_ifJ (fun Γ=>Γ=[some (.val false n),some (.val true l),some (.val true (if v.toNat % 2=1 then fr0 * d else fr0)),some (.val true d),some (.val true v)]) (t_cmp cv_eqI (e_mod (e_var 4) e_int (by decide)) e_int) (fun hc=>?_) (fun hc=>?_) ?_
   ·have hv1:v.toNat % 2=1:=mv.mp (by simpa using hc)
    rw [if_pos hv1]
    refine s_asg 2 sc_law_free.nd (e_mul (e_var 2) (e_var 3) ((show Sm 31 fr0 by unfold Sm; omega).ok sd)) ?_
    exact s_nil rfl
   ·have hv1:¬ v.toNat % 2=1:=fun w=>by
     have:=mv.mpr w
     rw [decide_eq_true this] at hc
     cases hc
    rw [if_neg hv1]
    exact s_nil rfl
   rintro Γ' rfl
   refine s_asg 3 sc_law_free.nd (e_add (e_var 3) e_int) ?_
   exact s_nil ⟨(l,(if v.toNat % 2=1 then fr0 * d else fr0),d + 1),⟨_,rfl,hS,by dsimp only; omega⟩,by dsimp only; omega⟩
 ·have hc':l0 < d * d * d:=by
   have:¬ d * d * d≤l0:=by simpa using hc
   omega
  obtain ⟨s',s0,q1,q2⟩:=hI.done hc'
  have sl:Sm 8000 l0:=(show Sm 31 l0 by unfold Sm; omega).le (by decide)
  have sr:Sm 31 (_root_.EP.rt l0):=by
   have w1:=_root_.EP.rt_le (show 0≤l0 by omega)
   have w2:=_root_.EP.rt_nonneg l0
   have w3:_root_.EP.rt l0≤l0:=by
    by_cases w:_root_.EP.rt l0=0
    ·omega
    ·have:=Int.mul_le_mul_of_nonneg_left (show 1≤_root_.EP.rt l0 by omega) w2
     omega
   unfold Sm
   omega
  refine s_ifJ (fun Γ=>Γ=[some (.val false n),some (.val true l0),some (.val true (if _root_.EP.rt l0 * _root_.EP.rt l0=l0 then fr0 else fr0 * l0)),some (.val true d),r4]) (t_cmp cv_neI (e_mul (e_call1 c_law_root (hr.mono (by decide)) rfl (e_var 1) ⟨by omega,sl⟩) (e_call1 c_law_root (hr.mono (by decide)) rfl (e_var 1) ⟨by omega,sl⟩) (sr.ok sr)) (e_var 1)) (fun hc=>?_) (fun hc=>?_) ?_
  ·have hc2:¬ _root_.EP.rt l0 * _root_.EP.rt l0=l0:=by simpa using hc
   rw [if_neg hc2]
   refine s_asg 2 sc_law_free.nd (e_mul (e_var 2) (e_var 1) ((show Sm 31 fr0 by unfold Sm; omega).ok (show Sm 31 l0 by unfold Sm; omega))) ?_
   exact s_nil rfl
  ·have hc2:_root_.EP.rt l0 * _root_.EP.rt l0=l0:=by simpa using hc
   rw [if_pos hc2]
   exact s_nil rfl
  rintro Γ' rfl
  generalize (if _root_.EP.rt l0 * _root_.EP.rt l0=l0 then fr0 else fr0 * l0)=g at *
  refine s_if1 (t_cmp cv_lt (e_var 0) e_int) (fun hc=>?_) (fun hc=>?_)
  ·have hn:n < 0:=by simpa using hc
   have e:foF n=-g:=foF_eq h0 hl (_root_.EP.sqf_neg q1) s0 (by
    have:n=-(n.natAbs:Int):=by omega
    rw [this,q2]
    grind)
   rw [e,show -g=0 - g by omega]
   exact s_ret (e_sub e_int (e_var 2)) rfl
  ·have hn:¬ n < 0:=by simpa using hc
   have e:foF n=g:=foF_eq h0 hl q1 s0 (by
    have:n=(n.natAbs:Int):=by omega
    rw [this]
    exact q2)
   rw [e]
   exact s_ret (e_var 2) rfl
theorem b_law_free_times (c_law_common:Cal P w K mg base 1 "_law_common" ["_law_a","_law_b"] (sp2 K (fun _ _=>True) true gcI)) (a b:Int) (hp:PJn a b):Body P w K mg base N_law_free_times "_law_free_times" s_law_free_times f 1 [.val false a,.val false b] (RT true (jnF a b)):=by
 intro cdv A outer s H E hr
 obtain ⟨ha,hb,sa,sb⟩:=hp
 obtain ⟨g0,x2,x3,y2,y3⟩:=jn_parts ha hb
 have sg:=gcd_sm (b:=b) ha sa
 refine s_asg 2 sc_law_free_times.nd (e_call2 c_law_common (hr.mono (by decide)) rfl (e_var 0) (e_var 1) True.intro) ?_
 exact s_ret (e_mul (e_fdiv (e_var 0) (e_var 2) (Sm.div (j:=gcI a b) sg g0)) (e_fdiv (e_var 1) (e_var 2) (Sm.div (j:=gcI a b) sg g0)) ((Sm.of_le x3 sa).ok (Sm.of_le y3 sb))) rfl
def SP:List Int:=[2,3,5,7,11,13]
theorem sp_ge:∀ p,p∈SP→2≤p:=by decide
theorem sp_lt:∀ p,p∈SP→2≤p∧p < 100:=by decide
def smL (c:Int):Nat→Int × Int
 | 0=>(1 - 2 * c.fmod 2,c.fdiv 2)
 | i + 1=>((if (smL c i).2.fmod 2=1 then (smL c i).1 * SP.getD i 1 else (smL c i).1),(smL c i).2.fdiv 2)
def smS (c:Int):Int:=(smL c 6).1
def Pf (x:Int):Prop:=x≠0∧x.natAbs≤30030∧∀ q:Int,(q=17∨q=19∨q=23∨q=97)→¬ q ∣ x
theorem qP {q:Int} (h:q=17∨q=19∨q=23∨q=97):_root_.EP.isP q=true:=by
 rcases h with rfl | rfl | rfl | rfl
 ·exact _root_.EP.isP_of (n:=17) (m:=5) (by decide) (by decide) (by decide) (by decide)
 ·exact _root_.EP.isP_of (n:=19) (m:=5) (by decide) (by decide) (by decide) (by decide)
 ·exact _root_.EP.isP_of (n:=23) (m:=5) (by decide) (by decide) (by decide) (by decide)
 ·exact _root_.EP.isP_of (n:=97) (m:=5) (by decide) (by decide) (by decide) (by decide)
theorem qSP {q:Int} (h:q=17∨q=19∨q=23∨q=97):∀ p∈SP,¬ q ∣ p:=by
 rcases h with rfl | rfl | rfl | rfl <;> decide
theorem q12 {q r:Int} (h:q=17∨q=19∨q=23∨q=97) (h1:1≤r) (h2:r≤12):¬ q ∣ r:=fun z=>by
 have:=Int.le_of_dvd (by omega) z
 omega
def prT:Nat→Int
 | 0=>1
 | i + 1=>prT i * SP.getD i 1
theorem smL_ok (c:Int):∀ i,i≤6→(smL c i).1≠0∧((smL c i).1.natAbs:Int)≤prT i∧∀ q:Int,(q=17∨q=19∨q=23∨q=97)→¬ q ∣ (smL c i).1
 | 0,_=>by
  have z:=fmod_pos (a:=c) (b:=2) (by decide)
  have:c.fmod 2=0∨c.fmod 2=1:=by omega
  show (1 - 2 * c.fmod 2)≠0∧((1 - 2 * c.fmod 2).natAbs:Int)≤1∧∀ q:Int,_→¬ q ∣ (1 - 2 * c.fmod 2)
  rcases this with e | e <;> rw [e]
  ·refine ⟨by decide,by decide,fun q hq=>?_⟩
   rcases hq with rfl | rfl | rfl | rfl <;> decide
  ·refine ⟨by decide,by decide,fun q hq=>?_⟩
   rcases hq with rfl | rfl | rfl | rfl <;> decide
 | i + 1,hi=>by
  obtain ⟨h1,h2,h3⟩:=smL_ok c i (by omega)
  have hm:SP.getD i 1∈SP:=_root_.EP.getD_mem (by show i < 6; omega)
  have hg:=sp_ge _ hm
  have e:(smL c (i + 1)).1=if (smL c i).2.fmod 2=1 then (smL c i).1 * SP.getD i 1 else (smL c i).1:=rfl
  have ep:prT (i + 1)=prT i * SP.getD i 1:=rfl
  rw [e,ep]
  split
  ·refine ⟨Int.mul_ne_zero h1 (by omega),?_,fun q hq z=>?_⟩
   ·rw [Int.natAbs_mul,Int.natCast_mul,show ((SP.getD i 1).natAbs:Int)=SP.getD i 1 by omega]
    exact Int.mul_le_mul_of_nonneg_right h2 (by omega)
   ·rcases _root_.EP.euclid (qP hq) z with z | z
    ·exact h3 q hq z
    ·exact qSP hq _ hm z
  ·refine ⟨h1,?_,h3⟩
   have p0:0≤prT i:=by omega
   have:=Int.mul_le_mul_of_nonneg_left (show (1:Int)≤SP.getD i 1 by omega) p0
   omega
theorem smS_ok (c:Int):Pf (smS c):=by
 obtain ⟨h1,h2,h3⟩:=smL_ok c 6 (Nat.le_refl _)
 have:prT 6=30030:=by decide
 rw [this] at h2
 exact ⟨h1,by unfold smS; omega,h3⟩
set_option maxHeartbeats 1000000 in
include B in
theorem b_law_small (c:Int):Body P w K mg base N_law_small "_law_small" s_law_small f kk [.val false c] (RT true (smS c)):=by
 intro cdv A outer s H E hr
 refine s_asg 1 sc_law_small.nd (e_sub e_int (e_mul e_int (e_mod (e_var 0) e_int (by decide)) (mulL (by decide) (by decide)))) ?_
 refine s_asg 2 sc_law_small.nd (e_fdiv (e_var 0) e_int cdK) ?_
 refine s_forL (xs:=SP) (b:=true) (fun i Γ=>∃ r3,Γ=[some (.val false c),some (.val true (smL c i).1),some (.val true (smL c i).2),r3]) (g_name 3 sc_law_small.nd) (e_lst (ea_cons e_int (ea_cons e_int (ea_cons e_int (ea_cons e_int (ea_cons e_int (ea_cons e_int ea_nil)))))) (Nat.le_of_ble_eq_true rfl)) ⟨none,rfl⟩ ?_ ?_
 ·rintro i a Γ' ha ⟨r3,rfl⟩
  have hi:i < 6:=(List.getElem?_eq_some_iff.mp ha).1
  have eg:SP.getD i 1=a:=by rw [List.getD_eq_getElem?_getD,ha]; rfl
  have hm:=sp_lt a (List.mem_of_getElem? ha)
  have e:smL c (i + 1)=((if (smL c i).2.fmod 2=1 then (smL c i).1 * a else (smL c i).1),(smL c i).2.fdiv 2):=by rw [← eg]; rfl
  rw [e]
  refine s_ifJ (fun Γ=>Γ=[some (.val false c),some (.val true (if (smL c i).2.fmod 2=1 then (smL c i).1 * a else (smL c i).1)),some (.val true (smL c i).2),some (.val true a)]) (t_cmp cv_eqI (e_mod (e_var 2) e_int (by decide)) e_int) (fun hc=>?_) (fun hc=>?_) ?_
  ·rw [if_pos (by simpa using hc)]
   refine s_asg 1 sc_law_small.nd (e_mul (e_var 1) (e_var 3) (mulR (by omega) (by omega))) ?_
   exact s_nil rfl
  ·rw [if_neg (by simpa using hc)]
   exact s_nil rfl
  ·rintro Γ' rfl
   refine s_asg 2 sc_law_small.nd (e_fdiv (e_var 2) e_int cdK) ?_
   exact s_nil ⟨_,rfl⟩
 ·rintro Γ' ⟨r3,rfl⟩
  exact s_ret (e_var 1) rfl
def rtS (c:Int):Int:=if (c.fdiv 128).fmod 4=0 then 1 + (c.fdiv 512).fmod 12 else 1
def roL (c:Int):Nat→List Int × Int
 | 0=>([],c)
 | i + 1=>((roL c i).1 ++ [smS (roL c i).2 * rtS (roL c i).2 * rtS (roL c i).2],(roL c i).2.fdiv 6144)
def roS (c n:Int):List Int:=(roL c n.toNat).1
theorem rtS_ok (c:Int):1≤rtS c∧rtS c≤12:=by
 have z:=fmod_pos (a:=c.fdiv 512) (b:=12) (by decide)
 unfold rtS
 split <;> omega
def Rn (x:Int):Prop:=x≠0∧x.natAbs≤4324320∧∀ q:Int,(q=17∨q=19∨q=23∨q=97)→¬ q ∣ x
theorem rn_of {s r:Int} (h:Pf s) (h1:1≤r) (h2:r≤12):Rn (s * r * r):=by
 obtain ⟨a,b,c⟩:=h
 refine ⟨Int.mul_ne_zero (Int.mul_ne_zero a (by omega)) (by omega),?_,fun q hq z=>?_⟩
 ·rw [Int.natAbs_mul,Int.natAbs_mul]
  have k:r.natAbs≤12:=by omega
  have:=Nat.mul_le_mul (Nat.mul_le_mul b k) k
  omega
 ·rcases _root_.EP.euclid (qP hq) z with z | z
  ·rcases _root_.EP.euclid (qP hq) z with z | z
   ·exact c q hq z
   ·exact q12 hq h1 h2 z
  ·exact q12 hq h1 h2 z
theorem roL_ok (c:Int):∀ i:Nat,(roL c i).1.length=i∧∀ x∈(roL c i).1,Rn x
 | 0=>⟨rfl,fun x h=>by cases h⟩
 | i + 1=>by
  obtain ⟨a,b⟩:=roL_ok c i
  refine ⟨by simp [roL,a],fun x hx=>?_⟩
  rcases List.mem_append.mp hx with hx | hx
  ·exact b x hx
  ·rw [List.mem_singleton.mp hx]
   obtain ⟨r1,r2⟩:=rtS_ok (roL c i).2
   exact rn_of (smS_ok _) r1 r2
set_option maxHeartbeats 1000000 in
include B in
theorem b_law_row (c_law_small:Cal P w K mg base 1 "_law_small" ["_law_cell"] (sp1 K (fun (_:Int)=>True) true smS)) (c n:Int) (h0:0≤n) (h8:n≤8):Body P w K mg base N_law_row "_law_row" s_law_row f 1 [.val false c,.val false n] (RT true (roS c n)):=by
 intro cdv A outer s H E hr
 refine s_own 2 Int sc_law_row.nd ?_
 refine s_asg 3 sc_law_row.nd (e_var 0) ?_
 refine s_forRange (n:=n) (fun i Γ=>∃ b r4 r5,Γ=[some (.val false c),some (.val false n),some (.own true (roL c i).1),some (.val b (roL c i).2),r4,r5]) rfl B.range (g_name 4 sc_law_row.nd) (e_var 1) (by omega) (by omega) ⟨_,none,none,rfl⟩ ?_ ?_
 ·rintro i Γ' hi ⟨b,r4,r5,rfl⟩
  obtain ⟨l1,_⟩:=roL_ok c i
  obtain ⟨r1,r2⟩:=rtS_ok (roL c i).2
  refine s_asg 5 sc_law_row.nd e_int ?_
  refine s_ifJ (fun Γ=>Γ=[some (.val false c),some (.val false n),some (.own true (roL c i).1),some (.val b (roL c i).2),some (.val true (i:Int)),some (.val true (rtS (roL c i).2))]) (t_cmp cv_eqI (e_mod (e_fdiv (e_var 3) e_int cdK) e_int (by decide)) e_int) (fun hc=>?_) (fun hc=>?_) ?_
  ·have e:rtS (roL c i).2=1 + ((roL c i).2.fdiv 512).fmod 12:=if_pos (by simpa using hc)
   rw [e]
   refine s_asg 5 sc_law_row.nd (e_add e_int (e_mod (e_fdiv (e_var 3) e_int cdK) e_int (by decide))) ?_
   exact s_nil rfl
  ·have e:rtS (roL c i).2=1:=if_neg (by simpa using hc)
   rw [e]
   exact s_nil rfl
  ·rintro Γ' rfl
   refine s_append 2 (a:=smS (roL c i).2 * rtS (roL c i).2 * rtS (roL c i).2) rfl (e_mul (e_mul (e_call1 c_law_small (hr.mono (by decide)) rfl (e_var 3) True.intro) (e_var 5) (mulR (by omega) (by omega))) (e_var 5) (mulR (by omega) (by omega))) (by omega) ?_
   refine s_asg 3 sc_law_row.nd (e_fdiv (e_var 3) e_int cdK) ?_
   exact s_nil ⟨_,_,_,rfl⟩
 ·rintro Γ' ⟨b,r4,r5,rfl⟩
  refine s_freeze 2 rfl ?_
  exact s_ret (e_var 2) rfl
theorem atGetA {α:Type} {l:List α} {i:Int} {d:α} {n:Nat} (h0:0≤i) (h1:i < n) (hl:l.length=n):atI l i=some (l.getD i.toNat d):=by
 unfold atI ixN
 rw [if_pos h0,if_pos (by omega)]
 show l[i.toNat]?=_
 rw [List.getD_eq_getElem?_getD,List.getElem?_eq_getElem (by omega)]
 rfl
noncomputable def npx (x:Int):Nat:=(prt (x.natAbs:Int)).length
theorem np_le {x:Int} {M:List Int} (hx:x≠0) (h:∀ q,isP q=true→q ∣ x→q∈M):npx x≤M.length:=_root_.EP.prt_few (by omega) fun q h1 h2=>h q h1 (Int.dvd_natAbs.mp h2)
theorem fo_dvd {x:Int} (h0:x≠0) (hl:x.natAbs < 1073741824):foF x ∣ x:=by
 obtain ⟨s,_,_,e⟩:=foF_ex h0 hl
 exact ⟨s * s,e⟩
theorem jn_nz {a b:Int} (ha:a≠0) (hb:b≠0):jnF a b≠0:=by
 obtain ⟨_,x2,_,y2,_⟩:=jn_parts ha hb
 exact Int.mul_ne_zero x2 y2
noncomputable def sm6 (l:Int):Nat→Int
 | 0=>l
 | i + 1=>(_root_.EP.tko (sm6 l i) (SP.getD i 1)).2
noncomputable def smF (n:Int):Bool:=decide (n.natAbs < 1073741824) && decide (sm6 (n.natAbs:Int) 6=1)
theorem sp_prime:∀ p∈SP,isP p=true:=fun p hp=>by
 refine _root_.EP.PW_p ?_
 have:∀ p∈SP,p∈_root_.EP.PW:=by decide
 exact this p hp
theorem pow_dvd {q p:Int} (hq:isP q=true) (hp:isP p=true):∀ n:Nat,q ∣ p ^ n→q=p
 | 0,h=>by
  rw [Int.pow_zero] at h
  have:=Int.le_of_dvd (by decide) h
  have:=_root_.EP.isP_ge hq
  omega
 | n + 1,h=>by
  rw [Int.pow_succ] at h
  rcases _root_.EP.euclid hq h with z | z
  ·exact pow_dvd hq hp n z
  ·exact _root_.EP.prime_dvd_prime hq hp z
theorem sm6_ok {l:Int} (hl:l≠0):∀ i,i≤6→sm6 l i≠0∧∀ q,isP q=true→q ∣ l→q∈SP∨q ∣ sm6 l i
 | 0,_=>⟨hl,fun q _ h=>.inr h⟩
 | i + 1,hi=>by
  obtain ⟨h1,h2⟩:=sm6_ok hl i (by omega)
  have hm:SP.getD i 1∈SP:=_root_.EP.getD_mem (by show i < 6; omega)
  have hp:=sp_prime _ hm
  obtain ⟨k1,k2,k3⟩:=_root_.EP.tko_ok (_root_.EP.isP_ge hp) h1
  refine ⟨fun z=>k3 (by have z':(_root_.EP.tko (sm6 l i) (SP.getD i 1)).2=0:=z; rw [z']; exact Int.dvd_zero _),fun q hq hd=>?_⟩
  rcases h2 q hq hd with z | z
  ·exact .inl z
  ·rw [k2] at z
   rcases _root_.EP.euclid hq z with z | z
   ·exact .inr z
   ·rw [pow_dvd hq hp _ z]; exact .inl hm
theorem smF_ok {n:Int} (h0:n≠0) (h:smF n=true):n.natAbs < 1073741824∧∀ q,isP q=true→q ∣ n→q∈SP:=by
 unfold smF at h
 obtain ⟨h1,h2⟩:=Bool.and_eq_true_iff.mp h
 have h1:=of_decide_eq_true h1
 have h2:=of_decide_eq_true h2
 refine ⟨h1,fun q hq hd=>?_⟩
 rcases (sm6_ok (l:=(n.natAbs:Int)) (by omega) 6 (Nat.le_refl _)).2 q hq (Int.dvd_natAbs.mpr hd) with z | z
 ·exact z
 ·rw [h2] at z
  have:=Int.le_of_dvd (by decide) z
  have:=_root_.EP.isP_ge hq
  omega
set_option maxHeartbeats 1000000 in
include B in
theorem b_law_is_small (n:Int) (h0:n≠0):Body P w K mg base N_law_is_small "_law_is_small" s_law_is_small f kk [.val false n] (RT true (smF n)):=by
 intro cdv A outer s H E hr
 refine s_asg 1 sc_law_is_small.nd (e_eq (e_abs rfl B.abs (e_var 0)) (abN n)) ?_
 refine s_if1 (t_cmp cv_ge (e_var 1) e_int) (fun hc=>?_) (fun hc=>?_)
 ·have hc':(1073741824:Int)≤n.natAbs:=of_decide_eq_true hc
  have e:smF n=false:=by unfold smF; rw [decide_eq_false (by omega)]; rfl
  rw [e]
  exact s_ret e_bl rfl
 have hc':¬ (1073741824:Int)≤n.natAbs:=of_decide_eq_false hc
 refine s_forL (xs:=SP) (b:=true) (fun i Γ=>∃ r2,Γ=[some (.val false n),some (.val true (sm6 (n.natAbs:Int) i)),r2]∧i≤6) (g_name 2 sc_law_is_small.nd) (e_lst (ea_cons e_int (ea_cons e_int (ea_cons e_int (ea_cons e_int (ea_cons e_int (ea_cons e_int ea_nil)))))) (Nat.le_of_ble_eq_true rfl)) ⟨none,rfl,Nat.zero_le _⟩ ?_ ?_
 ·rintro i p Γ' hp ⟨r2,rfl,_⟩
  have hi:i < 6:=(List.getElem?_eq_some_iff.mp hp).1
  have eg:SP.getD i 1=p:=by rw [List.getD_eq_getElem?_getD,hp]; rfl
  obtain ⟨p2,p3⟩:=sp_lt p (List.mem_of_getElem? hp)
  obtain ⟨l0,_⟩:=sm6_ok (l:=(n.natAbs:Int)) (by omega) i (by omega)
  have e1:sm6 (n.natAbs:Int) (i + 1)=(_root_.EP.tko (sm6 (n.natAbs:Int) i) p).2:=by rw [← eg]; rfl
  rw [e1]
  generalize sm6 (n.natAbs:Int) i=x at *
  refine s_while (ι:=Int × Int) (fun u Γ=>Γ=[some (.val false n),some (.val true u.2),some (.val true p)]∧0≤u.1∧x=u.2 * p ^ u.1.toNat∧u.2≠0) (fun u=>u.2.natAbs) (0,x) ⟨rfl,Int.le_refl 0,by show x=x * p ^ (0:Int).toNat; rw [show (0:Int).toNat=0 from rfl,Int.pow_zero,Int.mul_one],l0⟩ ?_
  rintro ⟨m,l⟩ Γ' ⟨rfl,hm,he,hl⟩
  dsimp only at *
  refine ⟨_,t_cmp cv_eqI (e_mod (e_var 1) (e_var 2) (by omega)) e_int,fun hc=>?_,fun hc=>?_⟩
  ·have hc':l.fmod p=0:=of_decide_eq_true hc
   obtain ⟨a1,a2,a3,a4⟩:=tko_go hm he p2 hc' hl
   refine s_asg 1 sc_law_is_small.nd (e_fdiv (e_var 1) (e_var 2) (Sm.div (n:=10) (by unfold Sm; omega) (by omega))) ?_
   exact s_nil ⟨(m + 1,l.fdiv p),⟨rfl,a1,a2,a3⟩,a4⟩
  ·have hc':¬ l.fmod p=0:=of_decide_eq_false hc
   refine s_nil ⟨some (.val true p),?_,hi⟩
   rw [_root_.EP.tko_eq p2 (r:=(m,l)) ⟨hm,he,fun z=>hc' (_root_.EP.dvd_fmod.mpr z)⟩]
 ·rintro Γ' ⟨r2,rfl,_⟩
  have e:smF n=decide (sm6 (n.natAbs:Int) 6=1):=by unfold smF; rw [decide_eq_true (by omega),Bool.true_and]
  rw [e]
  exact s_ret (e_cmp cv_eqI (e_var 1) e_int) rfl
def Sx (x:Int):Prop:=x≠0∧x ∣ 30030
def SxR (r:List Int):Prop:=(1≤r.length∧r.length≤8)∧∀ x∈r,Sx x
theorem Sx.le {x:Int} (h:Sx x):x.natAbs≤30030:=by
 have:=Int.le_of_dvd (a:=(x.natAbs:Int)) (by decide) (Int.natAbs_dvd.mpr h.2)
 omega
theorem Sx.sp {x q:Int} (h:Sx x) (hq:isP q=true) (hd:q ∣ x):q∈SP:=by
 have hd2:=Int.dvd_trans hd h.2
 have e:(30030:Int)=2 * (3 * (5 * (7 * (11 * 13)))):=by decide
 rw [e] at hd2
 have pd:∀ {p:Int},p∈SP→q ∣ p→q∈SP:=fun {p} hp z=>by rw [_root_.EP.prime_dvd_prime hq (sp_prime p hp) z]; exact hp
 rcases _root_.EP.euclid hq hd2 with z | z
 ·exact pd (by decide) z
 rcases _root_.EP.euclid hq z with z | z
 ·exact pd (by decide) z
 rcases _root_.EP.euclid hq z with z | z
 ·exact pd (by decide) z
 rcases _root_.EP.euclid hq z with z | z
 ·exact pd (by decide) z
 rcases _root_.EP.euclid hq z with z | z
 ·exact pd (by decide) z
 ·exact pd (by decide) z
theorem sx_fo {x:Int} (h0:x≠0) (hl:x.natAbs < 1073741824) (h:∀ q,isP q=true→q ∣ x→q∈SP):Sx (foF x):=by
 obtain ⟨s,h1,h2,e⟩:=foF_ex h0 hl
 have f0:=h1.1
 have sp30:∀ p∈SP,p ∣ (30030:Int):=by decide
 have hsn:_root_.EP.Sqf ((foF x).natAbs:Int):=by
  rcases Int.natAbs_eq (foF x) with z | z
  ·rw [← z]; exact h1
  ·have:((foF x).natAbs:Int)=-foF x:=by omega
   rw [this]; exact _root_.EP.sqf_neg h1
 refine ⟨f0,Int.natAbs_dvd.mp (_root_.EP.sqf_all (n:=30030) _ ((foF x).natAbs:Int) (Nat.le_refl _) (by omega) hsn fun q hq hd=>?_)⟩
 exact sp30 q (h q hq (Int.dvd_trans (Int.dvd_natAbs.mp hd) (fo_dvd h0 hl)))
theorem sx_jn {a b:Int} (ha:Sx a) (hb:Sx b):Sx (jnF a b):=by
 refine ⟨jn_nz ha.1 hb.1,?_⟩
 unfold jnF
 have g0:0 < Int.gcd a b:=Int.gcd_pos_of_ne_zero_left b ha.1
 have key:∀ {x:Int},((Int.gcd a b:Nat):Int) ∣ x→x.fdiv ((Int.gcd a b:Nat):Int)=x / ((Int.gcd a b:Nat):Int):=fun {x} _=>Int.fdiv_eq_ediv_of_nonneg _ (by omega)
 rw [key (Int.gcd_dvd_left a b),key (Int.gcd_dvd_right a b)]
 have cop:Int.gcd (a / ((Int.gcd a b:Nat):Int)) (b / ((Int.gcd a b:Nat):Int))=1:=Int.gcd_ediv_gcd_ediv_gcd g0
 have d1:a / ((Int.gcd a b:Nat):Int) ∣ 30030:=by
  obtain ⟨c,hc⟩:=Int.gcd_dvd_left a b
  refine Int.dvd_trans ⟨((Int.gcd a b:Nat):Int),?_⟩ ha.2
  exact (Int.ediv_mul_cancel (Int.gcd_dvd_left a b)).symm
 have d2:b / ((Int.gcd a b:Nat):Int) ∣ 30030:=Int.dvd_trans ⟨((Int.gcd a b:Nat):Int),(Int.ediv_mul_cancel (Int.gcd_dvd_right a b)).symm⟩ hb.2
 generalize a / ((Int.gcd a b:Nat):Int)=u at *
 generalize b / ((Int.gcd a b:Nat):Int)=v at *
 obtain ⟨c,hc⟩:=d1
 rw [hc] at d2 ⊢
 exact Int.mul_dvd_mul_left u (_root_.EP.cop_dvd (k:=v) (n:=c) (m:=u) (by rw [Int.mul_comm]; exact d2) (by rw [Int.gcd_comm]; exact cop))
theorem sx_set {r:List Int} {i:Nat} {x:Int} (h:SxR r) (hx:Sx x):SxR (r.set i x):=by
 refine ⟨by rw [List.length_set]; exact h.1,fun y hy=>?_⟩
 rcases List.mem_or_eq_of_mem_set hy with z | z
 ·exact h.2 y z
 ·rw [z]; exact hx
open _root_.EP (wiA Pl)
def OtP (r r':List Int):Prop:=SxR r'∧r'.length=r.length∧∀ p,Pl p→wiA p r'=wiA p r
theorem SxR.nz {r:List Int} (h:SxR r):∀ x∈r,x≠0:=fun x hx=>(h.2 x hx).1
theorem jn_ex {a b:Int} (ha:a≠0) (hb:b≠0):∃ g,0 < g∧a * b=jnF a b * (g * g):=by
 obtain ⟨g0,x2,_,y2,_⟩:=jn_parts ha hb
 obtain ⟨u,hu⟩:=Int.gcd_dvd_left a b
 obtain ⟨v,hv⟩:=Int.gcd_dvd_right a b
 have eu:a.fdiv ((Int.gcd a b:Nat):Int)=u:=by
  have:=Int.mul_fdiv_cancel_left u g0
  rw [← hu] at this
  exact this
 have ev:b.fdiv ((Int.gcd a b:Nat):Int)=v:=by
  have:=Int.mul_fdiv_cancel_left v g0
  rw [← hv] at this
  exact this
 have ej:jnF a b=u * v:=by unfold jnF; rw [eu,ev]
 refine ⟨((Int.gcd a b:Nat):Int),by omega,?_⟩
 rw [ej]
 generalize ((Int.gcd a b:Nat):Int)=g at *
 rw [hu,hv]
 grind
theorem ot_step {l:List Int} {i j:Nat} {a c x y m:Int} (hl:∀ x∈l,x≠0) (hij:i≠j) (hi:i < l.length) (hj:j < l.length) (ea:l.getD i 0=a) (ec:l.getD j 0=c) (a0:a≠0) (c0:c≠0) (m0:m≠0) (ml:m.natAbs < 1073741824) (em:a * x * x + c * y * y=m) {p:Int} (hp:Pl p):wiA p ((l.set j (jnF (jnF a c) (foF m))).set i (foF m))=wiA p l:=by
 obtain ⟨s,h1,h2,h3⟩:=foF_ex m0 ml
 have j0:=jn_nz a0 c0
 obtain ⟨g,g0,e1⟩:=jn_ex a0 c0
 obtain ⟨k,k0,e2⟩:=jn_ex j0 h1.1
 refine _root_.EP.wiA_set (x:=x) (y:=y) (s:=s) (t:=g * k) hl hij hi hj ea ec h1.1 (jn_nz j0 h1.1) (by omega) (Int.mul_ne_zero (by omega) (by omega)) (by rw [em,Int.mul_assoc]; exact h3) ?_ hp
 generalize foF m=f at *
 generalize jnF (jnF a c) f=d at *
 generalize jnF a c=q at *
 rw [e1]
 have:q * (g * g) * f=q * f * (g * g):=by grind
 rw [this,e2]
 grind
set_option maxHeartbeats 2000000 in
include B in
theorem b_law_other (c_law_free:Cal P w K mg base 2 "_law_free" ["_law_number"] (sp1 K (fun (n:Int)=>n≠0∧n.natAbs < 1073741824) true foF)) (c_law_free_times:Cal P w K mg base 2 "_law_free_times" ["_law_one","_law_other_here"] (sp2 K PJn true jnF)) (c_law_is_small:Cal P w K mg base 1 "_law_is_small" ["_law_number"] (sp1 K (fun n=>n≠0) true smF)) (row:List Int) (cell:Int) (h:SxR row):Body P w K mg base N_law_other "_law_other" s_law_other f 2 [.val false row,.val false cell] (RTE true (fun r'=>OtP row r')):=by
 intro cdv A outer s H E hr
 refine s_ownlistT 2 sc_law_other.nd rfl B.list (e_var 0) ?_
 refine s_forRange (n:=4) (fun i Γ=>∃ b1 cl new r3 r4 r5 r6 r7 r8 r9,Γ=[some (.val false row),some (.val b1 (cl:Int)),some (.own true (new:List Int)),r3,r4,r5,r6,r7,r8,r9]∧SxR new∧new.length=row.length∧∀ p,Pl p→wiA p new=wiA p row) rfl B.range (g_name 3 sc_law_other.nd) e_int (by decide) (by decide) ⟨_,_,_,none,none,none,none,none,none,none,rfl,h,rfl,fun _ _=>rfl⟩ ?_ ?_
 ·rintro t Γ' ht ⟨b1,cl,new,r3,r4,r5,r6,r7,r8,r9,rfl,hs,hl,hw⟩
  have l1:=hs.1
  have lI:(1:Int)≤new.length:=by omega
  refine s_asg 4 sc_law_other.nd (e_mod (e_var 1) (e_borrowO 2 rfl (e_lenL rfl B.len (e_var 2))) (by omega)) ?_
  refine s_asg 5 sc_law_other.nd (e_mod (e_fdiv (e_var 1) e_int cdK) (e_borrowO 2 rfl (e_lenL rfl B.len (e_var 2))) (by omega)) ?_
  refine s_asg 6 sc_law_other.nd (e_mod (e_fdiv (e_var 1) e_int cdK) e_int (by decide)) ?_
  refine s_asg 7 sc_law_other.nd (e_add e_int (e_mod (e_fdiv (e_var 1) e_int cdK) e_int (by decide))) ?_
  refine s_asg 1 sc_law_other.nd (e_fdiv (e_var 1) e_int cdK) ?_
  have i1:=fmod_pos (a:=cl) (b:=(new.length:Int)) (by omega)
  have j1:=fmod_pos (a:=cl.fdiv 8) (b:=(new.length:Int)) (by omega)
  have x1:=fmod_pos (a:=cl.fdiv 64) (b:=4) (by decide)
  have y1:=fmod_pos (a:=cl.fdiv 256) (b:=3) (by decide)
  generalize cl.fmod (new.length:Int)=i at *
  generalize (cl.fdiv 8).fmod (new.length:Int)=j at *
  generalize (cl.fdiv 64).fmod 4=x at *
  generalize (cl.fdiv 256).fmod 3=y at *
  have ai:Sx (new.getD i.toNat 0):=hs.2 _ (_root_.EP.getD_mem (by omega))
  have aj:Sx (new.getD j.toNat 0):=hs.2 _ (_root_.EP.getD_mem (by omega))
  have gi:atI new i=some (new.getD i.toNat 0):=atGetA i1.1 i1.2 rfl
  have gj:atI new j=some (new.getD j.toNat 0):=atGetA j1.1 j1.2 rfl
  have ai1:=ai.le
  have aj1:=aj.le
  generalize hA:new.getD i.toNat 0=a at *
  generalize hC:new.getD j.toNat 0=c at *
  refine s_asg 8 sc_law_other.nd (e_add (e_mul (e_mul (e_ixO 2 rfl (e_var 4) gi) (e_var 6) (mulL (by omega) (by omega))) (e_var 6) (mulR (by omega) (by omega))) (e_mul (e_mul (e_ixO 2 rfl (e_var 5) gj) (e_var 7) (mulL (by omega) (by omega))) (e_var 7) (mulR (by omega) (by omega)))) ?_
  generalize hM:a * x * x + c * (1 + y) * (1 + y)=m at *
  by_cases m0:m=0
  ·refine s_if1 (c:=(!decide (i=j)) && false) (TW.t (tw_and (t_cmp cv_neI (e_var 4) (e_var 5)) fun _=>(by
    have e:false=((!decide (m=0)) && false):=by rw [Bool.and_false]
    rw [e]
    exact tw_and (t_cmp cv_neI (e_var 8) e_int) fun h=>absurd m0 (by simpa using h)))) (fun hc=>?_) (fun _=>?_)
   ·rw [Bool.and_false] at hc; cases hc
   ·exact s_nil ⟨_,_,new,_,_,_,_,_,_,_,rfl,hs,hl,hw⟩
  ·refine s_if1 (TW.t (tw_and (t_cmp cv_neI (e_var 4) (e_var 5)) fun _=>(tw_and (t_cmp cv_neI (e_var 8) e_int) fun _=>(tw_and1 (t_val (e_call1 c_law_is_small (hr.mono (by decide)) rfl (e_var 8) m0)))))) (fun hc=>?_) (fun _=>?_)
   ·have hij:i≠j:=fun z=>by
     rw [decide_eq_true z] at hc
     cases hc
    have hsm:smF m=true:=by
     obtain ⟨_,z⟩:=Bool.and_eq_true_iff.mp hc
     exact (Bool.and_eq_true_iff.mp z).2
    obtain ⟨ml,mp⟩:=smF_ok m0 hsm
    have sc:=sx_fo m0 ml mp
    have sj:=sx_jn ai aj
    have sd:=sx_jn sj sc
    have smx:∀ {z:Int},Sx z→Sm 400 z:=fun {z} hz=>(show Sm 20 z by have:=hz.le; unfold Sm; omega).le (by decide)
    refine s_asg 9 sc_law_other.nd (e_call1 c_law_free (hr.mono (by decide)) rfl (e_var 8) ⟨m0,ml⟩) ?_
    refine s_setO 2 rfl (e_var 5) (e_call2 c_law_free_times (hr.mono (by decide)) rfl (e_call2 c_law_free_times (hr.mono (by decide)) rfl (e_ixO 2 rfl (e_var 4) gi) (e_ixO 2 rfl (e_var 5) gj) ⟨ai.1,aj.1,smx ai,smx aj⟩) (e_var 9) ⟨sj.1,sc.1,smx sj,smx sc⟩) j1.1 j1.2 ?_
    refine s_setO 2 rfl (e_var 4) (e_var 9) i1.1 (by rw [List.length_set]; exact i1.2) ?_
    exact s_nil (s_nil ⟨_,_,_,_,_,_,_,_,_,_,rfl,sx_set (sx_set hs sd) sc,by rw [List.length_set,List.length_set]; exact hl,fun p hp=>(ot_step hs.nz (fun z=>hij (by omega)) (by omega) (by omega) hA hC ai.1 aj.1 m0 ml hM hp).trans (hw p hp)⟩)
   ·exact s_nil ⟨_,_,new,_,_,_,_,_,_,_,rfl,hs,hl,hw⟩
 ·rintro Γ' ⟨b1,cl,new,r3,r4,r5,r6,r7,r8,r9,rfl,hs,hl,hw⟩
  refine s_freeze 2 rfl ?_
  exact s_ret (e_var 2) ⟨_,⟨hs,hl,hw⟩,rfl⟩
theorem p12 {r q:Int} (h1:1≤r) (h2:r≤12) (hq:isP q=true) (hd:q ∣ r):q∈SP:=by
 have q2:=_root_.EP.isP_ge hq
 have ql:=Int.le_of_dvd (by omega) hd
 have no:∀ {d:Int},2≤d→d < q→¬ d ∣ q:=fun {d} h1 h2 z=>by
  rcases _root_.EP.isP_dvd hq (by omega) z with e | e <;> omega
 have:q=2∨q=3∨q=4∨q=5∨q=6∨q=7∨q=8∨q=9∨q=10∨q=11∨q=12:=by omega
 rcases this with rfl | rfl | rfl | rfl | rfl | rfl | rfl | rfl | rfl | rfl | rfl
 ·decide
 ·decide
 ·exact absurd (by decide) (no (d:=2) (by decide) (by decide))
 ·decide
 ·exact absurd (by decide) (no (d:=2) (by decide) (by decide))
 ·decide
 ·exact absurd (by decide) (no (d:=2) (by decide) (by decide))
 ·exact absurd (by decide) (no (d:=3) (by decide) (by decide))
 ·exact absurd (by decide) (no (d:=2) (by decide) (by decide))
 ·decide
 ·exact absurd (by decide) (no (d:=2) (by decide) (by decide))
theorem smL_sp (c:Int):∀ i,i≤6→∀ q,isP q=true→q ∣ (smL c i).1→q∈SP
 | 0,_,q,hq,hd=>by
  have z:=fmod_pos (a:=c) (b:=2) (by decide)
  have hd:q ∣ 1 - 2 * c.fmod 2:=hd
  have e:1 - 2 * c.fmod 2=1∨1 - 2 * c.fmod 2=-1:=by omega
  have:q ∣ 1:=by rcases e with e | e <;> rw [e] at hd; exact hd; exact Int.dvd_neg.mp hd
  have:=Int.le_of_dvd (by decide) this
  have:=_root_.EP.isP_ge hq
  omega
 | i + 1,hi,q,hq,hd=>by
  have hm:SP.getD i 1∈SP:=_root_.EP.getD_mem (by show i < 6; omega)
  have e:(smL c (i + 1)).1=if (smL c i).2.fmod 2=1 then (smL c i).1 * SP.getD i 1 else (smL c i).1:=rfl
  rw [e] at hd
  split at hd
  ·rcases _root_.EP.euclid hq hd with z | z
   ·exact smL_sp c i (by omega) q hq z
   ·rw [_root_.EP.prime_dvd_prime hq (sp_prime _ hm) z]; exact hm
  ·exact smL_sp c i (by omega) q hq hd
theorem roL_sp (c:Int):∀ i:Nat,∀ x∈(roL c i).1,∀ q,isP q=true→q ∣ x→q∈SP
 | 0,x,h=>by cases h
 | i + 1,x,hx=>fun q hq hd=>by
  rcases List.mem_append.mp hx with hx | hx
  ·exact roL_sp c i x hx q hq hd
  ·rw [List.mem_singleton.mp hx] at hd
   obtain ⟨r1,r2⟩:=rtS_ok (roL c i).2
   rcases _root_.EP.euclid hq hd with z | z
   ·rcases _root_.EP.euclid hq z with z | z
    ·exact smL_sp _ 6 (Nat.le_refl _) q hq z
    ·exact p12 r1 r2 hq z
   ·exact p12 r1 r2 hq z
open _root_.EP (HM)
def Ex (x:Int):Prop:=x≠0∧x.natAbs≤4324320∧npx x≤6∧(foF x).natAbs≤1000000
def DrP (r:List Int):Prop:=(1≤r.length∧r.length≤8)∧∀ x∈r,Ex x
theorem np_small {x:Int} (h0:x≠0) (hl:x.natAbs < 270270):npx x≤6:=by
 apply Classical.byContradiction
 intro hn
 have:=_root_.EP.prt_oc (k:=(x.natAbs:Int)) (by omega) (n:=6) (by unfold npx at hn; omega)
 have e:2 * _root_.EP.oc 1 6=270270:=by decide
 omega
theorem ex_small {x:Int} (h0:x≠0) (hl:x.natAbs≤99999):Ex x:=⟨h0,by omega,np_small h0 (by omega),by have:=(foF_le h0 (by omega)).2; omega⟩
theorem ex_sp {x:Int} (h0:x≠0) (hl:x.natAbs≤4324320) (h:∀ q,isP q=true→q ∣ x→q∈SP):Ex x:=⟨h0,hl,np_le (M:=SP) h0 h,by have:=(sx_fo h0 (by omega) h).le; omega⟩
theorem ro_dr {c n:Int} (h1:1≤n) (h8:n≤8):DrP (roS c n)∧(roS c n).length=n.toNat:=by
 obtain ⟨l,hx⟩:=roL_ok c n.toNat
 have l:(roS c n).length=n.toNat:=l
 exact ⟨⟨by omega,fun x hx'=>ex_sp (hx x hx').1 (hx x hx').2.1 (roL_sp c n.toNat x hx')⟩,l⟩
theorem flat60 {f:Int→List Int} {B:Nat}:∀ {l:List Int},(∀ a∈l,(f a).length≤B)→(l.flatMap f).length≤B * l.length
 | [],_=>by simp
 | a :: l,h=>by
  have ih:=flat60 (l:=l) fun b hb=>h b (by simp [hb])
  have:=h a (by simp)
  rw [List.flatMap_cons,List.length_append,List.length_cons,Nat.mul_add]
  omega
theorem row60 {l:List Int} (h1:1≤l.length) (h2:l.length≤8) (h:∀ n∈l,n≠0∧n.natAbs < 1073741824):isRow l=true:=by
 unfold isRow
 rw [Bool.and_eq_true,decide_eq_true_iff,List.all_eq_true]
 refine ⟨⟨h1,h2⟩,fun a ha=>?_⟩
 have:=h a ha
 unfold irn
 rw [decide_eq_true_iff]
 omega
theorem hm_pre {r:List Int} (h1:1≤r.length) (h8:r.length≤8) (h:∀ x∈r,x≠0∧x.natAbs < 1073741824∧npx x≤7):PHm r:=by
 refine ⟨row60 h1 h8 fun n hn=>⟨(h n hn).1,(h n hn).2.1⟩,⟨by omega,fun k hk=>by have:=h k hk; omega,?_⟩⟩
 unfold poL
 rw [List.length_cons]
 have:=flat60 (f:=fun k=>(prt (k.natAbs:Int)).map (·.1)) (B:=7) (l:=r) fun a ha=>by rw [List.length_map]; exact (h a ha).2.2
 omega
theorem DrP.hm {r:List Int} (h:DrP r):PHm r:=hm_pre h.1.1 h.1.2 fun x hx=>⟨(h.2 x hx).1,by have:=(h.2 x hx).2.1; omega,by have:=(h.2 x hx).2.2.1; omega⟩
theorem opp60 {a b:Int} (ha:a≠0) (hb:b≠0) (h:_root_.EP.hvZ [a,b] 0=true):(0 < a∧b < 0)∨(a < 0∧0 < b):=by
 rw [_root_.EP.hvZ_nought] at h
 obtain ⟨⟨x,hx,x0⟩,⟨y,hy,y0⟩⟩:=h
 have mx:x=a∨x=b:=by simpa using hx
 have my:y=a∨y=b:=by simpa using hy
 omega
theorem sqf60 {m:Int} (h:Sqf m):Sqf (m.natAbs:Int):=⟨by have:=h.1; omega,fun d hd hdv=>h.2 d hd (Int.dvd_natAbs.mp hdv)⟩
theorem fo_abs {a s:Int} (s0:0 < s) (e:a=foF a * (s * s)):(a.natAbs:Int)=((foF a).natAbs:Int) * s * s:=by
 generalize foF a=f at *
 rw [e,Int.natAbs_mul,Int.natCast_mul,Int.natAbs_mul,Int.natCast_mul,show ((s.natAbs:Nat):Int)=s by omega,Int.mul_assoc]
theorem DrP.fb {r:List Int} (h:DrP r):PFb r:=by
 refine ⟨h.hm.row,h.hm.po,?_⟩
 rintro a b rfl hz
 obtain ⟨a0,al,_,af⟩:=h.2 a (by simp)
 obtain ⟨b0,bl,_,bf⟩:=h.2 b (by simp)
 obtain ⟨s,s1,s0,se⟩:=foF_ex a0 (by omega)
 obtain ⟨t,t1,t0,te⟩:=foF_ex b0 (by omega)
 have ea:=fo_abs s0 se
 have eb:=fo_abs t0 te
 have fa:=s1.1
 have fb:=t1.1
 refine _root_.EP.fin2_of (f:=((foF a).natAbs:Int)) (g:=((foF b).natAbs:Int)) (s:=s) (t:=t) (sqf60 s1) (sqf60 t1) (by omega) (by omega) (by omega) (by omega) (by omega) (by omega) ?_
 rw [← ea,← eb]
 rcases opp60 a0 b0 hz with ⟨z1,z2⟩ | ⟨z1,z2⟩
 ·rw [show (a.natAbs:Int)=a by omega,show (b.natAbs:Int)=-b by omega]; grind
 ·rw [show (a.natAbs:Int)=-a by omega,show (b.natAbs:Int)=b by omega]
def sz60:List Int:=[1,2,3,4,5,6,8,8]
theorem sz60_ok:∀ x∈sz60,1≤x∧x≤8:=by decide
theorem dg_ex (c:Int):Ex ((1 + c.fmod 99999) * (1 - 2 * (c.fdiv 99999).fmod 2)):=by
 have z1:=fmod_pos (a:=c) (b:=99999) (by decide)
 have z2:=fmod_pos (a:=c.fdiv 99999) (b:=2) (by decide)
 have:(c.fdiv 99999).fmod 2=0∨(c.fdiv 99999).fmod 2=1:=by omega
 rcases this with e | e <;> rw [e]
 ·exact ex_small (by omega) (by omega)
 ·exact ex_small (by omega) (by omega)
set_option maxHeartbeats 1000000 in
include B in
theorem b_law_drawn (c_law_row:Cal P w K mg base 2 "_law_row" ["_law_cell","_law_size"] (sp2 K (fun (_ n:Int)=>0≤n∧n≤8) true roS)) (c o:Int):Body P w K mg base N_law_drawn "_law_drawn" s_law_drawn f 2 [.val false c,.val false o] (RTE true (fun r=>DrP r)):=by
 intro cdv A outer s H E hr
 have z8:=fmod_pos (a:=o) (b:=8) (by decide)
 have hs:=sz60_ok _ (_root_.EP.getD_mem (l:=sz60) (d:=0) (i:=(o.fmod 8).toNat) (by show _ < 8; omega))
 refine s_asg 2 sc_law_drawn.nd (e_ixL (e_lst (b:=true) (as:=sz60) (ea_cons e_int (ea_cons e_int (ea_cons e_int (ea_cons e_int (ea_cons e_int (ea_cons e_int (ea_cons e_int (ea_cons e_int ea_nil)))))))) (Nat.le_of_ble_eq_true rfl)) (e_mod (e_var 1) e_int (by decide)) (atGetA (d:=0) (n:=8) (by omega) (by omega) rfl)) ?_
 generalize sz60.getD (o.fmod 8).toNat 0=n at *
 obtain ⟨dr,_⟩:=ro_dr (c:=c) hs.1 hs.2
 refine s_asg 3 sc_law_drawn.nd (e_call2 c_law_row (hr.mono (by decide)) rfl (e_var 0) (e_var 2) ⟨by omega,by omega⟩) ?_
 refine s_if1 (t_cmp cv_eqI (e_mod (e_fdiv (e_var 1) e_int cdK) e_int (by decide)) e_int) (fun _=>?_) (fun _=>?_)
 ·refine s_own 3 Int sc_law_drawn.nd ?_
  refine s_forRange (n:=n) (fun i Γ=>∃ b cl l r4,Γ=[some (.val b (cl:Int)),some (.val false o),some (.val true n),some (.own true (l:List Int)),r4]∧l.length=i∧∀ x∈l,Ex x) rfl B.range (g_name 4 sc_law_drawn.nd) (e_var 2) (by omega) (by omega) ⟨_,_,[],none,rfl,rfl,fun x hx=>by cases hx⟩ ?_ ?_
  ·rintro i Γ' hi ⟨b,cl,l,r4,rfl,hl,hx⟩
   refine s_append 3 rfl (e_mul (e_add e_int (e_mod (e_var 0) e_int (by decide))) (e_sub e_int (e_mul e_int (e_mod (e_fdiv (e_var 0) e_int cdK) e_int (by decide)) (mulL (by decide) (by decide)))) (mulL (by have:=fmod_pos (a:=cl) (b:=99999) (by decide); omega) (by have:=fmod_pos (a:=cl) (b:=99999) (by decide); omega))) (by omega) ?_
   refine s_asg 0 sc_law_drawn.nd (e_fdiv (e_var 0) e_int cdK) ?_
   exact s_nil ⟨_,_,_,_,rfl,by rw [List.length_append,hl]; rfl,fun x hx'=>by
    rcases List.mem_append.mp hx' with z | z
    ·exact hx x z
    ·rw [List.mem_singleton.mp z]; exact dg_ex cl⟩
  ·rintro Γ' ⟨b,cl,l,r4,rfl,hl,hx⟩
   refine s_nil (s_freeze 3 rfl ?_)
   exact s_ret (e_var 3) ⟨_,⟨by omega,hx⟩,rfl⟩
 ·exact s_ret (e_var 3) ⟨_,dr,rfl⟩
def prs:List (List Int):=[[],[2,-2],[3,-3,1,-1],[1,-1,1,-1]]
theorem prs_sx:∀ q∈prs,q.length≤4∧∀ x∈q,x≠0∧x ∣ 30030:=by decide
theorem prs_add {q r:List Int} (hq:q∈prs) (h1:1≤r.length) (hr:∀ x∈r,x≠0) {p:Int} (hp:Pl p):wiA p (r ++ q)=q.length / 2 + wiA p r:=by
 have hx:=(prs_sx q hq).2
 have nz:∀ x∈r ++ q,x≠0:=fun x hx'=>by
  rcases List.mem_append.mp hx' with z | z
  ·exact hr x z
  ·exact (hx x z).1
 have two:∀ x∈(1:Int) :: -1 :: r,x≠0:=fun x hx'=>by
  rcases List.mem_cons.mp hx' with z | z
  ·omega
  ·rcases List.mem_cons.mp z with z | z
   ·omega
   ·exact hr x z
 rw [_root_.EP.wiA_perm hp (List.perm_append_comm) nz]
 simp only [prs,List.mem_cons,List.not_mem_nil,or_false] at hq
 rcases hq with rfl | rfl | rfl | rfl
 ·show wiA p r=0 + wiA p r
  omega
 ·exact _root_.EP.wiA_pair hp (t:=2) (by decide) hr h1
 ·have a:=_root_.EP.wiA_pair hp (t:=3) (by decide) two (by simp)
  have b:=_root_.EP.wiA_pair hp (t:=1) (by decide) hr h1
  show wiA p ((3:Int) :: -3 :: 1 :: -1 :: r)=2 + wiA p r
  rw [a,b]
  omega
 ·have a:=_root_.EP.wiA_pair hp (t:=1) (by decide) two (by simp)
  have b:=_root_.EP.wiA_pair hp (t:=1) (by decide) hr h1
  show wiA p ((1:Int) :: -1 :: 1 :: -1 :: r)=2 + wiA p r
  rw [a,b]
  omega
theorem SxR.hm {r:List Int} (h:SxR r):PHm r:=hm_pre h.1.1 h.1.2 fun x hx=>⟨(h.2 x hx).1,by have:=(h.2 x hx).le; omega,Nat.le_trans (np_le (M:=SP) (h.2 x hx).1 fun q hq hd=>(h.2 x hx).sp hq hd) (by decide)⟩
theorem hm_add {r l:List Int} {k:Nat} (hr:PHm r) (hl:PHm l) (h:∀ p,Pl p→wiA p l=k + wiA p r):hmF l=hmF r + k:=by
 obtain ⟨a,ea,ha⟩:=hm_ok hr.row
 obtain ⟨b,eb,hb⟩:=hm_ok hl.row
 have:=HM.add h ha hb
 rw [ea,eb]
 omega
def sz60b:List Int:=[1,2,3,1,2,3,4,4]
theorem sz60b_ok:∀ x∈sz60b,1≤x∧x≤4:=by decide
set_option maxHeartbeats 2000000 in
include B in
theorem b_law_turned_alike (c_how_many_pairs:Cal P w K mg base 7 "how_many_pairs" ["row"] (sp1 K PHm true hmF)) (c_law_row:Cal P w K mg base 2 "_law_row" ["_law_cell","_law_size"] (sp2 K (fun (_ n:Int)=>0≤n∧n≤8) true roS)) (c_law_free:Cal P w K mg base 2 "_law_free" ["_law_number"] (sp1 K (fun (n:Int)=>n≠0∧n.natAbs < 1073741824) true foF)) (c_law_other:Cal P w K mg base 3 "_law_other" ["_law_row_here","_law_cell"] (spE2 K (fun (r:List Int) (_:Int)=>SxR r) true (fun r _ r'=>OtP r r'))) (c o:Int):Body P w K mg base N_law_turned_alike "_law_turned_alike" s_law_turned_alike f 7 [.val false c,.val false o] (RT true true):=by
 intro cdv A outer s H E hr
 have z8:=fmod_pos (a:=o) (b:=8) (by decide)
 have z4:=fmod_pos (a:=o.fdiv 8) (b:=4) (by decide)
 have hs:=sz60b_ok _ (_root_.EP.getD_mem (l:=sz60b) (d:=0) (i:=(o.fmod 8).toNat) (by show _ < 8; omega))
 have hq:prs.getD ((o.fdiv 8).fmod 4).toNat []∈prs:=_root_.EP.getD_mem (by show _ < 4; omega)
 refine s_asg 2 sc_law_turned_alike.nd (e_ixL (e_lst (b:=true) (as:=sz60b) (ea_cons e_int (ea_cons e_int (ea_cons e_int (ea_cons e_int (ea_cons e_int (ea_cons e_int (ea_cons e_int (ea_cons e_int ea_nil)))))))) (Nat.le_of_ble_eq_true rfl)) (e_mod (e_var 1) e_int (by decide)) (atGetA (d:=0) (n:=8) (by omega) (by omega) rfl)) ?_
 generalize sz60b.getD (o.fmod 8).toNat 0=n at *
 obtain ⟨⟨_,dr⟩,dl⟩:=ro_dr (c:=c) (n:=n) (by omega) (by omega)
 have hsp:=roL_sp c n.toNat
 refine s_comp 3 sc_law_turned_alike.nd (b':=true) (f:=foF) ["_law_number"] [] (cscope (defScope s_law_turned_alike) N_law_turned_alike rfl rfl (by decide +kernel)) (ei_list (e_call2 c_law_row (hr.mono (by decide)) rfl (e_var 0) (e_var 2) ⟨by omega,by omega⟩)) (gp_name 0) (fun C s H fp=>pg_cn 0 ["_law_number"]) lt_of_eq (fun i x hx C s H fp=>e_call1 c_law_free (hr.mono (by decide)) rfl (e_var 0) (by have:=dr x (List.mem_of_getElem? hx); exact ⟨this.1,by have:=this.2.1; omega⟩)) (by omega) ?_
 have hx:∀ x∈(roS c n).map foF,Sx x:=fun x hx=>by
  obtain ⟨y,hy,rfl⟩:=List.mem_map.mp hx
  exact sx_fo (dr y hy).1 (by have:=(dr y hy).2.1; omega) (hsp y hy)
 have hl:((roS c n).map foF).length=n.toNat:=by rw [List.length_map,dl]
 generalize (roS c n).map foF=r at *
 refine s_asg 4 sc_law_turned_alike.nd (e_ixL (e_lst (b:=true) (as:=prs) (ea_cons (e_lst (b:=true) (as:=([]:List Int)) ea_nil (Nat.le_of_ble_eq_true rfl)) (ea_cons (e_lst (b:=true) (as:=[(2:Int),-2]) (ea_cons e_int (ea_cons (e_neg e_int) ea_nil)) (Nat.le_of_ble_eq_true rfl)) (ea_cons (e_lst (b:=true) (as:=[(3:Int),-3,1,-1]) (ea_cons e_int (ea_cons (e_neg e_int) (ea_cons e_int (ea_cons (e_neg e_int) ea_nil)))) (Nat.le_of_ble_eq_true rfl)) (ea_cons (e_lst (b:=true) (as:=[(1:Int),-1,1,-1]) (ea_cons e_int (ea_cons (e_neg e_int) (ea_cons e_int (ea_cons (e_neg e_int) ea_nil)))) (Nat.le_of_ble_eq_true rfl)) ea_nil)))) (Nat.le_of_ble_eq_true rfl)) (e_mod (e_fdiv (e_var 1) e_int cdK) e_int (by decide)) (atGetA (d:=[]) (n:=4) (by omega) (by omega) rfl)) ?_
 generalize prs.getD ((o.fdiv 8).fmod 4).toNat []=q at *
 obtain ⟨q4,qx⟩:=prs_sx q hq
 have SR:SxR r:=⟨by omega,hx⟩
 have SQ:SxR (r ++ q):=⟨by rw [List.length_append]; omega,fun x hx'=>by
  rcases List.mem_append.mp hx' with z | z
  ·exact hx x z
  ·exact qx x z⟩
 have key:∀ p,Pl p→wiA p (r ++ q)=q.length / 2 + wiA p r:=fun p hp=>prs_add hq (by omega) SR.nz hp
 refine s_asgX 5 sc_law_turned_alike.nd (ex_argE2 c_law_other (hr.mono (by decide)) rfl (ex_call2 c_law_other (hr.mono (by decide)) rfl (e_cat (e_var 3) (e_var 4) (by omega)) (e_fdiv (e_var 0) e_int cdK) SQ) (e_fdiv (e_var 1) e_int cdK) fun a ha=>ha.1) fun tr htr=>?_
 obtain ⟨l2,⟨_,_,w2⟩,⟨h3,_,w3⟩⟩:=htr
 have e1:=hm_add (k:=q.length / 2) SR.hm SQ.hm key
 have e2:=hm_add (k:=q.length / 2) SR.hm h3.hm fun p hp=>by rw [w3 p hp,w2 p hp,key p hp]
 have ed:((q.length:Int)).fdiv 2=((q.length / 2:Nat):Int):=by rw [Int.fdiv_eq_ediv_of_nonneg _ (by decide)]; omega
 refine s_asg 6 sc_law_turned_alike.nd (e_eq (a':=hmF r + ((q.length / 2:Nat):Int)) (e_add (e_call1 c_how_many_pairs (hr.mono (by decide)) rfl (e_var 3) SR.hm) (e_fdiv (e_lenL rfl B.len (e_var 4)) e_int cdK)) (by rw [ed])) ?_
 refine s_ret (e_and (e_cmp cv_eqI (e_call1 c_how_many_pairs (hr.mono (by decide)) rfl (e_cat (e_var 3) (e_var 4) (by omega)) SQ.hm) (e_var 6)) fun _=>(e_one (e_cmp cv_eqI (e_call1 c_how_many_pairs (hr.mono (by decide)) rfl (e_var 5) h3.hm) (e_var 6)))) ?_
 rw [decide_eq_true e1,decide_eq_true e2]
 rfl
theorem t_to {X:Cx} {Γ:GEnv} {e:Expr} {c c':Bool} (h:T X Γ e c) (z:c=c'):T X Γ e c':=z ▸ h
def PHd (r:List Int) (t pl:Int):Prop:=DrP r∧(t≠0∧t.natAbs≤99999)∧0≤pl∧pl≤r.length
def hL (r:List Int) (t:Int) (n:Nat):List Int:=(r.take n ++ [t,0 - t]) ++ r.drop n
def hT (r:List Int) (t:Int):List Int:=([t,0 - t] ++ r) ++ [0 - t,t]
theorem t_el {t x:Int} (h:t≠0∧t.natAbs≤99999) (hx:x=t∨x=0 - t):x≠0∧x.natAbs < 1073741824∧npx x≤7:=by
 have:x≠0∧x.natAbs≤99999:=by omega
 exact ⟨this.1,by omega,Nat.le_trans (np_small this.1 (by omega)) (by decide)⟩
theorem r_el {r:List Int} {x:Int} (h:DrP r) (hx:x∈r):x≠0∧x.natAbs < 1073741824∧npx x≤7:=⟨(h.2 x hx).1,by have:=(h.2 x hx).2.1; omega,by have:=(h.2 x hx).2.2.1; omega⟩
theorem hL_perm (r:List Int) (t:Int) (n:Nat):(hL r t n).Perm (t :: -t :: r):=by
 unfold hL
 have e:t :: -t :: r=([t,0 - t] ++ r.take n) ++ r.drop n:=by
  rw [List.append_assoc,List.take_append_drop]
  show t :: -t :: r=t :: (0 - t) :: r
  rw [Int.zero_sub]
 rw [e]
 exact List.perm_append_comm.append_right _
theorem hT_perm (r:List Int) (t:Int):(hT r t).Perm (t :: -t :: -t :: - -t :: r):=by
 unfold hT
 have e:t :: -t :: -t :: - -t :: r=[t,0 - t] ++ ([0 - t,t] ++ r):=by
  show t :: -t :: -t :: - -t :: r=t :: (0 - t) :: (0 - t) :: t :: r
  rw [Int.zero_sub,Int.neg_neg]
 rw [e,List.append_assoc]
 exact List.perm_append_comm.append_left _
theorem hL_ok {r:List Int} {t:Int} {n:Nat} (h:DrP r) (ht:t≠0∧t.natAbs≤99999) (hl:r.length < 7):PHm (hL r t n)∧hmF (hL r t n)=hmF r + 1:=by
 have hp:=hL_perm r t n
 have el:∀ x∈hL r t n,x≠0∧x.natAbs < 1073741824∧npx x≤7:=fun x hx=>by
  rcases List.mem_cons.mp (hp.mem_iff.mp hx) with z | z
  ·exact t_el ht (.inl z)
  ·rcases List.mem_cons.mp z with z | z
   ·exact t_el ht (.inr (by omega))
   ·exact r_el h z
 have hlen:(hL r t n).length=r.length + 2:=hp.length_eq
 have P1:PHm (hL r t n):=hm_pre (by omega) (by omega) el
 refine ⟨P1,hm_add (k:=1) h.hm P1 fun p hp'=>?_⟩
 rw [_root_.EP.wiA_perm hp' hp fun x hx=>(el x hx).1]
 exact _root_.EP.wiA_pair hp' ht.1 (fun x hx=>(r_el h hx).1) h.1.1
theorem hT_ok {r:List Int} {t:Int} (h:DrP r) (ht:t≠0∧t.natAbs≤99999) (hl:r.length < 5):PHm (hT r t)∧hmF (hT r t)=hmF r + 2:=by
 have hp:=hT_perm r t
 have el:∀ x∈hT r t,x≠0∧x.natAbs < 1073741824∧npx x≤7:=fun x hx=>by
  rcases List.mem_cons.mp (hp.mem_iff.mp hx) with z | z
  ·exact t_el ht (.inl z)
  ·rcases List.mem_cons.mp z with z | z
   ·exact t_el ht (.inr (by omega))
   ·rcases List.mem_cons.mp z with z | z
    ·exact t_el ht (.inr (by omega))
    ·rcases List.mem_cons.mp z with z | z
     ·exact t_el ht (.inl (by omega))
     ·exact r_el h z
 have hlen:(hT r t).length=r.length + 4:=hp.length_eq
 have P1:PHm (hT r t):=hm_pre (by omega) (by omega) el
 have nz:∀ x∈r,x≠0:=fun x hx=>(r_el h hx).1
 have nz2:∀ x∈-t :: - -t :: r,x≠0:=fun x hx=>by
  rcases List.mem_cons.mp hx with z | z
  ·omega
  ·rcases List.mem_cons.mp z with z | z
   ·omega
   ·exact nz x z
 refine ⟨P1,hm_add (k:=2) h.hm P1 fun p hp'=>?_⟩
 have a:=_root_.EP.wiA_pair hp' ht.1 nz2 (by simp)
 have b:=_root_.EP.wiA_pair hp' (t:=-t) (by omega) nz h.1.1
 rw [_root_.EP.wiA_perm hp' hp fun x hx=>(el x hx).1,a,b]
 omega
theorem sqs_map {k:Int} (hk:k≠0):∀ r:List Int,_root_.EP.Sqs r (r.map fun x=>x * k * k)
 | []=>.nil
 | _ :: r=>.cons hk (sqs_map hk r)
theorem hW_ok {r:List Int} {k:Int} (h:DrP r) (k1:1≤k) (k3:k≤3):PHm (r.map fun x=>x * k * k)∧hmF (r.map fun x=>x * k * k)=hmF r:=by
 have el:∀ x∈r.map (fun x=>x * k * k),x≠0∧x.natAbs < 1073741824∧npx x≤7:=fun x hx=>by
  obtain ⟨y,hy,rfl⟩:=List.mem_map.mp hx
  obtain ⟨y0,yl,yp,_⟩:=h.2 y hy
  have x0:y * k * k≠0:=Int.mul_ne_zero (Int.mul_ne_zero y0 (by omega)) (by omega)
  refine ⟨x0,?_,?_⟩
  ·show (y * k * k).natAbs < _
   rw [Int.natAbs_mul,Int.natAbs_mul]
   have kk:k.natAbs≤3:=by omega
   have:=Nat.mul_le_mul (Nat.mul_le_mul yl kk) kk
   omega
  ·have hq3:∀ q,isP q=true→q ∣ k→q=k:=fun q hq hd=>by
    have q2:=_root_.EP.isP_ge hq
    have:=Int.le_of_dvd (by omega) hd
    obtain ⟨c,hc⟩:=hd
    have:k=2∨k=3:=by omega
    rcases this with rfl | rfl
    ·omega
    ·have:q=2∨q=3:=by omega
     rcases this with rfl | rfl
     ·omega
     ·rfl
   have:=np_le (x:=y * k * k) (M:=(prt (y.natAbs:Int)).map (·.1) ++ [k]) x0 fun q hq hd=>by
    rcases _root_.EP.euclid hq hd with z | z
    ·rcases _root_.EP.euclid hq z with z | z
     ·exact List.mem_append_left _ ((_root_.EP.mem_prt (by omega)).mpr ⟨hq,Int.dvd_natAbs.mpr z⟩)
     ·exact List.mem_append_right _ (List.mem_singleton.mpr (hq3 q hq z))
    ·exact List.mem_append_right _ (List.mem_singleton.mpr (hq3 q hq z))
   rw [List.length_append,List.length_map,List.length_singleton] at this
   have e:(prt (y.natAbs:Int)).length=npx y:=rfl
   omega
 have P1:PHm (r.map fun x=>x * k * k):=hm_pre (by rw [List.length_map]; exact h.1.1) (by rw [List.length_map]; exact h.1.2) el
 have:=hm_add (k:=0) h.hm P1 fun p hp'=>by
  rw [_root_.EP.wiA_sqs hp' (sqs_map (show k≠0 by omega) r) fun x hx=>(r_el h hx).1]
  omega
 exact ⟨P1,by omega⟩
theorem hR_ok {r:List Int} (h:DrP r):PHm r.reverse∧hmF r.reverse=hmF r:=by
 have P1:PHm r.reverse:=hm_pre (by rw [List.length_reverse]; exact h.1.1) (by rw [List.length_reverse]; exact h.1.2) fun x hx=>r_el h (List.mem_reverse.mp hx)
 have:=hm_add (k:=0) h.hm P1 fun p hp'=>by
  rw [_root_.EP.wiA_perm hp' (List.reverse_perm r) fun x hx=>(r_el h (List.mem_reverse.mp hx)).1]
  omega
 exact ⟨P1,by omega⟩
theorem hm_bd {r:List Int} (h:PHm r):0≤hmF r∧2 * hmF r≤r.length∧hmF r≤(_root_.EP.abv r:Int)∧hmF r≤r.length - (_root_.EP.abv r:Int):=by
 obtain ⟨m,e,h1,_⟩:=hm_ok h.row
 have:=h1 0 (.inl rfl)
 have ha:=_root_.EP.abv_le r
 have e0:wiA 0 r=min (_root_.EP.abv r) (r.length - _root_.EP.abv r):=by unfold _root_.EP.wiA; rw [if_pos rfl]
 rw [e0] at this
 omega
theorem hm_zero {r:List Int} (h:PHm r):decide (hmF r=0)=!(_root_.EP.fwF r).isNone:=by
 obtain ⟨m,e,h1,p,hp,h2⟩:=hm_ok h.row
 have nz:∀ x∈r,x≠0:=fun x hx=>(isRow_mem h.row hx).1
 have l1:=(isRow_len h.row).1
 have ok:=_root_.EP.fwF_ok r
 cases ef:_root_.EP.fwF r with
 | none =>
  rw [ef] at ok
  refine decide_eq_false fun z=>?_
  have m0:wiA p r=0:=by omega
  have hv:=(_root_.EP.wiA_zero hp nz l1).mp m0
  have ok':_root_.EP.hvZ r 0=true∧∀ q,isP q=true→_root_.EP.hvZ r q=true:=ok
  have:_root_.EP.hvZ r p=true:=by
   rcases hp with z | z
   ·rw [z]; exact ok'.1
   ·exact ok'.2 p z
  rw [hv] at this
  cases this
 | some q =>
  rw [ef] at ok
  refine decide_eq_true ?_
  have ok':_root_.EP.hvZ r q=false∧(q=0∨(isP q=true∧_root_.EP.hvZ r 0=true∧∀ u,isP u=true→u < q→_root_.EP.hvZ r u=true)):=ok
  obtain ⟨hq,hv⟩:Pl q∧_root_.EP.hvZ r q=false:=⟨ok'.2.imp id (fun z=>z.1),ok'.1⟩
  have:=h1 q hq
  rw [(_root_.EP.wiA_zero hq nz l1).mpr hv] at this
  omega
set_option maxHeartbeats 4000000 in
include B in
theorem b_law_held (c_how_many_pairs:Cal P w K mg base 7 "how_many_pairs" ["row"] (sp1 K PHm true hmF)) (c_first_without:Cal P w K mg base 10 "first_without" ["row"] (sp1 K PFb true _root_.EP.fwF)) (r:List Int) (t pl:Int) (h:PHd r t pl):Body P w K mg base N_law_held "_law_held" s_law_held f 10 [.val false r,.val false t,.val false pl] (RT true true):=by
 intro cdv A outer s H E hr
 obtain ⟨hd,ht,p0,p1⟩:=h
 have l1:=hd.1
 have bd:=hm_bd hd.hm
 have ha:=_root_.EP.abv_le r
 refine s_asg 3 sc_law_held.nd (e_listT rfl B.list (e_var 0)) ?_
 refine s_asg 4 sc_law_held.nd (e_call1 c_how_many_pairs (hr.mono (by decide)) rfl (e_var 3) hd.hm) ?_
 refine s_asg 5 sc_law_held.nd (e_eq (a':=(_root_.EP.abv r:Int)) (e_lenL rfl B.len (e_compF (f:=fun q:Int=>q) (p:=fun q=>decide (0 < q)) (b':=true) ["_law_number"] [] (cscope (defScope s_law_held) N_law_held rfl rfl (by decide +kernel)) (ei_list (e_var 0)) (gp_name 0) (fun C s H fp=>pg_cn 0 ["_law_number"]) lt_of_eq (fun i q hi C s H fp=>ft_one (t_cmp cv_gt (e_var 0) e_int)) (fun i q hi hp C s H fp=>e_up (e_var 0)) (by omega))) (by rw [List.length_map]; rfl)) ?_
 refine s_if1 (c:=false) (t_to (TW.t (tw_or (t_not (t_val (e_isII rfl B.isinstance rfl B.int (e_var 4)))) fun _=>(tw_or (t_val (e_isIB rfl B.isinstance rfl B.bool (e_var 4))) fun _=>(tw_or (t_cmp (cv_ne (α:=List Int) (hu60 hr)) (e_var 3) (e_var 0)) fun _=>(tw_or1 (t_cmp cv_lt (e_var 4) e_int)))))) (by
  rw [decide_eq_true (rfl:r=r),decide_eq_false (show ¬ hmF r < 0 by omega)]; rfl)) (fun hc=>nomatch hc) (fun _=>?_)
 refine s_if1 (c:=false) (t_to (TW.t (tw_or (t_cmp cv_gt (e_mul e_int (e_var 4) (mulL (by decide) (by decide))) (e_lenL rfl B.len (e_var 0))) fun _=>(tw_or (t_cmp cv_gt (e_var 4) (e_var 5)) fun _=>(tw_or1 (t_cmp cv_gt (e_var 4) (e_sub (e_lenL rfl B.len (e_var 0)) (e_var 5))))))) (by
  rw [decide_eq_false (show ¬ (r.length:Int) < 2 * hmF r by omega),decide_eq_false (show ¬ (_root_.EP.abv r:Int) < hmF r by omega),decide_eq_false (show ¬ (r.length:Int) - (_root_.EP.abv r:Int) < hmF r by omega)]; rfl)) (fun hc=>nomatch hc) (fun _=>?_)
 refine s_if1 (c:=false) (t_to (t_cmp (cv_ne (α:=Bool) (hu60 hr)) (e_cmp cv_eqI (e_var 4) e_int) (e_nN (e_call1 c_first_without (hr.mono (by decide)) rfl (e_var 0) hd.fb) fun _ _ _ _ h=>nomatch h)) (by rw [decide_eq_true (hm_zero hd.hm)]; rfl)) (fun hc=>nomatch hc) (fun _=>?_)
 refine s_asg 6 sc_law_held.nd (e_cat (e_cat (e_toT (e_var 0) (e_var 2) p0) (e_lst (as:=[t,0 - t]) (b:=true) (ea_cons (e_up (e_var 1)) (ea_cons (e_sub e_int (e_var 1)) ea_nil)) (by show 2≤1000; decide)) (by rw [List.length_take]; show _ + 2≤1000; omega)) (e_fromN (e_var 0) (e_var 2) p0) (by rw [List.length_append,List.length_take,List.length_drop]; show _ + 2 + _≤1000; omega)) ?_
 show S _ [some (.val false r),some (.val false t),some (.val false pl),some (.val true r),some (.val true (hmF r)),some (.val true (_root_.EP.abv r:Int)),some (.val true (hL r t pl.toNat)),none,none] _ _
 refine s_if1 (c:=false) (by
  by_cases z:(r.length:Int) < 7
  ·obtain ⟨q1,q2⟩:=hL_ok (n:=pl.toNat) hd ht (by omega)
   exact t_to (TW.t (tw_and (t_cmp cv_lt (e_lenL rfl B.len (e_var 0)) e_int) fun _=>(tw_and1 (t_cmp cv_neI (e_call1 c_how_many_pairs (hr.mono (by decide)) rfl (e_var 6) q1) (e_add (e_var 4) e_int))))) (by rw [decide_eq_true q2]; simp)
  ·exact t_to (TW.t (tw_and (c':=false) (t_cmp cv_lt (e_lenL rfl B.len (e_var 0)) e_int) fun w=>absurd (of_decide_eq_true w) z)) (by simp)) (fun hc=>nomatch hc) (fun _=>?_)
 refine s_if1 (c:=false) (by
  by_cases z:(r.length:Int) < 5
  ·obtain ⟨q1,q2⟩:=hT_ok hd ht (by omega)
   exact t_to (TW.t (tw_and (t_cmp cv_lt (e_lenL rfl B.len (e_var 0)) e_int) fun _=>(tw_and1 (t_cmp cv_neI (e_call1 (a:=hT r t) c_how_many_pairs (hr.mono (by decide)) rfl (e_cat (e_catB (e_lst (as:=[t,0 - t]) (b:=true) (ea_cons (e_up (e_var 1)) (ea_cons (e_sub e_int (e_var 1)) ea_nil)) (by show 2≤1000; decide)) (e_var 0) (by show 2 + _≤2 ^ 23; omega)) (e_lst (as:=[0 - t,t]) (b:=true) (ea_cons (e_sub e_int (e_var 1)) (ea_cons (e_up (e_var 1)) ea_nil)) (by show 2≤1000; decide)) (by rw [List.length_append]; show 2 + _ + 2≤1000; omega)) q1) (e_add (e_var 4) e_int))))) (by rw [decide_eq_true q2]; simp)
  ·exact t_to (TW.t (tw_and (c':=false) (t_cmp cv_lt (e_lenL rfl B.len (e_var 0)) e_int) fun w=>absurd (of_decide_eq_true w) z)) (by simp)) (fun hc=>nomatch hc) (fun _=>?_)
 have z3:=fmod_pos (a:=pl) (b:=3) (by decide)
 refine s_asg 7 sc_law_held.nd (e_add e_int (e_mod (e_var 2) e_int (by decide))) ?_
 generalize hk:1 + pl.fmod 3=k at *
 have sk:Sm 3 k:=by unfold Sm; omega
 refine s_compF 8 sc_law_held.nd (b':=true) (f:=fun x:Int=>x * k * k) (p:=fun x=>decide ((x.natAbs:Int) < 100000000)) ["_law_number"] [7] (cscope (defScope s_law_held) N_law_held rfl rfl (by decide +kernel)) (ei_list (e_var 0)) (gp_name 0) (fun C s H fp=>pg_cn 0 ["_law_number","_law_root_here"]) lt_of_eq (fun i x hx C s H fp=>ft_one (t_cmp cv_lt (e_eq (e_abs rfl B.abs (e_var 0)) (abN x)) e_int)) (fun i x hx hp C s H fp=>e_mul (e_mul (e_var 0) (e_var 1) (mulR (by omega) (by omega))) (e_var 1) (mulR (by omega) (by omega))) (by omega) ?_
 have ef:r.filter (fun x=>decide ((x.natAbs:Int) < 100000000))=r:=List.filter_eq_self.mpr fun x hx=>decide_eq_true (by have:=(hd.2 x hx).2.1; omega)
 rw [ef]
 obtain ⟨w1,w2⟩:=hW_ok (k:=k) hd (by omega) (by omega)
 refine s_if1 (c:=false) (t_to (TW.t (tw_and (t_cmp cv_eqI (e_lenL rfl B.len (e_var 8)) (e_lenL rfl B.len (e_var 0))) fun _=>(tw_and1 (t_cmp cv_neI (e_call1 c_how_many_pairs (hr.mono (by decide)) rfl (e_var 8) w1) (e_var 4))))) (by rw [decide_eq_true w2]; simp)) (fun hc=>nomatch hc) (fun _=>?_)
 obtain ⟨v1,v2⟩:=hR_ok hd
 refine s_ret (e_cmp cv_eqI (e_call1 c_how_many_pairs (hr.mono (by decide)) rfl (e_listRev rfl rfl B.list rfl B.reversed (e_var 0)) v1) (e_var 4)) ?_
 rw [decide_eq_true v2]
 rfl
def cl60 (xs:List Int) (k:Int):List Int:=(seqI 0 1 3).map fun j=>bg9 (dcell xs (k + j)) (k + j)
theorem rs60 {n:Int} {i:Nat} {m:Int} (hn:n≤m) (h:i < (Builtin.Range.rangeSize 0 n 3).toNat):(0:Int) + (i:Int) * 3 < m:=by
 unfold Builtin.Range.rangeSize at h
 simp at h
 split at h <;> omega
theorem dg_t (c:Int):(1 + c.fmod 99999) * (1 - 2 * (c.fdiv 99999).fmod 2)≠0∧((1 + c.fmod 99999) * (1 - 2 * (c.fdiv 99999).fmod 2)).natAbs≤99999:=by
 have z1:=fmod_pos (a:=c) (b:=99999) (by decide)
 have z2:=fmod_pos (a:=c.fdiv 99999) (b:=2) (by decide)
 have:(c.fdiv 99999).fmod 2=0∨(c.fdiv 99999).fmod 2=1:=by omega
 rcases this with e | e <;> rw [e] <;> omega
set_option maxHeartbeats 4000000 in
include B in
theorem b_law (c_law_cell_at:Cal P w K mg base 1 "_law_cell_at" ["_law_script","_law_k"] (sp2 K (fun _ k=>0≤k) true dcell)) (c_law_big:Cal P w K mg base 1 "_law_big" ["_law_cell","_law_k"] (sp2 K (fun _ k=>0≤k∧k≤100) true bg9)) (c_law_small:Cal P w K mg base 1 "_law_small" ["_law_cell"] (sp1 K (fun (_:Int)=>True) true smS)) (c_law_drawn:Cal P w K mg base 3 "_law_drawn" ["_law_cell","_law_other_here"] (spE2 K (fun (_ _:Int)=>True) true (fun _ _ r=>DrP r))) (c_law_held:Cal P w K mg base 11 "_law_held" ["_law_row_here","_law_t","_law_place"] (sp3 K PHd true (fun _ _ _=>true))) (c_law_turned_alike:Cal P w K mg base 8 "_law_turned_alike" ["_law_cell","_law_other_here"] (sp2 K (fun (_ _:Int)=>True) true (fun _ _=>true))) (xs:List Int) (hl:xs.length≤63) :
  Body P w K mg base N_law "law" s_law f 11 [.val false xs] (RT true true):=by
 intro cdv A outer s H E hr
 have hl':(if (xs.length:Int) < 9 then (xs.length:Int) else 9)≤9∧0≤(if (xs.length:Int) < 9 then (xs.length:Int) else 9):=by split <;> omega
 refine s_forRange3 (fun i Γ=>∃ r1 r2 r3 r4,Γ=[some (.val false xs),r1,r2,r3,r4]) rfl B.range (g_name 1 sc_law.nd) e_int (e_add (e_min rfl rfl B.min e_int (e_lenL rfl B.len (e_var 0))) e_int) e_int ⟨by decide,by decide,by omega,by omega⟩ (by decide) ⟨none,none,none,none,rfl⟩ ?_ ?_
 ·rintro i Γ' hi ⟨r1,r2,r3,r4,rfl⟩
  have hi':=rs60 (m:=10) (by omega) hi
  refine s_comp 2 sc_law.nd (b':=true) (f:=fun j:Int=>bg9 (dcell xs ((0:Int) + (i:Int) * 3 + j)) ((0:Int) + (i:Int) * 3 + j)) ["_law_j"] [0,1] (cscope (defScope s_law) N_law rfl rfl (by decide +kernel)) (ei_range rfl B.range e_int (by decide) (by decide)) (gp_name 0) (fun C s H fp=>pg_cn 0 ["_law_j","_law_script","_law_k"]) lt_of_eq (fun j a ha C s H fp=>?_) (by decide) ?_
  ·have hm:0≤a∧a < 3:=by
    have:=List.mem_of_getElem? ha
    simp [seqI] at this
    omega
   exact e_call2 c_law_big (hr.mono (by decide)) rfl (e_call2 c_law_cell_at (hr.mono (by decide)) rfl (e_var 1) (e_add (e_var 2) (e_var 0)) (by omega)) (e_add (e_var 2) (e_var 0)) ⟨by omega,by omega⟩
  show S _ [some (.val false xs),some (.val true ((0:Int) + (i:Int) * 3)),some (.val true (cl60 xs ((0:Int) + (i:Int) * 3))),r3,r4] _ _
  obtain ⟨c0,c1,c2,hcl⟩:∃ c0 c1 c2,cl60 xs ((0:Int) + (i:Int) * 3)=[c0,c1,c2]:=⟨_,_,_,rfl⟩
  rw [hcl]
  refine s_asgX 3 sc_law.nd (ex_call2 c_law_drawn (hr.mono (by decide)) rfl (e_ixL (a:=c0) (e_var 2) e_int rfl) (e_ixL (a:=c1) (e_var 2) e_int rfl) True.intro) fun row hrow=>?_
  have z9:=fmod_pos (a:=c2) (b:=99999) (by decide)
  refine s_asg 4 sc_law.nd (e_mul (e_add e_int (e_mod (e_ixL (a:=c2) (e_var 2) e_int rfl) e_int (by decide))) (e_sub e_int (e_mul e_int (e_mod (e_fdiv (e_ixL (a:=c2) (e_var 2) e_int rfl) e_int cdK) e_int (by decide)) (mulL (by decide) (by decide)))) (mulL (by omega) (by omega))) ?_
  refine s_ifJ (fun Γ=>∃ t,Γ=[some (.val false xs),some (.val true ((0:Int) + (i:Int) * 3)),some (.val true [c0,c1,c2]),some (.val true row),some (.val true (t:Int))]∧t≠0∧t.natAbs≤99999) (t_cmp cv_eqI (e_mod (e_fdiv (e_ixL (a:=c1) (e_var 2) e_int rfl) e_int cdK) e_int (by decide)) e_int) (fun _=>?_) (fun _=>s_nil ⟨_,rfl,dg_t c2⟩) ?_
  ·refine s_asg 4 sc_law.nd (e_call1 c_law_small (hr.mono (by decide)) rfl (e_ixL (a:=c2) (e_var 2) e_int rfl) True.intro) ?_
   obtain ⟨s1,s2,_⟩:=smS_ok c2
   exact s_nil ⟨_,rfl,s1,by omega⟩
  rintro Γ' ⟨t,rfl,ht⟩
  have zp:=fmod_pos (a:=c1.fdiv 64) (b:=(row.length:Int) + 1) (by omega)
  refine s_if1 (t_not (t_val (e_call3 c_law_held (hr.mono (by decide)) rfl (e_var 3) (e_var 4) (e_mod (e_fdiv (e_ixL (a:=c1) (e_var 2) e_int rfl) e_int cdK) (e_add (e_lenL rfl B.len (e_var 3)) e_int) (by omega)) ⟨hrow,ht,zp.1,by omega⟩))) (fun hc=>nomatch hc) (fun _=>?_)
  refine s_if1 (t_not (t_val (e_call2 c_law_turned_alike (hr.mono (by decide)) rfl (e_ixL (a:=c2) (e_var 2) e_int rfl) (e_fdiv (e_ixL (a:=c1) (e_var 2) e_int rfl) e_int cdK) True.intro))) (fun hc=>nomatch hc) (fun _=>?_)
  exact s_nil ⟨_,_,_,_,rfl⟩
 ·rintro Γ' ⟨r1,r2,r3,r4,rfl⟩
  exact s_ret e_bl rfl
end
end L2.EP.K
namespace L2.EP.K
open PySem PySem.Spec PyProof.Rows
open _root_.EP (fr fd)
open _root_.EP (isP qv mlL wiR wiP hasP wiA abv HM)
open _root_.EP (Sqf isP prt)
open _root_.EP (Sqf isP)
open _root_.EP (wiA Pl)
open _root_.EP (HM)
set_option maxHeartbeats 0 in
theorem fin {lp:Program} {w:World} {K:PySem.W.Frag} {h:Heap} {mg:Str→Option Value} {fa:Addr} (X:K.In h) (G:h.Ns mainGlobals mg) (hfa:mg "law"=some (.ref fa)) (B:Bu mg)
  (g_GREAT_FROM:MgI mg "GREAT_FROM" 1073741824) (g_LONGEST:MgI mg "LONGEST" 8) (d_is_whole:Df K "is_whole" s_is_whole) (d_power_by:Df K "power_by" s_power_by) (d_taken_out:Df K "taken_out" s_taken_out) (d_square_root:Df K "square_root" s_square_root) (d_square_root_or_none:Df K "square_root_or_none" s_square_root_or_none) (d_next_divisor:Df K "next_divisor" s_next_divisor) (d_is_prime:Df K "is_prime" s_is_prime) (d_divided:Df K "divided" s_divided) (d_parts:Df K "parts" s_parts) (d_square_by:Df K "square_by" s_square_by) (d_class_at:Df K "class_at" s_class_at) (d_two_says:Df K "two_says" s_two_says) (d_odd_says:Df K "odd_says" s_odd_says) (d_says:Df K "says" s_says) (d_primes_of:Df K "primes_of" s_primes_of) (d_is_row_number:Df K "is_row_number" s_is_row_number) (d_is_row:Df K "is_row" s_is_row) (d_refuse_no_row:Df K "refuse_no_row" s_refuse_no_row) (d_is_no:Df K "is_no" s_is_no) (d_is_square_at:Df K "is_square_at" s_is_square_at) (d_three_have_zero:Df K "three_have_zero" s_three_have_zero) (d_four_have_zero:Df K "four_have_zero" s_four_have_zero) (d_have_zero:Df K "have_zero" s_have_zero) (d_next_prime:Df K "next_prime" s_next_prime) (d_first_prime_without:Df K "first_prime_without" s_first_prime_without) (d_first_barring:Df K "first_barring" s_first_barring) (d_first_without:Df K "first_without" s_first_without) (d_product_of_all:Df K "product_of_all" s_product_of_all) (d_has_pair_at:Df K "has_pair_at" s_has_pair_at) (d_pairs_at_prime:Df K "pairs_at_prime" s_pairs_at_prime) (d_pairs_at_nought:Df K "pairs_at_nought" s_pairs_at_nought) (d_how_many_pairs:Df K "how_many_pairs" s_how_many_pairs) (d_law_cell_at:Df K "_law_cell_at" s_law_cell_at) (d_law_big:Df K "_law_big" s_law_big) (d_law_common:Df K "_law_common" s_law_common) (d_law_root:Df K "_law_root" s_law_root) (d_law_free:Df K "_law_free" s_law_free) (d_law_free_times:Df K "_law_free_times" s_law_free_times) (d_law_small:Df K "_law_small" s_law_small) (d_law_row:Df K "_law_row" s_law_row) (d_law_is_small:Df K "_law_is_small" s_law_is_small) (d_law_other:Df K "_law_other" s_law_other) (d_law_drawn:Df K "_law_drawn" s_law_drawn) (d_law_turned_alike:Df K "_law_turned_alike" s_law_turned_alike) (d_law_held:Df K "_law_held" s_law_held) (d_law:Df K "law" s_law) :
  ∃ fd:FuncData,(∀ (s:Shared) (u:Value),BindsTo s fd ⟨[u],[]⟩ [("_law_script",u)])∧∀ base:Heap,K.In base→base.Ns mainGlobals mg→FnOk lp w K mg base CX0 12 fa fd ["_law_script"] (spLaw K):=by
 refine law_end d_law X G hfa (fun _ _ _ _ _ _ s u=>.of_eq rfl) fun base _ _ f fd F=>?_
 have c_is_whole:Cal lp w K mg base 1 "is_whole" ["k"] (sp1 K (fun (_:Int)=>True) true (fun _=>true)):=d_is_whole.cal X G (fun _ _ _ _ _ _ us hl=>match us,hl with | [_],_=>rfl) fun f fd F=>fn1 F sc_is_whole rfl fun a _=>b_is_whole B a
 have c_power_by:Cal lp w K mg base 1 "power_by" ["base","exponent","m"] (sp3 K (fun _ e m=>0≤e∧1≤m∧m < 2 ^ 62) true pwm):=d_power_by.cal X G (fun _ _ _ _ _ _ us hl=>match us,hl with | [_,_,_],_=>rfl) fun f fd F=>fn3 F sc_power_by rfl fun a b c hp=>b_power_by a b c hp.1 hp.2.1 hp.2.2
 have c_taken_out:Cal lp w K mg base 1 "taken_out" ["k","divisor"] (sp2 K (fun k d=>k≠0∧2≤d∧Sm 9000 d) true _root_.EP.tko):=d_taken_out.cal X G (fun _ _ _ _ _ _ us hl=>match us,hl with | [_,_],_=>rfl) fun f fd F=>fn2 F sc_taken_out rfl fun a b hp=>b_taken_out a b hp.1 hp.2.1 hp.2.2
 have c_square_root:Cal lp w K mg base 1 "square_root" ["k"] (sp1 K (fun k=>0≤k∧Sm 8000 k) true _root_.EP.rt):=d_square_root.cal X G (fun _ _ _ _ _ _ us hl=>match us,hl with | [_],_=>rfl) fun f fd F=>fn1 F sc_square_root rfl fun a hp=>b_square_root a hp.1 hp.2
 have c_square_root_or_none:Cal lp w K mg base 2 "square_root_or_none" ["k"] (sp1 K (fun k=>Sm 8000 k) true rtO):=d_square_root_or_none.cal X G (fun _ _ _ _ _ _ us hl=>match us,hl with | [_],_=>rfl) fun f fd F=>fn1 F sc_square_root_or_none rfl fun a hp=>b_square_root_or_none c_square_root a hp
 have c_next_divisor:Cal lp w K mg base 2 "next_divisor" ["k","begin","end"] (sp3 K (fun k b e=>1≤k∧Sm 8000 k∧1≤b∧b < 2 ^ 62∧-(2 ^ 62)≤e∧e < 2 ^ 62) true _root_.EP.ndv):=d_next_divisor.cal X G (fun _ _ _ _ _ _ us hl=>match us,hl with | [_,_,_],_=>rfl) fun f fd F=>fn3 F sc_next_divisor rfl fun a b c hp=>b_next_divisor B c_square_root a b c hp
 have c_is_prime:Cal lp w K mg base 3 "is_prime" ["k"] (sp1 K (fun k=>k < 2 ^ 62) true _root_.EP.isP):=d_is_prime.cal X G (fun _ _ _ _ _ _ us hl=>match us,hl with | [_],_=>rfl) fun f fd F=>fn1 F sc_is_prime rfl fun a hp=>b_is_prime c_next_divisor a hp
 have c_divided:Cal lp w K mg base 3 "divided" ["k","end"] (sp2 K PDv true _root_.EP.dvdF):=d_divided.cal X G (fun _ _ _ _ _ _ us hl=>match us,hl with | [_,_],_=>rfl) fun f fd F=>fn2 F sc_divided rfl fun a c hp=>b_divided c_taken_out c_next_divisor a c hp
 have c_parts:Cal lp w K mg base 4 "parts" ["k"] (sp1 K (fun k=>1≤k∧k < 2 ^ 60) true _root_.EP.prt):=d_parts.cal X G (fun _ _ _ _ _ _ us hl=>match us,hl with | [_],_=>rfl) fun f fd F=>fn1 F sc_parts rfl fun a hp=>b_parts c_divided a hp
 have c_square_by:Cal lp w K mg base 2 "square_by" ["k","p"] (sp2 K (fun _ p=>2≤p∧p < 2 ^ 62) true _root_.EP.sqb):=d_square_by.cal X G (fun _ _ _ _ _ _ us hl=>match us,hl with | [_,_],_=>rfl) fun f fd F=>fn2 F sc_square_by rfl fun a b hp=>b_square_by c_power_by a b hp.1 hp.2
 have c_class_at:Cal lp w K mg base 3 "class_at" ["k","p"] (sp2 K (fun k p=>k≠0∧2≤p∧p < 2 ^ 62) true _root_.EP.cls):=d_class_at.cal X G (fun _ _ _ _ _ _ us hl=>match us,hl with | [_,_],_=>rfl) fun f fd F=>fn2 F sc_class_at rfl fun a b hp=>b_class_at c_taken_out c_square_by a b hp.1 hp.2.1 hp.2.2
 have c_two_says:Cal lp w K mg base 1 "two_says" ["one","other"] (sp2 K (fun _ _=>True) true _root_.EP.twoS):=d_two_says.cal X G (fun _ _ _ _ _ _ us hl=>match us,hl with | [_,_],_=>rfl) fun f fd F=>fn2 F sc_two_says rfl fun a b _=>b_two_says a b
 have c_odd_says:Cal lp w K mg base 3 "odd_says" ["one","other","p"] (sp3 K (fun x y p=>(-2≤x.2∧x.2≤2)∧(-2≤y.2∧y.2≤2)∧2≤p∧p < 2 ^ 62) true _root_.EP.oddS):=d_odd_says.cal X G (fun _ _ _ _ _ _ us hl=>match us,hl with | [_,_,_],_=>rfl) fun f fd F=>fn3 F sc_odd_says rfl fun a b c hp=>b_odd_says c_square_by a b c hp
 have c_says:Cal lp w K mg base 4 "says" ["a","b","p"] (sp3 K (fun a b p=>a≠0∧b≠0∧(p=0∨(2≤p∧p < 2 ^ 62))) true _root_.EP.saysF):=d_says.cal X G (fun _ _ _ _ _ _ us hl=>match us,hl with | [_,_,_],_=>rfl) fun f fd F=>fn3 F sc_says rfl fun a b c hp=>b_says c_class_at c_two_says c_odd_says a b c hp.1 hp.2.1 hp.2.2
 have c_primes_of:Cal lp w K mg base 5 "primes_of" ["numbers"] (sp1 K PPo true poF):=d_primes_of.cal X G (fun _ _ _ _ _ _ us hl=>match us,hl with | [_],_=>rfl) fun f fd F=>fn1 F sc_primes_of rfl fun ns hp=>b_primes_of B c_parts ns hp
 have c_is_row_number:Cal lp w K mg base 2 "is_row_number" ["k"] (sp1 K (fun (_:Int)=>True) true irn):=d_is_row_number.cal X G (fun _ _ _ _ _ _ us hl=>match us,hl with | [_],_=>rfl) fun f fd F=>fn1 F sc_is_row_number rfl fun a _=>b_is_row_number B g_GREAT_FROM c_is_whole a
 have c_is_row:Cal lp w K mg base 3 "is_row" ["row"] (sp1 K (fun (xs:List Int)=>xs.length≤1000) true isRow):=d_is_row.cal X G (fun _ _ _ _ _ _ us hl=>match us,hl with | [_],_=>rfl) fun f fd F=>fn1 F sc_is_row rfl fun a hp=>b_is_row B g_LONGEST c_is_row_number a hp
 have c_refuse_no_row:Cal lp w K mg base 4 "refuse_no_row" ["row"] (sp1 K (fun (xs:List Int)=>isRow xs=true) true unit1):=d_refuse_no_row.cal X G (fun _ _ _ _ _ _ us hl=>match us,hl with | [_],_=>rfl) fun f fd F=>fn1U F sc_refuse_no_row rfl fun a hp=>b_refuse_no_row c_is_row a hp
 have c_is_no:Cal lp w K mg base 5 "is_no" ["row","p"] (sp2 K (fun (row:List Int) p=>row.length≤1000∧(∀ n∈row,n≠0)∧(p=0∨(2≤p∧p < 2 ^ 62))) true isnoF):=d_is_no.cal X G (fun _ _ _ _ _ _ us hl=>match us,hl with | [_,_],_=>rfl) fun f fd F=>fn2 F sc_is_no rfl fun a c hp=>b_is_no B c_says a c hp.1 hp.2.1 hp.2.2
 have c_is_square_at:Cal lp w K mg base 4 "is_square_at" ["k","p"] (sp2 K (fun k p=>k≠0∧2≤p∧p < 2 ^ 62) true isqF):=d_is_square_at.cal X G (fun _ _ _ _ _ _ us hl=>match us,hl with | [_,_],_=>rfl) fun f fd F=>fn2 F sc_is_square_at rfl fun a b hp=>b_is_square_at c_class_at a b hp
 have c_three_have_zero:Cal lp w K mg base 5 "three_have_zero" ["a","b","c","p"] (sp4 K PTz true _root_.EP.tzN):=d_three_have_zero.cal X G (fun _ _ _ _ _ _ us hl=>match us,hl with | [_,_,_,_],_=>rfl) fun f fd F=>fn4 F sc_three_have_zero rfl fun a b c d hp=>b_three_have_zero c_says a b c d hp
 have c_four_have_zero:Cal lp w K mg base 6 "four_have_zero" ["numbers","p"] (sp2 K PFz true _root_.EP.hvZ):=d_four_have_zero.cal X G (fun _ _ _ _ _ _ us hl=>match us,hl with | [_,_],_=>rfl) fun f fd F=>fn2 F sc_four_have_zero rfl fun a b hp=>b_four_have_zero c_is_square_at c_three_have_zero a b hp
 have c_have_zero:Cal lp w K mg base 7 "have_zero" ["numbers","p"] (sp2 K PHz true _root_.EP.hvZ):=d_have_zero.cal X G (fun _ _ _ _ _ _ us hl=>match us,hl with | [_,_],_=>rfl) fun f fd F=>fn2 F sc_have_zero rfl fun a b hp=>b_have_zero B c_is_square_at c_three_have_zero c_four_have_zero a b hp
 have c_next_prime:Cal lp w K mg base 4 "next_prime" ["k"] (sp1 K (fun k=>2≤k∧k≤100000) true _root_.EP.npF):=d_next_prime.cal X G (fun _ _ _ _ _ _ us hl=>match us,hl with | [_],_=>rfl) fun f fd F=>fn1 F sc_next_prime rfl fun a hp=>b_next_prime c_is_prime a hp
 have c_first_prime_without:Cal lp w K mg base 8 "first_prime_without" ["row"] (sp1 K PFp true _root_.EP.fwF):=d_first_prime_without.cal X G (fun _ _ _ _ _ _ us hl=>match us,hl with | [_],_=>rfl) fun f fd F=>fn1 F sc_first_prime_without rfl fun a hp=>b_first_prime_without c_square_root_or_none c_next_prime c_have_zero a hp
 have c_first_barring:Cal lp w K mg base 9 "first_barring" ["numbers"] (sp1 K PFb true _root_.EP.fwF):=d_first_barring.cal X G (fun _ _ _ _ _ _ us hl=>match us,hl with | [_],_=>rfl) fun f fd F=>fn1 F sc_first_barring rfl fun a hp=>b_first_barring B c_primes_of c_have_zero c_first_prime_without a hp
 have c_first_without:Cal lp w K mg base 10 "first_without" ["row"] (sp1 K PFb true _root_.EP.fwF):=d_first_without.cal X G (fun _ _ _ _ _ _ us hl=>match us,hl with | [_],_=>rfl) fun f fd F=>fn1 F sc_first_without rfl fun a hp=>b_first_without c_refuse_no_row c_first_barring a hp
 have c_product_of_all:Cal lp w K mg base 1 "product_of_all" ["row"] (sp1 K (fun (r:List Int)=>r.length≤8∧∀ x∈r,Sm 62 x) true _root_.EP.mlL):=d_product_of_all.cal X G (fun _ _ _ _ _ _ us hl=>match us,hl with | [_],_=>rfl) fun f fd F=>fn1 F sc_product_of_all rfl fun a hp=>b_product_of_all a hp.1 hp.2
 have c_has_pair_at:Cal lp w K mg base 5 "has_pair_at" ["size","number","odd","p"] (sp4 K PHp true hpF):=d_has_pair_at.cal X G (fun _ _ _ _ _ _ us hl=>match us,hl with | [_,_,_,_],_=>rfl) fun f fd F=>fn4 F sc_has_pair_at rfl fun a b c d hp=>b_has_pair_at c_is_square_at c_says a b c d hp
 have c_pairs_at_prime:Cal lp w K mg base 6 "pairs_at_prime" ["row","p"] (sp2 K PPp true ppF):=d_pairs_at_prime.cal X G (fun _ _ _ _ _ _ us hl=>match us,hl with | [_,_],_=>rfl) fun f fd F=>fn2 F sc_pairs_at_prime rfl fun a c hp=>b_pairs_at_prime B c_is_no c_says c_product_of_all c_has_pair_at a c hp
 have c_pairs_at_nought:Cal lp w K mg base 1 "pairs_at_nought" ["row"] (sp1 K (fun (r:List Int)=>r.length≤8) true pnF):=d_pairs_at_nought.cal X G (fun _ _ _ _ _ _ us hl=>match us,hl with | [_],_=>rfl) fun f fd F=>fn1 F sc_pairs_at_nought rfl fun a hp=>b_pairs_at_nought B a hp
 have c_how_many_pairs:Cal lp w K mg base 7 "how_many_pairs" ["row"] (sp1 K PHm true hmF):=d_how_many_pairs.cal X G (fun _ _ _ _ _ _ us hl=>match us,hl with | [_],_=>rfl) fun f fd F=>fn1 F sc_how_many_pairs rfl fun a hp=>b_how_many_pairs B c_refuse_no_row c_primes_of c_pairs_at_prime c_pairs_at_nought a hp
 have c_law_cell_at:Cal lp w K mg base 1 "_law_cell_at" ["_law_script","_law_k"] (sp2 K (fun _ k=>0≤k) true dcell):=d_law_cell_at.cal X G (fun _ _ _ _ _ _ us hl=>match us,hl with | [_,_],_=>rfl) fun f fd F=>fn2 F sc_law_cell_at rfl fun a c hp=>b_law_cell_at B a c hp
 have c_law_big:Cal lp w K mg base 1 "_law_big" ["_law_cell","_law_k"] (sp2 K (fun _ k=>0≤k∧k≤100) true bg9):=d_law_big.cal X G (fun _ _ _ _ _ _ us hl=>match us,hl with | [_,_],_=>rfl) fun f fd F=>fn2 F sc_law_big rfl fun a c hp=>b_law_big B a c hp.1 hp.2
 have c_law_common:Cal lp w K mg base 1 "_law_common" ["_law_a","_law_b"] (sp2 K (fun _ _=>True) true gcI):=d_law_common.cal X G (fun _ _ _ _ _ _ us hl=>match us,hl with | [_,_],_=>rfl) fun f fd F=>fn2 F sc_law_common rfl fun a c _=>b_law_common B a c
 have c_law_root:Cal lp w K mg base 1 "_law_root" ["_law_k"] (sp1 K (fun k=>0≤k∧Sm 8000 k) true _root_.EP.rt):=d_law_root.cal X G (fun _ _ _ _ _ _ us hl=>match us,hl with | [_],_=>rfl) fun f fd F=>fn1 F sc_law_root rfl fun a hp=>b_law_root a hp.1 hp.2
 have c_law_free:Cal lp w K mg base 2 "_law_free" ["_law_number"] (sp1 K (fun (n:Int)=>n≠0∧n.natAbs < 1073741824) true foF):=d_law_free.cal X G (fun _ _ _ _ _ _ us hl=>match us,hl with | [_],_=>rfl) fun f fd F=>fn1 F sc_law_free rfl fun a hp=>b_law_free B c_law_root a hp.1 hp.2
 have c_law_free_times:Cal lp w K mg base 2 "_law_free_times" ["_law_one","_law_other_here"] (sp2 K PJn true jnF):=d_law_free_times.cal X G (fun _ _ _ _ _ _ us hl=>match us,hl with | [_,_],_=>rfl) fun f fd F=>fn2 F sc_law_free_times rfl fun a c hp=>b_law_free_times c_law_common a c hp
 have c_law_small:Cal lp w K mg base 1 "_law_small" ["_law_cell"] (sp1 K (fun (_:Int)=>True) true smS):=d_law_small.cal X G (fun _ _ _ _ _ _ us hl=>match us,hl with | [_],_=>rfl) fun f fd F=>fn1 F sc_law_small rfl fun a _=>b_law_small B a
 have c_law_row:Cal lp w K mg base 2 "_law_row" ["_law_cell","_law_size"] (sp2 K (fun (_ n:Int)=>0≤n∧n≤8) true roS):=d_law_row.cal X G (fun _ _ _ _ _ _ us hl=>match us,hl with | [_,_],_=>rfl) fun f fd F=>fn2 F sc_law_row rfl fun a c hp=>b_law_row B c_law_small a c hp.1 hp.2
 have c_law_is_small:Cal lp w K mg base 1 "_law_is_small" ["_law_number"] (sp1 K (fun n=>n≠0) true smF):=d_law_is_small.cal X G (fun _ _ _ _ _ _ us hl=>match us,hl with | [_],_=>rfl) fun f fd F=>fn1 F sc_law_is_small rfl fun a hp=>b_law_is_small B a hp
 have c_law_other:Cal lp w K mg base 3 "_law_other" ["_law_row_here","_law_cell"] (spE2 K (fun (r:List Int) (_:Int)=>SxR r) true (fun r _ r'=>OtP r r')):=d_law_other.cal X G (fun _ _ _ _ _ _ us hl=>match us,hl with | [_,_],_=>rfl) fun f fd F=>fnE2 F sc_law_other rfl fun a c hp=>b_law_other B c_law_free c_law_free_times c_law_is_small a c hp
 have c_law_drawn:Cal lp w K mg base 3 "_law_drawn" ["_law_cell","_law_other_here"] (spE2 K (fun (_ _:Int)=>True) true (fun _ _ r=>DrP r)):=d_law_drawn.cal X G (fun _ _ _ _ _ _ us hl=>match us,hl with | [_,_],_=>rfl) fun f fd F=>fnE2 F sc_law_drawn rfl fun a c _=>b_law_drawn B c_law_row a c
 have c_law_turned_alike:Cal lp w K mg base 8 "_law_turned_alike" ["_law_cell","_law_other_here"] (sp2 K (fun (_ _:Int)=>True) true (fun _ _=>true)):=d_law_turned_alike.cal X G (fun _ _ _ _ _ _ us hl=>match us,hl with | [_,_],_=>rfl) fun f fd F=>fn2 F sc_law_turned_alike rfl fun a c _=>b_law_turned_alike B c_how_many_pairs c_law_row c_law_free c_law_other a c
 have c_law_held:Cal lp w K mg base 11 "_law_held" ["_law_row_here","_law_t","_law_place"] (sp3 K PHd true (fun _ _ _=>true)):=d_law_held.cal X G (fun _ _ _ _ _ _ us hl=>match us,hl with | [_,_,_],_=>rfl) fun f fd F=>fn3 F sc_law_held rfl fun a b c hp=>b_law_held B c_how_many_pairs c_first_without a b c hp
 exact fn1 F sc_law rfl fun a hp=>b_law B c_law_cell_at c_law_big c_law_small c_law_drawn c_law_held c_law_turned_alike a hp
end L2.EP.K
namespace PySem.W.Fast
def tw10790898618895655376:Nat:=0
def tw15993386744116504400:Nat:=0
def tw6868676769180135888:Nat:=0
def tw14592492204986757757:Nat:=0
def tw17707676082215368853:Nat:=0
def tw4234456920843462611:Nat:=0
def tw8716251247573999662:Nat:=0
def tw13653337948241149001:Nat:=0
def tw10914326296908494826:Nat:=0
def tw8409715962257772515:Nat:=0
def tw9523288871368485122:Nat:=0
def tw16319011835524394802:Nat:=0
def tw5720761177497506613:Nat:=0
def tw14941175140909437967:Nat:=0
def tw4911992220361937753:Nat:=0
def tw16205918197775331933:Nat:=0
def tw832067495951141587:Nat:=0
def tw891486849143325863:Nat:=0
def tw2633495370382488133:Nat:=0
def tw42279397250533981:Nat:=0
def tw8185576932467914422:Nat:=0
def tw16100432538728155351:Nat:=0
def tw7763977652515604061:Nat:=0
def tw4453626480064916135:Nat:=0
def tw18208469832165815166:Nat:=0
def tw10982994901871455479:Nat:=0
end PySem.W.Fast
open PySem PySem.W PyProof.Rows
set_option maxRecDepth 100000 in
set_option maxHeartbeats 0 in
theorem PySem.Challenge.cw_everyplace_k60_how_many_pairs_holds : PySem.Challenge.rw_everyplace_k60_how_many_pairs.Holds := by
 w_on; o_law; k_head; (case hw => w_witness2)
 k_fill
 refine L2.walk_ofK (l := PySem.Challenge.rw_everyplace_k60_how_many_pairs) (n := 63) (k := 12) (x := "_law_script") (CX := L2.CX0) (sp := L2.EP.spLaw) rfl (by decide) rfl ⟨rfl, by decide, by decide⟩ (fun w h Y => PySem.W.kIn_of Y) ?F ?S ?C
 case F =>
  intro w mg fa h KX G hmg
  have B : L2.EP.Bu mg := by
   refine' L2.EP.bu_mk (K := L2.KOf KX) KX G ?z1 ?z2 ?z3 ?z4 ?z5 ?z6 ?z7 ?z8 ?z9 ?z10 ?z11 ?z12 ?z13 ?z14 ?z15 ?z16 ?z17 ?z18 ?z19
   all_goals (dsimp only [L2.KOf]; k_is)
  have d_is_whole : L2.EP.Df (L2.KOf KX) "is_whole" L2.EP.K.s_is_whole := by
   dsimp only [L2.KOf]
   refine' L2.EP.Df.mk ?a ?l ?c ?k
   (case a=>k_is);(case l=>k_is);(case c=>k_is);(case k=>k_is)
  have d_power_by : L2.EP.Df (L2.KOf KX) "power_by" L2.EP.K.s_power_by := by
   dsimp only [L2.KOf]
   refine' L2.EP.Df.mk ?a ?l ?c ?k
   (case a=>k_is);(case l=>k_is);(case c=>k_is);(case k=>k_is)
  have d_taken_out : L2.EP.Df (L2.KOf KX) "taken_out" L2.EP.K.s_taken_out := by
   dsimp only [L2.KOf]
   refine' L2.EP.Df.mk ?a ?l ?c ?k
   (case a=>k_is);(case l=>k_is);(case c=>k_is);(case k=>k_is)
  have d_square_root : L2.EP.Df (L2.KOf KX) "square_root" L2.EP.K.s_square_root := by
   dsimp only [L2.KOf]
   refine' L2.EP.Df.mk ?a ?l ?c ?k
   (case a=>k_is);(case l=>k_is);(case c=>k_is);(case k=>k_is)
  have d_square_root_or_none : L2.EP.Df (L2.KOf KX) "square_root_or_none" L2.EP.K.s_square_root_or_none := by
   dsimp only [L2.KOf]
   refine' L2.EP.Df.mk ?a ?l ?c ?k
   (case a=>k_is);(case l=>k_is);(case c=>k_is);(case k=>k_is)
  have d_next_divisor : L2.EP.Df (L2.KOf KX) "next_divisor" L2.EP.K.s_next_divisor := by
   dsimp only [L2.KOf]
   refine' L2.EP.Df.mk ?a ?l ?c ?k
   (case a=>k_is);(case l=>k_is);(case c=>k_is);(case k=>k_is)
  have d_is_prime : L2.EP.Df (L2.KOf KX) "is_prime" L2.EP.K.s_is_prime := by
   dsimp only [L2.KOf]
   refine' L2.EP.Df.mk ?a ?l ?c ?k
   (case a=>k_is);(case l=>k_is);(case c=>k_is);(case k=>k_is)
  have d_divided : L2.EP.Df (L2.KOf KX) "divided" L2.EP.K.s_divided := by
   dsimp only [L2.KOf]
   refine' L2.EP.Df.mk ?a ?l ?c ?k
   (case a=>k_is);(case l=>k_is);(case c=>k_is);(case k=>k_is)
  have d_parts : L2.EP.Df (L2.KOf KX) "parts" L2.EP.K.s_parts := by
   dsimp only [L2.KOf]
   refine' L2.EP.Df.mk ?a ?l ?c ?k
   (case a=>k_is);(case l=>k_is);(case c=>k_is);(case k=>k_is)
  have d_square_by : L2.EP.Df (L2.KOf KX) "square_by" L2.EP.K.s_square_by := by
   dsimp only [L2.KOf]
   refine' L2.EP.Df.mk ?a ?l ?c ?k
   (case a=>k_is);(case l=>k_is);(case c=>k_is);(case k=>k_is)
  have d_class_at : L2.EP.Df (L2.KOf KX) "class_at" L2.EP.K.s_class_at := by
   dsimp only [L2.KOf]
   refine' L2.EP.Df.mk ?a ?l ?c ?k
   (case a=>k_is);(case l=>k_is);(case c=>k_is);(case k=>k_is)
  have d_two_says : L2.EP.Df (L2.KOf KX) "two_says" L2.EP.K.s_two_says := by
   dsimp only [L2.KOf]
   refine' L2.EP.Df.mk ?a ?l ?c ?k
   (case a=>k_is);(case l=>k_is);(case c=>k_is);(case k=>k_is)
  have d_odd_says : L2.EP.Df (L2.KOf KX) "odd_says" L2.EP.K.s_odd_says := by
   dsimp only [L2.KOf]
   refine' L2.EP.Df.mk ?a ?l ?c ?k
   (case a=>k_is);(case l=>k_is);(case c=>k_is);(case k=>k_is)
  have d_says : L2.EP.Df (L2.KOf KX) "says" L2.EP.K.s_says := by
   dsimp only [L2.KOf]
   refine' L2.EP.Df.mk ?a ?l ?c ?k
   (case a=>k_is);(case l=>k_is);(case c=>k_is);(case k=>k_is)
  have d_primes_of : L2.EP.Df (L2.KOf KX) "primes_of" L2.EP.K.s_primes_of := by
   dsimp only [L2.KOf]
   refine' L2.EP.Df.mk ?a ?l ?c ?k
   (case a=>k_is);(case l=>k_is);(case c=>k_is);(case k=>k_is)
  have d_is_row_number : L2.EP.Df (L2.KOf KX) "is_row_number" L2.EP.K.s_is_row_number := by
   dsimp only [L2.KOf]
   refine' L2.EP.Df.mk ?a ?l ?c ?k
   (case a=>k_is);(case l=>k_is);(case c=>k_is);(case k=>k_is)
  have d_is_row : L2.EP.Df (L2.KOf KX) "is_row" L2.EP.K.s_is_row := by
   dsimp only [L2.KOf]
   refine' L2.EP.Df.mk ?a ?l ?c ?k
   (case a=>k_is);(case l=>k_is);(case c=>k_is);(case k=>k_is)
  have d_refuse_no_row : L2.EP.Df (L2.KOf KX) "refuse_no_row" L2.EP.K.s_refuse_no_row := by
   dsimp only [L2.KOf]
   refine' L2.EP.Df.mk ?a ?l ?c ?k
   (case a=>k_is);(case l=>k_is);(case c=>k_is);(case k=>k_is)
  have d_is_no : L2.EP.Df (L2.KOf KX) "is_no" L2.EP.K.s_is_no := by
   dsimp only [L2.KOf]
   refine' L2.EP.Df.mk ?a ?l ?c ?k
   (case a=>k_is);(case l=>k_is);(case c=>k_is);(case k=>k_is)
  have d_is_square_at : L2.EP.Df (L2.KOf KX) "is_square_at" L2.EP.K.s_is_square_at := by
   dsimp only [L2.KOf]
   refine' L2.EP.Df.mk ?a ?l ?c ?k
   (case a=>k_is);(case l=>k_is);(case c=>k_is);(case k=>k_is)
  have d_three_have_zero : L2.EP.Df (L2.KOf KX) "three_have_zero" L2.EP.K.s_three_have_zero := by
   dsimp only [L2.KOf]
   refine' L2.EP.Df.mk ?a ?l ?c ?k
   (case a=>k_is);(case l=>k_is);(case c=>k_is);(case k=>k_is)
  have d_four_have_zero : L2.EP.Df (L2.KOf KX) "four_have_zero" L2.EP.K.s_four_have_zero := by
   dsimp only [L2.KOf]
   refine' L2.EP.Df.mk ?a ?l ?c ?k
   (case a=>k_is);(case l=>k_is);(case c=>k_is);(case k=>k_is)
  have d_have_zero : L2.EP.Df (L2.KOf KX) "have_zero" L2.EP.K.s_have_zero := by
   dsimp only [L2.KOf]
   refine' L2.EP.Df.mk ?a ?l ?c ?k
   (case a=>k_is);(case l=>k_is);(case c=>k_is);(case k=>k_is)
  have d_next_prime : L2.EP.Df (L2.KOf KX) "next_prime" L2.EP.K.s_next_prime := by
   dsimp only [L2.KOf]
   refine' L2.EP.Df.mk ?a ?l ?c ?k
   (case a=>k_is);(case l=>k_is);(case c=>k_is);(case k=>k_is)
  have d_first_prime_without : L2.EP.Df (L2.KOf KX) "first_prime_without" L2.EP.K.s_first_prime_without := by
   dsimp only [L2.KOf]
   refine' L2.EP.Df.mk ?a ?l ?c ?k
   (case a=>k_is);(case l=>k_is);(case c=>k_is);(case k=>k_is)
  have d_first_barring : L2.EP.Df (L2.KOf KX) "first_barring" L2.EP.K.s_first_barring := by
   dsimp only [L2.KOf]
   refine' L2.EP.Df.mk ?a ?l ?c ?k
   (case a=>k_is);(case l=>k_is);(case c=>k_is);(case k=>k_is)
  have d_first_without : L2.EP.Df (L2.KOf KX) "first_without" L2.EP.K.s_first_without := by
   dsimp only [L2.KOf]
   refine' L2.EP.Df.mk ?a ?l ?c ?k
   (case a=>k_is);(case l=>k_is);(case c=>k_is);(case k=>k_is)
  have d_product_of_all : L2.EP.Df (L2.KOf KX) "product_of_all" L2.EP.K.s_product_of_all := by
   dsimp only [L2.KOf]
   refine' L2.EP.Df.mk ?a ?l ?c ?k
   (case a=>k_is);(case l=>k_is);(case c=>k_is);(case k=>k_is)
  have d_has_pair_at : L2.EP.Df (L2.KOf KX) "has_pair_at" L2.EP.K.s_has_pair_at := by
   dsimp only [L2.KOf]
   refine' L2.EP.Df.mk ?a ?l ?c ?k
   (case a=>k_is);(case l=>k_is);(case c=>k_is);(case k=>k_is)
  have d_pairs_at_prime : L2.EP.Df (L2.KOf KX) "pairs_at_prime" L2.EP.K.s_pairs_at_prime := by
   dsimp only [L2.KOf]
   refine' L2.EP.Df.mk ?a ?l ?c ?k
   (case a=>k_is);(case l=>k_is);(case c=>k_is);(case k=>k_is)
  have d_pairs_at_nought : L2.EP.Df (L2.KOf KX) "pairs_at_nought" L2.EP.K.s_pairs_at_nought := by
   dsimp only [L2.KOf]
   refine' L2.EP.Df.mk ?a ?l ?c ?k
   (case a=>k_is);(case l=>k_is);(case c=>k_is);(case k=>k_is)
  have d_how_many_pairs : L2.EP.Df (L2.KOf KX) "how_many_pairs" L2.EP.K.s_how_many_pairs := by
   dsimp only [L2.KOf]
   refine' L2.EP.Df.mk ?a ?l ?c ?k
   (case a=>k_is);(case l=>k_is);(case c=>k_is);(case k=>k_is)
  have d_law_cell_at : L2.EP.Df (L2.KOf KX) "_law_cell_at" L2.EP.K.s_law_cell_at := by
   dsimp only [L2.KOf]
   refine' L2.EP.Df.mk ?a ?l ?c ?k
   (case a=>k_is);(case l=>k_is);(case c=>k_is);(case k=>k_is)
  have d_law_big : L2.EP.Df (L2.KOf KX) "_law_big" L2.EP.K.s_law_big := by
   dsimp only [L2.KOf]
   refine' L2.EP.Df.mk ?a ?l ?c ?k
   (case a=>k_is);(case l=>k_is);(case c=>k_is);(case k=>k_is)
  have d_law_common : L2.EP.Df (L2.KOf KX) "_law_common" L2.EP.K.s_law_common := by
   dsimp only [L2.KOf]
   refine' L2.EP.Df.mk ?a ?l ?c ?k
   (case a=>k_is);(case l=>k_is);(case c=>k_is);(case k=>k_is)
  have d_law_root : L2.EP.Df (L2.KOf KX) "_law_root" L2.EP.K.s_law_root := by
   dsimp only [L2.KOf]
   refine' L2.EP.Df.mk ?a ?l ?c ?k
   (case a=>k_is);(case l=>k_is);(case c=>k_is);(case k=>k_is)
  have d_law_free : L2.EP.Df (L2.KOf KX) "_law_free" L2.EP.K.s_law_free := by
   dsimp only [L2.KOf]
   refine' L2.EP.Df.mk ?a ?l ?c ?k
   (case a=>k_is);(case l=>k_is);(case c=>k_is);(case k=>k_is)
  have d_law_free_times : L2.EP.Df (L2.KOf KX) "_law_free_times" L2.EP.K.s_law_free_times := by
   dsimp only [L2.KOf]
   refine' L2.EP.Df.mk ?a ?l ?c ?k
   (case a=>k_is);(case l=>k_is);(case c=>k_is);(case k=>k_is)
  have d_law_small : L2.EP.Df (L2.KOf KX) "_law_small" L2.EP.K.s_law_small := by
   dsimp only [L2.KOf]
   refine' L2.EP.Df.mk ?a ?l ?c ?k
   (case a=>k_is);(case l=>k_is);(case c=>k_is);(case k=>k_is)
  have d_law_row : L2.EP.Df (L2.KOf KX) "_law_row" L2.EP.K.s_law_row := by
   dsimp only [L2.KOf]
   refine' L2.EP.Df.mk ?a ?l ?c ?k
   (case a=>k_is);(case l=>k_is);(case c=>k_is);(case k=>k_is)
  have d_law_is_small : L2.EP.Df (L2.KOf KX) "_law_is_small" L2.EP.K.s_law_is_small := by
   dsimp only [L2.KOf]
   refine' L2.EP.Df.mk ?a ?l ?c ?k
   (case a=>k_is);(case l=>k_is);(case c=>k_is);(case k=>k_is)
  have d_law_other : L2.EP.Df (L2.KOf KX) "_law_other" L2.EP.K.s_law_other := by
   dsimp only [L2.KOf]
   refine' L2.EP.Df.mk ?a ?l ?c ?k
   (case a=>k_is);(case l=>k_is);(case c=>k_is);(case k=>k_is)
  have d_law_drawn : L2.EP.Df (L2.KOf KX) "_law_drawn" L2.EP.K.s_law_drawn := by
   dsimp only [L2.KOf]
   refine' L2.EP.Df.mk ?a ?l ?c ?k
   (case a=>k_is);(case l=>k_is);(case c=>k_is);(case k=>k_is)
  have d_law_turned_alike : L2.EP.Df (L2.KOf KX) "_law_turned_alike" L2.EP.K.s_law_turned_alike := by
   dsimp only [L2.KOf]
   refine' L2.EP.Df.mk ?a ?l ?c ?k
   (case a=>k_is);(case l=>k_is);(case c=>k_is);(case k=>k_is)
  have d_law_held : L2.EP.Df (L2.KOf KX) "_law_held" L2.EP.K.s_law_held := by
   dsimp only [L2.KOf]
   refine' L2.EP.Df.mk ?a ?l ?c ?k
   (case a=>k_is);(case l=>k_is);(case c=>k_is);(case k=>k_is)
  have d_law : L2.EP.Df (L2.KOf KX) "law" L2.EP.K.s_law := by
   dsimp only [L2.KOf]
   refine' L2.EP.Df.mk ?a ?l ?c ?k
   (case a=>k_is);(case l=>k_is);(case c=>k_is);(case k=>k_is)
  have g_GREAT_FROM : L2.EP.MgI mg "GREAT_FROM" 1073741824 := by
   refine' L2.EP.MgI.mk (K := L2.KOf KX) KX G ?ga0
   (case ga0 => dsimp only [L2.KOf]; k_is)
  have g_LONGEST : L2.EP.MgI mg "LONGEST" 8 := by
   refine' L2.EP.MgI.mk (K := L2.KOf KX) KX G ?ga1
   (case ga1 => dsimp only [L2.KOf]; k_is)
  exact L2.EP.K.fin KX G hmg B g_GREAT_FROM g_LONGEST d_is_whole d_power_by d_taken_out d_square_root d_square_root_or_none d_next_divisor d_is_prime d_divided d_parts d_square_by d_class_at d_two_says d_odd_says d_says d_primes_of d_is_row_number d_is_row d_refuse_no_row d_is_no d_is_square_at d_three_have_zero d_four_have_zero d_have_zero d_next_prime d_first_prime_without d_first_barring d_first_without d_product_of_all d_has_pair_at d_pairs_at_prime d_pairs_at_nought d_how_many_pairs d_law_cell_at d_law_big d_law_common d_law_root d_law_free d_law_free_times d_law_small d_law_row d_law_is_small d_law_other d_law_drawn d_law_turned_alike d_law_held d_law
 case S => exact fun K H a ns hl hO hS => L2.EP.law_start K H a ns hl hS
 case C => exact fun _ _ _ _ z => z
