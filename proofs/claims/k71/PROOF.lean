import PyProof.Rows.All
import Wide.All
import OpenK.AllK
import Wide.FinOn
import Lean
import PyProof.EqAt
import PyProof.EqKinds
import PyProof.TupleCall
import PyProof.NeData
import PyProof.P3Eq
import KE.KTryMore
import PyProof.ExcArgs
import PyProof.Rows.CountFlat
import PyProof.ExcBaseAll.ValueError
import PyProof.Conv_int_bool
import PyProof.IsiPairs
import PyProof.IsiNone
import PyProof.IsiStr
import PyProof.IsiBool
import PyProof.IsiHeapPairs
import KE.KRevIter
import PyProof.CollectIter
import PyProof.WalksMore
import PySem.Challenge.RW_everyplace_k71_papers_of_steps_and_pairs
set_option Elab.async false
set_option linter.all false
set_option maxRecDepth 100000
namespace L2
open PySem PySem.Spec PyProof.Rows
abbrev Key:=Sum Int Str
def keyIs:Key→Value→Bool
 | .inl k,v=>Value.isInt k v
 | .inr x,v=>Value.isStrOf x v
def keyH (w:World):Key→Int
 | .inl k=>hashInt k
 | .inr x=>hashStr w x
theorem keyIs_shape:∀ {k:Key} {v:Value},keyIs k v=true→(∃ i t,k=Sum.inl i∧v=Value.int i t)∨(∃ x t,k=Sum.inr x∧v=Value.str x t)
 | .inl i,v,h=>by
  obtain ⟨t,e⟩:=Value.isInt_shape (k:=i) (v:=v) h
  exact .inl ⟨i,t,rfl,e⟩
 | .inr x,v,h=>by
  obtain ⟨t,e⟩:=Value.isStrOf_shape (x:=x) (v:=v) h
  exact .inr ⟨x,t,rfl,e⟩
theorem key_ll (a b:Int):decide ((Sum.inl a:Key)=Sum.inl b)=(a == b):=by
 by_cases e:a=b
 ·subst e; simp
 ·have h:¬ (Sum.inl a:Key)=Sum.inl b:=fun q=>e (Sum.inl.inj q)
  rw [decide_eq_false h]
  exact (beq_eq_false_iff_ne.mpr e).symm
theorem key_rr (a b:Str):decide ((Sum.inr a:Key)=Sum.inr b)=decide (a=b):=by
 by_cases e:a=b
 ·subst e; simp
 ·have h:¬ (Sum.inr a:Key)=Sum.inr b:=fun q=>e (Sum.inr.inj q)
  rw [decide_eq_false h,decide_eq_false e]
theorem key_lr (a:Int) (b:Str):decide ((Sum.inl a:Key)=Sum.inr b)=false:=decide_eq_false (fun q=>nomatch q)
theorem key_rl (a:Str) (b:Int):decide ((Sum.inr a:Key)=Sum.inl b)=false:=decide_eq_false (fun q=>nomatch q)
def mixKind (prog:Program) (w:World):PySem.KeyKind prog w Key where
 is:=keyIs
 hash:=keyH w
 inj:=fun v a b ha hb=>by
  rcases keyIs_shape ha with ⟨i,t,rfl,rfl⟩ | ⟨x,t,rfl,rfl⟩
  ·rcases keyIs_shape hb with ⟨j,u,rfl,e⟩ | ⟨y,u,rfl,e⟩
   ·injection e with e1 _; rw [e1]
   ·exact nomatch e
  ·rcases keyIs_shape hb with ⟨j,u,rfl,e⟩ | ⟨y,u,rfl,e⟩
   ·exact nomatch e
   ·injection e with e1 _; rw [e1]
 byValue:=fun k v h=>by
  rcases keyIs_shape h with ⟨i,t,rfl,rfl⟩ | ⟨x,t,rfl,rfl⟩ <;> rfl
 pyHash:=fun hv h=>by
  rcases keyIs_shape hv with ⟨i,t,rfl,rfl⟩ | ⟨x,t,rfl,rfl⟩
  ·exact wpAny_pyHash_int h
  ·exact wpAny_pyHash_str h
 eqBool:=fun hu hv h=>by
  rcases keyIs_shape hu with ⟨i,t,rfl,rfl⟩ | ⟨x,t,rfl,rfl⟩
  ·rcases keyIs_shape hv with ⟨j,u,rfl,rfl⟩ | ⟨y,u,rfl,rfl⟩
   ·rw [key_ll] at h; exact wpAny_eqBool_int h
   ·rw [key_lr] at h; exact SeqAt.EqAt.int_str i t y u _ _ _ _ h
  ·rcases keyIs_shape hv with ⟨j,u,rfl,rfl⟩ | ⟨y,u,rfl,rfl⟩
   ·rw [key_rl] at h; exact SeqAt.EqAt.str_int x t j u _ _ _ _ h
   ·rw [key_rr] at h; exact wpAny_eqBool_str h
 «strs»:=fun k x t v h=>by
  rcases keyIs_shape h with ⟨i,u,rfl,e⟩ | ⟨y,u,rfl,e⟩
  ·exact nomatch e
  ·injection e with e1 _
   subst e1
   cases v <;> rfl
def bI (b:Bool):Int:=if b then 1 else 0
def ibIs (k:Int) (v:Value):Bool:=match v with
 | .int i _=>i == k
 | .bool b=>bI b == k
 | _=>false
theorem ibIs_shape {k:Int} {v:Value} (h:ibIs k v=true):(∃ t,v=Value.int k t)∨∃ b,k=bI b∧v=Value.bool b:=by
 cases v with
 | int i t=>exact .inl ⟨t,by rw [eq_of_beq (show (i == k)=true from h)]⟩
 | bool b=>exact .inr ⟨b,(eq_of_beq (show (bI b == k)=true from h)).symm,rfl⟩
 | _=>exact nomatch h
theorem pyHash_truth {prog:Program} {w:World} {A:Around} {E:Value→Shared→Prop} {s:Shared} {b:Bool} {Q:Int→Shared→Prop} (h:Q (hashInt (bI b)) { s with toks:=s.toks + 1 }):wpAny (model prog w) A (pyHash (.bool b)) Q E s:=by
 refine PySem.W.pyHash_slot (T:="bool") rfl F.slot_bool_hash entry_int_hash (args_int_hash _) (beq_builtin_none _) (.inl rfl) ?_
 cases b
 ·exact (show wpAny _ _ (do ret (← mkInt 0)) _ _ s from wpAny_bind (wpAny_mkInt (wpAny_pure ⟨0,_,rfl,h⟩)))
 ·exact (show wpAny _ _ (do ret (← mkInt 1)) _ _ s from wpAny_bind (wpAny_mkInt (wpAny_pure ⟨1,_,rfl,h⟩)))
theorem dec_beq (a b:Int):decide (a=b)=(a == b):=by
 by_cases e:a=b
 ·subst e; simp
 ·rw [decide_eq_false e]; exact (beq_eq_false_iff_ne.mpr e).symm
def ibKind (prog:Program) (w:World):PySem.KeyKind prog w Int where
 is:=ibIs
 hash:=hashInt
 inj:=fun v a b ha hb=>by
  rcases ibIs_shape ha with ⟨t,rfl⟩ | ⟨x,rfl,rfl⟩
  ·rcases ibIs_shape hb with ⟨u,e⟩ | ⟨y,rfl,e⟩
   ·injection e
   ·cases e
  ·rcases ibIs_shape hb with ⟨u,e⟩ | ⟨y,rfl,e⟩
   ·cases e
   ·injection e with e; rw [e]
 byValue:=fun k v h=>by
  rcases ibIs_shape h with ⟨t,rfl⟩ | ⟨x,rfl,rfl⟩ <;> rfl
 pyHash:=fun hv h=>by
  rcases ibIs_shape hv with ⟨t,rfl⟩ | ⟨x,rfl,rfl⟩
  ·exact wpAny_pyHash_int h
  ·exact pyHash_truth h
 eqBool:=fun {A E s a b u v Q} hu hv h=>by
  rw [dec_beq] at h
  rcases ibIs_shape hu with ⟨t,rfl⟩ | ⟨x,rfl,rfl⟩
  ·rcases ibIs_shape hv with ⟨t',rfl⟩ | ⟨y,rfl,rfl⟩
   ·exact wpAny_eqBool_int h
   ·exact SeqAt.EqAt.int_bool _ t y _ _ _ _ h
  ·rcases ibIs_shape hv with ⟨t',rfl⟩ | ⟨y,rfl,rfl⟩
   ·exact SeqAt.EqAt.bool_int x _ t' _ _ _ _ h
   ·refine SeqAt.EqAt.bool_bool x y _ _ _ _ ?_
    rw [show (x == y)=(bI x == bI y) by cases x <;> cases y <;> rfl]
    exact h
 «strs»:=fun k x t v h=>by
  rcases ibIs_shape h with ⟨u,e⟩ | ⟨y,_,e⟩ <;> cases e
def kl (k:Int × Bool):List Int:=[k.1,bI k.2]
theorem kl_inj {x y:Int × Bool} (h:kl x=kl y):x=y:=by
 obtain ⟨x1,x2⟩:=x
 obtain ⟨y1,y2⟩:=y
 have h1:x1=y1∧bI x2=bI y2:=by simpa [kl] using h
 obtain ⟨rfl,h2⟩:=h1
 cases x2 <;> cases y2 <;> first | rfl | exact absurd h2 (by decide)
theorem kl_dec (x y:Int × Bool):decide (kl x=kl y)=decide (x=y):=decide_eq_decide.mpr ⟨kl_inj,fun h=>by rw [h]⟩
def pairKind (prog:Program) (w:World):PySem.HeapKind prog w (Int × Bool) where
 is:=fun h k a=>IsTupleKey (ibKind prog w) h (kl k) a
 hash:=fun k=>tupleKeyHash (ibKind prog w) (kl k)
 draws:=fun _=>3
 room:=fun A=>A.units < cLine
 inj:=fun hx hy=>kl_inj (hx.inj hy)
 keeps:=fun x ho hd hs=>x.keeps ho hd hs
 pyHash:=fun hu hk h=>wpAny_pyHash_tuple hu hk h
 eqBool:=fun {A E s x y a b Q} hu hx hy h=>wpAny_eqBool_tuple hu hx hy (by rw [kl_dec]; exact h)
 quiet:=fun hk h=>wpAny_eqIsQuiet_tuple hk h
end L2
namespace L2
open PySem PySem.Spec PyProof.Rows
inductive V where
 | non | bl (b:Bool) | int (i:Int) | str (x:Str) | byt (b:Array UInt8) | flt (b:UInt64) | ref (a:Addr) | ty (n:String)
 deriving DecidableEq
def RelV:V→Value→Prop
 | .non,u=>u=Value.none
 | .bl b,u=>u=Value.bool b
 | .int i,u=>∃ t,u=Value.int i t
 | .str x,u=>∃ t,u=Value.str x t
 | .byt b,u=>∃ t,u=Value.bytes b t
 | .flt b,u=>∃ t,u=Value.float b t
 | .ref a,u=>u=Value.ref a
 | .ty n,u=>u=Value.type n
abbrev Vals:List V→List Value→Prop:=Paired RelV
theorem Vals.length {xs:List V} {us:List Value} (r:Vals xs us):xs.length=us.length:=Paired.length r
theorem Vals.get:∀ {xs:List V} {us:List Value} {i:Nat} {x:V},Vals xs us→xs[i]?=some x→∃ u,us[i]?=some u∧RelV x u
 | _,_,_,_,.nil,e=>by simp at e
 | _,_,0,_,.cons r _,e=>by simp at e; subst e; exact ⟨_,rfl,r⟩
 | _,_,i + 1,x,.cons _ t,e=>by
  obtain ⟨u,h1,h2⟩:=Vals.get (i:=i) (x:=x) t (by simpa using e)
  exact ⟨u,by simpa using h1,h2⟩
theorem Vals.set {x:V} {u:Value} (r:RelV x u):∀ {xs:List V} {us:List Value} (i:Nat),Vals xs us→Vals (xs.set i x) (us.set i u)
 | _,_,_,.nil=>.nil
 | _,_,0,.cons _ t=>.cons r t
 | _,_,i + 1,.cons q t=>.cons q (Vals.set r i t)
theorem Vals.append:∀ {xs ys:List V} {us ws:List Value},Vals xs us→Vals ys ws→Vals (xs ++ ys) (us ++ ws)
 | _,_,_,_,.nil,s=>s
 | _,_,_,_,.cons r t,s=>.cons r (Vals.append t s)
theorem Vals.take:∀ {xs:List V} {us:List Value} (n:Nat),Vals xs us→Vals (xs.take n) (us.take n)
 | _,_,0,_=>.nil
 | _,_,_ + 1,.nil=>.nil
 | _,_,n + 1,.cons r t=>.cons r (Vals.take n t)
theorem Vals.drop:∀ {xs:List V} {us:List Value} (n:Nat),Vals xs us→Vals (xs.drop n) (us.drop n)
 | _,_,0,r=>r
 | _,_,_ + 1,.nil=>.nil
 | _,_,n + 1,.cons _ t=>Vals.drop n t
def RelO:Option V→Option Value→Prop
 | some v,some u=>RelV v u
 | none,none=>True
 | _,_=>False
def KV {κ:Type}:List (κ × V)→List (κ × Value)→Prop:=Paired fun (p:κ × V) (q:κ × Value)=>p.1=q.1∧RelV p.2 q.2
def kV:Key→V
 | .inl i=>.int i
 | .inr x=>.str x
def kB (k:Int × Bool):List V:=[.int k.1,.bl k.2]
inductive HO where
 | lst (xs:List V)
 | tup (xs:List V)
 | dK (kvs:List (Key × V)) | dT (kvs:List (List Key × V))
 | dB (kvs:List ((Int × Bool) × V))
 | set (S:Int→Bool) (n:Nat)
 | ins (C dx:Addr) (fs:List (Str × V))
 | own (x:Addr)
 | xd (fs:List (Str × V))
 | met (f x:Addr)
 | rng (lo hi:Int)
 | frz (o:Obj) (u:HO)
 | tbl (ps:Array Value)
 | ext (φ:Heap→Prop)
abbrev Hp:=Addr→Option HO
def upd (H:Hp) (a:Addr) (o:HO):Hp:=fun b=>if b=a then some o else H b
theorem upd_same {H:Hp} {a:Addr} {o:HO}:upd H a o a=some o:=by unfold upd; rw [if_pos rfl]
theorem upd_ne {H:Hp} {a b:Addr} {o:HO} (h:b≠a):upd H a o b=H b:=by unfold upd; rw [if_neg h]
theorem ne_of_none {H:Hp} {a b:Addr} {o:HO} (h:H a=some o) (h':H b=none):a≠b:=by
 intro e; subst e; rw [h] at h'; cases h'
section
variable (P:Program) (w:World)
def ObjOk (H:Hp) (h:Heap) (a:Addr):HO→Prop
 | .lst xs=>xs.length≤sizeLine∧∃ (its:List Value) (n:Nat),Vals xs its∧h.get? a=some { cls:=.type "list",data:=.seq its.toArray n }
 | .tup xs=>xs.length≤sizeLine∧∃ its:List Value,Vals xs its∧IsTup h a its.toArray
 | .dK kvs=>kvs.length≤sizeLine∧(a == sysModules)=false∧∃ vs,KV kvs vs∧h.DictOf (mixKind P w) a vs
 | .dT kvs=>kvs.length≤sizeLine∧(a == sysModules)=false∧∃ xs:List (List Key × Addr × Value),
   Paired (fun (p:List Key × V) (q:List Key × Addr × Value)=>p.1=q.1∧H q.2.1=some (.tup (p.1.map kV))∧RelV p.2 q.2.2) kvs xs ∧
   ∃ o es ep,h.get? a=some o∧o.ExactDict∧o.data=.dict es ep∧es.toList=xs.map (entryOfKey (tupleKind (mixKind P w)))∧(xs.map (·.1)).Nodup
 | .dB kvs=>kvs.length≤sizeLine∧(a == sysModules)=false∧∃ xs:List ((Int × Bool) × Addr × Value),
   Paired (fun (p:(Int × Bool) × V) (q:(Int × Bool) × Addr × Value)=>p.1=q.1∧H q.2.1=some (.tup (kB p.1))∧RelV p.2 q.2.2) kvs xs ∧
   ∃ o es ep,h.get? a=some o∧o.ExactDict∧o.data=.dict es ep∧es.toList=xs.map (entryOfKey (pairKind P w))∧(xs.map (·.1)).Nodup
 | .set S n=>h.SetOf (intKind P w) a S n
 | .ins C dx fs=>H dx=some (.own a)∧fs.length≤1000∧dx≠a∧h.get? a=some (PySem.W.instObj C dx) ∧
   ∃ mA,h.Ns1 dx mA∧(∀ f,RelO (fs.lookup f) (mA f))∧PySem.Within mA (fs.map (·.1))
 | .own _=>∃ o,h.get? a=some o
 | .xd fs=>∃ mA,h.Ns1 a mA∧∀ f,RelO (fs.lookup f) (mA f)
 | .rng lo hi=>∃ t u v,h.get? a=some { cls:=.type "range",data:=.fields #[.int lo t,.int hi u,.int 1 v] }
 | .frz o u=>h.get? a=some o∧ObjOk H h a u
 | .tbl ps=>h.get? a=some { cls:=.none,data:=.fields ps }
 | .met f x=>h.get? a=some (PySem.W.methodObj (.ref f) (.ref x))
 | .ext φ=>φ h∧(∃ o,h.get? a=some o)∧∀ h1 h2:Heap,φ h1→(∀ o,h1.get? a=some o→h2.get? a=some o)→φ h2
def HOk (H:Hp) (h:Heap):Prop:=∀ a o,H a=some o→ObjOk P w H h a o
end
section
variable {P:Program} {w:World} {H H':Hp} {h h':Heap} {a:Addr} {o:HO}
theorem ObjOk.lt (x:ObjOk P w H h a o):a < h.objs.size:=by
 cases o with
 | lst xs=>obtain ⟨_,_,_,_,e⟩:=x; exact Heap.lt_size e
 | tup xs=>obtain ⟨_,_,_,p⟩:=x; exact p.lt
 | dK kvs=>obtain ⟨_,_,_,_,o,_,_,e,_⟩:=x; exact Heap.lt_size e
 | dT kvs=>obtain ⟨_,_,_,_,o,_,_,e,_⟩:=x; exact Heap.lt_size e
 | dB kvs=>obtain ⟨_,_,_,_,o,_,_,e,_⟩:=x; exact Heap.lt_size e
 | set S n=>obtain ⟨o,_,_,_,e,_⟩:=x; exact Heap.lt_size e
 | ins C dx fs=>obtain ⟨_,_,_,e,_⟩:=x; exact Heap.lt_size e
 | own y=>obtain ⟨_,e⟩:=x; exact Heap.lt_size e
 | xd fs=>obtain ⟨_,⟨_,_,_,e,_⟩,_⟩:=x; exact Heap.lt_size e
 | rng lo hi=>obtain ⟨_,_,_,e⟩:=x; exact Heap.lt_size e
 | frz ob u=>obtain ⟨e,_⟩:=x; exact Heap.lt_size e
 | tbl ps=>exact Heap.lt_size (show h.get? a=some _ from x)
 | met f y=>exact Heap.lt_size (show h.get? a=some _ from x)
 | ext φ=>obtain ⟨_,⟨_,e⟩,_⟩:=x; exact Heap.lt_size e
theorem Paired.mapP {α β:Type} {F G:α→β→Prop}:∀ {l₁:List α} {l₂:List β},Paired F l₁ l₂→(∀ a b,F a b→G a b)→Paired G l₁ l₂
 | _,_,.nil,_=>.nil
 | _,_,.cons r t,f=>.cons (f _ _ r) (Paired.mapP t f)
theorem ObjOk.stay (x:ObjOk P w H h a o) (k:∀ b u,(b=a∨H b=some (.own a))→h.get? b=some u→h'.get? b=some u)
  (ho:∀ b,H b=some (.own a)→H' b=some (.own a)) (ht:∀ b xs,H b=some (.tup xs)→H' b=some (.tup xs)):ObjOk P w H' h' a o:=by
 induction o with
 | lst xs=>obtain ⟨z,its,n,r,e⟩:=x; exact ⟨z,its,n,r,k _ _ (.inl rfl) e⟩
 | tup xs=>obtain ⟨z,its,r,ob,e,c⟩:=x; exact ⟨z,its,r,ob,k _ _ (.inl rfl) e,c⟩
 | dK kvs=>obtain ⟨z,y,vs,r,ob,es,ep,e,c⟩:=x; exact ⟨z,y,vs,r,ob,es,ep,k _ _ (.inl rfl) e,c⟩
 | dT kvs =>
  obtain ⟨z,y,xs,r,ob,es,ep,e,c⟩:=x
  exact ⟨z,y,xs,Paired.mapP r fun p q z=>⟨z.1,ht _ _ z.2.1,z.2.2⟩,ob,es,ep,k _ _ (.inl rfl) e,c⟩
 | dB kvs =>
  obtain ⟨z,y,xs,r,ob,es,ep,e,c⟩:=x
  exact ⟨z,y,xs,Paired.mapP r fun p q z=>⟨z.1,ht _ _ z.2.1,z.2.2⟩,ob,es,ep,k _ _ (.inl rfl) e,c⟩
 | set S n=>obtain ⟨ob,es,ep,t,e,c⟩:=x; exact ⟨ob,es,ep,t,k _ _ (.inl rfl) e,c⟩
 | ins C dx fs =>
  obtain ⟨d,z,ne,e,mA,⟨od,es,ep,e2,c⟩,r⟩:=x
  exact ⟨ho _ d,z,ne,k _ _ (.inl rfl) e,mA,⟨od,es,ep,k _ _ (.inr d) e2,c⟩,r⟩
 | own y=>obtain ⟨ob,e⟩:=x; exact ⟨ob,k _ _ (.inl rfl) e⟩
 | xd fs=>obtain ⟨mA,⟨od,es,ep,e,c⟩,r⟩:=x; exact ⟨mA,⟨od,es,ep,k _ _ (.inl rfl) e,c⟩,r⟩
 | rng lo hi=>obtain ⟨t,u,v,e⟩:=x; exact ⟨t,u,v,k _ _ (.inl rfl) e⟩
 | frz ob u ih=>obtain ⟨e,q⟩:=x; exact ⟨k _ _ (.inl rfl) e,ih q⟩
 | tbl ps =>
  have e:h.get? a=some { cls:=.none,data:=.fields ps }:=x
  show h'.get? a=some { cls:=.none,data:=.fields ps }
  exact k a _ (.inl rfl) e
 | met f y =>
  have e:h.get? a=some (PySem.W.methodObj (.ref f) (.ref y)):=x
  show h'.get? a=some (PySem.W.methodObj (.ref f) (.ref y))
  exact k a _ (.inl rfl) e
 | ext φ=>obtain ⟨p,⟨o,e⟩,st⟩:=x; exact ⟨st _ _ p fun o q=>k _ _ (.inl rfl) q,⟨o,k _ _ (.inl rfl) e⟩,st⟩
theorem HOk.lt (x:HOk P w H h) (e:H a=some o):a < h.objs.size:=(x a o e).lt
theorem HOk.fresh (x:HOk P w H h) (e:h.objs.size≤a):H a=none:=by
 cases q:H a with
 | none=>rfl
 | some u=>exact absurd (Nat.lt_of_lt_of_le (x.lt q) e) (Nat.lt_irrefl _)
theorem HOk.kept (x:HOk P w H h) (k:∀ b u,h.get? b=some u→h'.get? b=some u):HOk P w H h':=fun a o e =>
 (x a o e).stay (fun b u _ q=>k b u q) (fun _ q=>q) fun _ _ q=>q
theorem HOk.laid (x:HOk P w H h) (k:∀ b u,h.get? b=some u→h'.get? b=some u) (hp:h.objs.size≤a) (new:ObjOk P w (upd H a o) h' a o):HOk P w (upd H a o) h':=fun b u e=>by
 have hn:=x.fresh hp
 by_cases hb:b=a
 ·subst hb; rw [upd_same] at e; cases e; exact new
 ·rw [upd_ne hb] at e
  exact (x b u e).stay (fun c v _ q=>k c v q) (fun c q=>by rw [upd_ne (ne_of_none q hn)]; exact q) fun c xs q=>by rw [upd_ne (ne_of_none q hn)]; exact q
end
def Rd (H:Hp) (a:Addr) (u:HO):Prop:=H a=some u∨∃ o,H a=some (.frz o u)
theorem Rd.of {H:Hp} {a:Addr} {u:HO} (h:H a=some u):Rd H a u:=.inl h
theorem Rd.ok {P:Program} {w:World} {H:Hp} {h:Heap} {a:Addr} {u:HO} (r:Rd H a u) (x:HOk P w H h):ObjOk P w H h a u:=by
 rcases r with r | ⟨o,r⟩
 ·exact x a u r
 ·obtain ⟨_,q⟩:=x a _ r
  exact q
def Mut:Option HO→Prop
 | some (.lst _)=>True
 | some (.dK _)=>True
 | some (.dT _)=>True
 | some (.dB _)=>True
 | some (.set _ _)=>True
 | some (.ins _ _ _)=>True
 | some (.ext _)=>True
 | _=>False
section
variable {P:Program} {w:World} {H:Hp} {h h':Heap} {x e:Addr} {o':HO}
theorem HOk.write (ok:HOk P w H h) (mu:Mut (H x)) (he:e=x∨H e=some (.own x)) (k:∀ b u,b≠e→h.get? b=some u→h'.get? b=some u) (heo:∃ u,h'.get? e=some u)
  (new:ObjOk P w (upd H x o') h' x o'):HOk P w (upd H x o') h':=fun b u q=>by
 have nown:∀ c y,H c=some (.own y)→c≠x:=fun c y r z=>by subst z; rw [r] at mu; exact mu
 have ntup:∀ c xs,H c=some (.tup xs)→c≠x:=fun c xs r z=>by subst z; rw [r] at mu; exact mu
 by_cases hb:b=x
 ·subst hb; rw [upd_same] at q; cases q; exact new
 ·rw [upd_ne hb] at q
  by_cases hbe:b=e
  ·have q':H b=some (.own x):=by
    rcases he with z | z
    ·exact absurd (hbe.trans z) hb
    ·rw [hbe]; exact z
   rw [q] at q'; cases q'
   obtain ⟨v,hv⟩:=heo
   exact ⟨v,by rw [hbe]; exact hv⟩
  ·refine (ok b u q).stay (fun c v hc r=>k c v ?_ r) (fun c r=>by rw [upd_ne (nown c b r)]; exact r) fun c xs r=>by rw [upd_ne (ntup c xs r)]; exact r
   rcases hc with rfl | hc
   ·exact hbe
   ·rintro rfl
    rcases he with z | z
    ·exact nown c b hc z
    ·rw [hc] at z; cases z; exact hb rfl
end
structure Un (fs ex:List Addr) (H H':Hp) (h h':Heap):Prop where
 keep:∀ b o,h.get? b=some o→H b=none→b ∉ fs→b ∉ ex→h'.get? b=some o
 slot:∀ b o,h.get? b=some o→H b=none→b∈fs→b ∉ ex→∃ sl,h'.get? b=some { o with slots:=sl }
 free:∀ b o,h.get? b=some o→H b=none→b ∉ ex→H' b=none
 there:∀ b o,h.get? b=some o→b ∉ ex→∃ o',h'.get? b=some o'
 tups:∀ b xs,H b=some (.tup xs)→H' b=some (.tup xs)
 frzs:∀ b o u,H b=some (.frz o u)→H' b=some (.frz o u)
 tbls:∀ b ps,H b=some (.tbl ps)→∃ more,H' b=some (.tbl (ps ++ more))
section
variable {fs fs' ex ex':List Addr} {H H1 H2:Hp} {h h1 h2 h':Heap} {a x e:Addr} {o:HO}
theorem Un.any (u:Un fs ex H H1 h h1) {b:Addr} {ob:Obj} (q:h.get? b=some ob) (n:H b=none) (hx:b ∉ ex):∃ sl,h1.get? b=some { ob with slots:=sl }:=by
 by_cases hb:b∈fs
 ·exact u.slot b ob q n hb hx
 ·exact ⟨ob.slots,u.keep b ob q n hb hx⟩
theorem Un.trans (a:Un fs ex H H1 h h1) (b:Un fs ex H1 H2 h1 h2):Un fs ex H H2 h h2 where
 keep:=fun c ob q n hc hx=>b.keep c ob (a.keep c ob q n hc hx) (a.free c ob q n hx) hc hx
 slot:=fun c ob q n hc hx=>by
  obtain ⟨sl,e1⟩:=a.slot c ob q n hc hx
  obtain ⟨sl',e2⟩:=b.slot c _ e1 (a.free c ob q n hx) hc hx
  exact ⟨sl',e2⟩
 free:=fun c ob q n hx=>by
  obtain ⟨o',e1⟩:=a.there c ob q hx
  exact b.free c o' e1 (a.free c ob q n hx) hx
 there:=fun c ob q hx=>by
  obtain ⟨o',e1⟩:=a.there c ob q hx
  exact b.there c o' e1 hx
 tups:=fun c xs q=>b.tups c xs (a.tups c xs q)
 frzs:=fun c ob xs q=>b.frzs c ob xs (a.frzs c ob xs q)
 tbls:=fun c ps q=>by
  obtain ⟨m1,e1⟩:=a.tbls c ps q
  obtain ⟨m2,e2⟩:=b.tbls c _ e1
  exact ⟨m1 ++ m2,by rw [e2,Array.append_assoc]⟩
theorem Un.kept (k:∀ b u,h.get? b=some u→h'.get? b=some u):Un fs ex H H h h' :=
 ⟨fun b ob q _ _ _=>k b ob q,fun b ob q _ _ _=>⟨ob.slots,k b ob q⟩,fun _ _ _ n _=>n,fun b ob q _=>⟨ob,k b ob q⟩,fun _ _ q=>q,fun _ _ _ q=>q,fun _ ps q=>⟨#[],by rw [q]; simp⟩⟩
theorem Un.refl:Un fs ex H H h h:=Un.kept fun _ _ q=>q
theorem Un.laid (k:∀ b u,h.get? b=some u→h'.get? b=some u) (hp:h.objs.size≤a) (hn:H a=none):Un fs ex H (upd H a o) h h' where
 keep:=fun b u q _ _ _=>k b u q
 slot:=fun b u q _ _ _=>⟨u.slots,k b u q⟩
 free:=fun b u q n _=>by rw [upd_ne (Nat.ne_of_lt (Nat.lt_of_lt_of_le (Heap.lt_size q) hp))]; exact n
 there:=fun b u q _=>⟨u,k b u q⟩
 tups:=fun b xs q=>by rw [upd_ne (ne_of_none q hn)]; exact q
 frzs:=fun b u xs q=>by rw [upd_ne (ne_of_none q hn)]; exact q
 tbls:=fun b ps q=>⟨#[],by rw [upd_ne (ne_of_none q hn),q]; simp⟩
theorem Un.write (mu:Mut (H x)) (he:e=x∨H e=some (.own x)) (k:∀ b u,b≠e→h.get? b=some u→h'.get? b=some u) (heo:∃ u,h'.get? e=some u):Un fs ex H (upd H x o) h h':=by
 have hx:∀ b,H b=none→b≠x:=fun b n z=>by subst z; rw [n] at mu; exact mu
 have hb:∀ b,H b=none→b≠e:=fun b n z=>by
  subst z
  rcases he with r | r
  ·exact hx b n r
  ·rw [n] at r; cases r
 have hm:∀ b u,H b=some u→¬ Mut (some u)→b≠x:=fun b u q nm z=>by subst z; rw [q] at mu; exact nm mu
 refine ⟨fun b u q n _ _=>k b u (hb b n) q,fun b u q n _ _=>⟨u.slots,k b u (hb b n) q⟩,fun b u q n _=>by rw [upd_ne (hx b n)]; exact n,fun b u q _=>?_,
  fun b xs q=>by rw [upd_ne (hm b _ q fun z=>z)]; exact q,fun b u xs q=>by rw [upd_ne (hm b _ q fun z=>z)]; exact q,fun b ps q=>⟨#[],by rw [upd_ne (hm b _ q fun z=>z),q]; simp⟩⟩
 by_cases hbe:b=e
 ·subst hbe; exact heo
 ·exact ⟨u,k b u hbe q⟩
theorem Un.mono (u:Un fs ex H H1 h h1) (hs:∀ b∈fs,b∈fs') (hx:∀ b∈ex,b∈ex'):Un fs' ex' H H1 h h1 :=
 ⟨fun b ob q n hb he=>u.keep b ob q n (fun z=>hb (hs b z)) fun z=>he (hx b z),fun _ _ q n _ he=>u.any q n fun z=>he (hx _ z),fun b ob q n he=>u.free b ob q n fun z=>he (hx b z),fun b ob q he=>u.there b ob q fun z=>he (hx b z),u.tups,u.frzs,u.tbls⟩
end
def trk (h:Heap) (H:Hp):List Addr:=(List.range h.objs.size).filter fun a=>(H a).isSome
def hidT (h:Heap) (H:Hp):Heap:=PySem.W.hideAll h (trk h H)
theorem hidT_size (h:Heap) (H:Hp):(hidT h H).objs.size=h.objs.size:=PySem.W.hideAll_size _ _
theorem hidT_get {h:Heap} {H:Hp} {b:Addr} {o:Obj} (e:h.get? b=some o) (n:H b=none):(hidT h H).get? b=some o :=
 PySem.W.hideAll_get _ e fun hm=>by
  have q:(H b).isSome=true:=(List.mem_filter.mp hm).2
  rw [n] at q; simp at q
theorem of_hidT {h:Heap} {H:Hp} {b:Addr} {o:Obj} (e:(hidT h H).get? b=some o):h.get? b=some o∧H b=none:=by
 have e':h.get? b=some o:=PySem.W.of_hideAll (trk h H) e
 refine ⟨e',?_⟩
 cases q:H b with
 | none=>rfl
 | some x =>
  have hm:b∈trk h H:=List.mem_filter.mpr ⟨List.mem_range.mpr (Heap.lt_size e'),by simp [q]⟩
  have z:(hidT h H).get? b=none:=PySem.W.hideAll_none (trk h H) hm
  rw [z] at e; cases e
def allNews (g h:Heap) (L:Addr):List (Addr × Obj):=(List.range h.objs.size).filterMap fun a=>if a=L∨(g.get? a).isSome=true then none else (h.get? a).map fun o=>(a,o)
def rest (g h:Heap) (L d:Addr):List (Addr × Obj):=(allNews g h L).filter fun p=>decide (p.1≠d)
end L2
namespace L2
open PySem PySem.Spec PyProof.Rows
structure Mod (K:PySem.W.Frag) (mg:Str→Option Value) (base:Heap):Prop where
 kin:K.In base
 glob:base.Ns mainGlobals mg
 blt:∃ mb,base.Ns builtinsNs mb∧∀ x:Str,x≠"__name__"→mb x=bootBuiltins x
 nolimit:base.NoLimit
/-- the context: a def's body (or a comprehension's block) running. base: fixed through the whole law; s₀, H₀: the entry; outer: the frames whose slots others may change (a def's callers); stack: all frames that run;
   ex: iterators that were made ahead of the entry and are walked here (a comprehension's); fn: the names whose cells were made at the entry (a def: all; a comprehension's block: its own); calm: not within an except suite; pn: pins that every state bears; xe: what is wanted of an exception that leaves the code -/
structure Cx where
 prog:Program
 w:World
 K:PySem.W.Frag
 mg:Str→Option Value
 base:Heap
 A:Around
 N:List Str
 s₀:Shared
 H₀:Hp
 env:Env
 outer:List Env
 stack:List Env
 ex:List Addr
 fn:Str→Bool
 calm:Bool
 pn:List (Addr × Obj)
 xe:Value→Shared→Prop
def frs (l:List Env):List Addr:=l.filterMap (·.frame)
abbrev Cx.fs (X:Cx):List Addr:=frs X.outer
def Vis (sc:Scope) (x:Str):Prop:=sc.names.lookup x=some .local∨sc.names.lookup x=some .cell∨sc.names.lookup x=some .free
def Loc (sc:Scope) (x:Str):Prop:=sc.names.lookup x=some .local∨sc.names.lookup x=some .cell
def Look (env:Env) (h:Heap) (m:Str→Option Value) (x:Str) (u:Value):Prop :=
 (env.kindOf x=some .local∧m x=some u)∨((env.kindOf x=some .cell∨env.kindOf x=some .free)∧∃ c,env.cells.lookup x=some c∧h.IsCell c (some u))
structure Cx.Ok (X:Cx):Prop where
 mod:Mod X.K X.mg X.base
 kind:X.env.scope.kind=.function
 glob:X.env.globals=mainGlobals
 blt:X.env.builtins=builtinsNs
 above:X.s₀.heap.objs.size≤X.env.locals
 inj:∀ x y c,X.env.cells.lookup x=some c→X.env.cells.lookup y=some c→x=y
 has:∀ x,(X.env.kindOf x=some .cell∨X.env.kindOf x=some .free)→∃ c,X.env.cells.lookup x=some c
 cab:∀ x c,X.fn x=true→X.env.cells.lookup x=some c→X.s₀.heap.objs.size≤c
 hd:X.calm=true→X.A.handled=none
 frames:X.A.frames=some X.stack
 stk:X.stack=X.outer∨(X.stack=X.env :: X.outer∧X.env.frame=some X.env.locals)
 exf:∀ b∈X.ex,b≠X.env.locals∧∀ x c,X.env.cells.lookup x=some c→c≠b
 bs:∀ b o,X.base.get? b=some o→X.s₀.heap.get? b=some o∧X.H₀ b=none
 bsz:X.base.objs.size≤X.s₀.heap.objs.size
 noex:∀ b o,X.base.get? b=some o→b ∉ X.ex
 exfs:∀ b∈X.ex,b ∉ X.fs
 funs:X.s₀.heap.FunFrames X.base X.outer
 frf:∀ b∈X.fs,X.H₀ b=none
structure Inv (X:Cx) (pins:List (Addr × Obj)) (σ:List (Option V)) (H:Hp) (s:Shared):Prop where
 ok:X.Ok
 os:s.os=X.s₀.os
 bare:AllBare s.gens
 base:Un X.fs X.ex X.H₀ H X.s₀.heap s.heap
 loc:∃ m,s.heap.Ns X.env.locals m∧∀ (i:Nat) (x:Str) (v:V),X.N[i]?=some x→σ[i]?=some (some v)→Vis X.env.scope x→∃ u,RelV v u∧Look X.env s.heap m x u
 cell:∀ x c,X.env.cells.lookup x=some c→∃ v,s.heap.IsCell c v
 free:H X.env.locals=none
 freeC:∀ x c,X.env.cells.lookup x=some c→H c=none
 pin:∀ p∈X.pn ++ pins,s.heap.get? p.1=some p.2∧H p.1=none∧p.1≠X.env.locals∧p.1 ∉ X.fs∧∀ v,p.2.data≠.cell v
 hok:HOk X.prog X.w H s.heap
 len:σ.length=X.N.length
section
variable {X:Cx} {pins:List (Addr × Obj)} {σ:List (Option V)} {H H':Hp} {s:Shared} {h':Heap}
theorem Cx.Ok.nofr (ok:X.Ok) {b:Addr} {o:Obj} (e:X.base.get? b=some o):b ∉ X.fs:=fun hb=>by
 have:=(ok.funs.mem hb).1
 rw [e] at this; cases this
theorem Inv.bs (I:Inv X pins σ H s):∀ b o,X.base.get? b=some o→s.heap.get? b=some o∧H b=none:=fun b o e =>
 ⟨I.base.keep b o (I.ok.bs b o e).1 (I.ok.bs b o e).2 (I.ok.nofr e) (I.ok.noex b o e),I.base.free b o (I.ok.bs b o e).1 (I.ok.bs b o e).2 (I.ok.noex b o e)⟩
theorem Inv.bk (I:Inv X pins σ H s):∀ b o,X.base.get? b=some o→s.heap.get? b=some o:=fun b o e=>(I.bs b o e).1
theorem Inv.mod (I:Inv X pins σ H s):Mod X.K X.mg X.base:=I.ok.mod
theorem Inv.kIn (I:Inv X pins σ H s):X.K.In s.heap:=I.ok.mod.kin.keeps I.bk
theorem Inv.nolimit (I:Inv X pins σ H s):s.heap.NoLimit:=I.ok.mod.nolimit.keeps I.bk
theorem Inv.lt (I:Inv X pins σ H s):X.env.locals < s.heap.objs.size:=let ⟨_,hn,_⟩:=I.loc; hn.lt
theorem Inv.sz (I:Inv X pins σ H s):X.s₀.heap.objs.size≤s.heap.objs.size:=Nat.le_trans I.ok.above (Nat.le_of_lt I.lt)
theorem Inv.nofs (I:Inv X pins σ H s) {a:Addr} (h:s.heap.objs.size≤a):a ∉ X.fs:=fun hb=>by
 obtain ⟨_,o,ho,_⟩:=I.ok.funs.mem hb
 exact absurd (Nat.lt_of_lt_of_le (Heap.lt_size ho) (Nat.le_trans I.sz h)) (Nat.lt_irrefl _)
theorem Inv.cne (I:Inv X pins σ H s):∀ x c,X.env.cells.lookup x=some c→c≠X.env.locals:=fun x c e z=>by
 obtain ⟨v,o,ho,hd⟩:=I.cell x c e
 obtain ⟨m,⟨o',es,ep,ho',hd',_⟩,_⟩:=I.loc
 rw [z,ho'] at ho; cases ho; rw [hd'] at hd; cases hd
theorem Inv.funs (I:Inv X pins σ H s):s.heap.FunFrames X.base X.outer:=by
 have all:∀ (l:List Env),(∀ b∈frs l,b∈X.fs)→X.s₀.heap.FunFrames X.base l→s.heap.FunFrames X.base l:=by
  intro l
  induction l with
  | nil=>intro _ _; trivial
  | cons env r ih =>
   intro hs hl
   obtain ⟨hk,⟨L,o,hf,hn,ho,hd⟩,hr⟩:=hl
   have hL:L∈X.fs:=hs L (by unfold frs; rw [List.filterMap_cons,hf]; exact List.mem_cons_self)
   obtain ⟨sl,e⟩:=I.base.slot L o ho (I.ok.frf L hL) hL fun z=>I.ok.exfs L z hL
   exact ⟨hk,⟨L,_,hf,hn,e,hd⟩,ih (fun b hb=>hs b (by unfold frs; rw [List.filterMap_cons,hf]; exact List.mem_cons_of_mem _ hb)) hr⟩
 exact all X.outer (fun _ hb=>hb) I.ok.funs
theorem Inv.stack (I:Inv X pins σ H s):s.heap.FunFrames X.base X.stack:=by
 rcases I.ok.stk with e | ⟨e,hf⟩
 ·rw [e]; exact I.funs
 ·rw [e]
  obtain ⟨m,hn,_⟩:=I.loc
  refine .cons (by rw [I.ok.kind]; decide) hf hn ?_ I.funs
  exact Heap.get?_none_of_le (Nat.le_trans I.ok.bsz I.ok.above)
theorem Inv.stkSub (I:Inv X pins σ H s):∀ b∈frs X.stack,b∈X.env.locals :: X.fs:=fun b hb=>by
 rcases I.ok.stk with e | ⟨e,hf⟩
 ·rw [e] at hb; exact List.mem_cons_of_mem _ hb
 ·rw [e] at hb
  unfold frs at hb
  rw [List.filterMap_cons,hf] at hb
  exact hb
theorem Inv.stkFree (I:Inv X pins σ H s):∀ b∈frs X.stack,H b=none:=fun b hb=>by
 rcases List.mem_cons.mp (I.stkSub b hb) with e | hb
 ·rw [e]; exact I.free
 ·obtain ⟨_,o,ho,_⟩:=I.ok.funs.mem hb
  exact I.base.free b o ho (I.ok.frf b hb) fun z=>I.ok.exfs b z hb
theorem Inv.step {g':Array GenState} {t':Nat} {d':Drawn} {ch:List Addr} (I:Inv X pins σ H s)
  (hch:∀ b∈ch,(b∈X.ex∨X.s₀.heap.objs.size≤b)∧b≠X.env.locals∧(∀ x c,X.env.cells.lookup x=some c→c≠b)∧∀ p∈X.pn ++ pins,p.1≠b)
  (keep:∀ b o,b≠X.env.locals→b ∉ X.fs→b ∉ ch→s.heap.get? b=some o→H b=none→h'.get? b=some o)
  (slot:∀ b o,b≠X.env.locals→b∈X.fs→b ∉ ch→s.heap.get? b=some o→H b=none→∃ sl,h'.get? b=some { o with slots:=sl }) (free:∀ b o,b ∉ ch→s.heap.get? b=some o→H b=none→H' b=none)
  (there:∀ b o,b ∉ ch→s.heap.get? b=some o→∃ o',h'.get? b=some o')
  (tups:∀ b xs,H b=some (.tup xs)→H' b=some (.tup xs)) (frzs:∀ b o u,H b=some (.frz o u)→H' b=some (.frz o u)) (tbls:∀ b ps,H b=some (.tbl ps)→∃ more,H' b=some (.tbl (ps ++ more)))
  (ns:∀ m,s.heap.Ns X.env.locals m→h'.Ns X.env.locals m) (hok:HOk X.prog X.w H' h') (hg:AllBare g') :
  Inv X pins σ H' { s with heap:=h',gens:=g',drawn:=d',toks:=t' }:=by
 have neL:∀ b o,X.s₀.heap.get? b=some o→b≠X.env.locals:=fun b o e=>Nat.ne_of_lt (Nat.lt_of_lt_of_le (Heap.lt_size e) I.ok.above)
 have neC:∀ b o,X.s₀.heap.get? b=some o→b ∉ X.ex→b ∉ ch:=fun b o e hx hb=>by
  rcases (hch b hb).1 with z | z
  ·exact hx z
  ·exact absurd (Nat.lt_of_lt_of_le (Heap.lt_size e) z) (Nat.lt_irrefl _)
 have cellK:∀ x c,X.env.cells.lookup x=some c→∀ v,s.heap.IsCell c v→h'.IsCell c v:=fun x c e v ⟨o,ho,hd⟩=>by
  have nch:c ∉ ch:=fun z=>(hch c z).2.2.1 x c e rfl
  by_cases hc:c∈X.fs
  ·obtain ⟨sl,q⟩:=slot c o (I.cne x c e) hc nch ho (I.freeC x c e)
   exact ⟨_,q,hd⟩
  ·exact ⟨o,keep c o (I.cne x c e) hc nch ho (I.freeC x c e),hd⟩
 refine ⟨I.ok,I.os,hg,⟨fun b o e n hb hx=>?_,fun b o e n hb hx=>?_,fun b o e n hx=>?_,fun b o e hx=>?_,fun b xs e=>tups b xs (I.base.tups b xs e),fun b o xs e=>frzs b o xs (I.base.frzs b o xs e),fun b ps e=>?_⟩,?_,fun x c e=>?_,?_,fun x c e=>?_,fun p hp=>?_,hok,I.len⟩
 ·exact keep b o (neL b o e) hb (neC b o e hx) (I.base.keep b o e n hb hx) (I.base.free b o e n hx)
 ·obtain ⟨sl,e1⟩:=I.base.slot b o e n hb hx
  obtain ⟨sl',e2⟩:=slot b _ (neL b o e) hb (neC b o e hx) e1 (I.base.free b o e n hx)
  exact ⟨sl',e2⟩
 ·obtain ⟨o',e1⟩:=I.base.there b o e hx
  exact free b o' (neC b o e hx) e1 (I.base.free b o e n hx)
 ·obtain ⟨o',e1⟩:=I.base.there b o e hx
  exact there b o' (neC b o e hx) e1
 ·obtain ⟨m1,e1⟩:=I.base.tbls b ps e
  obtain ⟨m2,e2⟩:=tbls b _ e1
  exact ⟨m1 ++ m2,by rw [e2,Array.append_assoc]⟩
 ·obtain ⟨m,hn,hl⟩:=I.loc
  refine ⟨m,ns m hn,fun i x v e1 e2 e3=>?_⟩
  obtain ⟨u,r,l⟩:=hl i x v e1 e2 e3
  refine ⟨u,r,?_⟩
  rcases l with l | ⟨k,c,e,z⟩
  ·exact .inl l
  ·exact .inr ⟨k,c,e,cellK x c e _ z⟩
 ·obtain ⟨v,z⟩:=I.cell x c e
  exact ⟨v,cellK x c e v z⟩
 ·obtain ⟨m,⟨o,_,_,ho,_⟩,_⟩:=I.loc
  exact free _ o (fun z=>(hch _ z).2.1 rfl) ho I.free
 ·obtain ⟨v,o,ho,hd⟩:=I.cell x c e
  exact free c o (fun z=>(hch c z).2.2.1 x c e rfl) ho (I.freeC x c e)
 ·obtain ⟨e,n,ne,nf,d⟩:=I.pin p hp
  have nch:p.1 ∉ ch:=fun z=>(hch p.1 z).2.2.2 p hp rfl
  exact ⟨keep p.1 p.2 ne nf nch e n,free p.1 p.2 nch e n,ne,nf,d⟩
theorem Inv.un {t':Nat} (I:Inv X pins σ H s) (u:Un X.fs [] H H' s.heap h') (hok:HOk X.prog X.w H' h'):Inv X pins σ H' { s with heap:=h',toks:=t' }:=by
 obtain ⟨m,⟨o,es,ep,ho,r⟩,_⟩:=id I.loc
 obtain ⟨sl,hL⟩:=u.any ho I.free (by simp)
 exact I.step (g':=s.gens) (d':=s.drawn) (ch:=[]) (fun _ z=>nomatch z) (fun b o _ hb _ e n=>u.keep b o e n hb (by simp)) (fun b o _ hb _ e n=>u.slot b o e n hb (by simp)) (fun b o _ e n=>u.free b o e n (by simp)) (fun b o _ e=>u.there b o e (by simp)) u.tups u.frzs u.tbls (fun m' hm=>by
  obtain ⟨o',es',ep',ho',r'⟩:=hm
  rw [ho] at ho'; cases ho'
  exact ⟨_,es',ep',hL,r'⟩) hok I.bare
theorem Inv.call {g':Array GenState} {t':Nat} {d':Drawn} {ch:List Addr} (I:Inv X pins σ H s) (u:Un (frs X.stack) ch H H' s.heap h') (hok:HOk X.prog X.w H' h') (hg:AllBare g')
  (hch:∀ b∈ch,(b∈X.ex∨X.s₀.heap.objs.size≤b)∧b≠X.env.locals∧(∀ x c,X.env.cells.lookup x=some c→c≠b)∧∀ p∈X.pn ++ pins,p.1≠b) :
  Inv X pins σ H' { s with heap:=h',gens:=g',drawn:=d',toks:=t' }:=by
 obtain ⟨m,⟨o,es,ep,ho,r⟩,_⟩:=id I.loc
 obtain ⟨sl,hL⟩:=u.any ho I.free fun z=>(hch _ z).2.1 rfl
 exact I.step (ch:=ch) hch (fun b o hL hb hc e n=>u.keep b o e n (fun z=>(List.mem_cons.mp (I.stkSub b z)).elim hL hb) hc) (fun b o _ _ hc e n=>u.any e n hc) (fun b o hc e n=>u.free b o e n hc) (fun b o hc e=>u.there b o e hc) u.tups u.frzs u.tbls (fun m' hm=>by
  obtain ⟨o',es',ep',ho',r'⟩:=hm
  rw [ho] at ho'; cases ho'
  exact ⟨_,es',ep',hL,r'⟩) hok hg
theorem Inv.turned {t':Nat} {it:Addr} (I:Inv X pins σ H s) (k:∀ b o,b≠it→s.heap.get? b=some o→h'.get? b=some o) (hn:H it=none) (hL:it≠X.env.locals)
  (h1:it∈X.ex∨X.s₀.heap.objs.size≤it) (h2:∀ x c,X.env.cells.lookup x=some c→c≠it) (h3:∀ p∈X.pn ++ pins,p.1≠it):Inv X pins σ H { s with heap:=h',toks:=t' }:=by
 have nit:∀ b u,H b=some u→b≠it:=fun b u e z=>by rw [z,hn] at e; cases e
 refine I.step (g':=s.gens) (d':=s.drawn) (ch:=[it]) (fun b hb=>?_) (fun b o _ _ hc e _=>k b o (fun z=>hc (by simp [z])) e) (fun b o _ _ hc e _=>⟨o.slots,k b o (fun z=>hc (by simp [z])) e⟩) (fun _ _ _ _ n=>n)
  (fun b o hc e=>⟨o,k b o (fun z=>hc (by simp [z])) e⟩) (fun _ _ e=>e) (fun _ _ _ e=>e) (fun b ps e=>⟨#[],by rw [e]; simp⟩) (fun m hm=>?_) (fun b u e=>?_) I.bare
 ·have e:b=it:=by simpa using hb
  subst e
  exact ⟨h1,hL,h2,h3⟩
 ·obtain ⟨o,es,ep,ho,r⟩:=hm
  exact ⟨o,es,ep,k _ o (Ne.symm hL) ho,r⟩
 ·refine (I.hok b u e).stay (fun c v hc q=>k c v ?_ q) (fun _ q=>q) fun _ _ q=>q
  rcases hc with z | z
  ·rw [z]; exact nit b u e
  ·exact nit c _ z
theorem Inv.tok (I:Inv X pins σ H s) (t:Nat):Inv X pins σ H { s with toks:=t }:=I.un (h':=s.heap) (t':=t) Un.refl I.hok
theorem Inv.kept {t':Nat} (I:Inv X pins σ H s) (k:∀ b u,s.heap.get? b=some u→h'.get? b=some u):Inv X pins σ H { s with heap:=h',toks:=t' }:=I.un (Un.kept k) (I.hok.kept k)
theorem Inv.laid {a:Addr} {o:HO} {t':Nat} (I:Inv X pins σ H s) (k:∀ b u,s.heap.get? b=some u→h'.get? b=some u) (hp:s.heap.objs.size≤a) (new:ObjOk X.prog X.w (upd H a o) h' a o) :
  Inv X pins σ (upd H a o) { s with heap:=h',toks:=t' }:=I.un (Un.laid k hp (I.hok.fresh hp)) (I.hok.laid k hp new)
theorem Inv.write {x e:Addr} {o:HO} {t':Nat} (I:Inv X pins σ H s) (mu:Mut (H x)) (he:e=x∨H e=some (.own x)) (k:∀ b u,b≠e→s.heap.get? b=some u→h'.get? b=some u) (heo:∃ u,h'.get? e=some u)
  (new:ObjOk X.prog X.w (upd H x o) h' x o):Inv X pins σ (upd H x o) { s with heap:=h',toks:=t' }:=I.un (Un.write mu he k heo) (I.hok.write mu he k heo new)
theorem Inv.weak {σ':List (Option V)} (I:Inv X pins σ H s) (hl:σ'.length=σ.length) (w:∀ (i:Nat) v,σ'[i]?=some (some v)→σ[i]?=some (some v)):Inv X pins σ' H s :=
 ⟨I.ok,I.os,I.bare,I.base,let ⟨m,hn,hl'⟩:=I.loc; ⟨m,hn,fun i x v e1 e2 e3=>hl' i x v e1 (w i v e2) e3⟩,I.cell,I.free,I.freeC,I.pin,I.hok,hl.trans I.len⟩
theorem Inv.pins_of {pins':List (Addr × Obj)} (I:Inv X pins σ H s) (h:∀ p∈pins',s.heap.get? p.1=some p.2∧H p.1=none∧p.1≠X.env.locals∧p.1 ∉ X.fs∧∀ v,p.2.data≠.cell v):Inv X pins' σ H s :=
 ⟨I.ok,I.os,I.bare,I.base,I.loc,I.cell,I.free,I.freeC,fun p hp=>(List.mem_append.mp hp).elim (fun z=>I.pin p (List.mem_append_left _ z)) (h p),I.hok,I.len⟩
theorem nodup_ix {N:List Str} (hN:N.Nodup) {i j:Nat} {x:Str} (a:N[i]?=some x) (b:N[j]?=some x):i=j:=by
 obtain ⟨h1,e1⟩:=List.getElem?_eq_some_iff.mp a
 obtain ⟨h2,e2⟩:=List.getElem?_eq_some_iff.mp b
 exact (List.getElem_inj hN).mp (e1.trans e2.symm)
theorem store_ok2 {M:Model} {A:Around} {E:Value→Shared→Prop} {i:Nat} {x:Str} {v:V} {u:Value} {Q:Unit→Shared→Prop} (I:Inv X pins σ H s) (hN:X.N.Nodup) (hi:X.N[i]?=some x) (hx:Loc X.env.scope x) (r:RelV v u)
  (h:∀ s',Inv X pins (σ.set i (some v)) H s'→(∃ a,Heap.SameBut a s.heap s'.heap∧(a=X.env.locals∨X.env.cells.lookup x=some a))→Q () s') (hf:X.fn x=true∨X.env.scope.names.lookup x=some .local:=by first | exact .inl rfl | exact .inr rfl | assumption):wpAny M A (storeName X.env x u) Q E s:=by
 obtain ⟨m,hn,hl⟩:=id I.loc
 have hcls:(X.env.scope.kind == .class || (X.env.scope.kind == .module && X.env.locals != X.env.globals))=false:=by rw [I.ok.kind]; rfl
 have hiσ:i < σ.length:=by rw [I.len]; exact (List.getElem?_eq_some_iff.mp hi).1
 have cne:=I.cne
 have tracked:∀ {a:Addr} {h':Heap},(∃ o,s.heap.get? a=some o∧H a=none)→Heap.SameBut a s.heap h'→HOk X.prog X.w H h':=fun {a h'} ha hs b ob e=>by
  obtain ⟨_,_,hfree⟩:=ha
  refine (I.hok b ob e).stay (fun c w' hc q=>(hs.2 c ?_).trans q) (fun _ q=>q) fun _ _ q=>q
  rintro rfl
  rcases hc with rfl | hc
  ·rw [hfree] at e; cases e
  ·rw [hfree] at hc; cases hc
 rcases hx with hk | hk
 ·refine wpAny_storeName_local hk hn (fun h' hn' hs=>?_) hcls
  obtain ⟨oL,_,_,hoL,_⟩:=id hn
  refine h _ ⟨I.ok,I.os,I.bare,⟨fun b o e n hb hx=>?_,fun b o e n hb hx=>?_,I.base.free,fun b o e hx=>?_,I.base.tups,I.base.frzs,I.base.tbls⟩,⟨_,hn',fun j y v' e1 e2 e3=>?_⟩,fun y c e=>?_,I.free,I.freeC,fun p hp=>?_,tracked ⟨oL,hoL,I.free⟩ hs,by simpa using I.len⟩ ⟨_,hs,.inl rfl⟩
  ·exact (hs.2 b (Nat.ne_of_lt (Nat.lt_of_lt_of_le (Heap.lt_size e) I.ok.above))).trans (I.base.keep b o e n hb hx)
  ·obtain ⟨sl,e1⟩:=I.base.slot b o e n hb hx
   exact ⟨sl,(hs.2 b (Nat.ne_of_lt (Nat.lt_of_lt_of_le (Heap.lt_size e) I.ok.above))).trans e1⟩
  ·obtain ⟨o',e1⟩:=I.base.there b o e hx
   exact ⟨o',(hs.2 b (Nat.ne_of_lt (Nat.lt_of_lt_of_le (Heap.lt_size e) I.ok.above))).trans e1⟩
  ·by_cases hj:j=i
   ·subst hj
    rw [hi] at e1; cases e1
    rw [List.getElem?_set_self hiσ] at e2
    cases e2
    exact ⟨u,r,.inl ⟨hk,by simp⟩⟩
   ·rw [List.getElem?_set_ne (Ne.symm hj)] at e2
    obtain ⟨u',r',q⟩:=hl j y v' e1 e2 e3
    refine ⟨u',r',?_⟩
    rcases q with ⟨k,e⟩ | ⟨k,c,e,z⟩
    ·refine .inl ⟨k,?_⟩
     have:y≠x:=fun e=>hj (nodup_ix hN e1 (e ▸ hi))
     simp [this,e]
    ·exact .inr ⟨k,c,e,z.sameBut hs (cne y c e)⟩
  ·obtain ⟨w',z⟩:=I.cell y c e
   exact ⟨w',z.sameBut hs (cne y c e)⟩
  ·obtain ⟨e,n,ne,nf,d⟩:=I.pin p hp
   exact ⟨(hs.2 p.1 ne).trans e,n,ne,nf,d⟩
 ·have hfn:X.fn x=true:=by
   rcases hf with z | z
   ·exact z
   ·rw [z] at hk; cases hk
  obtain ⟨c,hc⟩:=I.ok.has x (.inl hk)
  obtain ⟨w',z⟩:=I.cell x c hc
  refine wpAny_storeName_cell I.ok.kind hk hc z (fun h' hc' hs=>?_)
  obtain ⟨oc,hoc,hocd⟩:=id z
  refine h { s with heap:=h' } ⟨I.ok,I.os,I.bare,⟨fun b o e n hb hx=>?_,fun b o e n hb hx=>?_,I.base.free,fun b o e hx=>?_,I.base.tups,I.base.frzs,I.base.tbls⟩,⟨m,hn.sameBut hs (Ne.symm (cne x c hc)),fun j y v' e1 e2 e3=>?_⟩,fun y c' e=>?_,I.free,I.freeC,fun p hp=>?_,tracked ⟨oc,hoc,I.freeC x c hc⟩ hs,by simpa using I.len⟩ ⟨c,hs,.inr hc⟩
  ·exact (hs.2 b (Nat.ne_of_lt (Nat.lt_of_lt_of_le (Heap.lt_size e) (I.ok.cab x c hfn hc)))).trans (I.base.keep b o e n hb hx)
  ·obtain ⟨sl,e1⟩:=I.base.slot b o e n hb hx
   exact ⟨sl,(hs.2 b (Nat.ne_of_lt (Nat.lt_of_lt_of_le (Heap.lt_size e) (I.ok.cab x c hfn hc)))).trans e1⟩
  ·obtain ⟨o',e1⟩:=I.base.there b o e hx
   exact ⟨o',(hs.2 b (Nat.ne_of_lt (Nat.lt_of_lt_of_le (Heap.lt_size e) (I.ok.cab x c hfn hc)))).trans e1⟩
  ·by_cases hj:j=i
   ·subst hj
    rw [hi] at e1; cases e1
    rw [List.getElem?_set_self hiσ] at e2
    cases e2
    exact ⟨u,r,.inr ⟨.inl hk,c,hc,hc'⟩⟩
   ·rw [List.getElem?_set_ne (Ne.symm hj)] at e2
    obtain ⟨u',r',q⟩:=hl j y v' e1 e2 e3
    refine ⟨u',r',?_⟩
    rcases q with q | ⟨k,c',e,z'⟩
    ·exact .inl q
    ·refine .inr ⟨k,c',e,z'.sameBut hs ?_⟩
     rintro rfl
     exact hj (nodup_ix hN e1 (I.ok.inj _ _ _ e hc ▸ hi))
  ·by_cases hcc:c'=c
   ·subst hcc; exact ⟨_,hc'⟩
   ·obtain ⟨w2,z2⟩:=I.cell y c' e
    exact ⟨w2,z2.sameBut hs hcc⟩
  ·obtain ⟨e,n,ne,nf,d⟩:=I.pin p hp
   refine ⟨(hs.2 p.1 ?_).trans e,n,ne,nf,d⟩
   intro q
   rw [q,hoc] at e
   have q':oc=p.2:=Option.some.inj e
   exact d w' (by rw [← q']; exact hocd)
theorem store_ok {M:Model} {A:Around} {E:Value→Shared→Prop} {i:Nat} {x:Str} {v:V} {u:Value} {Q:Unit→Shared→Prop} (I:Inv X pins σ H s) (hN:X.N.Nodup) (hi:X.N[i]?=some x) (hx:Loc X.env.scope x) (r:RelV v u)
  (h:∀ s',Inv X pins (σ.set i (some v)) H s'→Q () s') (hf:X.fn x=true∨X.env.scope.names.lookup x=some .local:=by first | exact .inl rfl | exact .inr rfl | assumption):wpAny M A (storeName X.env x u) Q E s :=
 store_ok2 I hN hi hx r (fun s' I' _=>h s' I') hf
theorem Inv.call' {s':Shared} {ch:List Addr} (I:Inv X pins σ H s) (ho:s'.os=s.os) (u:Un (frs X.stack) ch H H' s.heap s'.heap) (hok:HOk X.prog X.w H' s'.heap) (hg:AllBare s'.gens)
  (hch:∀ b∈ch,(b∈X.ex∨X.s₀.heap.objs.size≤b)∧b≠X.env.locals∧(∀ x c,X.env.cells.lookup x=some c→c≠b)∧∀ p∈X.pn ++ pins,p.1≠b):Inv X pins σ H' s':=by
 obtain ⟨h',g',d',t',o'⟩:=s'
 have e:o'=s.os:=ho
 subst e
 exact I.call (g':=g') (t':=t') (d':=d') u hok hg hch
end
abbrev XK:=Value→Option Addr→Hp→Prop
abbrev St:=List (Option V)
abbrev VK:=V→Hp→Prop
abbrev TE:=St→Hp→VK→Prop
abbrev TT:=St→Hp→(Bool→Hp→Prop)→Prop
abbrev TA:=St→Hp→(List V→Hp→Prop)→Prop
structure Ends where
 nx:St→Hp→Prop
 rt:VK
 bk:St→Hp→Prop:=fun _ _=>False
 ct:St→Hp→Prop:=fun _ _=>False
abbrev TS:=Ends→St→Hp→Prop
def EP (X:Cx) (pins:List (Addr × Obj)) (σ:St) (Q:VK) (u:Value) (s':Shared):Prop:=∃ v H',Inv X pins σ H' s'∧RelV v u∧Q v H'
def TP (X:Cx) (pins:List (Addr × Obj)) (σ:St) (Q:Bool→Hp→Prop) (b:Bool) (s':Shared):Prop:=∃ H',Inv X pins σ H' s'∧Q b H'
def AP (X:Cx) (pins:List (Addr × Obj)) (σ:St) (Q:List V→Hp→Prop) (us:List Value) (s':Shared):Prop:=∃ vs H',Inv X pins σ H' s'∧Vals vs us∧Q vs H'
def SP (X:Cx) (pins:List (Addr × Obj)) (D:Ends) (f:Flow) (s':Shared):Prop :=
 match f with
 | .next=>∃ σ' H',Inv X pins σ' H' s'∧D.nx σ' H'
 | .brk=>∃ σ' H',Inv X pins σ' H' s'∧D.bk σ' H'
 | .cont=>∃ σ' H',Inv X pins σ' H' s'∧D.ct σ' H'
 | .ret u=>∃ v σ' H',Inv X pins σ' H' s'∧RelV v u∧D.rt v H'
def PE (X:Cx) (e:Expr) (t:TE):Prop :=
 ∀ (pins:List (Addr × Obj)) (s:Shared) (σ:St) (H:Hp) (Q:VK),Inv X pins σ H s→t σ H Q→wpAny (model X.prog X.w) X.A (eval e X.env) (EP X pins σ Q) X.xe s
def PT (X:Cx) (e:Expr) (t:TT):Prop :=
 ∀ (pins:List (Addr × Obj)) (s:Shared) (σ:St) (H:Hp) (Q:Bool→Hp→Prop),Inv X pins σ H s→t σ H Q→wpAny (model X.prog X.w) X.A (isTrue e X.env (eval e X.env)) (TP X pins σ Q) X.xe s
def PW (X:Cx) (e:Expr) (t:TT):Prop :=
 ∀ (whole:Sem Value) (pins:List (Addr × Obj)) (s:Shared) (σ:St) (H:Hp) (Q:Bool→Hp→Prop),Inv X pins σ H s→t σ H Q→wpAny (model X.prog X.w) X.A (isTrue e X.env whole) (TP X pins σ Q) X.xe s
theorem PW.pt {X:Cx} {e:Expr} {t:TT} (h:PW X e t):PT X e t:=h _
def PA (X:Cx) (es:List Expr) (t:TA):Prop :=
 ∀ (pos:Pos) (pins:List (Addr × Obj)) (s:Shared) (σ:St) (H:Hp) (Q:List V→Hp→Prop),Inv X pins σ H s→t σ H Q→wpAny (model X.prog X.w) X.A (spliced (backTo pos (starEach es X.env))) (AP X pins σ Q) X.xe s
def PS (X:Cx) (st:Stmt) (t:TS):Prop :=
 ∀ (pins:List (Addr × Obj)) (s:Shared) (σ:St) (H:Hp) (D:Ends),Inv X pins σ H s→t D σ H→wpAny (model X.prog X.w) X.A (exec st X.env) (SP X pins D) X.xe s
def PSs (X:Cx) (st:List Stmt) (t:TS):Prop :=
 ∀ (pins:List (Addr × Obj)) (s:Shared) (σ:St) (H:Hp) (D:Ends),Inv X pins σ H s→t D σ H→wpAny (model X.prog X.w) X.A (execs st X.env) (SP X pins D) X.xe s
theorem thn {α:Type} {t:Sem α} {Q Q':α→Shared→Prop} {M:Model} {A:Around} {E:Value→Shared→Prop} {s:Shared} (h:wpAny M A t Q E s) (hQ:∀ a s,Q a s→Q' a s):wpAny M A t Q' E s:=wpAny_mono h hQ fun _ _ x=>x
end L2
namespace L2
open PySem PySem.Spec PyProof.Rows
section
variable {X:Cx}
def tVar (i:Nat):TE:=fun σ H Q=>∃ v,σ[i]?=some (some v)∧Q v H
def tC (v:V):TE:=fun _ H Q=>Q v H
theorem pe_var {i:Nat} {x:Str} {pos:Pos} (hN:X.N[i]?=some x) (hv:Vis X.env.scope x) (hd:(x == ("__debug__":Str))=false:=by decide) (hcd:(x == ("__classdict__":Str))=false:=by decide):PE X (.Name x pos) (tVar i):=by
 intro pins s σ H Q I h
 obtain ⟨v,e,h⟩:=h
 obtain ⟨m,hn,hl⟩:=I.loc
 obtain ⟨u,r,l⟩:=hl i x v hN e hv
 have fin:EP X pins σ Q u s:=⟨v,H,I,r,h⟩
 rcases l with ⟨hk,hm⟩ | ⟨hk,c,hc,hcell⟩
 ·exact wpAny_Name (wpAny_loadName_local I.ok.kind hk hn hm fin) hd
 ·rcases hk with hk | hk
  ·exact wpAny_Name (wpAny_loadName_cell I.ok.kind hk hc hcell fin) hd
  ·exact wpAny_Name (wpAny_loadName_free I.ok.kind hk hc hcell fin hcd) hd
theorem pe_int {i j pos}:PE X (.Constant (.int i) j pos) (tC (.int i)):=fun _ _ _ H _ I h=>wpAny_Constant_int ⟨.int i,H,I.tok _,⟨_,rfl⟩,h⟩
theorem pe_bl {b j pos}:PE X (.Constant (.bool b) j pos) (tC (.bl b)):=fun _ _ _ H _ I h=>Constant_bool ⟨.bl b,H,I,rfl,h⟩
theorem pe_non {j pos}:PE X (.Constant .none j pos) (tC .non):=fun _ _ _ H _ I h=>Constant_none ⟨.non,H,I,rfl,h⟩
theorem pe_str {x j pos}:PE X (.Constant (.str x) j pos) (tC (.str x)):=fun _ _ _ H _ I h=>Calls.Constant_str ⟨.str x,H,I.tok _,⟨_,rfl⟩,h⟩
def Gl (X:Cx) (x:Str):Prop:=X.env.kindOf x=some .globalImplicit
theorem ld_glob {E:Value→Shared→Prop} {pins:List (Addr × Obj)} {s:Shared} {σ:St} {H:Hp} {x:Str} {u:Value} {pos:Pos} {Q:Value→Shared→Prop} (I:Inv X pins σ H s) (hg:Gl X x) (hm:X.mg x=some u) (h:Q u s)
  (hd:(x == ("__debug__":Str))=false:=by decide):wpAny (model X.prog X.w) X.A (eval (.Name x pos) X.env) Q E s :=
 Calls.Name_function_global I.ok.kind hg (Calls.loadGlobal_global (by rw [I.ok.glob]; exact I.mod.glob.keeps I.bk) hm h) hd
theorem ld_blt {E:Value→Shared→Prop} {pins:List (Addr × Obj)} {s:Shared} {σ:St} {H:Hp} {x:Str} {u:Value} {pos:Pos} {Q:Value→Shared→Prop} (I:Inv X pins σ H s) (hg:Gl X x) (hm:X.mg x=none) (hv:bootBuiltins x=some u) (h:Q u s)
  (hn:x≠"__name__":=by decide) (hd:(x == ("__debug__":Str))=false:=by decide):wpAny (model X.prog X.w) X.A (eval (.Name x pos) X.env) Q E s:=by
 obtain ⟨mb,h1,h2⟩:=I.mod.blt
 exact Calls.Name_function_global I.ok.kind hg (Calls.loadGlobal_builtin (by rw [I.ok.glob]; exact I.mod.glob.keeps I.bk) hm (by rw [I.ok.blt]; exact h1.keeps I.bk) ((h2 x hn).trans hv) h) hd
theorem pe_glob {x:Str} {v:V} {u:Value} {pos:Pos} (hg:Gl X x) (hm:X.mg x=some u) (r:RelV v u) (hd:(x == ("__debug__":Str))=false:=by decide):PE X (.Name x pos) (tC v) :=
 fun _ _ _ H _ I h=>ld_glob I hg hm ⟨v,H,I,r,h⟩ hd
theorem pe_bltn {x:Str} {v:V} {u:Value} {pos:Pos} (hg:Gl X x) (hm:X.mg x=none) (hv:bootBuiltins x=some u) (r:RelV v u) (hn:x≠"__name__":=by decide) (hd:(x == ("__debug__":Str))=false:=by decide):PE X (.Name x pos) (tC v) :=
 fun _ _ _ H _ I h=>ld_blt I hg hm hv ⟨v,H,I,r,h⟩ hn hd
variable {a b:Expr} {ta tb:TE} {pos:Pos}
def PC (X:Cx) (op:CmpOp) (a b:Expr) (t:TE):Prop :=
 ∀ (pins:List (Addr × Obj)) (s:Shared) (σ:St) (H:Hp) (Q:VK),Inv X pins σ H s→t σ H Q →
  wpAny (model X.prog X.w) X.A (eval a X.env) (fun v s₁=>wpAny (model X.prog X.w) X.A (eval b X.env) (fun u s₂=>wpAny (model X.prog X.w) X.A (compareOp op v u) (EP X pins σ Q) X.xe s₂) X.xe s₁) X.xe s
theorem nobehind (b:Expr) {op:CmpOp} (h:op≠.In) (h2:op≠.NotIn):behindInMarks op b=false:=by
 have e1:(op == CmpOp.In)=false:=by cases op <;> first | rfl | exact absurd rfl h
 have e2:(op == CmpOp.NotIn)=false:=by cases op <;> first | rfl | exact absurd rfl h2
 cases b <;> simp [behindInMarks,e1,e2]
def tIsN (ta:TE):TE:=fun σ H Q=>ta σ H fun x H1=>Q (.bl (decide (x=.non))) H1
def tNotN (ta:TE):TE:=fun σ H Q=>ta σ H fun x H1=>Q (.bl (!decide (x=.non))) H1
theorem RelV.none_iff {x:V} {v:Value} (r:RelV x v):(v == Value.none)=decide (x=.non):=by
 cases x with
 | non=>cases r; rfl
 | bl _=>cases r; rfl
 | int _=>obtain ⟨t,rfl⟩:=r; rfl
 | str _=>obtain ⟨t,rfl⟩:=r; rfl
 | byt _=>obtain ⟨t,rfl⟩:=r; rfl
 | flt _=>obtain ⟨t,rfl⟩:=r; rfl
 | ref _=>cases r; rfl
 | ty _=>cases r; rfl
theorem pc_isN {j pos'} (ha:PE X a ta):PC X .Is a (.Constant .none j pos') (tIsN ta):=by
 intro pins s σ H Q I h
 refine thn (ha pins s σ H _ I h) fun v s1 ⟨x,H1,I1,r1,q1⟩=>?_
 exact Constant_none (is_none_gen ⟨.bl _,H1,I1,by rw [r1.none_iff]; rfl,q1⟩)
theorem pc_notN {j pos'} (ha:PE X a ta):PC X .IsNot a (.Constant .none j pos') (tNotN ta):=by
 intro pins s σ H Q I h
 refine thn (ha pins s σ H _ I h) fun v s1 ⟨x,H1,I1,r1,q1⟩=>?_
 exact Constant_none (isnot_none_gen ⟨.bl _,H1,I1,by rw [r1.none_iff]; rfl,q1⟩)
def tB (t:TE):TT:=fun σ H Q=>t σ H fun x H1=>∃ c,x=.bl c∧Q c H1
theorem pt_cmp {op:CmpOp} {t:TE} (h:PC X op a b t) (h1:behindInMarks op b=false:=by first | exact nobehind _ (by decide) (by decide) | rfl):PT X (.Compare a [op] [b] pos) (tB t):=by
 intro pins s σ H Q I hw
 refine wpAny_isTrue_Compare1 (thn (h pins s σ H _ I hw) fun v s1 h1=>thn h1 fun u s2 h2=>thn h2 fun c s3 ⟨x,H1,I1,r1,q1⟩=>?_) h1
 obtain ⟨d,rfl,q⟩:=q1
 cases r1
 exact wpAny_truthy_bool ⟨H1,I1,q⟩
theorem pt_val {e:Expr} {t:TE} (h:PE X e t) (he:∀ whole,isTrue e X.env whole=(do let v ← whole; standAt e.pos; holding [v] (truthy v)):=by intro _; rfl):PT X e (tB t):=by
 intro pins s σ H Q I hw
 refine isTrue_plain (thn (h pins s σ H _ I hw) fun v s1 ⟨x,H1,I1,r1,q1⟩=>?_) (he _)
 obtain ⟨d,rfl,q⟩:=q1
 cases r1
 exact wpAny_truthy_bool ⟨H1,I1,q⟩
variable {tA tB':TT} {rest:List Expr}
def tAnd (t u:TT):TT:=fun σ H Q=>t σ H fun c H1=>if c=true then u σ H1 Q else Q false H1
def tOr (t u:TT):TT:=fun σ H Q=>t σ H fun c H1=>if c=true then Q true H1 else u σ H1 Q
def tNot (t:TT):TT:=fun σ H Q=>t σ H fun c H1=>Q (!c) H1
theorem pw_and1 (ha:PT X a tA):PW X (.BoolOp .And [a] pos) tA:=by
 intro wh pins s σ H Q I h
 refine isTrue_and (thn (ha pins s σ H Q I h) fun c s1 e=>?_)
 cases c with
 | true=>exact isTrue_and_nil e
 | false=>exact e
theorem pw_or1 (ha:PT X a tA):PW X (.BoolOp .Or [a] pos) tA:=by
 intro wh pins s σ H Q I h
 refine isTrue_or (thn (ha pins s σ H Q I h) fun c s1 e=>?_)
 cases c with
 | false=>exact isTrue_or_nil e
 | true=>exact e
theorem pw_and (ha:PT X a tA) (hb:PW X (.BoolOp .And (b :: rest) pos) tB'):PW X (.BoolOp .And (a :: b :: rest) pos) (tAnd tA tB'):=by
 intro wh pins s σ H Q I h
 refine isTrue_and (thn (ha pins s σ H _ I h) fun c s1 ⟨H1,I1,q1⟩=>?_)
 cases c with
 | true=>exact hb wh pins s1 σ H1 Q I1 q1
 | false=>exact ⟨H1,I1,q1⟩
theorem pw_or (ha:PT X a tA) (hb:PW X (.BoolOp .Or (b :: rest) pos) tB'):PW X (.BoolOp .Or (a :: b :: rest) pos) (tOr tA tB'):=by
 intro wh pins s σ H Q I h
 refine isTrue_or (thn (ha pins s σ H _ I h) fun c s1 ⟨H1,I1,q1⟩=>?_)
 cases c with
 | true=>exact ⟨H1,I1,q1⟩
 | false=>exact hb wh pins s1 σ H1 Q I1 q1
theorem pt_not (ha:PT X a tA):PT X (.UnaryOp .Not a pos) (tNot tA):=by
 intro pins s σ H Q I h
 exact isTrue_not (ha pins s σ H (fun c H1=>Q (!c) H1) I h)
def tAndV (ta tb:TE):TE:=fun σ H Q=>ta σ H fun x H1=>∃ c,x=.bl c∧if c=true then tb σ H1 Q else Q (.bl false) H1
def tNotV (ta:TE):TE:=fun σ H Q=>ta σ H fun x H1=>∃ c,x=.bl c∧Q (.bl (!c)) H1
theorem pe_one {op} {t:TE} (h:PE X a t):PE X (.BoolOp op [a] pos) t:=fun pins s σ H Q I hw=>BoolOp_one (h pins s σ H Q I hw)
theorem pe_and (ha:PE X a ta) (hb:PE X (.BoolOp .And (b :: rest) pos) tb):PE X (.BoolOp .And (a :: b :: rest) pos) (tAndV ta tb):=by
 intro pins s σ H Q I h
 refine BoolOp_and (thn (ha pins s σ H _ I h) fun v s1 ⟨x,H1,I1,r1,q1⟩=>?_)
 obtain ⟨c,rfl,q1⟩:=q1
 cases r1
 refine wpAny_truthy_bool ?_
 cases c with
 | true=>exact hb pins s1 σ H1 Q I1 q1
 | false=>exact ⟨.bl false,H1,I1,rfl,q1⟩
theorem pe_not (ha:PE X a ta):PE X (.UnaryOp .Not a pos) (tNotV ta):=by
 intro pins s σ H Q I h
 refine UnaryOp_ (thn (ha pins s σ H _ I h) fun v s1 ⟨x,H1,I1,r1,q1⟩=>?_)
 obtain ⟨c,rfl,q1⟩:=q1
 cases r1
 exact not_of (wpAny_truthy_bool ⟨.bl (!c),H1,I1,rfl,q1⟩)
def tIf (t:TT) (ta tb:TE):TE:=fun σ H Q=>t σ H fun c H1=>if c=true then ta σ H1 Q else tb σ H1 Q
theorem pe_ifExp {c:Expr} (hc:PT X c tA) (ha:PE X a ta) (hb:PE X b tb):PE X (.IfExp c a b pos) (tIf tA ta tb):=by
 intro pins s σ H Q I h
 refine wpAny_IfExp (thn (hc pins s σ H _ I h) fun d s1 ⟨H1,I1,q1⟩=>?_)
 cases d with
 | true=>exact ha pins s1 σ H1 Q I1 q1
 | false=>exact hb pins s1 σ H1 Q I1 q1
end
end L2
namespace L2
open PySem PySem.Spec PyProof.Rows
def SqL (K:PySem.W.Frag) (H:Hp) (a:Addr) (xs:List V):Prop :=
 Rd H a (.lst xs) ∨
  ∃ (o:Obj) (its:Array Value) (n:Nat),K.lookup a=some o∧o.cls=.type "list"∧o.dict=none∧o.data=.seq its n∧its.size≤sizeLine∧Vals xs its.toList
def SqT (K:PySem.W.Frag) (H:Hp) (a:Addr) (xs:List V):Prop :=
 Rd H a (.tup xs) ∨
  ∃ (o:Obj) (its:Array Value) (n:Nat),K.lookup a=some o∧o.cls=.type "tuple"∧o.data=.seq its n∧its.size≤sizeLine∧Vals xs its.toList
def absV:Value→Option V
 | .none=>some .non
 | .bool b=>some (.bl b)
 | .int i _=>some (.int i)
 | .str x _=>some (.str x)
 | .bytes b _=>some (.byt b)
 | .float b _=>some (.flt b)
 | .ref a=>some (.ref a)
 | .type n=>some (.ty n)
 | _=>none
theorem RelV.abs {x:V} {u:Value} (r:RelV x u):absV u=some x:=by
 cases x with
 | non=>cases r; rfl
 | bl _=>cases r; rfl
 | int _=>obtain ⟨t,rfl⟩:=r; rfl
 | str _=>obtain ⟨t,rfl⟩:=r; rfl
 | byt _=>obtain ⟨t,rfl⟩:=r; rfl
 | flt _=>obtain ⟨t,rfl⟩:=r; rfl
 | ref _=>cases r; rfl
 | ty _=>cases r; rfl
theorem RelV.inj {x y:V} {u:Value} (r:RelV x u) (q:RelV y u):x=y:=Option.some.inj (r.abs.symm.trans q.abs)
theorem Vals.inj:∀ {xs ys:List V} {us:List Value},Vals xs us→Vals ys us→xs=ys
 | _,_,_,.nil,.nil=>rfl
 | _,_,_,.cons r t,.cons r' t'=>by rw [r.inj r',Vals.inj t t']
section
variable {X:Cx} {pins:List (Addr × Obj)} {σ:St} {H:Hp} {s:Shared} {a:Addr} {xs ys:List V}
theorem SqL.of {K:PySem.W.Frag} (h:H a=some (.lst xs)):SqL K H a xs:=.inl (.inl h)
theorem SqT.of {K:PySem.W.Frag} (h:H a=some (.tup xs)):SqT K H a xs:=.inl (.inl h)
theorem Inv.list (I:Inv X pins σ H s) (h:SqL X.K H a xs):∃ its:List Value,Vals xs its∧PlainL s.heap a its.toArray∧xs.length≤sizeLine:=by
 rcases h with h | ⟨o,its,n,hk,hc,hd,hs,hz,r⟩
 ·obtain ⟨z,its,n,r,e⟩:=h.ok I.hok
  exact ⟨its,r,⟨_,n,e,rfl,rfl,rfl⟩,z⟩
 ·refine ⟨its.toList,r,⟨o,n,I.kIn a o hk,hc,hd,by simpa using hs⟩,?_⟩
  have e:=r.length
  simp only [Array.length_toList] at e
  omega
theorem Inv.tuple (I:Inv X pins σ H s) (h:SqT X.K H a xs):∃ its:List Value,Vals xs its∧IsTup s.heap a its.toArray∧xs.length≤sizeLine:=by
 rcases h with h | ⟨o,its,n,hk,hc,hs,hz,r⟩
 ·obtain ⟨z,its,r,p⟩:=h.ok I.hok
  exact ⟨its,r,p,z⟩
 ·refine ⟨its.toList,r,⟨o,I.kIn a o hk,hc,n,by simpa using hs⟩,?_⟩
  have e:=r.length
  simp only [Array.length_toList] at e
  omega
theorem Inv.list_inj (I:Inv X pins σ H s) (h:SqL X.K H a xs) (h':SqL X.K H a ys):xs=ys:=by
 obtain ⟨its,r,⟨o,n,e,_,_,d⟩,_⟩:=I.list h
 obtain ⟨its',r',⟨o',n',e',_,_,d'⟩,_⟩:=I.list h'
 rw [e] at e'; cases e'
 rw [d] at d'
 injection d' with d1 _
 have:its=its':=by simpa using congrArg Array.toList d1
 subst this
 exact r.inj r'
end
abbrev Cx.wish (X:Cx) (E:Value→Shared→Prop):Cx:={ X with xe:=E }
abbrev Cx.nox (X:Cx):Cx:=X.wish fun _ _=>False
theorem Cx.Ok.wish {X:Cx} (ok:X.Ok) (E:Value→Shared→Prop):(X.wish E).Ok :=
 ⟨ok.mod,ok.kind,ok.glob,ok.blt,ok.above,ok.inj,ok.has,ok.cab,ok.hd,ok.frames,ok.stk,ok.exf,ok.bs,ok.bsz,ok.noex,ok.exfs,ok.funs,ok.frf⟩
theorem Cx.Ok.unwish {X:Cx} {E:Value→Shared→Prop} (ok:(X.wish E).Ok):X.Ok :=
 ⟨ok.mod,ok.kind,ok.glob,ok.blt,ok.above,ok.inj,ok.has,ok.cab,ok.hd,ok.frames,ok.stk,ok.exf,ok.bs,ok.bsz,ok.noex,ok.exfs,ok.funs,ok.frf⟩
section
variable {X:Cx} {pins:List (Addr × Obj)} {σ:St} {H:Hp} {s:Shared} {E:Value→Shared→Prop}
theorem Inv.wish (I:Inv X pins σ H s) (E:Value→Shared→Prop):Inv (X.wish E) pins σ H s:=⟨I.ok.wish E,I.os,I.bare,I.base,I.loc,I.cell,I.free,I.freeC,I.pin,I.hok,I.len⟩
theorem Inv.unwish (I:Inv (X.wish E) pins σ H s):Inv X pins σ H s:=⟨I.ok.unwish,I.os,I.bare,I.base,I.loc,I.cell,I.free,I.freeC,I.pin,I.hok,I.len⟩
theorem SP.unwish {D:Ends} {f:Flow} {s':Shared} (h:SP (X.wish E) pins D f s'):SP X pins D f s':=by
 cases f with
 | next=>obtain ⟨σ',H',I,q⟩:=h; exact ⟨σ',H',I.unwish,q⟩
 | brk=>obtain ⟨σ',H',I,q⟩:=h; exact ⟨σ',H',I.unwish,q⟩
 | cont=>obtain ⟨σ',H',I,q⟩:=h; exact ⟨σ',H',I.unwish,q⟩
 | ret u=>obtain ⟨v,σ',H',I,r,q⟩:=h; exact ⟨v,σ',H',I.unwish,r,q⟩
theorem PE.nox {e:Expr} {t:TE} (h:PE X.nox e t):PE X e t:=fun pins s σ H Q I hw =>
 wpAny_mono (h pins s σ H Q (I.wish _) hw) (fun _ _ ⟨v,H',I',r,q⟩=>⟨v,H',I'.unwish,r,q⟩) fun _ _ z=>False.elim z
theorem PT.nox {e:Expr} {t:TT} (h:PT X.nox e t):PT X e t:=fun pins s σ H Q I hw =>
 wpAny_mono (h pins s σ H Q (I.wish _) hw) (fun _ _ ⟨H',I',q⟩=>⟨H',I'.unwish,q⟩) fun _ _ z=>False.elim z
theorem PSs.nox {st:List Stmt} {t:TS} (h:PSs X.nox st t):PSs X st t:=fun pins s σ H D I hw =>
 wpAny_mono (h pins s σ H D (I.wish _) hw) (fun _ _ q=>q.unwish) fun _ _ z=>False.elim z
end
section
variable {X:Cx} {st:Stmt} {rest:List Stmt} {t u:TS} {e:Expr} {te:TE} {pos:Pos}
def tNext:TS:=fun D σ H=>D.nx σ H
def tSeq (t u:TS):TS:=fun D σ H=>t { D with nx:=u D } σ H
theorem pss_nil:PSs X [] tNext:=fun _ _ σ H _ I h=>wpAny_execs_nil ⟨σ,H,I,h⟩
theorem pss_cons (h1:PS X st t) (h2:PSs X rest u):PSs X (st :: rest) (tSeq t u):=by
 intro pins s σ H D I h
 refine wpAny_execs_cons (thn (h1 pins s σ H { D with nx:=u D } I h) fun f s1 q=>?_)
 cases f with
 | next =>
  obtain ⟨σ',H',I',q⟩:=q
  exact h2 pins s1 σ' H' D I' q
 | ret v=>exact q
 | brk=>exact q
 | cont=>exact q
theorem Inv.quiet {pins:List (Addr × Obj)} {σ:St} {H:Hp} {s:Shared} (I:Inv X pins σ H s):interactive X.env=false:=by simp [interactive,I.ok.kind]
def tDrop (te:TE):TS:=fun D σ H=>te σ H fun _ H1=>D.nx σ H1
theorem ps_expr (he:PE X e te) (hs:swapsWith e none pos.line X.env=pure false:=by rfl):PS X (.Expr e pos) (tDrop te):=by
 intro pins s σ H D I h
 exact wpAny_Expr_any (thn (he pins s σ H _ I h) fun v s1 ⟨x,H1,I1,r1,q1⟩=>⟨σ,H1,I1,q1⟩) I.quiet hs
def tRet (te:TE):TS:=fun D σ H=>te σ H D.rt
theorem ps_ret (he:PE X e te):PS X (.Return (some e) pos) (tRet te):=by
 intro pins s σ H D I h
 exact wpAny_Return_some (thn (he pins s σ H _ I h) fun v s1 ⟨x,H1,I1,r1,q1⟩=>⟨x,σ,H1,I1,r1,q1⟩)
def tIfS (c:TT) (t u:TS):TS:=fun D σ H=>c σ H fun b H1=>if b=true then t D σ H1 else u D σ H1
theorem ps_if {c:Expr} {a b:List Stmt} {tc:TT} (hc:PT X c tc) (ha:PSs X a t) (hb:PSs X b u):PS X (.If c a b pos) (tIfS tc t u):=by
 intro pins s σ H D I h
 refine wpAny_If (thn (hc pins s σ H _ I h) fun d s1 ⟨H1,I1,q1⟩=>?_)
 cases d with
 | true=>exact ha pins s1 σ H1 D I1 q1
 | false=>exact hb pins s1 σ H1 D I1 q1
def tNever:TS:=fun _ _ _=>False
theorem pss_never {sts:List Stmt}:PSs X sts tNever:=fun _ _ _ _ _ _ h=>h.elim
end
abbrev TG:=V→St→Hp→(St→Hp→Prop)→Prop
abbrev TGs:=List V→St→Hp→(St→Hp→Prop)→Prop
def PG (X:Cx) (target:Expr) (t:TG):Prop :=
 ∀ (pins:List (Addr × Obj)) (s:Shared) (σ:St) (H:Hp) (v:V) (u:Value) (Q:St→Hp→Prop),Inv X pins σ H s→RelV v u→t v σ H Q →
  wpAny (model X.prog X.w) X.A (assign target X.env u) (fun _ s'=>∃ σ' H',Inv X pins σ' H' s'∧Q σ' H') X.xe s
def PGs (X:Cx) (ts:List Expr) (t:TGs):Prop :=
 ∀ (pins:List (Addr × Obj)) (s:Shared) (σ:St) (H:Hp) (vs:List V) (us:List Value) (Q:St→Hp→Prop),Inv X pins σ H s→Vals vs us→t vs σ H Q →
  wpAny (model X.prog X.w) X.A (assignInOrder ((assignEach ts X.env).map (·.2)) us) (fun _ s'=>∃ σ' H',Inv X pins σ' H' s'∧Q σ' H') X.xe s
abbrev TSet:=V→V→V→Hp→(Hp→Prop)→Prop
def PSet (X:Cx) (t:TSet):Prop :=
 ∀ (pins:List (Addr × Obj)) (s:Shared) (σ:St) (H:Hp) (o i v:V) (ov iv u:Value) (Q:Hp→Prop),Inv X pins σ H s→RelV o ov→RelV i iv→RelV v u→t o i v H Q →
  wpAny (model X.prog X.w) X.A (setItem ov iv u) (fun _ s'=>∃ H',Inv X pins σ H' s'∧Q H') X.xe s
section
variable {X:Cx} {pos:Pos}
def gName (i:Nat):TG:=fun v σ H Q=>Q (σ.set i (some v)) H
theorem pg_name {i:Nat} {x:Str} (hN:X.N.Nodup) (hi:X.N[i]?=some x) (hx:Loc X.env.scope x) (hf:X.fn x=true∨X.env.scope.names.lookup x=some .local:=by first | exact .inl rfl | exact .inr rfl | assumption):PG X (.Name x pos) (gName i):=by
 intro pins s σ H v u Q I r h
 exact wpAny_assign_Name (store_ok I hN hi hx r (fun s' I'=>⟨_,H,I',h⟩) hf)
def gNil:TGs:=fun vs σ H Q=>vs=[]∧Q σ H
def gCons (t:TG) (u:TGs):TGs:=fun vs σ H Q=>∃ v r,vs=v :: r∧t v σ H fun σ' H'=>u r σ' H' Q
theorem pgs_nil:PGs X [] gNil:=by
 intro pins s σ H vs us Q I r h
 obtain ⟨e,h⟩:=h
 subst e
 cases r
 exact assignInOrder_nil ⟨σ,H,I,h⟩
theorem pgs_cons {e:Expr} {es:List Expr} {t:TG} {u:TGs} (h1:PG X e t) (h2:PGs X es u)
  (hs:(assignEach (e :: es) X.env).map (·.2)=assign e X.env :: (assignEach es X.env).map (·.2):=by rfl):PGs X (e :: es) (gCons t u):=by
 intro pins s σ H vs us Q I r h
 obtain ⟨v,vr,e1,h⟩:=h
 subst e1
 cases r with
 | cons r rr =>
  rw [hs]
  refine assignInOrder_cons (thn (h1 pins s σ H _ _ _ I r h) fun _ s1 ⟨σ1,H1,I1,q1⟩=>?_)
  exact h2 pins s1 σ1 H1 _ _ Q I1 rr q1
def gTup (K:PySem.W.Frag) (n:Nat) (t:TGs):TG:=fun v σ H Q=>∃ a xs,v=.ref a∧SqT K H a xs∧xs.length=n∧t xs σ H Q
theorem pg_tup {es:List Expr} {k:Nat} {t:TGs} {n:Nat} (hc:X.calm=true) (h:PGs X es t)
  (hn:(assignEach es X.env).length=n:=by rfl) (hst:(assignEach es X.env).findIdx? (·.1)=none:=by rfl):PG X (.Tuple es k pos) (gTup X.K n t):=by
 intro pins s σ H v u Q I r hw
 obtain ⟨a,xs,e1,hq,hl,hw⟩:=hw
 subst e1
 cases r
 obtain ⟨its,rv,ht,hz⟩:=I.tuple hq
 refine assign_Tuple_tuple (I.ok.hd hc) ht (by simp [hn,← hl,rv.length]) hst fun h' hx=>?_
 have I1:Inv X pins σ H { s with heap:=h' }:=I.kept (t':=s.toks) fun b o e=>hx b o (Nat.ne_of_lt (Heap.lt_size e)) e
 exact h pins _ σ H xs _ Q I1 (by simpa using rv) hw
def gSub (to ti:TE) (t:TSet):TG:=fun v σ H Q=>to σ H fun o H1=>ti σ H1 fun i H2=>t o i v H2 fun H3=>Q σ H3
theorem pg_sub {o i:Expr} {to ti:TE} {t:TSet} (ho:PE X o to) (hi:PE X i ti) (hs:PSet X t)
  (ha:∀ v,assign (.Subscript o i pos) X.env v=(do
   let ov ← holding [v] (eval o X.env)
   let iv ← holding [v,ov] (eval i X.env)
   standAt pos
   holding [v,ov,iv] (setItem ov iv v)
   release [v,ov,iv] []):=by intro _; rfl):PG X (.Subscript o i pos) (gSub to ti t):=by
 intro pins s σ H v u Q I r h
 rw [ha]
 refine wpAny_bind (wpAny_holding (thn (ho pins s σ H _ I h) fun ov s1 ⟨x,H1,I1,r1,q1⟩=>?_))
 refine wpAny_bind (wpAny_holding (thn (hi pins s1 σ H1 _ I1 q1) fun iv s2 ⟨y,H2,I2,r2,q2⟩=>?_))
 refine wpAny_bind (wpAny_standAt (wpAny_bind (wpAny_holding (thn (hs pins s2 σ H2 x y v ov iv u _ I2 r1 r2 r q2) fun _ s3 ⟨H3,I3,q3⟩=>?_))))
 exact wpAny_release ⟨σ,H3,I3,q3⟩
def tAsg (te:TE) (g:TG):TS:=fun D σ H=>te σ H fun x H1=>g x σ H1 D.nx
theorem ps_asg {tg e:Expr} {te:TE} {g:TG} (he:PE X e te) (hg:PG X tg g) (hs:swapsWithSole [tg] e pos.line X.env=pure false:=by rfl) (hw:swappedStores [tg] e X.env=pure none:=by rfl)
  (h1:(assignEach [tg] X.env).map (·.2)=[assign tg X.env]:=by rfl):PS X (.Assign [tg] e pos) (tAsg te g):=by
 intro pins s σ H D I h
 refine wpAny_Assign_stores (thn (he pins s σ H _ I h) fun v s1 ⟨x,H1,I1,r1,q1⟩=>?_) hs hw
 rw [h1]
 exact thn (hg pins s1 σ H1 x v _ I1 r1 q1) fun _ s2 q=>q
theorem ps_set {i:Nat} {x:Str} {e:Expr} {te:TE} {pos':Pos} (hN:X.N.Nodup) (hi:X.N[i]?=some x) (hx:Loc X.env.scope x) (he:PE X e te) (hs:swapsWith e (some (.Name x pos')) pos.line X.env=pure false:=by rfl) (hf:X.fn x=true∨X.env.scope.names.lookup x=some .local:=by first | exact .inl rfl | exact .inr rfl | assumption) :
  PS X (.Assign [.Name x pos'] e pos) (tAsg te (gName i)):=by
 intro pins s σ H D I h
 refine wpAny_Assign_Name (thn (he pins s σ H _ I h) fun v s1 ⟨y,H1,I1,r1,q1⟩=>?_) hs
 exact store_ok I1 hN hi hx r1 (fun s2 I2=>⟨_,H1,I2,q1⟩) hf
end
section
variable {X:Cx} {pos:Pos}
def tWhile (c:TT) (tb:TS):TS:=fun D σ H=>∃ W:Nat→St→Hp→Prop,(∃ m,W m σ H)∧∀ m σ H,W m σ H →
 c σ H fun b H1=>if b=true then ∃ N:St→Hp→Prop,(∀ σ' H',N σ' H'→∃ m',m' < m∧W m' σ' H')∧tb { D with nx:=N,ct:=N,bk:=D.nx } σ H1 else D.nx σ H1
theorem ps_while {c:Expr} {body:List Stmt} {tc:TT} {tb:TS} (hp:PassesOwn (model X.prog X.w) X.A X.env X.xe) (hc:PT X c tc) (hb:PSs X body tb):PS X (.While c body [] pos) (tWhile tc tb):=by
 intro pins s σ H D I h
 obtain ⟨W,⟨m0,w0⟩,turn⟩:=h
 refine wpAny_While (codeAny_whileLoop (fun n s'=>∃ σ' H',Inv X pins σ' H' s'∧W n σ' H') ?_ m0 ⟨σ,H,I,w0⟩)
 rintro n s1 ⟨σ1,H1,I1,w1⟩
 refine wpAny_passesOwn hp (thn (hc pins s1 σ1 H1 _ I1 (turn n σ1 H1 w1)) fun b s2 ⟨H2,I2,q2⟩=>?_)
 cases b with
 | true =>
  obtain ⟨N,hN,q2⟩:=q2
  rw [if_pos rfl]
  refine wpAny_passesOwn hp (thn (hb pins s2 σ1 H2 _ I2 q2) fun f s3 q3=>?_)
  cases f with
  | next =>
   obtain ⟨σ3,H3,I3,n3⟩:=q3
   obtain ⟨m',hm,w3⟩:=hN σ3 H3 n3
   exact ⟨m',hm,σ3,H3,I3,w3⟩
  | cont =>
   obtain ⟨σ3,H3,I3,n3⟩:=q3
   obtain ⟨m',hm,w3⟩:=hN σ3 H3 n3
   exact ⟨m',hm,σ3,H3,I3,w3⟩
  | brk=>exact q3
  | ret v=>exact q3
 | false =>
  rw [if_neg Bool.false_ne_true]
  exact wpAny_execs_nil ⟨σ1,H2,I2,q2⟩
end
structure It where
 go:Nat→Hp→Prop
 yld:Nat→Hp→V→Hp→Prop
 stop:Nat→Hp→Prop
def FpOk (X:Cx) (pins:List (Addr × Obj)) (H:Hp) (b:Addr):Prop :=
 H b=none∧b≠X.env.locals∧b ∉ X.fs∧(b∈X.ex∨X.s₀.heap.objs.size≤b)∧(∀ x c,X.env.cells.lookup x=some c→c≠b)∧∀ p∈X.pn ++ pins,p.1≠b
theorem Inv.fpOk {X:Cx} {pins:List (Addr × Obj)} {σ:St} {H H':Hp} {s:Shared} {b:Addr} (I:Inv X pins σ H s) (hb:s.heap.objs.size≤b) (hn:H' b=none):FpOk X pins H' b:=by
 refine ⟨hn,Nat.ne_of_gt (Nat.lt_of_lt_of_le I.lt hb),I.nofs hb,.inr (Nat.le_trans I.sz hb),fun x c e z=>?_,fun p hp z=>?_⟩
 ·obtain ⟨v,q⟩:=I.cell x c e
  exact absurd (Nat.lt_of_lt_of_le q.lt (by rw [z]; exact hb)) (Nat.lt_irrefl _)
 ·exact absurd (Nat.lt_of_lt_of_le (Heap.lt_size (I.pin p hp).1) (by rw [z]; exact hb)) (Nat.lt_irrefl _)
structure Turn (P:Program) (w:World) (K:PySem.W.Frag) (tg:Expr) (J:It) (fp:List Addr) (it:Addr) (tn:Nat→Heap→Prop):Prop where
 mem:it∈fp
 obj:∀ i h,tn i h→∀ b∈fp,∃ o,h.get? b=some o∧∀ v,o.data≠.cell v
 keep:∀ i h h',tn i h→(∀ b∈fp,∀ o,h.get? b=some o→h'.get? b=some o)→tn i h'
 item:∀ (X:Cx),X.prog=P→X.w=w→X.K=K→X.calm=true→∀ (i:Nat) (pins:List (Addr × Obj)) (s:Shared) (σ:St) (H:Hp) (E:Value→Shared→Prop),Inv X pins σ H s→(∀ b∈fp,FpOk X pins H b)→tn i s.heap→J.go i H →
  wpAny (model P w) X.A (pyNext (.ref it)) (fun r s1=>∃ u,r=some u ∧
   wpAny (model P w) X.A (letOwnedTupleGo tg (.ref it) u) (fun _ s2=>∃ x H',Inv X pins σ H' s2∧RelV x u∧J.yld i H x H'∧tn (i + 1) s2.heap∧∀ b∈fp,H' b=none) E s1) E s
 done:∀ (X:Cx),X.prog=P→X.w=w→X.K=K→X.calm=true→∀ (i:Nat) (pins:List (Addr × Obj)) (s:Shared) (σ:St) (H:Hp) (E:Value→Shared→Prop),Inv X pins σ H s→(∀ b∈fp,FpOk X pins H b)→tn i s.heap→J.stop i H →
  wpAny (model P w) X.A (pyNext (.ref it)) (fun r s1=>r=none∧Inv X pins σ H s1) E s
 self:∀ (A:Around) (i:Nat) (s:Shared) (Q:Value→Shared→Prop) (E:Value→Shared→Prop),tn i s.heap→Q (.ref it) s→wpAny (model P w) A (pyIter (.ref it)) Q E s
abbrev TI:=St→Hp→(It→Hp→Prop)→Prop
def PIE (X:Cx) (pins:List (Addr × Obj)) (σ:St) (tg:Expr) (R:It→Hp→Prop) (itv:Value) (s2:Shared):Prop :=
 ∃ (it:Addr) (fp:List Addr) (tn:Nat→Heap→Prop) (J:It) (H':Hp),itv=.ref it∧Inv X pins σ H' s2∧Turn X.prog X.w X.K tg J fp it tn∧tn 0 s2.heap∧(∀ b∈fp,FpOk X pins H' b)∧R J H'
def PI (X:Cx) (tg iter:Expr) (wi:TI):Prop :=
 ∀ (pins:List (Addr × Obj)) (s:Shared) (σ:St) (H:Hp) (R:It→Hp→Prop),Inv X pins σ H s→wi σ H R →
  wpAny (model X.prog X.w) X.A (eval iter X.env) (fun v s1=>wpAny (model X.prog X.w) X.A (pyIter v) (PIE X pins σ tg R) X.xe s1) X.xe s
theorem go_of {M : Model} {A : Around} {E : Value → Shared → Prop} {s : Shared} {tg : Expr} {it : Addr} {u : Value} {o : Obj} {n : String} {vs : Array Value} {Q : Unit → Shared → Prop} (ho : s.heap.get? it = some o) (hc : o.cls = .type n) (hd : o.data = .fields vs)
    (hn : ["enumerate", "zip", "dict_itemiterator", "dict_reverseitemiterator", "odict_iterator", "itertools.zip_longest", "itertools.pairwise"].contains n = false) (hQ : Q () s) : wpAny M A (letOwnedTupleGo tg (.ref it) u) Q E s := by
  unfold letOwnedTupleGo
  cases tg <;> first
    | exact wpAny_pure hQ
    | (cases u <;> first
        | exact wpAny_pure hQ
        | (refine wpAny_bind (wpAny_load ho ?_)
           rw [hc, hd]
           show wpAny M A (if (["enumerate", "zip", "dict_itemiterator", "dict_reverseitemiterator", "odict_iterator", "itertools.zip_longest", "itertools.pairwise"].contains n && vs[0]? == some (rawInt _)) = true then _ else _) Q E s
           rw [if_neg (by intro h; rw [hn, Bool.false_and] at h; cases h)]
           exact wpAny_pure hQ))
def Itl (K:PySem.W.Frag) (a:Addr):It :=
 ⟨fun i H=>∃ xs x,SqL K H a xs∧xs[i]?=some x,fun i H x H'=>H'=H∧∀ xs,SqL K H a xs→xs[i]?=some x,fun i H=>∃ xs,SqL K H a xs∧xs.length≤i⟩
def Itr (lo:Int) (n:Nat):It:=⟨fun i _=>i < n,fun i H x H'=>H'=H∧x=.int (lo + i),fun i _=>n≤i⟩
theorem turn_list {P:Program} {w:World} {K:PySem.W.Frag} {tg:Expr} (a it:Addr):Turn P w K tg (Itl K a) [it] it (fun i h=>h.IsListIter it a i) where
 mem:=by simp
 obj:=fun i h st b hb=>by
  have e:b=it:=by simpa using hb
  subst e
  obtain ⟨o,e,c,d⟩:=st
  exact ⟨o,e,fun v z=>by rw [d] at z; cases z⟩
 keep:=fun i h h' st k=>st.at fun o e=>k it (by simp) o e
 item:=by
  intro X hP hw hK hc i pins s σ H E I hf st hg
  subst hP hw hK
  obtain ⟨xs,x,hq,hx⟩:=hg
  obtain ⟨its,rv,p,hz⟩:=I.list hq
  obtain ⟨u,hu,ru⟩:=rv.get hx
  obtain ⟨f0,f1,f2,f3,f4,f5⟩:=hf it (by simp)
  refine wpAny_pyNext_list_item st p.isList (x:=u) (by simpa using hu) fun h' st' sb=>?_
  have I1:Inv X pins σ H { s with heap:=h' }:=I.turned (t':=s.toks) (fun b o hb e=>(sb.2 b hb).trans e) f0 f1 f3 f4 f5
  obtain ⟨o,e,c,d⟩:=id st'
  exact ⟨u,rfl,go_of (s:={ s with heap:=h' }) e c d (by decide) ⟨x,H,I1,ru,⟨rfl,fun ys hy=>by rw [I.list_inj hy hq]; exact hx⟩,st',fun b hb=>(hf b hb).1⟩⟩
 done:=by
  intro X hP hw hK hc i pins s σ H E I hf st hg
  subst hP hw hK
  obtain ⟨xs,hq,hx⟩:=hg
  obtain ⟨its,rv,p,hz⟩:=I.list hq
  obtain ⟨f0,f1,f2,f3,f4,f5⟩:=hf it (by simp)
  have hl:=rv.length
  exact wpAny_pyNext_list_end (I.ok.hd hc) st p.isList (by simp; omega) fun h' eb=>⟨rfl,I.turned (t':=s.toks) (fun b o hb e=>eb b o hb e) f0 f1 f3 f4 f5⟩
 self:=fun _ _ _ _ _ st h=>wpAny_pyIter_listiter st h
theorem turn_range {P:Program} {w:World} {K:PySem.W.Frag} {tg:Expr} (it:Addr) (lo:Int) (n:Nat):Turn P w K tg (Itr lo n) [it] it (fun i h=>IsRangeIter h it (lo + (i:Nat) * 1) ((n:Int) - (i:Nat)) 1) where
 mem:=by simp
 obj:=fun i h st b hb=>by
  have e:b=it:=by simpa using hb
  subst e
  exact ⟨_,st,fun v z=>by
   have z':Data.fields _=Data.cell v:=z
   cases z'⟩
 keep:=fun i h h' st k=>k it (by simp) _ st
 item:=by
  intro X hP hw hK hc i pins s σ H E I hf st hg
  subst hP hw hK
  obtain ⟨f0,f1,f2,f3,f4,f5⟩:=hf it (by simp)
  have W:=Walks.range (prog:=X.prog) (w:=X.w) (I.ok.hd hc) it lo 1 n
  refine W.item i s _ _ hg st fun v h' tk hv st' kk=>?_
  obtain ⟨t,rfl⟩:=hv
  have I1:Inv X pins σ H { s with heap:=h',toks:=tk }:=I.turned (fun b o hb e=>kk b o (by simpa using hb) e) f0 f1 f3 f4 f5
  refine ⟨_,rfl,go_of (s:={ s with heap:=h',toks:=tk }) (n:="range_iterator") st' rfl rfl (by decide) ⟨.int (lo + i),H,I1,⟨t,?_⟩,⟨rfl,rfl⟩,st',fun b hb=>(hf b hb).1⟩⟩
  rw [Int.mul_one]
 done:=by
  intro X hP hw hK hc i pins s σ H E I hf st hg
  subst hP hw hK
  obtain ⟨f0,f1,f2,f3,f4,f5⟩:=hf it (by simp)
  exact wpAny_pyNext_range_end (I.ok.hd hc) st (by have:n≤i:=hg; omega) fun h' eb=>⟨rfl,I.turned (t':=s.toks) (fun b o hb e=>eb b o hb e) f0 f1 f3 f4 f5⟩
 self:=fun _ _ _ _ _ st h=>wpAny_pyIter_rangeiter st h
end L2
namespace L2
open PySem PySem.Spec PyProof.Rows
section
variable {X:Cx} {tg:Expr}
def iList (K:PySem.W.Frag) (tl:TE):TI:=fun σ H R=>tl σ H fun x H1=>∃ a,x=.ref a∧(∃ xs,SqL K H1 a xs)∧R (Itl K a) H1
theorem pi_list {l:Expr} {tl:TE} (hl:PE X l tl):PI X tg l (iList X.K tl):=by
 intro pins s σ H R I h
 refine thn (hl pins s σ H _ I h) fun v s1 ⟨x,H1,I1,r1,q1⟩=>?_
 obtain ⟨a,e,⟨xs,hq⟩,q⟩:=q1
 subst e
 cases r1
 obtain ⟨its,rv,p,hz⟩:=I1.list hq
 refine wpAny_pyIter_list p.isList ?_
 refine ⟨s1.heap.objs.size,[s1.heap.objs.size],_,_,H1,rfl,I1.kept (t':=s1.toks) fun b o e=>Heap.get?_push_of_some _ e,turn_list a _,⟨_,Heap.get?_push_size _ rfl,rfl,rfl⟩,fun b hb=>?_,q⟩
 have e:b=s1.heap.objs.size:=by simpa using hb
 subst e
 exact I1.fpOk (Nat.le_refl _) (I1.hok.fresh (Nat.le_refl _))
theorem range_it {pins:List (Addr × Obj)} {σ:St} {H:Hp} {s:Shared} {R:It→Hp→Prop} {E:Value→Shared→Prop} {lo hi:Int} {t u v:Tok} {tk:Nat} (I:Inv X pins σ H s) (h1:-(2 ^ 62)≤lo) (h2:lo < 2 ^ 62) (h3:-(2 ^ 62)≤hi) (h4:hi < 2 ^ 62)
  (q:R (Itr lo (hi - lo).toNat) H):wpAny (model X.prog X.w) X.A (pyIter (.ref s.heap.objs.size)) (PIE X pins σ tg R) E { s with heap:=s.heap.push { cls:=.type "range",data:=.fields #[.int lo t,.int hi u,.int 1 v] },toks:=tk }:=by
 refine wpAny_pyIter_range (IsRange.new ..) (small_one h1 h2 h3 h4) ?_
 have I1:Inv X pins σ H { s with heap:=s.heap.push { cls:=.type "range",data:=.fields #[.int lo t,.int hi u,.int 1 v] },toks:=tk }:=I.kept fun b o e=>Heap.get?_push_of_some _ e
 refine ⟨(s.heap.push { cls:=.type "range",data:=.fields #[.int lo t,.int hi u,.int 1 v] }).objs.size,[(s.heap.push { cls:=.type "range",data:=.fields #[.int lo t,.int hi u,.int 1 v] }).objs.size],_,_,H,rfl,
  I1.kept (t':=tk) fun b o e=>Heap.get?_push_of_some _ e,turn_range _ lo (hi - lo).toNat,?_,fun b hb=>?_,q⟩
 ·have e1:lo + ((0:Nat):Int) * 1=lo:=by simp
  have e2:(((hi - lo).toNat:Nat):Int) - ((0:Nat):Int)=Builtin.Range.rangeSize lo hi 1:=by rw [rangeSize_one]; split <;> omega
  show IsRangeIter _ _ (lo + ((0:Nat):Int) * 1) ((((hi - lo).toNat:Nat):Int) - ((0:Nat):Int)) 1
  rw [e1,e2]
  exact Heap.get?_push_size _ rfl
 ·have e:b=(s.heap.push { cls:=.type "range",data:=.fields #[.int lo t,.int hi u,.int 1 v] }).objs.size:=by simpa using hb
  subst e
  exact I1.fpOk (Nat.le_refl _) (I1.hok.fresh (Nat.le_refl _))
def iRng1 (ta:TA):TI:=fun σ H R=>ta σ H fun vs H1=>∃ j:Int,vs=[.int j]∧-(2 ^ 62)≤j∧j < 2 ^ 62∧R (Itr 0 j.toNat) H1
def iRng2 (ta:TA):TI:=fun σ H R=>ta σ H fun vs H1=>∃ i j:Int,vs=[.int i,.int j]∧(-(2 ^ 62)≤i∧i < 2 ^ 62∧-(2 ^ 62)≤j∧j < 2 ^ 62)∧R (Itr i (j - i).toNat) H1
theorem pi_range1 {a:Expr} {ta:TA} {p pos:Pos} (hg:Gl X "range") (hm:X.mg "range"=none) (ha:PA X [a] ta) (hs:starEach [a] X.env=[(false,eval a X.env)]:=by rfl):PI X tg (.Call (.Name "range" p) [a] [] pos) (iRng1 ta):=by
 intro pins s σ H R I h
 refine Call_ (ld_blt I hg hm boot_range (PyProof.Rows.callWith_type1 (thn (ha pos pins s σ H _ I h) fun us s1 ⟨vs,H1,I1,r1,q1⟩=>?_) hs rfl))
 obtain ⟨j,e,q1,q2,q⟩:=q1
 subst e
 cases r1 with
 | cons r rr =>
  cases rr
  obtain ⟨t,rfl⟩:=r
  exact call_range_1 (range_it I1 (by omega) (by omega) q1 q2 (by simpa using q))
theorem pi_range2 {a b:Expr} {ta:TA} {p pos:Pos} (hg:Gl X "range") (hm:X.mg "range"=none) (ha:PA X [a,b] ta) (hs:starEach [a,b] X.env=[(false,eval a X.env),(false,eval b X.env)]:=by rfl) (hs2:starEach [b] X.env=[(false,eval b X.env)]:=by rfl) :
  PI X tg (.Call (.Name "range" p) [a,b] [] pos) (iRng2 ta):=by
 intro pins s σ H R I h
 refine Call_ (ld_blt I hg hm boot_range (PyProof.Rows.callWith_type1 (thn (ha pos pins s σ H _ I h) fun us s1 ⟨vs,H1,I1,r1,q1⟩=>?_) (by rw [hs,hs2]) (by rw [hs2]; rfl)))
 obtain ⟨i,j,e,⟨q1,q2,q3,q4⟩,q⟩:=q1
 subst e
 cases r1 with
 | cons r rr =>
  cases rr with
  | cons r' rr =>
   cases rr
   obtain ⟨t,rfl⟩:=r
   obtain ⟨t',rfl⟩:=r'
   exact call_range_2 (range_it I1 q1 q2 q3 q4 q)
def tFor (wi:TI) (g:TG) (tb:TS):TS:=fun D σ H=>wi σ H fun J H1=>∃ W:Nat→Nat→St→Hp→Prop,(∃ m,W 0 m σ H1)∧∀ i m σ H,W i m σ H →
 (J.stop i H∧D.nx σ H)∨(J.go i H∧∃ N:St→Hp→Prop,(∀ σ' H',N σ' H'→∃ m',m' < m∧W (i + 1) m' σ' H')∧∀ x H',J.yld i H x H'→g x σ H' fun σ2 H2=>tb { D with nx:=N,ct:=N,bk:=D.nx } σ2 H2)
def pinsAt (fp:List Addr) (h:Heap):List (Addr × Obj):=fp.filterMap fun b=>(h.get? b).map fun o=>(b,o)
theorem mem_pinsAt {fp:List Addr} {h:Heap} {b:Addr} {o:Obj} (hb:b∈fp) (e:h.get? b=some o):(b,o)∈pinsAt fp h:=List.mem_filterMap.mpr ⟨b,hb,by rw [e]; rfl⟩
theorem of_pinsAt {fp:List Addr} {h:Heap} {p:Addr × Obj} (hp:p∈pinsAt fp h):p.1∈fp∧h.get? p.1=some p.2:=by
 obtain ⟨b,hb,e⟩:=List.mem_filterMap.mp hp
 cases q:h.get? b with
 | none=>rw [q] at e; cases e
 | some o =>
  rw [q] at e
  have e':(b,o)=p:=Option.some.inj e
  subst e'
  exact ⟨hb,q⟩
theorem Inv.pinned {pins:List (Addr × Obj)} {σ:St} {H:Hp} {s:Shared} {fp:List Addr} (I:Inv X pins σ H s) (hf:∀ b∈fp,FpOk X pins H b) (ho:∀ b∈fp,∃ o,s.heap.get? b=some o∧∀ v,o.data≠.cell v):Inv X (pins ++ pinsAt fp s.heap) σ H s :=
 I.pins_of fun p hp=>(List.mem_append.mp hp).elim (fun z=>I.pin p (List.mem_append_right _ z)) fun z=>by
  obtain ⟨hb,e⟩:=of_pinsAt z
  obtain ⟨f0,f1,f2,_⟩:=hf p.1 hb
  obtain ⟨o,e',d⟩:=ho p.1 hb
  rw [e] at e'; cases e'
  exact ⟨e,f0,f1,f2,d⟩
theorem Inv.unpinned {pins pl:List (Addr × Obj)} {σ:St} {H:Hp} {s:Shared} (I:Inv X (pins ++ pl) σ H s):Inv X pins σ H s:=I.pins_of fun p hp=>I.pin p (List.mem_append_right _ (List.mem_append_left _ hp))
theorem ps_for {iter:Expr} {body:List Stmt} {wi:TI} {g:TG} {tb:TS} {pos:Pos} (hp:PassesOwn (model X.prog X.w) X.A X.env X.xe) (hc:X.calm=true) (hi:PI X tg iter wi) (hg:PG X tg g) (hb:PSs X body tb)
  (hs:∀ x,foldedSetIterable iter X.env x=pure x:=by intro _; rfl):PS X (.For tg iter body [] pos) (tFor wi g tb):=by
 intro pins s σ H D I h
 refine wpAny_For (thn (hi pins s σ H _ I h) fun v s1 h1=>thn h1 fun itv s2 h2=>?_) hs
 obtain ⟨it,fp,tn,J,H2,e,I2,T,st2,f2,W,⟨m0,w0⟩,turn⟩:=h2
 subst e
 -- what stays true of the iterator's objects through the loop
 have stat:∀ {H':Hp},(∀ b∈fp,H' b=none)→∀ b∈fp,FpOk X pins H' b:=fun hn b hb=>⟨hn b hb,(f2 b hb).2⟩
 refine codeAny_forLoop_any (fun n s'=>∃ i σ' H',Inv X pins σ' H' s'∧tn i s'.heap∧(∀ b∈fp,H' b=none)∧W i n σ' H') ?_ m0 ⟨0,σ,H2,I2,st2,fun b hb=>(f2 b hb).1,w0⟩
 rintro n s3 ⟨i,σ3,H3,I3,st3,fr3,w3⟩
 rcases turn i n σ3 H3 w3 with ⟨stop,qn⟩ | ⟨go,N,hN,step⟩
 ·refine wpAny_passesOwn hp (thn (T.done X rfl rfl rfl hc i pins s3 σ3 H3 X.xe I3 (stat fr3) st3 stop) fun r s4 ⟨hr,I4⟩=>?_)
  subst hr
  exact wpAny_execs_nil ⟨σ3,H3,I4,qn⟩
 ·refine wpAny_passesOwn hp (thn (T.item X rfl rfl rfl hc i pins s3 σ3 H3 X.xe I3 (stat fr3) st3 go) fun r s4 ⟨u,hr,h4⟩=>?_)
  subst hr
  refine wpAny_passesOwn hp (thn h4 fun _ s5 ⟨x,H5,I5,r5,y5,st5,fr5⟩=>?_)
  have I5':=I5.pinned (stat fr5) (T.obj _ _ st5)
  refine wpAny_passesOwn hp (thn (hg _ s5 σ3 H5 x u _ I5' r5 (step x H5 y5)) fun _ s6 ⟨σ6,H6,I6,q6⟩=>?_)
  refine wpAny_passesOwn hp (thn (hb _ s6 σ6 H6 _ I6 q6) fun f s7 q7=>?_)
  have again:∀ {σ7:St} {H7:Hp},Inv X (pins ++ pinsAt fp s5.heap) σ7 H7 s7→N σ7 H7→∃ m,m < n∧∃ i σ' H',Inv X pins σ' H' s7∧tn i s7.heap∧(∀ b∈fp,H' b=none)∧W i m σ' H':=fun {σ7 H7} I7 n7=>by
   obtain ⟨m',hm,w7⟩:=hN σ7 H7 n7
   refine ⟨m',hm,i + 1,σ7,H7,I7.unpinned,T.keep _ _ _ st5 fun b hb o e=>(I7.pin (b,o) (List.mem_append_right _ (List.mem_append_right _ (mem_pinsAt hb e)))).1,fun b hb=>?_,w7⟩
   obtain ⟨o,e,d⟩:=T.obj _ _ st5 b hb
   exact (I7.pin (b,o) (List.mem_append_right _ (List.mem_append_right _ (mem_pinsAt hb e)))).2.1
  cases f with
  | next=>obtain ⟨σ7,H7,I7,n7⟩:=q7; exact again I7 n7
  | cont=>obtain ⟨σ7,H7,I7,n7⟩:=q7; exact again I7 n7
  | brk=>obtain ⟨σ7,H7,I7,q7⟩:=q7; exact ⟨σ7,H7,I7.unpinned,q7⟩
  | ret v=>obtain ⟨x7,σ7,H7,I7,r7,q7⟩:=q7; exact ⟨x7,σ7,H7,I7.unpinned,r7,q7⟩
end
theorem for_list {K:PySem.W.Frag} {a:Addr} {xs:List V} {g:TG} {tb:TS} {D:Ends} {σ:St} {H:Hp} (Pv:Nat→St→Hp→Prop) (h0:Pv 0 σ H) (hl:∀ i σ H,i≤xs.length→Pv i σ H→SqL K H a xs)
  (hs:∀ i x σ H,xs[i]?=some x→Pv i σ H→g x σ H fun σ2 H2=>tb { D with nx:=Pv (i + 1),ct:=Pv (i + 1),bk:=D.nx } σ2 H2) (hd:∀ σ H,Pv xs.length σ H→D.nx σ H) :
  ∃ W:Nat→Nat→St→Hp→Prop,(∃ m,W 0 m σ H)∧∀ i m σ H,W i m σ H →
   ((Itl K a).stop i H∧D.nx σ H)∨((Itl K a).go i H∧∃ N:St→Hp→Prop,(∀ σ' H',N σ' H'→∃ m',m' < m∧W (i + 1) m' σ' H')∧∀ x H',(Itl K a).yld i H x H'→g x σ H' fun σ2 H2=>tb { D with nx:=N,ct:=N,bk:=D.nx } σ2 H2):=by
 refine ⟨fun i m σ H=>m=xs.length - i∧i≤xs.length∧Pv i σ H,⟨xs.length,by simp,Nat.zero_le _,h0⟩,?_⟩
 rintro i m σ H ⟨rfl,hi,p⟩
 have q:=hl i σ H hi p
 by_cases hlt:i < xs.length
 ·refine .inr ⟨⟨xs,xs[i],q,by simp [hlt]⟩,Pv (i + 1),fun σ' H' p'=>⟨xs.length - (i + 1),by omega,rfl,hlt,p'⟩,fun x H' y=>?_⟩
  obtain ⟨e,y⟩:=y
  subst e
  exact hs i x σ _ (y xs q) p
 ·have e:i=xs.length:=by omega
  subst e
  exact .inl ⟨⟨xs,q,Nat.le_refl _⟩,hd σ H p⟩
theorem for_range {lo:Int} {n:Nat} {g:TG} {tb:TS} {D:Ends} {σ:St} {H:Hp} (Pv:Nat→St→Hp→Prop) (h0:Pv 0 σ H)
  (hs:∀ i σ H,i < n→Pv i σ H→g (.int (lo + i)) σ H fun σ2 H2=>tb { D with nx:=Pv (i + 1),ct:=Pv (i + 1),bk:=D.nx } σ2 H2) (hd:∀ σ H,Pv n σ H→D.nx σ H) :
  ∃ W:Nat→Nat→St→Hp→Prop,(∃ m,W 0 m σ H)∧∀ i m σ H,W i m σ H →
   ((Itr lo n).stop i H∧D.nx σ H)∨((Itr lo n).go i H∧∃ N:St→Hp→Prop,(∀ σ' H',N σ' H'→∃ m',m' < m∧W (i + 1) m' σ' H')∧∀ x H',(Itr lo n).yld i H x H'→g x σ H' fun σ2 H2=>tb { D with nx:=N,ct:=N,bk:=D.nx } σ2 H2):=by
 refine ⟨fun i m σ H=>m=n - i∧i≤n∧Pv i σ H,⟨n,by simp,Nat.zero_le _,h0⟩,?_⟩
 rintro i m σ H ⟨rfl,hi,p⟩
 by_cases hlt:i < n
 ·refine .inr ⟨hlt,Pv (i + 1),fun σ' H' p'=>⟨n - (i + 1),by omega,rfl,hlt,p'⟩,fun x H' y=>?_⟩
  obtain ⟨e,y⟩:=y
  subst e y
  exact hs i σ _ hlt p
 ·have e:i=n:=by omega
  subst e
  exact .inl ⟨Nat.le_refl _,hd σ H p⟩
end L2
namespace L2
open PySem PySem.Spec PyProof.Rows
abbrev R2:=V→V→Hp→VK→Prop
def OpR (X:Cx) (f:Value→Value→Sem Value) (r:R2):Prop :=
 ∀ (pins:List (Addr × Obj)) (s:Shared) (σ:St) (H:Hp) (x y:V) (v u:Value) (Q:VK),Inv X pins σ H s→RelV x v→RelV y u→r x y H Q →
  wpAny (model X.prog X.w) X.A (f v u) (EP X pins σ Q) X.xe s
def UnR (X:Cx) (f:Value→Sem Value) (r:V→Hp→VK→Prop):Prop :=
 ∀ (pins:List (Addr × Obj)) (s:Shared) (σ:St) (H:Hp) (x:V) (v:Value) (Q:VK),Inv X pins σ H s→RelV x v→r x H Q →
  wpAny (model X.prog X.w) X.A (f v) (EP X pins σ Q) X.xe s
def CallR (X:Cx) (f:Value) (r:List V→Hp→VK→Prop):Prop :=
 ∀ (pins:List (Addr × Obj)) (s:Shared) (σ:St) (H:Hp) (xs:List V) (us:List Value) (Q:VK),Inv X pins σ H s→Vals xs us→r xs H Q →
  wpAny (model X.prog X.w) X.A (call f us) (EP X pins σ Q) X.xe s
def tOp (r:R2) (ta tb:TE):TE:=fun σ H Q=>ta σ H fun x H1=>tb σ H1 fun y H2=>r x y H2 Q
def tUn (r:V→Hp→VK→Prop) (ta:TE):TE:=fun σ H Q=>ta σ H fun x H1=>r x H1 Q
def rI (C:Int→Int→Prop) (g:Int→Int→V):R2:=fun x y H Q=>∃ i j,x=.int i∧y=.int j∧C i j∧Q (g i j) H
def rI0 (g:Int→Int→V):R2:=fun x y H Q=>∃ i j,x=.int i∧y=.int j∧Q (g i j) H
def rU (g:Int→V):V→Hp→VK→Prop:=fun x H Q=>∃ i,x=.int i∧Q (g i) H
section
variable {X:Cx} {a b c:Expr} {ta tb tc:TE} {pos:Pos}
theorem binT (ha:PE X a ta) (hb:PE X b tb) {pins:List (Addr × Obj)} {s:Shared} {σ:St} {H:Hp} {R:V→V→Hp→Prop} (I:Inv X pins σ H s)
  (h:ta σ H fun x H1=>tb σ H1 fun y H2=>R x y H2) {Q:Value→Shared→Prop} {f:Value→Value→Sem Value}
  (hf:∀ v u s2 x y H2,Inv X pins σ H2 s2→RelV x v→RelV y u→R x y H2→wpAny (model X.prog X.w) X.A (f v u) Q X.xe s2) :
  wpAny (model X.prog X.w) X.A (eval a X.env) (fun v s₁=>wpAny (model X.prog X.w) X.A (eval b X.env) (fun u s₂=>wpAny (model X.prog X.w) X.A (f v u) Q X.xe s₂) X.xe s₁) X.xe s:=by
 refine thn (ha pins s σ H _ I h) fun v s1 ⟨x,H1,I1,r1,q1⟩=>?_
 refine thn (hb pins s1 σ H1 _ I1 q1) fun u s2 ⟨y,H2,I2,r2,q2⟩=>?_
 exact hf v u s2 x y H2 I2 r1 r2 q2
theorem pe_op {op:Operator} {r:R2} (ho:OpR X (binaryOp op) r) (ha:PE X a ta) (hb:PE X b tb):PE X (.BinOp a op b pos) (tOp r ta tb):=by
 intro pins s σ H Q I h
 exact wpAny_BinOp (binT ha hb I h fun v u s2 x y H2 I2 rx ry q=>ho pins s2 σ H2 x y v u Q I2 rx ry q)
theorem pe_un {op:UnaryOp} {r:V→Hp→VK→Prop} (ho:UnR X (unaryOp op) r) (ha:PE X a ta):PE X (.UnaryOp op a pos) (tUn r ta):=by
 intro pins s σ H Q I h
 exact UnaryOp_ (thn (ha pins s σ H _ I h) fun v s1 ⟨x,H1,I1,r1,q1⟩=>ho pins s1 σ H1 x v Q I1 r1 q1)
theorem opI {f:Value→Value→Sem Value} {C:Int→Int→Prop} {g:Int→Int→Int}
  (rule:∀ (i j:Int) (t u:Tok) (s:Shared) (Q:Value→Shared→Prop) (E:Value→Shared→Prop),C i j→Q (.int (g i j) s.toks) { s with toks:=s.toks + 1 }→wpAny (model X.prog X.w) X.A (f (.int i t) (.int j u)) Q E s) :
  OpR X f (rI C fun i j=>.int (g i j)):=by
 intro pins s σ H x y v u Q I rx ry h
 obtain ⟨i,j,rfl,rfl,hc,q⟩:=h
 obtain ⟨t,rfl⟩:=rx
 obtain ⟨t',rfl⟩:=ry
 exact rule i j t t' s _ _ hc ⟨.int (g i j),H,I.tok _,⟨_,rfl⟩,q⟩
theorem opI0 {f:Value→Value→Sem Value} {g:Int→Int→Int}
  (rule:∀ (i j:Int) (t u:Tok) (s:Shared) (Q:Value→Shared→Prop) (E:Value→Shared→Prop),Q (.int (g i j) s.toks) { s with toks:=s.toks + 1 }→wpAny (model X.prog X.w) X.A (f (.int i t) (.int j u)) Q E s) :
  OpR X f (rI0 fun i j=>.int (g i j)):=by
 intro pins s σ H x y v u Q I rx ry h
 obtain ⟨i,j,rfl,rfl,q⟩:=h
 obtain ⟨t,rfl⟩:=rx
 obtain ⟨t',rfl⟩:=ry
 exact rule i j t t' s _ _ ⟨.int (g i j),H,I.tok _,⟨_,rfl⟩,q⟩
theorem opB0 {f:Value→Value→Sem Value} {g:Int→Int→Bool}
  (rule:∀ (i j:Int) (t u:Tok) (s:Shared) (Q:Value→Shared→Prop) (E:Value→Shared→Prop),Q (.bool (g i j)) s→wpAny (model X.prog X.w) X.A (f (.int i t) (.int j u)) Q E s) :
  OpR X f (rI0 fun i j=>.bl (g i j)):=by
 intro pins s σ H x y v u Q I rx ry h
 obtain ⟨i,j,rfl,rfl,q⟩:=h
 obtain ⟨t,rfl⟩:=rx
 obtain ⟨t',rfl⟩:=ry
 exact rule i j t t' s _ _ ⟨.bl (g i j),H,I,rfl,q⟩
def CPow (i j:Int):Prop:=0≤j∧j≤1000000∧i.natAbs < 2 ^ 64
def CMul (i j:Int):Prop:=(-(2 ^ 64) < i∧i < 2 ^ 64)∨(-(2 ^ 64) < j∧j < 2 ^ 64)
theorem CMul.ok {i j:Int} (h:CMul i j):IntMulOk i j:=by
 rcases h with ⟨h1,h2⟩ | ⟨h1,h2⟩
 ·exact .of_left (intBits_le_64 h1 h2)
 ·exact .of_right (intBits_le_64 h1 h2)
theorem op_add:OpR X (binaryOp .Add) (rI0 fun i j=>.int (i + j)):=opI0 fun _ _ _ _ _ _ _ q=>add_int q
theorem op_sub:OpR X (binaryOp .Sub) (rI0 fun i j=>.int (i - j)):=opI0 fun _ _ _ _ _ _ _ q=>sub_int q
theorem op_modN:OpR X (binaryOp .Mod) (rI (fun _ j=>j≠0) fun i j=>.int (i.fmod j)):=opI fun _ _ _ _ _ _ _ hc q=>mod_int' hc q
theorem op_pow:OpR X (binaryOp .Pow) (rI CPow fun i j=>.int (i ^ j.toNat)):=opI fun _ _ _ _ _ _ _ hc q=>pow_int_small hc.1 hc.2.1 hc.2.2 q
theorem op_shl:OpR X (binaryOp .LShift) (rI CPow fun i j=>.int (i * 2 ^ j.toNat)):=opI fun _ _ _ _ _ _ _ hc q=>lshift_int_small hc.1 hc.2.1 hc.2.2 q
theorem unI {f:Value→Sem Value} {g:Int→Int}
  (rule:∀ (i:Int) (t:Tok) (s:Shared) (Q:Value→Shared→Prop) (E:Value→Shared→Prop),Q (.int (g i) s.toks) { s with toks:=s.toks + 1 }→wpAny (model X.prog X.w) X.A (f (.int i t)) Q E s) :
  UnR X f (rU fun i=>.int (g i)):=by
 intro pins s σ H x v Q I rx h
 obtain ⟨i,rfl,q⟩:=h
 obtain ⟨t,rfl⟩:=rx
 exact rule i t s _ _ ⟨.int (g i),H,I.tok _,⟨_,rfl⟩,q⟩
theorem un_neg:UnR X (unaryOp .USub) (rU fun i=>.int (-i)):=unI fun _ _ _ _ _ q=>neg_int q
end
def scal:V→V→Bool
 | .non,.non=>true | .non,.int _=>true | .int _,.non=>true | .non,.bl _=>true | .bl _,.non=>true | .non,.str _=>true | .str _,.non=>true
 | .int _,.int _=>true | .bl _,.bl _=>true | .str _,.str _=>true | .byt _,.byt _=>true
 | .int _,.str _=>true | .str _,.int _=>true | .bl _,.str _=>true | .str _,.bl _=>true
 | _,_=>false
def rEq:R2:=fun x y H Q=>scal x y=true∧Q (.bl (decide (x=y))) H
def rNe:R2:=fun x y H Q=>scal x y=true∧Q (.bl (!decide (x=y))) H
theorem dec_int {i j:Int}:decide (V.int i=V.int j)=(i == j):=by
 rw [Bool.eq_iff_iff]
 simp
theorem dec_bl {i j:Bool}:decide (V.bl i=V.bl j)=(i == j):=by
 rw [Bool.eq_iff_iff]
 simp
theorem dec_str {i j:Str}:decide (V.str i=V.str j)=(i == j):=by
 rw [Bool.eq_iff_iff]
 simp
theorem dec_byt {i j:Array UInt8}:decide (V.byt i=V.byt j)=(i.toList == j.toList):=by
 rw [Bool.eq_iff_iff]
 cases i
 cases j
 simp
section
variable {X:Cx} {a b c:Expr} {ta tb tc:TE} {pos:Pos}
theorem fin_bl {pins:List (Addr × Obj)} {σ:St} {H:Hp} {s:Shared} {Q:VK} {k k':Bool} (I:Inv X pins σ H s) (q:Q (.bl k) H) (e:k=k'):EP X pins σ Q (.bool k') s:=by
 subst e
 exact ⟨.bl k,H,I,rfl,q⟩
theorem op_eq:OpR X (compareOp .Eq) rEq:=by
 intro pins s σ H x y v u Q I rx ry h
 obtain ⟨hs,q⟩:=h
 cases x with
 | non =>
  cases rx
  cases y with
  | non=>cases ry; exact PySem.EqNone.eq_none_none (fin_bl I q (by simp))
  | bl j=>cases ry; exact PySem.EqNone.eq_none_bool (fin_bl I q (by simp))
  | int j=>obtain ⟨t',rfl⟩:=ry; exact PySem.EqNone.eq_none_int (fin_bl I q (by simp))
  | str j=>obtain ⟨t',rfl⟩:=ry; exact PySem.EqNone.eq_none_str (fin_bl I q (by simp))
  | _=>exact absurd (show false=true from hs) Bool.false_ne_true
 | bl i =>
  cases rx
  cases y with
  | non=>cases ry; exact PySem.EqNone.eq_bool_none (fin_bl I q (by simp))
  | bl j=>cases ry; exact eq_bool (fin_bl I q dec_bl)
  | str j=>obtain ⟨t',rfl⟩:=ry; exact PySem.EqMixed.eq_bool_str (fin_bl I q (by simp))
  | _=>exact absurd (show false=true from hs) Bool.false_ne_true
 | int i =>
  obtain ⟨t,rfl⟩:=rx
  cases y with
  | non=>cases ry; exact PySem.EqNone.eq_int_none (fin_bl I q (by simp))
  | int j=>obtain ⟨t',rfl⟩:=ry; exact eq_int (fin_bl I q dec_int)
  | str j=>obtain ⟨t',rfl⟩:=ry; exact PySem.EqMixed.eq_int_str (fin_bl I q (by simp))
  | _=>exact absurd (show false=true from hs) Bool.false_ne_true
 | str i =>
  obtain ⟨t,rfl⟩:=rx
  cases y with
  | non=>cases ry; exact PySem.EqNone.eq_str_none (fin_bl I q (by simp))
  | bl j=>cases ry; exact PySem.EqMixed.eq_str_bool (fin_bl I q (by simp))
  | int j=>obtain ⟨t',rfl⟩:=ry; exact PySem.EqMixed.eq_str_int (fin_bl I q (by simp))
  | str j=>obtain ⟨t',rfl⟩:=ry; exact eq_str (fin_bl I q dec_str)
  | _=>exact absurd (show false=true from hs) Bool.false_ne_true
 | byt i =>
  obtain ⟨t,rfl⟩:=rx
  cases y with
  | byt j=>obtain ⟨t',rfl⟩:=ry; exact PySem.W.eq_bytes (fin_bl I q dec_byt)
  | _=>exact absurd (show false=true from hs) Bool.false_ne_true
 | _=>cases y <;> exact absurd (show false=true from hs) Bool.false_ne_true
theorem op_ne:OpR X (compareOp .NotEq) rNe:=by
 intro pins s σ H x y v u Q I rx ry h
 obtain ⟨hs,q⟩:=h
 cases x with
 | non =>
  cases rx
  cases y with
  | non=>cases ry; exact PySem.EqNone.ne_none_none (fin_bl I q (by simp))
  | bl j=>cases ry; exact PySem.EqNone.ne_none_bool (fin_bl I q (by simp))
  | int j=>obtain ⟨t',rfl⟩:=ry; exact PySem.EqNone.ne_none_int (fin_bl I q (by simp))
  | str j=>obtain ⟨t',rfl⟩:=ry; exact PySem.EqNone.ne_none_str (fin_bl I q (by simp))
  | _=>exact absurd (show false=true from hs) Bool.false_ne_true
 | bl i =>
  cases rx
  cases y with
  | non=>cases ry; exact PySem.EqNone.ne_bool_none (fin_bl I q (by simp))
  | bl j=>cases ry; exact ne_bool (fin_bl I q (congrArg not dec_bl))
  | str j=>obtain ⟨t',rfl⟩:=ry; exact PySem.EqMixed.ne_bool_str (fin_bl I q (by simp))
  | _=>exact absurd (show false=true from hs) Bool.false_ne_true
 | int i =>
  obtain ⟨t,rfl⟩:=rx
  cases y with
  | non=>cases ry; exact PySem.EqNone.ne_int_none (fin_bl I q (by simp))
  | int j=>obtain ⟨t',rfl⟩:=ry; exact ne_int (fin_bl I q (congrArg not dec_int))
  | str j=>obtain ⟨t',rfl⟩:=ry; exact PySem.EqMixed.ne_int_str (fin_bl I q (by simp))
  | _=>exact absurd (show false=true from hs) Bool.false_ne_true
 | str i =>
  obtain ⟨t,rfl⟩:=rx
  cases y with
  | non=>cases ry; exact PySem.EqNone.ne_str_none (fin_bl I q (by simp))
  | bl j=>cases ry; exact PySem.EqMixed.ne_str_bool (fin_bl I q (by simp))
  | int j=>obtain ⟨t',rfl⟩:=ry; exact PySem.EqMixed.ne_str_int (fin_bl I q (by simp))
  | str j=>obtain ⟨t',rfl⟩:=ry; exact ne_str (fin_bl I q (congrArg not dec_str))
  | _=>exact absurd (show false=true from hs) Bool.false_ne_true
 | byt i =>
  obtain ⟨t,rfl⟩:=rx
  cases y with
  | byt j=>obtain ⟨t',rfl⟩:=ry; exact PySem.W.ne_bytes (fin_bl I q (congrArg not dec_byt))
  | _=>exact absurd (show false=true from hs) Bool.false_ne_true
 | _=>cases y <;> exact absurd (show false=true from hs) Bool.false_ne_true
theorem op_lt:OpR X (compareOp .Lt) (rI0 fun i j=>.bl (decide (i < j))):=opB0 fun _ _ _ _ _ _ _ q=>lt_int q
theorem op_le:OpR X (compareOp .LtE) (rI0 fun i j=>.bl (decide (i≤j))):=opB0 fun _ _ _ _ _ _ _ q=>le_int q
theorem op_gt:OpR X (compareOp .Gt) (rI0 fun i j=>.bl (decide (j < i))):=opB0 fun _ _ _ _ _ _ _ q=>gt_int q
theorem op_ge:OpR X (compareOp .GtE) (rI0 fun i j=>.bl (decide (j≤i))):=opB0 fun _ _ _ _ _ _ _ q=>ge_int q
theorem nomark (b:Expr) {op:CmpOp} (h:op≠.In:=by decide) (h2:op≠.NotIn:=by decide):behindInMarks op b=false:=by
 have e1:(op == CmpOp.In)=false:=by cases op <;> first | rfl | exact absurd rfl h
 have e2:(op == CmpOp.NotIn)=false:=by cases op <;> first | rfl | exact absurd rfl h2
 cases b <;> simp [behindInMarks,e1,e2]
theorem pe_cmpR {op:CmpOp} {r:R2} (ho:OpR X (compareOp op) r) (ha:PE X a ta) (hb:PE X b tb) (hm:behindInMarks op b=false):PE X (.Compare a [op] [b] pos) (tOp r ta tb):=by
 intro pins s σ H Q I h
 exact wpAny_Compare1 (binT ha hb I h fun v u s2 x y H2 I2 rx ry q=>ho pins s2 σ H2 x y v u Q I2 rx ry q) hm
def tTest (t:TE):TT:=fun σ H Q=>t σ H fun x H'=>∃ k,x=.bl k∧Q k H'
theorem pt_cmpR {op:CmpOp} {r:R2} (ho:OpR X (compareOp op) r) (ha:PE X a ta) (hb:PE X b tb) (hm:behindInMarks op b=false):PT X (.Compare a [op] [b] pos) (tTest (tOp r ta tb)):=by
 intro pins s σ H Q I h
 refine wpAny_isTrue_Compare1 (thn (ha pins s σ H _ I h) fun v s1 ⟨x,H1,I1,r1,q1⟩=>thn (hb pins s1 σ H1 _ I1 q1) fun u s2 ⟨y,H2,I2,r2,q2⟩ =>
  thn (ho pins s2 σ H2 x y v u _ I2 r1 r2 q2) fun c s3 ⟨z,H3,I3,r3,k,e,q3⟩=>?_) hm
 subst e
 cases r3
 exact wpAny_truthy_bool ⟨H3,I3,q3⟩
def tChain (r r':R2) (ta tb tc:TE):TE:=fun σ H Q=>ta σ H fun x H1=>tb σ H1 fun y H2=>r x y H2 fun z H3=>∃ k,z=.bl k ∧
 (if k=true then tc σ H3 fun w' H4=>r' y w' H4 Q else Q (.bl false) H3)
theorem pt_chain {op op':CmpOp} {r r':R2} (ho:OpR X (compareOp op) r) (ho':OpR X (compareOp op') r') (ha:PE X a ta) (hb:PE X b tb) (hc:PE X c tc)
  (hm:lastMarks [op,op'] [b,c]=false:=by with_unfolding_all rfl):PT X (.Compare a [op,op'] [b,c] pos) (tTest (tChain r r' ta tb tc)):=by
 intro pins s σ H Q I h
 refine isTrue_chain (thn (ha pins s σ H _ I h) fun v s1 ⟨x,H1,I1,r1,q1⟩=>test_link (thn (hb pins s1 σ H1 _ I1 q1) fun u s2 ⟨y,H2,I2,r2,q2⟩ =>
  thn (ho pins s2 σ H2 x y v u _ I2 r1 r2 q2) fun d s3 ⟨z,H3,I3,r3,k,e,q3⟩=>?_)) hm
 subst e
 cases r3
 refine wpAny_truthy_bool ?_
 cases k with
 | false =>
  obtain ⟨k',e',q'⟩:=q3
  cases e'
  exact ite_ff ⟨H3,I3,q'⟩
 | true =>
  refine ite_tt (test_last (thn (hc pins s3 σ H3 _ I3 q3) fun w' s4 ⟨z',H4,I4,r4,q4⟩=>thn (ho' pins s4 σ H4 y z' u w' _ I4 r2 r4 q4) fun d' s5 ⟨z2,H5,I5,r5,k2,e2,q5⟩=>?_))
  subst e2
  cases r5
  exact wpAny_truthy_bool ⟨H5,I5,q5⟩
theorem line63:(sizeLine:Nat) < 2 ^ 63:=by rw [sizeLine_eq]; decide
theorem vals1 {x:V} {us:List Value} (r:Vals [x] us):∃ u,us=[u]∧RelV x u:=by
 cases r with
 | cons r1 r2=>cases r2; exact ⟨_,rfl,r1⟩
theorem vals2 {x y:V} {us:List Value} (r:Vals [x,y] us):∃ u w',us=[u,w']∧RelV x u∧RelV y w':=by
 cases r with
 | cons r1 r2 =>
  cases r2 with
  | cons r3 r4=>cases r4; exact ⟨_,_,rfl,r1,r3⟩
theorem call_abs:CallR X (.builtin "abs") (fun xs H Q=>∃ i,xs=[.int i]∧Q (.int (if i < 0 then -i else i)) H):=by
 intro pins s σ H xs us Q I r h
 obtain ⟨i,rfl,q⟩:=h
 obtain ⟨u,rfl,t,rfl⟩:=vals1 r
 exact call_abs_int fun u tk=>⟨.int (if i < 0 then -i else i),H,I.tok _,⟨_,rfl⟩,q⟩
theorem call_max2 (hc:X.calm=true):CallR X (.builtin "max") (fun xs H Q=>∃ i j,xs=[.int i,.int j]∧Q (.int (if j > i then j else i)) H):=by
 intro pins s σ H xs us Q I r h
 obtain ⟨i,j,rfl,q⟩:=h
 obtain ⟨u,w',rfl,⟨t,rfl⟩,⟨t',rfl⟩⟩:=vals2 r
 refine max_two_ints (I.ok.hd hc) fun h' tk k=>⟨_,H,I.kept k,?_,q⟩
 by_cases hj:j > i
 ·rw [if_pos hj,if_pos hj]; exact ⟨_,rfl⟩
 ·rw [if_neg hj,if_neg hj]; exact ⟨_,rfl⟩
theorem call_min2 (hc:X.calm=true):CallR X (.builtin "min") (fun xs H Q=>∃ i j,xs=[.int i,.int j]∧Q (.int (if j < i then j else i)) H):=by
 intro pins s σ H xs us Q I r h
 obtain ⟨i,j,rfl,q⟩:=h
 obtain ⟨u,w',rfl,⟨t,rfl⟩,⟨t',rfl⟩⟩:=vals2 r
 refine min_two_ints (I.ok.hd hc) fun h' tk k=>⟨_,H,I.kept k,?_,q⟩
 by_cases hj:j < i
 ·rw [if_pos hj,if_pos hj]; exact ⟨_,rfl⟩
 ·rw [if_neg hj,if_neg hj]; exact ⟨_,rfl⟩
theorem call_int1:CallR X (.type "int") (fun xs H Q=>(∃ i,xs=[.int i]∧Q (.int i) H)∨∃ k,xs=[.bl k]∧Q (.int (if k then 1 else 0)) H):=by
 intro pins s σ H xs us Q I r h
 rcases h with ⟨i,rfl,q⟩ | ⟨k,rfl,q⟩
 ·obtain ⟨u,rfl,t,rfl⟩:=vals1 r
  exact call_int_int ⟨.int i,H,I,⟨_,rfl⟩,q⟩
 ·obtain ⟨u,rfl,r1⟩:=vals1 r
  cases r1
  exact call_int_bool ⟨.int (if k then 1 else 0),H,I.tok _,⟨_,rfl⟩,q⟩
end
end L2
namespace L2
open PySem PySem.Spec PyProof.Rows
structure ObjM (h:Heap) (x dx C:Addr) (mA:Str→Option Value):Prop where
 obj:h.get? x=some (PySem.W.instObj C dx)
 ns:h.Ns1 dx mA
 ne:dx≠x
section
variable {prog:Program} {w:World} {A:Around} {E:Value→Shared→Prop} {s:Shared} {K:PySem.W.Frag} {x dx C f:Addr} {mA:Str→Option Value} {name:Str} {v:Value}
end
section
variable {P:Program} {w:World} {H H':Hp} {h h':Heap} {a C dx:Addr} {fs fs':List (Str × V)}
end
structure Cls (K:PySem.W.Frag) (C:Addr):Prop where
 pg:PySem.W.plainGet K C Str.empty=true
 hd:PySem.W.hasDictIn K C=true
 po:PySem.W.plainOver K C=true
 sa:PySem.W.findIn K (.ref C) "__setattr__"=some (some (.builtin "object.__setattr__"))
theorem Cls.get {K:PySem.W.Frag} {C:Addr} (c:Cls K C) (f:Str):PySem.W.plainGet K C f=true:=c.pg
structure Con (K:PySem.W.Frag) (C:Addr) (f:Str) (v:V) (u:Value):Prop where
 at_:PySem.W.findIn K (.ref C) f=some (some u)
 rel:RelV v u
 get:PySem.W.specialIn K u "__get__"=some none
 cp:PySem.W.copiedNames.contains f=false
structure Meth (K:PySem.W.Frag) (C:Addr) (m:Str) (f:Addr):Prop where
 at_:PySem.W.findIn K (.ref C) m=some (some (.ref f))
 fn:PySem.W.isFn K (.ref f)=true
 kp:PySem.W.keepIn K (.ref f)=true
section
variable {X:Cx} {pins:List (Addr × Obj)} {σ:St} {H:Hp} {s:Shared} {a C dx:Addr} {fs:List (Str × V)} {f:Str} {v:V} {A:Around} {E:Value→Shared→Prop}
end
section
variable {X:Cx} {o e value:Expr} {f:Str} {pos pos' tpos:Pos} {ta tv:TE}
end
section
variable {X:Cx} {pins:List (Addr × Obj)} {σ:St} {H:Hp} {s:Shared} {A:Around} {E:Value→Shared→Prop} {Q:Value→Shared→Prop} {c:Value} {b:Bool}
inductive TyOf (K:PySem.W.Frag) (H:Hp):V→Value→Prop where
 | non:TyOf K H .non (.type "NoneType")
 | bl (x:Bool):TyOf K H (.bl x) (.type "bool")
 | int (i:Int):TyOf K H (.int i) (.type "int")
 | str (x:Str):TyOf K H (.str x) (.type "str")
 | flt (x:UInt64):TyOf K H (.flt x) (.type "float")
 | lst {a:Addr} {xs:List V} (e:H a=some (.lst xs)):TyOf K H (.ref a) (.type "list")
 | frz {a:Addr} {o:Obj} {xs:List V} (e:H a=some (.frz o (.lst xs))):TyOf K H (.ref a) (.type "list")
 | tup {a:Addr} {xs:List V} (e:H a=some (.tup xs)):TyOf K H (.ref a) (.type "tuple")
 | dK {a:Addr} {kvs:List (Key × V)} (e:H a=some (.dK kvs)):TyOf K H (.ref a) (.type "dict")
 | dT {a:Addr} {kvs:List (List Key × V)} (e:H a=some (.dT kvs)):TyOf K H (.ref a) (.type "dict")
 | ins {a C dx:Addr} {fs:List (Str × V)} (e:H a=some (.ins C dx fs)) (cl:Cls K C) (ha:PySem.W.findIn K (.ref C) "__class__"=some (some (.builtin "object.__class__")))
   (hn:PySem.W.specialIn K (.builtin "object.__class__") "__get__"=some (some (.builtin "getset_descriptor.__get__"))) (htk:PySem.W.takesIn K (.builtin "object.__class__")=some true)
   (hm:PySem.W.mroIn K C (.type "object")=some true):TyOf K H (.ref a) (.ref C)
end
end L2
namespace L2
open PySem PySem.Spec PyProof.Rows
structure Room (k:Nat) (A:Around):Prop where
 hd:A.handled=none
 dp:A.depth + 3 * k + 5 < recursionLimit
 un:A.units + 16 * k + 200 < cLine
theorem Room.mono {j k:Nat} {A:Around} (r:Room k A) (h:j≤k):Room j A:=⟨r.hd,by have:=r.dp; omega,by have:=r.un; omega⟩
theorem Room.deeper {k:Nat} {A:Around} (r:Room (k + 1) A) (env:Env):Room k (A.deeper env) :=
 ⟨r.hd,by have:=r.dp; show A.depth + 1 + 3 * k + 5 < _; omega,by have:=r.un; show A.units + 3 + 16 * k + 200 < _; omega⟩
theorem Room.in1 {k:Nat} {A:Around} (r:Room (k + 1) A):Room k A.in1 :=
 ⟨r.hd,by have:=r.dp; show A.depth + 3 * k + 5 < _; omega,by have:=r.un; show A.units + 1 + 16 * k + 200 < _; omega⟩
theorem Room.depth {k:Nat} {A:Around} (r:Room k A):A.depth < recursionLimit:=by have:=r.dp; omega
theorem Room.units {k:Nat} {A:Around} (r:Room k A):A.units + 64 < cLine:=by have:=r.un; omega
def tNil:TA:=fun _ H Q=>Q [] H
def tCons (ta:TE) (tr:TA):TA:=fun σ H Q=>ta σ H fun x H1=>tr σ H1 fun xs H2=>Q (x :: xs) H2
section
variable {X:Cx} {e:Expr} {es:List Expr} {te:TE} {t:TA} {pos:Pos}
theorem pa_nil:PA X [] tNil:=fun _ _ _ _ H Q I h=>Calls.spliced_nil ⟨[],H,I,.nil,h⟩
theorem pa_cons (ha:PE X e te) (hr:PA X es t) (hs:starEach (e :: es) X.env=(false,eval e X.env) :: starEach es X.env:=by rfl):PA X (e :: es) (tCons te t):=by
 intro pos pins s σ H Q I h
 rw [hs]
 show wpAny _ _ (spliced ((false,eval e X.env) :: backTo pos (starEach es X.env))) _ _ s
 refine Calls.spliced_cons (thn (ha pins s σ H _ I h) fun u s1 ⟨x,H1,I1,r1,q1⟩=>?_)
 exact thn (hr pos pins s1 σ H1 _ I1 q1) fun us s2 ⟨xs,H2,I2,r2,q2⟩=>⟨x :: xs,H2,I2,.cons r1 r2,q2⟩
def tTup (t:TA):TE:=fun σ H Q=>t σ H fun xs H1=>xs.length≤sizeLine∧∀ p,H1 p=none→Q (.ref p) (upd H1 p (.tup xs))
def tLst (t:TA):TE:=fun σ H Q=>t σ H fun xs H1=>xs.length≤sizeLine∧∀ p,H1 p=none→Q (.ref p) (upd H1 p (.lst xs))
theorem pe_tup {x1} (h:PA X es t):PE X (.Tuple es x1 pos) (tTup t):=by
 intro pins s σ H Q I hq
 refine wpAny_Tuple_spliced (thn (h pos pins s σ H _ I hq) fun us s1 ⟨xs,H1,I1,r,z,q⟩=>⟨by rw [← r.length]; exact z,?_⟩)
 have hf:H1 s1.heap.objs.size=none:=I1.hok.fresh (Nat.le_refl _)
 refine ⟨.ref s1.heap.objs.size,upd H1 s1.heap.objs.size (.tup xs),I1.laid (t':=s1.toks) (fun b u e=>Heap.get?_push_of_some _ e) (Nat.le_refl _) ?_,rfl,q _ hf⟩
 exact ⟨z,us,r,⟨_,Heap.get?_push_size _ rfl,rfl,_,rfl⟩⟩
theorem pe_lst (h:PA X es t):PE X (.List es pos) (tLst t):=by
 intro pins s σ H Q I hq
 refine wpAny_List_spliced (thn (h pos pins s σ H _ I hq) fun us s1 ⟨xs,H1,I1,r,z,q⟩=>⟨by rw [← r.length]; exact z,?_⟩)
 have hf:H1 s1.heap.objs.size=none:=I1.hok.fresh (Nat.le_refl _)
 refine ⟨.ref s1.heap.objs.size,upd H1 s1.heap.objs.size (.lst xs),I1.laid (t':=s1.toks) (fun b u e=>Heap.get?_push_of_some _ e) (Nat.le_refl _) ?_,rfl,q _ hf⟩
 exact ⟨z,us,0,r,Heap.get?_push_size _ rfl⟩
end
abbrev Sp:=List V→Hp→VK→XK→Prop
abbrev CXT:=List Env→Hp→Shared→XK→Value→Shared→Prop
structure Env0 (P:Program) (w:World) (K:PySem.W.Frag) (mg:Str→Option Value) (base:Heap) (A:Around) (outer:List Env) (s:Shared) (H:Hp):Prop where
 frames:A.frames=some outer
 mod:Mod K mg base
 bs:∀ b o,base.get? b=some o→s.heap.get? b=some o∧H b=none
 bsz:base.objs.size≤s.heap.objs.size
 funs:s.heap.FunFrames base outer
 frf:∀ b∈frs outer,H b=none
 hok:HOk P w H s.heap
 bare:AllBare s.gens
def CE (outer:List Env) (P:Program) (w:World) (H:Hp) (s:Shared) (Q:VK) (u:Value) (s':Shared):Prop :=
 ∃ v H',s'.os=s.os∧AllBare s'.gens∧Un (frs outer) [] H H' s.heap s'.heap∧HOk P w H' s'.heap∧RelV v u∧Q v H'
def CR (CX:CXT) (outer:List Env) (P:Program) (w:World) (H:Hp) (s:Shared) (Q:VK) (E:XK) (r:Result) (s':Shared):Prop :=
 match r with
 | .ok (.ret u)=>CE outer P w H s Q u s'
 | .ok _=>False
 | .error e=>CX outer H s E e s'
structure FnOk (P:Program) (w:World) (K:PySem.W.Frag) (mg:Str→Option Value) (base:Heap) (CX:CXT) (k:Nat) (f:Addr) (fd:FuncData) (ps:List Str) (sp:Sp):Prop where
 len:∀ vs H Q E,sp vs H Q E→vs.length=ps.length
 run:∀ (A:Around) (outer:List Env) (s:Shared) (H:Hp) (args:Args) (us:List Value) (vs:List V) (Q:VK) (E:XK),Room k A→Env0 P w K mg base A outer s H→BindsTo s fd args (ps.zip us)→Vals vs us→sp vs H Q E →
  codeAny (model P w) A (.call (.ref f) args) (CR CX outer P w H s Q E) s
theorem FnOk.mono {P:Program} {w:World} {K:PySem.W.Frag} {mg:Str→Option Value} {base:Heap} {CX:CXT} {j k:Nat} {f:Addr} {fd:FuncData} {ps:List Str} {sp:Sp} (F:FnOk P w K mg base CX j f fd ps sp) (h:j≤k) :
  FnOk P w K mg base CX k f fd ps sp:=⟨F.len,fun A outer s H args us vs Q E hr=>F.run A outer s H args us vs Q E (hr.mono h)⟩
theorem FnOk.imp {P:Program} {w:World} {K:PySem.W.Frag} {mg:Str→Option Value} {base:Heap} {CX:CXT} {k:Nat} {f:Addr} {fd:FuncData} {ps:List Str} {sp sp':Sp} (F:FnOk P w K mg base CX k f fd ps sp)
  (h:∀ vs H Q E,sp' vs H Q E→sp vs H Q E):FnOk P w K mg base CX k f fd ps sp' :=
 ⟨fun vs H Q E q=>F.len vs H Q E (h _ _ _ _ q),fun A outer s H args us vs Q E hr he hb hv hs=>F.run A outer s H args us vs Q E hr he hb hv (h _ _ _ _ hs)⟩
theorem Env0.in1 {P:Program} {w:World} {K:PySem.W.Frag} {mg:Str→Option Value} {base:Heap} {A:Around} {outer:List Env} {s:Shared} {H:Hp} (e:Env0 P w K mg base A outer s H) :
  Env0 P w K mg base A.in1 outer s H:=⟨e.frames,e.mod,e.bs,e.bsz,e.funs,e.frf,e.hok,e.bare⟩
section
variable {X:Cx} {pins:List (Addr × Obj)} {σ:St} {H:Hp} {s s':Shared}
theorem Inv.env0 (I:Inv X pins σ H s):Env0 X.prog X.w X.K X.mg X.base X.A X.stack s H :=
 ⟨I.ok.frames,I.ok.mod,I.bs,Nat.le_trans I.ok.bsz I.sz,I.stack,I.stkFree,I.hok,I.bare⟩
theorem Inv.after {Q:VK} {u:Value} (I:Inv X pins σ H s) (h:CE X.stack X.prog X.w H s Q u s'):EP X pins σ Q u s':=by
 obtain ⟨v,H',os,bare,un,hok,r,q⟩:=h
 obtain ⟨hh,g,d,t,os'⟩:=s'
 obtain rfl:os'=s.os:=os
 exact ⟨v,H',I.call (h':=hh) (g':=g) (d':=d) (t':=t) (ch:=[]) un hok bare (fun b z=>absurd z (by simp)),r,q⟩
end
def tCall (sp:Sp) (dvs:List V) (E:XK) (t:TA):TE:=fun σ H Q=>t σ H fun vs H1=>sp (vs ++ dvs) H1 Q E
def Binds (K:PySem.W.Frag) (fd:FuncData) (ps:List Str) (ds:List Value):Prop :=
 ∀ (s:Shared) (us:List Value),K.In s.heap→(us ++ ds).length=ps.length→BindsTo s fd ⟨us,[]⟩ (ps.zip (us ++ ds))
theorem Binds.all {K:PySem.W.Frag} {fd:FuncData} {ps:List Str} (h:∀ us:List Value,us.length=ps.length→bindArgs fd ⟨us,[]⟩=pure (ps.zip us)):Binds K fd ps []:=fun s us _ hl=>by
 rw [List.append_nil] at hl ⊢
 exact .of_eq (h us hl)
def Passes (CX:CXT) (X:Cx) (E:XK):Prop:=∀ (pins:List (Addr × Obj)) (σ:St) (H:Hp) (s:Shared) (e:Value) (s':Shared),Inv X pins σ H s→CX X.stack H s E e s'→X.xe e s'
section
variable {X:Cx} {CX:CXT} {k:Nat} {f C:Addr} {fd:FuncData} {ps:List Str} {sp:Sp} {dvs:List V} {ds:List Value} {E:XK} {x m:Str} {p pos apos:Pos} {e o:Expr} {es:List Expr} {ta:TE} {t:TA}
theorem run_fn {pins:List (Addr × Obj)} {σ:St} {H:Hp} {s:Shared} {Q:VK} {us:List Value} {vs:List V} (F:FnOk X.prog X.w X.K X.mg X.base CX k f fd ps sp) (hr:Room k X.A) (hb:Binds X.K fd ps ds) (hd:Vals dvs ds) (hx:Passes CX X E)
  (I:Inv X pins σ H s) (r:Vals vs us) (h:sp (vs ++ dvs) H Q E):wpAny (model X.prog X.w) X.A (call (.ref f) us) (EP X pins σ Q) X.xe s:=by
 have r2:Vals (vs ++ dvs) (us ++ ds):=r.append hd
 have hl:(us ++ ds).length=ps.length:=by rw [← r2.length]; exact F.len _ _ _ _ h
 refine wpAny_call (codeAny_mono (F.run X.A X.stack s H ⟨us,[]⟩ (us ++ ds) (vs ++ dvs) Q E hr I.env0 (hb s us I.kIn hl) r2 h) fun r s' hq=>?_)
 cases r with
 | error e=>exact hx pins σ H s e s' I hq
 | ok fl =>
  cases fl with
  | ret u=>exact I.after hq
  | next=>exact False.elim hq
  | brk=>exact False.elim hq
  | cont=>exact False.elim hq
theorem pe_call (F:FnOk X.prog X.w X.K X.mg X.base CX k f fd ps sp) (hr:Room k X.A) (hg:Gl X x) (hm:X.mg x=some (.ref f)) (hk:PySem.W.keepIn X.K (.ref f)=true) (hb:Binds X.K fd ps ds) (hd:Vals dvs ds) (hx:Passes CX X E)
  (ha:PA X (e :: es) t) (hdb:(x == ("__debug__":Str))=false:=by decide) (he:starEach (e :: es) X.env=(false,eval e X.env) :: starEach es X.env:=by rfl) (hpl:(backTo pos (starEach es X.env)).any (·.1)=false:=by rfl) :
  PE X (.Call (.Name x p) (e :: es) [] pos) (tCall sp dvs E t):=by
 intro pins s σ H Q I h
 refine wpAny_Call_Name_kw (ld_glob I hg hm ?_ hdb)
 refine PySem.W.callWith_K (h₀:=X.base) I.ok.mod.kin hk (thn (ha pos pins s σ H _ I h) fun us s1 ⟨vs,H1,I1,r,q⟩=>⟨I1.kIn,?_⟩) he hpl
 exact run_fn F hr hb hd hx I1 r q
structure Mk (K:PySem.W.Frag) (C f:Addr):Prop where
 makes:PySem.W.makesIn K C=true
 init:PySem.W.findIn K (.ref C) "__init__"=some (some (.ref f))
 fn:PySem.W.isFn K (.ref f)=true
 kp:PySem.W.keepIn K (.ref C)=true
end
section
variable {X:Cx} {CX:CXT} {k:Nat} {f C:Addr} {fd:FuncData} {ps ks:List Str} {sp:Sp} {E:XK} {x m:Str} {p pos apos kpos:Pos} {e o:Expr} {es:List Expr} {kws:List Keyword} {te ta:TE} {t tk:TA} {nm:Option Str}
structure KBinds (K:PySem.W.Frag) (fd:FuncData) (ps ks:List Str) (g:List Value→List Value→List Value) (gV:List V→List V→List V):Prop where
 to:∀ (s:Shared) (us ws:List Value),K.In s.heap→(g us ws).length=ps.length→BindsTo s fd ⟨us,ks.zip ws⟩ (ps.zip (g us ws))
 rel:∀ {vs:List V} {us:List Value} {zs:List V} {ws:List Value},Vals vs us→Vals zs ws→Vals (gV vs zs) (g us ws)
variable {g:List Value→List Value→List Value} {gV:List V→List V→List V}
end
structure FnScope (N P:List Str) (sc:Scope):Prop where
 kind:sc.kind=.function
 co:sc.isCoroutine=false
 gen:sc.isGenerator=false
 nd:N.Nodup
 pre:N.take P.length=P
 par:∀ x∈P,sc.names.lookup x=some .local∨sc.names.lookup x=some .cell
 nofree:∀ y∈sc.names,y.2≠.free
theorem bindL_out {kindOf:Str→Option NameKind} {x:Str}:∀ {binds:List (Str × Value)} {m:Str→Option Value},(∀ v,(x,v) ∉ binds)→bindL kindOf binds m x=m x
 | [],_,_=>rfl
 | (n,v) :: r,m,h=>by
  unfold bindL
  rw [bindL_out fun w hw=>h w (List.mem_cons_of_mem _ hw)]
  split
  ·have:x≠n:=by rintro rfl; exact h v List.mem_cons_self
   simp [this]
  ·rfl
theorem bindC_out {kindOf:Str→Option NameKind} {x:Str}:∀ {binds:List (Str × Value)} {m:Str→Option Value},(∀ v,(x,v) ∉ binds)→bindC kindOf binds m x=m x
 | [],_,_=>rfl
 | (n,v) :: r,m,h=>by
  unfold bindC
  rw [bindC_out fun w hw=>h w (List.mem_cons_of_mem _ hw)]
  split
  ·rfl
  ·have:x≠n:=by rintro rfl; exact h v List.mem_cons_self
   simp [this]
theorem bindL_get {kindOf:Str→Option NameKind} {x:Str} {v:Value}:∀ {P:List Str} {vs:List Value} {i:Nat} {m:Str→Option Value},P.Nodup→P[i]?=some x→vs[i]?=some v→kindOf x=some .local →
  bindL kindOf (P.zip vs) m x=some v
 | [],_,_,_,_,h,_,_=>by simp at h
 | _ :: _,[],_,_,_,_,h,_=>by simp at h
 | p :: P,w :: vs,0,m,nd,h1,h2,hk=>by
  simp at h1 h2; subst h1; subst h2
  show bindL kindOf ((p,w) :: P.zip vs) m p=_
  unfold bindL
  rw [bindL_out fun v hv=>(List.nodup_cons.mp nd).1 (List.of_mem_zip hv).1,if_pos hk]
  simp
 | p :: P,w :: vs,i + 1,m,nd,h1,h2,hk=>by
  show bindL kindOf ((p,w) :: P.zip vs) m x=_
  unfold bindL
  exact bindL_get (i:=i) (List.nodup_cons.mp nd).2 (by simpa using h1) (by simpa using h2) hk
theorem bindC_get {kindOf:Str→Option NameKind} {x:Str} {v:Value}:∀ {P:List Str} {vs:List Value} {i:Nat} {m:Str→Option Value},P.Nodup→P[i]?=some x→vs[i]?=some v→kindOf x≠some .local →
  bindC kindOf (P.zip vs) m x=some v
 | [],_,_,_,_,h,_,_=>by simp at h
 | _ :: _,[],_,_,_,_,h,_=>by simp at h
 | p :: P,w :: vs,0,m,nd,h1,h2,hk=>by
  simp at h1 h2; subst h1; subst h2
  show bindC kindOf ((p,w) :: P.zip vs) m p=_
  unfold bindC
  rw [bindC_out fun v hv=>(List.nodup_cons.mp nd).1 (List.of_mem_zip hv).1,if_neg hk]
  simp
 | p :: P,w :: vs,i + 1,m,nd,h1,h2,hk=>by
  show bindC kindOf ((p,w) :: P.zip vs) m x=_
  unfold bindC
  exact bindC_get (i:=i) (List.nodup_cons.mp nd).2 (by simpa using h1) (by simpa using h2) hk
def start (N:List Str) (vs:List V):St:=vs.map some ++ List.replicate (N.length - vs.length) none
def cxOf (CX:CXT) (P:Program) (w:World) (K:PySem.W.Frag) (mg:Str→Option Value) (base:Heap) (N:List Str) (qual:Str) (scope:Scope) (f:Addr) (cd:Value) (A:Around) (outer:List Env) (s:Shared) (H:Hp) (E:XK):Cx where
 prog:=P
 w:=w
 K:=K
 mg:=mg
 base:=base
 A:=A.deeper (envOfC qual scope s.heap.objs.size f cd)
 N:=N
 s₀:=s
 H₀:=H
 env:=envOfC qual scope s.heap.objs.size f cd
 outer:=outer
 stack:=envOfC qual scope s.heap.objs.size f cd :: outer
 ex:=[]
 calm:=true
 fn:=fun _=>true
 pn:=[]
 xe:=fun e s'=>wpAny (model P w) (A.deeper (envOfC qual scope s.heap.objs.size f cd)) (leaving (envOfC qual scope s.heap.objs.size f cd) e) (fun _ s''=>CX outer H s E e s'') (fun e' s''=>CX outer H s E e' s'') s'
theorem cell_has {sc:Scope} {n:Nat} {x:Str} (h:sc.names.lookup x=some .cell):∃ c,(cellsFrom n sc.names []).lookup x=some c:=by
 have q:=PySem.W.cellsFrom_some sc.names n [] (.inl h)
 exact Option.isSome_iff_exists.mp q
theorem inv_start {CX:CXT} {P:Program} {w:World} {K:PySem.W.Frag} {mg:Str→Option Value} {base:Heap} {N ps:List Str} {qual:Str} {scope:Scope} {f:Addr} {cd:Value} {A:Around} {outer:List Env} {s s1:Shared} {H:Hp} {E:XK} {us:List Value} {vs:List V}
  (S:FnScope N ps scope) (hd:A.handled=none) (e0:Env0 P w K mg base A outer s H) (hl:vs.length=ps.length) (r:Vals vs us)
  (x:InCallC s s.heap.objs.size (bindL (envOfC qual scope s.heap.objs.size f cd).kindOf (ps.zip us) fun _=>none) (cellsFrom (s.heap.objs.size + 1) scope.names []) (bindC (envOfC qual scope s.heap.objs.size f cd).kindOf (ps.zip us) fun _=>none) s1) :
  Inv (cxOf CX P w K mg base N qual scope f cd A outer s H E) [] (start N vs) H s1:=by
 have hpl:ps.length≤N.length:=by have:=congrArg List.length S.pre; rw [List.length_take] at this; omega
 obtain ⟨h1,tk,rfl,hk⟩:=x.done
 have noA:∀ b:Addr,b ∉ (cxOf CX P w K mg base N qual scope f cd A outer s H E).ex:=fun b z=>absurd (show b∈([]:List Addr) from z) (by simp)
 refine ⟨⟨e0.mod,S.kind,rfl,rfl,Nat.le_refl _,fun y z c h1 h2=>?_,fun y hy=>?_,fun y c _ h=>?_,fun _=>hd,Around.frames_deeper e0.frames,.inr ⟨rfl,rfl⟩,fun b z=>absurd z (noA b),e0.bs,e0.bsz,fun b _ _=>noA b,fun b z=>absurd z (noA b),e0.funs,e0.frf⟩,
  rfl,e0.bare,Un.kept hk,⟨_,x.toInCall.ns,fun i y v h1 h2 h3=>?_⟩,fun y c h=>⟨_,x.cell y c h⟩,e0.hok.fresh (Nat.le_refl _),fun y c h=>?_,fun p hp=>absurd (show p∈([]:List (Addr × Obj)) from hp) (by simp),e0.hok.kept hk,?_⟩
 ·exact name_of_addr x.apart (PySem.mem_of_lookup h1) (PySem.mem_of_lookup h2)
 ·have hy:scope.names.lookup y=some .cell∨scope.names.lookup y=some .free:=hy
  rcases hy with hy | hy
  ·exact cell_has hy
  ·exact absurd rfl (S.nofree _ (PySem.mem_of_lookup hy))
 ·exact Nat.le_of_lt (x.above y c (PySem.mem_of_lookup h))
 ·have hi:i < vs.length:=by
   unfold start at h2
   by_cases hi:i < vs.length
   ·exact hi
   ·rw [List.getElem?_append_right (by simpa using hi)] at h2
    rw [List.getElem?_replicate] at h2
    split at h2 <;> cases h2
  have ha:vs[i]?=some v:=by
   unfold start at h2
   rw [List.getElem?_append_left (by simpa using hi),List.getElem?_map] at h2
   cases e:vs[i]? with
   | none=>rw [e] at h2; cases h2
   | some a=>rw [e] at h2; cases h2; rfl
  obtain ⟨u,hu,rv⟩:=r.get ha
  have hp:ps[i]?=some y:=by
   rw [← S.pre,List.getElem?_take_of_lt (by omega)]; exact h1
  have ndP:ps.Nodup:=by rw [← S.pre]; exact S.nd.sublist (List.take_sublist _ _)
  refine ⟨u,rv,?_⟩
  rcases S.par y (List.mem_of_getElem? hp) with k | k
  ·exact .inl ⟨k,bindL_get ndP hp hu k⟩
  ·obtain ⟨c,e⟩:=cell_has (n:=s.heap.objs.size + 1) k
   refine .inr ⟨.inl k,c,e,?_⟩
   have q:=x.cell y c e
   rw [bindC_get ndP hp hu (by show scope.names.lookup y≠_; rw [k]; decide)] at q
   exact q
 ·exact e0.hok.fresh (Nat.le_of_lt (x.above y c (PySem.mem_of_lookup h)))
 ·unfold start
  show _=N.length
  rw [List.length_append,List.length_map,List.length_replicate]
  omega
theorem fn_of {CX:CXT} {P:Program} {w:World} {K:PySem.W.Frag} {mg:Str→Option Value} {base:Heap} {k:Nat} {f:Addr} {name qual:Str} {params:Arguments} {body:List Stmt} {scope:Scope} {dV kV doc pm cdv ct oc:Value} {an od:Option Addr}
  {osl:Array (Option Value)} {N ps:List Str} {sp:Sp} (lk:K.lookup f=some ⟨oc,od,.func (PySem.W.fnOf name qual params body scope dV kV doc pm an cdv ct),osl⟩) (hcd:PySem.W.codeIn K cdv qual=true) (S:FnScope N ps scope)
  (len:∀ vs H Q E,sp vs H Q E→vs.length=ps.length)
  (hbody:∀ (A:Around) (outer:List Env) (s:Shared) (H:Hp) (vs:List V) (Q:VK) (E:XK),Room k (A.deeper (envOfC qual scope s.heap.objs.size f cdv))→sp vs H Q E →
   ∃ t,PSs (cxOf CX P w K mg base N qual scope f cdv A outer s H E) body t∧t { nx:=fun _ H'=>Q .non H',rt:=Q } (start N vs) H) :
  FnOk P w K mg base CX (k + 1) f (PySem.W.fnOf name qual params body scope dV kV doc pm an cdv ct) ps sp:=by
 refine ⟨len,fun A outer s H args us vs Q E hr e0 hb r hsp=>?_⟩
 have hl:=len _ _ _ _ hsp
 have KX:K.In s.heap:=e0.mod.kin.keeps fun b o e=>(e0.bs b o e).1
 have lim:s.heap.NoLimit:=e0.mod.nolimit.keeps fun b o e=>(e0.bs b o e).1
 have hkind:∀ y∈ps.zip us,scope.names.lookup y.1=some .local∨(scope.names.lookup y.1=some .cell∧((cellsFrom (s.heap.objs.size + 1) scope.names []).lookup y.1).isSome=true):=fun ⟨n,v⟩ hy=>by
  rcases S.par n (List.of_mem_zip hy).1 with q | q
  ·exact .inl q
  ·exact .inr ⟨q,PySem.W.cellsFrom_some _ _ _ (.inl q)⟩
 refine codeAny_call_function hr.depth (KX _ _ lk) rfl S.co S.gen rfl (PySem.W.codeRec_of KX hcd) (hb _ _ _ _ ?_)
 refine wpAny_newFunctionEnv_cells S.kind hkind fun env he s1 x=>?_
 subst he
 refine ⟨lim.keeps x.toInCall.keep,codeAny_func ?_⟩
 obtain ⟨t,ht,hq⟩:=hbody A outer s H vs Q E (hr.deeper _) hsp
 have I:Inv (cxOf CX P w K mg base N qual scope f cdv A outer s H E) [] (start N vs) H s1:=inv_start S hr.hd e0 hl r x
 refine wpAny_mono (ht [] s1 (start N vs) H _ I hq) (fun fl s' hs=>?_) fun e s' hs=>hs
 have fin:∀ {σ':St} {H':Hp} {v:V} {u:Value},Inv (cxOf CX P w K mg base N qual scope f cdv A outer s H E) [] σ' H' s'→RelV v u→Q v H'→CE outer P w H s Q u s' :=
  fun {σ' H' v u} J rv q=>⟨v,H',J.os,J.bare,J.base,J.hok,rv,q⟩
 cases fl with
 | ret u =>
  obtain ⟨v,σ',H',J,rv,q⟩:=hs
  exact fin J rv q
 | next =>
  obtain ⟨σ',H',J,q⟩:=hs
  exact fin (v:=V.non) (u:=Value.none) J rfl q
 | brk =>
  obtain ⟨_,_,_,q⟩:=hs
  exact False.elim q
 | cont =>
  obtain ⟨_,_,_,q⟩:=hs
  exact False.elim q
end L2
namespace L2
open PySem PySem.Spec PyProof.Rows
section
variable {X:Cx} {x:Str} {p pos:Pos} {e:Expr} {es:List Expr} {t:TA} {id T:String} {r:List V→Hp→VK→Prop}
def tCB (r:List V→Hp→VK→Prop) (t:TA):TE:=fun σ H Q=>t σ H fun vs H1=>r vs H1 Q
theorem pe_callB (hc:CallR X (.builtin id) r) (hg:Gl X x) (hm:X.mg x=none) (hv:bootBuiltins x=some (.builtin id)) (ha:PA X (e :: es) t) (hn:x≠"__name__":=by decide) (hdb:(x == ("__debug__":Str))=false:=by decide)
  (he:starEach (e :: es) X.env=(false,eval e X.env) :: starEach es X.env:=by rfl) (hpl:(backTo pos (starEach es X.env)).any (·.1)=false:=by rfl):PE X (.Call (.Name x p) (e :: es) [] pos) (tCB r t):=by
 intro pins s σ H Q I h
 refine wpAny_Call_Name_kw (ld_blt I hg hm hv ?_ hn hdb)
 exact PyProof.Rows.callWith_builtin1 (thn (ha pos pins s σ H _ I h) fun us s1 ⟨vs,H1,I1,r1,q1⟩=>hc pins s1 σ H1 vs us Q I1 r1 q1) he hpl
theorem pe_callTy (hc:CallR X (.type T) r) (hg:Gl X x) (hm:X.mg x=none) (hv:bootBuiltins x=some (.type T)) (ha:PA X (e :: es) t) (hn:x≠"__name__":=by decide) (hdb:(x == ("__debug__":Str))=false:=by decide)
  (he:starEach (e :: es) X.env=(false,eval e X.env) :: starEach es X.env:=by rfl) (hpl:(backTo pos (starEach es X.env)).any (·.1)=false:=by rfl):PE X (.Call (.Name x p) (e :: es) [] pos) (tCB r t):=by
 intro pins s σ H Q I h
 refine wpAny_Call_Name_kw (ld_blt I hg hm hv ?_ hn hdb)
 exact PyProof.Rows.callWith_type1 (thn (ha pos pins s σ H _ I h) fun us s1 ⟨vs,H1,I1,r1,q1⟩=>hc pins s1 σ H1 vs us Q I1 r1 q1) he hpl
end
end L2
namespace HT
open PySem PyProof.Rows
section
open PySem.SeqAt
open PySem.AutoSeq1 (wpAny_loadPart')
open PySem.MeetsSeq PySem.MeetsSeq2 PySem.MeetsSeq3
end
section
variable {prog:Program} {w:World} {A:Around} {E:Value→Shared→Prop} {s:Shared}
def sIx (n d:Nat):Option Int→Nat
 | none=>d
 | some v=>if v < 0 then (v + (n:Int)).toNat else min v.toNat n
theorem sIx_none (n d:Nat):sIx n d none=d:=rfl
theorem sIx_nat (n d k:Nat):sIx n d (some (k:Int))=min k n:=by
 show (if (k:Int) < 0 then ((k:Int) + (n:Int)).toNat else min (k:Int).toNat n)=min k n
 rw [if_neg (by omega),Int.toNat_natCast]
end
end HT
namespace L2
open PySem PySem.Spec PyProof.Rows
abbrev TO:=St→Hp→(Option Int→Hp→Prop)→Prop
def PO (X:Cx) (e:Option Expr) (t:TO):Prop :=
 ∀ (pins:List (Addr × Obj)) (s:Shared) (σ:St) (H:Hp) (Q:Option Int→Hp→Prop),Inv X pins σ H s→t σ H Q →
  wpAny (model X.prog X.w) X.A (evalPart e X.env) (fun u s'=>∃ o H',Inv X pins σ H' s'∧IsPart u o∧Q o H') X.xe s
def tNoPart:TO:=fun _ H Q=>Q none H
def tPart (t:TE):TO:=fun σ H Q=>t σ H fun x H1=>∃ i,x=.int i∧Q (some i) H1
theorem intsAre_of {ns:List Int}:∀ {us:List Value},Vals (ns.map V.int) us→IntsAre us ns:=by
 induction ns with
 | nil=>intro us r; rw [List.map_nil] at r; cases r; exact .nil
 | cons n ns ih =>
  intro us r
  rw [List.map_cons] at r
  cases r with
  | cons r1 r2 =>
   obtain ⟨t,e⟩:=r1
   subst e
   exact .cons n t (ih r2)
section
variable {X:Cx} {e:Expr} {te:TE} {lo hi:Option Expr} {tl th:TO} {pos p2:Pos}
theorem po_none:PO X none tNoPart:=by
 intro pins s σ H Q I h
 rw [evalPart_none]
 exact wpAny_pure ⟨none,H,I,.none,h⟩
theorem po_some (h:PE X e te):PO X (some e) (tPart te):=by
 intro pins s σ H Q I hw
 rw [evalPart_some]
 refine thn (h pins s σ H _ I hw) fun u s1 ⟨x,H1,I1,r1,q1⟩=>?_
 obtain ⟨i,rfl,q⟩:=q1
 obtain ⟨t,rfl⟩:=r1
 exact ⟨some i,H1,I1,.int i t,q⟩
def SlR (X:Cx) (r:V→Option Int→Option Int→Hp→VK→Prop):Prop :=
 ∀ (pins:List (Addr × Obj)) (s:Shared) (σ:St) (H:Hp) (x:V) (v vl vu:Value) (lo hi:Option Int) (sl:Addr) (Q:VK),Inv X pins σ H s→RelV x v→s.heap.IsSliceOf sl vl vu .none→IsPart vl lo→IsPart vu hi→r x lo hi H Q →
  ∃ T id,typeLookup (.type T) "__getitem__"=pure (some (.builtin id))∧s.TypeIs v T∧wpAny (model X.prog X.w) X.A (getItem v (.ref sl)) (EP X pins σ Q) X.xe s
def tSl (r:V→Option Int→Option Int→Hp→VK→Prop) (te:TE) (tl th:TO):TE:=fun σ H Q=>te σ H fun x H1=>tl σ H1 fun l H2=>th σ H2 fun u H3=>r x l u H3 Q
theorem pe_slice {r:V→Option Int→Option Int→Hp→VK→Prop} (hr:SlR X r) (he:PE X e te) (hl:PO X lo tl) (hu:PO X hi th):PE X (.Subscript e (.Slice lo hi none p2) pos) (tSl r te tl th):=by
 intro pins s σ H Q I h
 refine Subscript_ (thn (he pins s σ H _ I h) fun v s1 ⟨x,H1,I1,r1,q1⟩=>?_)
 refine wpAny_Slice (thn (hl pins s1 σ H1 _ I1 q1) fun vl s2 ⟨l,H2,I2,pl,q2⟩=>thn (hu pins s2 σ H2 _ I2 q2) fun vu s3 ⟨u,H3,I3,pu,q3⟩=>?_)
 rw [evalPart_none]
 refine wpAny_pure ?_
 have I4:Inv X pins σ H3 { s3 with heap:=s3.heap.push { cls:=.type "slice",data:=.fields #[vl,vu,.none] } }:=I3.kept (t':=s3.toks) fun b ob q=>Heap.get?_push_of_some _ q
 obtain ⟨T,id,hT,ht,hg⟩:=hr pins { s3 with heap:=s3.heap.push { cls:=.type "slice",data:=.fields #[vl,vu,.none] } } σ H3 x v vl vu l u s3.heap.objs.size Q I4 r1 (Heap.IsSliceOf.new ..) pl pu q3
 show wpAny (model X.prog X.w) X.A (subscriptTail e (.Slice lo hi none p2) v (.ref s3.heap.objs.size)) (EP X pins σ Q) X.xe { s3 with heap:=s3.heap.push { cls:=.type "slice",data:=.fields #[vl,vu,.none] } }
 exact tail_any (ops:=[.ref s3.heap.objs.size,v]) ht hT hg (by with_unfolding_all rfl)
def cutV (xs:List V) (lo hi:Option Int):List V:=(xs.drop (HT.sIx xs.length 0 lo)).take (HT.sIx xs.length xs.length hi - HT.sIx xs.length 0 lo)
theorem cutV_length (xs:List V) (lo hi:Option Int):(cutV xs lo hi).length≤xs.length:=by
 unfold cutV
 rw [List.length_take,List.length_drop]
 omega
end
end L2
namespace L2
open PySem PySem.Spec PyProof.Rows
def ixN (n:Nat) (i:Int):Option Nat:=if 0≤i then (if i < n then some i.toNat else none) else if -(n:Int)≤i then some (i + n).toNat else none
def atI {α:Type} (xs:List α) (i:Int):Option α:=(ixN xs.length i).bind fun j=>xs[j]?
theorem ixN_seq {n:Nat} {i:Int} {j:Nat} (h:ixN n i=some j):seqIndex? i n=some j∧j < n∧-(n:Int)≤i∧i < n:=by
 unfold ixN at h
 by_cases h0:0≤i
 ·rw [if_pos h0] at h
  by_cases h1:i < n
  ·rw [if_pos h1] at h
   have e:i.toNat=j:=Option.some.inj h
   exact ⟨by rw [seqIndex_of h0 h1,e],by omega,by omega,h1⟩
  ·rw [if_neg h1] at h; cases h
 ·rw [if_neg h0] at h
  by_cases h1:-(n:Int)≤i
  ·rw [if_pos h1] at h
   have e:(i + n).toNat=j:=Option.some.inj h
   exact ⟨by rw [seqIndex_neg (by omega) h1,e],by omega,h1,by omega⟩
  ·rw [if_neg h1] at h; cases h
theorem atI_get {α:Type} {xs:List α} {i:Int} {v:α} (h:atI xs i=some v):∃ j,seqIndex? i xs.length=some j∧xs[j]?=some v∧j < xs.length∧-(xs.length:Int)≤i∧i < xs.length:=by
 unfold atI at h
 cases e:ixN xs.length i with
 | none=>rw [e] at h; cases h
 | some j =>
  rw [e] at h
  obtain ⟨h1,h2,h3,h4⟩:=ixN_seq e
  exact ⟨j,h1,h,h2,h3,h4⟩
theorem atI_nat {α:Type} {xs:List α} {j:Nat} {v:α} (h:xs[j]?=some v):atI xs (j:Int)=some v:=by
 have hj:j < xs.length:=(List.getElem?_eq_some_iff.mp h).1
 have e:ixN xs.length (j:Int)=some j:=by
  unfold ixN
  rw [if_pos (by omega),if_pos (by omega)]; simp
 unfold atI; rw [e]; exact h
def PlainIx (b:Expr):Prop:=∀ o i,subscripted b false o i=operate [o,i] (getItem o i)
def IxR (X:Cx) (r:R2):Prop :=
 ∀ (value slice:Expr) (pins:List (Addr × Obj)) (s:Shared) (σ:St) (H:Hp) (x y:V) (v u:Value) (Q:VK),Inv X pins σ H s→RelV x v→RelV y u→r x y H Q →
  subscripted slice false v u=operate [v,u] (getItem v u)→wpAny (model X.prog X.w) X.A (subscriptTail value slice v u) (EP X pins σ Q) X.xe s
def MtR (X:Cx) (id:String) (r:V→List V→Hp→VK→Prop):Prop :=
 ∀ (pins:List (Addr × Obj)) (s:Shared) (σ:St) (H:Hp) (x:V) (xs:List V) (v:Value) (us:List Value) (Q:VK),Inv X pins σ H s→RelV x v→Vals xs us→r x xs H Q →
  wpAny (model X.prog X.w) X.A (call (.builtin id) (v :: us)) (EP X pins σ Q) X.xe s
section
variable {X:Cx} {a b:Expr} {ta tb:TE} {pos:Pos}
theorem pe_ix {r:R2} (hr:IxR X r) (ha:PE X a ta) (hb:PE X b tb) (hs:PlainIx b):PE X (.Subscript a b pos) (tOp r ta tb):=by
 intro pins s σ H Q I h
 exact Subscript_ (binT ha hb I h fun v u s2 x y H2 I2 rx ry q=>hr a b pins s2 σ H2 x y v u Q I2 rx ry q (hs _ _))
def rIxL (K:PySem.W.Frag):R2:=fun x y H Q=>∃ p xs i v,x=.ref p∧y=.int i∧SqL K H p xs∧atI xs i=some v∧Q v H
def rIxT (K:PySem.W.Frag):R2:=fun x y H Q=>∃ p xs i v,x=.ref p∧y=.int i∧SqT K H p xs∧atI xs i=some v∧Q v H
theorem ix_list:IxR X (rIxL X.K):=by
 intro value slice pins s σ H x y v u Q I rx ry h hs
 obtain ⟨p,xs,i,z,rfl,rfl,hq,he,q⟩:=h
 cases rx
 obtain ⟨t,rfl⟩:=ry
 obtain ⟨its,r,pl,hz⟩:=I.list hq
 obtain ⟨j,h1,h2,h3,h4,h5⟩:=atI_get he
 obtain ⟨w,ew,rw'⟩:=r.get h2
 have hl:=r.length
 have hn:=line63
 have fin:EP X pins σ Q w s:=⟨z,H,I,rw',q⟩
 by_cases h0:0≤i
 ·have hj:i.toNat=j:=by
   rw [seqIndex_of h0 h5] at h1
   exact Option.some.inj h1
  exact item_listR pl.isList h0 (by omega) (by rw [hj]; simpa using ew) fin hs
 ·have hj:(i + (its.toArray.size:Int)).toNat=j:=by
   rw [seqIndex_neg (by omega) h4] at h1
   rw [List.size_toArray,← hl]
   exact Option.some.inj h1
  exact subscriptTail_builtinR (x:=w) pl.isList.typeIs slot_list_getitem.lookup
   (wpAny_getItem_list_neg (Q:=fun r s'=>r=w∧EP X pins σ Q r s') pl.isList (by omega) (by rw [List.size_toArray] <;> omega) (by omega) (by rw [hj]; simpa using ew) ⟨rfl,fin⟩) hs
theorem ix_tup:IxR X (rIxT X.K):=by
 intro value slice pins s σ H x y v u Q I rx ry h hs
 obtain ⟨p,xs,i,z,rfl,rfl,hq,he,q⟩:=h
 cases rx
 obtain ⟨t,rfl⟩:=ry
 obtain ⟨its,r,pl,hz⟩:=I.tuple hq
 obtain ⟨j,h1,h2,h3,h4,h5⟩:=atI_get he
 obtain ⟨w,ew,rw'⟩:=r.get h2
 have hl:=r.length
 have hn:=line63
 have fin:EP X pins σ Q w s:=⟨z,H,I,rw',q⟩
 exact subscriptTail_builtinR (x:=w) pl.typeIs slot_tuple_getitem.lookup
  (getItem_tuple (j:=j) (Q:=fun r s'=>r=w∧EP X pins σ Q r s') pl (by omega) (by omega) (by rw [List.size_toArray,← hl]; exact h1) (by simpa using ew) ⟨rfl,fin⟩) hs
theorem mapSeq_set (its:List Value) (n j:Nat) (u:Value):Obj.mapSeq (·.setIfInBounds j u) { cls:=.type "list",data:=.seq its.toArray n }={ cls:=.type "list",data:=.seq (its.set j u).toArray n }:=by
 simp [Obj.mapSeq]
theorem Inv.lst {pins:List (Addr × Obj)} {σ:St} {H:Hp} {s:Shared} {p:Addr} {xs:List V} (I:Inv X pins σ H s) (h:H p=some (.lst xs)) :
  ∃ (its:List Value) (n:Nat),Vals xs its∧s.heap.get? p=some { cls:=.type "list",data:=.seq its.toArray n }∧xs.length≤sizeLine:=by
 obtain ⟨z,its,n,r,e⟩:=I.hok p _ h
 exact ⟨its,n,r,e,z⟩
theorem Inv.lstUpd {pins:List (Addr × Obj)} {σ:St} {H:Hp} {s:Shared} {p:Addr} {xs ys:List V} {its its':List Value} {n n':Nat} {f:Obj→Obj} (I:Inv X pins σ H s) (h:H p=some (.lst xs))
  (ho:s.heap.get? p=some { cls:=.type "list",data:=.seq its.toArray n }) (hf:f { cls:=.type "list",data:=.seq its.toArray n }={ cls:=.type "list",data:=.seq its'.toArray n' }) (r:Vals ys its') (hz:ys.length≤sizeLine) (t:Nat) :
  Inv X pins σ (upd H p (.lst ys)) { s with heap:=s.heap.update p f,toks:=t }:=by
 have e:(s.heap.update p f).get? p=some { cls:=.type "list",data:=.seq its'.toArray n' }:=by
  rw [Heap.get?_update_self f ho (by rw [hf] <;> rfl),hf]
 refine I.write (x:=p) (e:=p) (by rw [h]; trivial) (.inl rfl) (fun b u hb q=>(Heap.get?_update_other _ _ (Ne.symm hb)).trans q) ⟨_,e⟩ ?_
 exact ⟨hz,its',n',r,e⟩
def rSetL:V→V→V→Hp→(Hp→Prop)→Prop:=fun o i v H Q=>∃ p xs k j,o=.ref p∧i=.int k∧H p=some (.lst xs)∧ixN xs.length k=some j∧Q (upd H p (.lst (xs.set j v)))
theorem set_list:PSet X rSetL:=by
 intro pins s σ H o i v ov iv u Q I ro ri rv h
 obtain ⟨p,xs,k,j,rfl,rfl,hp,hj,q⟩:=h
 cases ro
 obtain ⟨t,rfl⟩:=ri
 obtain ⟨its,n,r,ho,hz⟩:=I.lst hp
 obtain ⟨h1,h2,h3,h4⟩:=ixN_seq hj
 have hl:=r.length
 have hn:=line63
 have I':Inv X pins σ (upd H p (.lst (xs.set j v))) { s with heap:=s.heap.update p (Obj.mapSeq (·.setIfInBounds j u)) } :=
  I.lstUpd hp ho (mapSeq_set its n j u) (r.set rv j) (by rw [List.length_set]; exact hz) s.toks
 by_cases h0:0≤k
 ·have hk:k.toNat=j:=by
   rw [seqIndex_of h0 h4] at h1
   exact Option.some.inj h1
  exact PySem.W.ki_setAt ho h0 (by omega) (by rw [List.size_toArray,← hl]; exact h4) (by rw [hk]; exact ⟨_,I',q⟩)
 ·have hk:(k + (its.toArray.size:Int)).toNat=j:=by
   rw [seqIndex_neg (by omega) h3] at h1
   rw [List.size_toArray,← hl]
   exact Option.some.inj h1
  exact PySem.W.ki_setBack ho (by omega) (by rw [List.size_toArray,← hl]; exact h3) (by omega) (by rw [hk]; exact ⟨_,I',q⟩)
theorem slice_bounds (lo hi:Option Int) (n:Nat):(sliceBounds lo hi none n).1=((HT.sIx n 0 lo:Nat):Int)∧(sliceBounds lo hi none n).2.1=((HT.sIx n n hi:Nat):Int)∧(sliceBounds lo hi none n).2.2=1:=by
 refine ⟨?_,?_,rfl⟩
 ·cases lo with
  | none=>simp [sliceBounds,HT.sIx]
  | some i =>
   simp only [sliceBounds,HT.sIx,Option.getD_none,show (1:Int) > 0 by decide,if_true]
   by_cases h:i < 0
   ·simp only [h,if_true] <;> omega
   ·simp only [h,if_false] <;> omega
 ·cases hi with
  | none=>simp [sliceBounds,HT.sIx]
  | some i =>
   simp only [sliceBounds,HT.sIx,Option.getD_none,show (1:Int) > 0 by decide,if_true]
   by_cases h:i < 0
   ·simp only [h,if_true] <;> omega
   ·simp only [h,if_false] <;> omega
theorem slicePick_cut (its:List Value) (lo hi:Option Int):slicePick its.toArray lo hi none=((its.drop (HT.sIx its.length 0 lo)).take (HT.sIx its.length its.length hi - HT.sIx its.length 0 lo)).toArray:=by
 obtain ⟨h1,h2,h3⟩:=slice_bounds lo hi its.toArray.size
 unfold slicePick
 rw [h1,h2,h3]
 simp only [sliceRange_one,pick_run,List.size_toArray] <;> rfl
def rSlL (K:PySem.W.Frag):V→Option Int→Option Int→Hp→VK→Prop:=fun x lo hi H Q=>∃ a xs,x=.ref a∧SqL K H a xs∧∀ p,H p=none→Q (.ref p) (upd H p (.lst (cutV xs lo hi)))
theorem sl_list:SlR X (rSlL X.K):=by
 intro pins s σ H x v vl vu lo hi sl Q I rx hs pl pu h
 obtain ⟨a,xs,rfl,hx,q⟩:=h
 cases rx
 obtain ⟨its,r,ht,hz⟩:=I.list hx
 have hlen:=r.length
 refine ⟨"list",_,slot_list_getitem.lookup,ht.isList.typeIs,?_⟩
 refine wpAny_getItem_list_slice ht.isList hs pl pu .none (by simp) ?_ (by rw [List.size_toArray] <;> omega)
 rw [slicePick_cut,← hlen]
 refine ⟨.ref s.heap.objs.size,_,I.laid (t':=s.toks) (o:=.lst (cutV xs lo hi)) (fun b ob q=>Heap.get?_push_of_some _ q) (Nat.le_refl _) ?_,rfl,q _ (I.hok.fresh (Nat.le_refl _))⟩
 exact ⟨Nat.le_trans (cutV_length xs lo hi) hz,_,0,(r.drop (HT.sIx xs.length 0 lo)).take (HT.sIx xs.length xs.length hi - HT.sIx xs.length 0 lo),Heap.get?_push_size _ rfl⟩
theorem call_len_seq:CallR X (.builtin "len") (fun xs H Q=>∃ p ys,xs=[.ref p]∧(SqL X.K H p ys∨SqT X.K H p ys)∧Q (.int ys.length) H):=by
 intro pins s σ H xs us Q I r h
 obtain ⟨p,ys,rfl,hq,q⟩:=h
 obtain ⟨u,rfl,rx⟩:=vals1 r
 cases rx
 have hn:=line63
 rcases hq with hq | hq
 ·obtain ⟨its,r',pl,hz⟩:=I.list hq
  have hlen:=r'.length
  exact Calls.call_len_list pl.isList (by simp only [List.size_toArray] <;> omega) ⟨.int ys.length,H,I.tok _,⟨s.toks + 1,by rw [List.size_toArray,hlen]⟩,q⟩
 ·obtain ⟨its,r',pl,hz⟩:=I.tuple hq
  have hlen:=r'.length
  exact len_tuple pl (by simp only [List.size_toArray] <;> omega) ⟨.int ys.length,H,I.tok _,⟨s.toks + 1,by rw [List.size_toArray,hlen]⟩,q⟩
theorem call_list_of:CallR X (.type "list") (fun xs H Q=>∃ p ys,xs=[.ref p]∧(SqL X.K H p ys∨SqT X.K H p ys)∧∀ l,H l=none→Q (.ref l) (upd H l (.lst ys))):=by
 intro pins s σ H xs us Q I r h
 obtain ⟨p,ys,rfl,hq,q⟩:=h
 obtain ⟨u,rfl,rx⟩:=vals1 r
 cases rx
 have fin:∀ (its:List Value),Vals ys its→ys.length≤sizeLine→∀ (h':Heap) (c':Nat),(∀ b o',s.heap.get? b=some o'→h'.get? b=some o') →
   h'.get? s.heap.objs.size=some { cls:=.type "list",dict:=none,data:=.seq its.toArray c',slots:=#[] }→EP X pins σ Q (.ref s.heap.objs.size) { s with heap:=h' }:=fun its r' hz h' c' kp e =>
  ⟨.ref s.heap.objs.size,_,I.laid (t':=s.toks) kp (Nat.le_refl _) (show ObjOk X.prog X.w _ h' _ (.lst ys) from ⟨hz,its,c',r',e⟩),rfl,q _ (I.hok.fresh (Nat.le_refl _))⟩
 rcases hq with hq | hq
 ·obtain ⟨its,r',pl,hz⟩:=I.list hq
  have hlen:=r'.length
  obtain ⟨o,ho,hc,n,hd⟩:=pl.isList
  exact call_list_seq p (.inl rfl) ho hc hd (fun h' c' kp e=>fin its r' hz h' c' kp e) (by simp only [List.size_toArray] <;> omega)
 ·obtain ⟨its,r',pl,hz⟩:=I.tuple hq
  have hlen:=r'.length
  obtain ⟨o,ho,hc,n,hd⟩:=pl
  exact call_list_seq p (.inr rfl) ho hc hd (fun h' c' kp e=>fin its r' hz h' c' kp e) (by simp only [List.size_toArray] <;> omega)
theorem call_tuple_of:CallR X (.type "tuple") (fun xs H Q=>∃ p ys,xs=[.ref p]∧((SqL X.K H p ys∧∀ l,H l=none→Q (.ref l) (upd H l (.tup ys)))∨(SqT X.K H p ys∧Q (.ref p) H))):=by
 intro pins s σ H xs us Q I r h
 obtain ⟨p,ys,rfl,h⟩:=h
 obtain ⟨u,rfl,rx⟩:=vals1 r
 cases rx
 rcases h with ⟨hq,q⟩ | ⟨hq,q⟩
 ·obtain ⟨its,r',pl,hz⟩:=I.list hq
  have hlen:=r'.length
  refine call_tuple_list pl.isList (fun h' kp=>?_) (by simp only [List.size_toArray] <;> omega)
  have I1:Inv X pins σ H { s with heap:=h' }:=I.kept (t':=s.toks) kp
  have I2:Inv X pins σ (upd H h'.objs.size (.tup ys)) { s with heap:=h'.push { cls:=.type "tuple",data:=.seq its.toArray } } :=
   I1.laid (t':=s.toks) (fun b o e=>Heap.get?_push_of_some _ e) (Nat.le_refl _) (show ObjOk X.prog X.w _ _ _ (.tup ys) from ⟨hz,its,r',IsTup.new _ _⟩)
  exact ⟨.ref h'.objs.size,_,I2,rfl,q _ (I1.hok.fresh (Nat.le_refl _))⟩
 ·obtain ⟨its,r',pl,hz⟩:=I.tuple hq
  exact call_tuple_same pl ⟨.ref p,H,I,rfl,q⟩
def tyV (K:PySem.W.Frag) (T:String) (x:V) (H:Hp):Prop:=match x with
 | .str _=>T="str"
 | .int _=>T="int"
 | .ref p=>(T="list"∧∃ xs,SqL K H p xs)∨(T="tuple"∧∃ o,K.lookup p=some o∧o.cls=.type "tuple"∧o.dict=none) ∨
   (T="dict"∧((∃ kvs,H p=some (.dK kvs))∨∃ kvs,H p=some (.dT kvs)))∨(T="set"∧∃ S n,H p=some (.set S n))
 | _=>False
theorem tyV_is {pins:List (Addr × Obj)} {σ:St} {H:Hp} {s:Shared} {T:String} {x:V} {v:Value} (I:Inv X pins σ H s) (r:RelV x v) (ty:tyV X.K T x H) :
  s.TypeIs v T∧∀ a,v=.ref a→∃ ob,s.heap.get? a=some ob∧ob.dict=none:=by
 cases x with
 | str z =>
  obtain ⟨t,rfl⟩:=r
  cases (show T="str" from ty)
  exact ⟨typeIs_str s z t,fun _ e=>nomatch e⟩
 | int i =>
  obtain ⟨t,rfl⟩:=r
  cases (show T="int" from ty)
  exact ⟨typeIs_int s i t,fun _ e=>nomatch e⟩
 | ref p =>
  cases r
  rcases ty with ⟨rfl,xs,hq⟩ | ⟨rfl,o,hk,hc,hd⟩ | ⟨rfl,hk⟩ | ⟨rfl,S,n,hk⟩
  ·obtain ⟨its,_,pl,_⟩:=I.list hq
   refine ⟨pl.isList.typeIs,fun a e=>?_⟩
   cases e
   obtain ⟨o,n,e,c,hd,_⟩:=pl
   exact ⟨o,e,hd⟩
  ·refine ⟨⟨o,I.kIn p o hk,hc⟩,fun a e=>?_⟩
   cases e
   exact ⟨o,I.kIn _ o hk,hd⟩
  ·have z:∃ o,s.heap.get? p=some o∧o.ExactDict:=by
    rcases hk with ⟨kvs,hk⟩ | ⟨kvs,hk⟩
    ·obtain ⟨_,_,_,_,o,_,_,e,ex,_⟩:=I.hok p _ hk
     exact ⟨o,e,ex⟩
    ·obtain ⟨_,_,_,_,o,_,_,e,ex,_⟩:=I.hok p _ hk
     exact ⟨o,e,ex⟩
   obtain ⟨o,e,ex⟩:=z
   refine ⟨⟨o,e,ex.1⟩,fun a e2=>?_⟩
   cases e2
   exact ⟨o,e,ex.2.1⟩
  ·obtain ⟨o,_,_,_,e,ex,_⟩:=I.hok p _ hk
   refine ⟨⟨o,e,ex.1⟩,fun a e2=>?_⟩
   cases e2
   exact ⟨o,e,ex.2.1⟩
 | _=>exact False.elim ty
def tBM0 (K:PySem.W.Frag) (T:String) (r:V→List V→Hp→VK→Prop) (to:TE):TE:=fun σ H Q=>to σ H fun x H1=>tyV K T x H1∧r x [] H1 Q
def tBM (K:PySem.W.Frag) (T:String) (r:V→List V→Hp→VK→Prop) (to:TE) (t:TA):TE:=fun σ H Q=>to σ H fun x H1=>tyV K T x H1∧t σ H1 fun xs H2=>r x xs H2 Q
variable {o e:Expr} {es:List Expr} {to:TE} {t:TA} {name:Str} {apos cpos:Pos} {T id:String} {r:V→List V→Hp→VK→Prop}
theorem pe_bm0 (pa:PlainAttrs T) (slot:Slot T name id) (hty:typeOf (.builtin id)=pure (.type "method_descriptor")) (hm:MtR X id r) (ho:PE X o to)
  (hbase:attributeBase o name X.env (eval o X.env)=eval o X.env:=by rfl) (hline:(apos.endLine == cpos.line)=true:=by rfl):PE X (.Call (.Attribute o name apos) [] [] cpos) (tBM0 X.K T r to):=by
 intro pins s σ H Q I h
 refine wpAny_Call_method0_late hbase hline (thn (ho pins s σ H _ I h) fun v s1 ⟨x,H1,I1,r1,ty,q1⟩=>?_)
 obtain ⟨h1,h2⟩:=tyV_is I1 r1 ty
 exact ⟨T,id,pa,slot,hty,h1,h2,Calls.callWith_builtin rfl (PySem.evalArgs_none (hm pins s1 σ H1 x [] v [] Q I1 r1 .nil q1))⟩
theorem pe_bm (pa:PlainAttrs T) (slot:Slot T name id) (hty:typeOf (.builtin id)=pure (.type "method_descriptor")) (hm:MtR X id r) (ho:PE X o to) (ha:PA X (e :: es) t)
  (hbase:attributeBase o name X.env (eval o X.env)=eval o X.env:=by rfl)
  (hfew:((backTo cpos (starEach (e :: es) X.env)).all (fun x=>!x.1) && (backToKw cpos (keywordEach [] X.env)).all (fun x=>x.1.isSome)
   && decide ((e :: es).length + ([]:List Keyword).length + (if ([]:List Keyword).isEmpty then 0 else 1) < 30))=true:=by rfl)
  (hline:(apos.endLine == cpos.line)=true:=by rfl) (hs:starEach (e :: es) X.env=(false,eval e X.env) :: starEach es X.env:=by rfl) (hplain:(backTo cpos (starEach es X.env)).any (·.1)=false:=by rfl) :
  PE X (.Call (.Attribute o name apos) (e :: es) [] cpos) (tBM X.K T r to t):=by
 intro pins s σ H Q I h
 refine wpAny_Call_method_late hbase hfew hline rfl (thn (ho pins s σ H _ I h) fun v s1 ⟨x,H1,I1,r1,ty,q1⟩=>?_)
 obtain ⟨h1,h2⟩:=tyV_is I1 r1 ty
 refine ⟨T,id,pa,slot,hty,h1,h2,?_⟩
 have hA:=ha cpos pins s1 σ H1 _ I1 q1
 rw [hs] at hA ⊢
 refine Calls.callWith_builtin (by show (false || (backTo cpos (starEach es X.env)).any (·.1))=false; rw [hplain] <;> rfl) (Calls.evalArgs_plain ?_)
 exact thn hA fun us s2 ⟨vs,H2,I2,r2,q2⟩=>hm pins s2 σ H2 x vs v us Q I2 r1 r2 q2
end
end L2
namespace L2
open PySem PySem.Spec PyProof.Rows
def MtM (X:Cx) (id:String) (r:V→List V→Hp→VK→Prop):Prop :=
 ∀ (pins:List (Addr × Obj)) (s:Shared) (σ:St) (H:Hp) (x:V) (xs:List V) (v:Value) (us:List Value) (Q:VK),Inv X pins σ H s→RelV x v→Vals xs us→r x xs H Q →
  wpAny (model X.prog X.w) X.A (call (.builtin id) (v :: us)) (EP X pins σ Q) X.xe s
theorem Vals.one:∀ {x:V} {us:List Value},Vals [x] us→∃ u,us=[u]∧RelV x u
 | _,_,.cons r .nil=>⟨_,rfl,r⟩
section
variable {X:Cx} {pins:List (Addr × Obj)} {σ:St} {H:Hp} {s:Shared} {l b:Addr} {xs ys zs:List V}
theorem Inv.lset {its its':List Value} {n:Nat} {f:Array Value→Array Value} {t':Nat} (I:Inv X pins σ H s) (hH:H l=some (.lst xs))
  (e:s.heap.get? l=some { cls:=.type "list",data:=.seq its.toArray n }) (hf:f its.toArray=its'.toArray) (hv:Vals ys its') (hz:ys.length≤sizeLine) :
  Inv X pins σ (upd H l (.lst ys)) { s with heap:=s.heap.update l (Obj.mapSeq f),toks:=t' }:=by
 have q:=PySem.IsL.update e f
 rw [hf] at q
 refine I.write (x:=l) (e:=l) (by rw [hH]; exact trivial) (.inl rfl) (fun b' u hb hu=>(Heap.get?_update_other s.heap (Obj.mapSeq f) (Ne.symm hb)).trans hu) ⟨_,q⟩ ?_
 exact ⟨hz,its',_,hv,q⟩
theorem Inv.lnew {its:List Value} {t':Nat} (I:Inv X pins σ H s) (hv:Vals ys its) (hz:ys.length≤sizeLine) :
  Inv X pins σ (upd H s.heap.objs.size (.lst ys)) { s with heap:=s.heap.push { cls:=.type "list",data:=.seq its.toArray },toks:=t' } :=
 I.laid (fun _ _ q=>Heap.get?_push_of_some _ q) (Nat.le_refl _) ⟨hz,its,0,hv,Heap.get?_push_size _ rfl⟩
theorem Inv.fresh (I:Inv X pins σ H s):H s.heap.objs.size=none:=I.hok.fresh (Nat.le_refl _)
theorem Inv.lstM (I:Inv X pins σ H s) (hH:H l=some (.lst xs)):xs.length≤sizeLine∧∃ (its:List Value) (n:Nat),Vals xs its∧xs.length=its.length∧s.heap.get? l=some { cls:=.type "list",data:=.seq its.toArray n }:=by
 obtain ⟨z,its,n,r,e⟩:=I.hok l _ hH
 exact ⟨z,its,n,r,r.length,e⟩
end
section
variable {X:Cx}
def rAppend:V→List V→Hp→VK→Prop:=fun x vs H Q=>∃ l xs y,x=.ref l∧vs=[y]∧H l=some (.lst xs)∧xs.length < sizeLine∧Q .non (upd H l (.lst (xs ++ [y])))
theorem mt_append:MtM X "list.append" rAppend:=by
 intro pins s σ H x vs v us Q I rx rv h
 obtain ⟨l,xs,y,rfl,rfl,hH,hz,q⟩:=h
 cases rx
 obtain ⟨u,rfl,ru⟩:=rv.one
 obtain ⟨z,its,n,r,hl,e⟩:=I.lstM hH
 refine call_meets F.slot_list_append ⟨_,e,rfl⟩ F.entry_list_append (F.args_list_append_2 _ _) (PySem.list_append l its.toArray n u (by rw [List.size_toArray]; omega)) ⟨e,?_⟩
 refine ⟨.non,_,I.lset (its':=its ++ [u]) hH e (by simp) (r.append (.cons ru .nil)) ?_,rfl,q⟩
 rw [List.length_append,List.length_singleton]
 omega
def rCat:R2:=fun x y H Q=>∃ l b xs zs,x=.ref l∧y=.ref b∧H l=some (.lst xs)∧H b=some (.lst zs)∧xs.length + zs.length≤sizeLine∧∀ p,H p=none→Q (.ref p) (upd H p (.lst (xs ++ zs)))
theorem op_cat:OpR X (binaryOp .Add) rCat:=by
 intro pins s σ H x y v u Q I rx ry h
 obtain ⟨l,b,xs,zs,rfl,rfl,hH,hB,hz,q⟩:=h
 cases rx
 cases ry
 obtain ⟨z,its,n,r,hl,e⟩:=I.lstM hH
 obtain ⟨z2,its2,n2,r2,hl2,e2⟩:=I.lstM hB
 refine PySem.P.add_list e e2 ?_ (by rw [List.size_toArray,List.size_toArray]; omega)
 have ea:its.toArray ++ its2.toArray=(its ++ its2).toArray:=by simp
 rw [ea]
 exact ⟨.ref _,_,I.lnew (t':=s.toks) (r.append r2) (by rw [List.length_append]; omega),rfl,q _ I.fresh⟩
end
section
variable {prog:Program} {w:World} {A:Around} {E:Value→Shared→Prop} {s:Shared}
end
section
variable {X:Cx}
end
end L2
namespace Att
open PySem PySem.W PySem.Calls PyProof.Rows
theorem ints_of_wellAll {P:Params} {h:Heap}:∀ (ns:List Int) (vs:List Value),WellAll P h vs (ns.map WData.int)→IntsAre vs ns:=by
 intro ns
 induction ns with
 | nil =>
  intro vs w
  rw [List.map_nil] at w
  cases w
  exact .nil
 | cons n ns ih =>
  intro vs w
  rw [List.map_cons] at w
  cases w with
  | cons a b =>
   cases a
   exact .cons _ _ (ih _ b)
theorem script_of {l:OpenLaw} {n:Nat} (hn:l.most=some n) {P:Params} {h:Heap} {args:List WData} {vals:List Value}
  (hpre:l.row.toRowW.claim.pre args=true) (hwl:WellAll P h vals args) :
  ∃ a vs ns,vals=[Value.ref a]∧args=[WData.list (ns.map WData.int)]∧h.get? a=some { cls:=.type "list",data:=.seq vs.toArray }∧IntsAre vs ns∧ns.length≤n:=by
 have hsh:WShape.hasAll [] args [.list .int]=true:=(pre_splitW hpre).1
 have hc:l.pre.holds [] { args:=args }=true:=(pre_splitW hpre).2
 obtain ⟨d,r,rfl,h1,h2⟩:=hasAllW_cons hsh
 obtain rfl:=hasAllW_nil h2
 obtain ⟨xs,rfl,h3⟩:=hasW_list h1
 obtain ⟨ns,rfl⟩:=items_int h3
 have hlen:ns.length≤n:=by
  unfold OpenLaw.pre at hc
  have h4:(WTm.not (.lt (.lit (.int (n:Int))) (.len (.arg 0)))).holds [] { args:=[.list (ns.map .int)] }=true:=by
   have h4:=(holds_andW hc).1
   rw [hn] at h4
   exact h4
  have h5:=condW_of h4 (w_not (w_lt w_lit (w_len_list (w_arg rfl))))
  rw [List.length_map] at h5
  refine Nat.le_of_not_lt fun q=>?_
  have q':(n:Int) < ((ns.length:Nat):Int):=by omega
  first
   | (rw [decide_eq_true q'] at h5; exact absurd h5 (by decide))
   | (simp at h5; omega)
 cases hwl with
 | cons w1 w2 =>
  cases w2
  cases w1 with
  | list ho hall=>exact ⟨_,_,ns,rfl,rfl,ho,ints_of_wellAll ns _ hall,hlen⟩
theorem post_true (l:OpenLaw) (args:List WData):l.row.toRowW.claim.post args (.bool true) args=true :=
 postW_of (r:=l.row.toRowW) (X:=(true == true))
  (show WShape.has [] (.bool true) .bool=true by first | rfl | decide | simp [WShape.has,WShape.arms,WShape.armsAll])
  (show (WTm.eq .res (.lit (.bool true))).value [] { args:=args,res:=some (.bool true),after:=args }=some (.bool (true == true)) from w_eq_bool (w_res rfl) w_lit) rfl
theorem attach_call {l:OpenLaw} {n:Nat} {q:Program} {loose:List Str} {XP:(Str→Option Value)→Heap→Prop} {YP:World→Heap→Prop} {d:DefRec}
  (hn:l.most=some n) (hdf:d.params.defaults=[])
  (call:∀ (w:World) (s₀ s₁:Shared) (mg mb:Str→Option Value) (fa:Addr) (o:Obj) (pm cd doc:Value) (a:Addr) (vs:List Value) (ns:List Int),
   Ground q loose [] XP w s₀ mg mb s₁.heap→YP w s₁.heap →
   s₁.heap.get? fa=some o→o.data=.func (docDef d.name d.params d.body d.scope pm cd doc)→s₁.heap.CodeRec cd d.name→mg d.name=some (.ref fa) →
   s₁.heap.get? a=some { cls:=.type "list",data:=.seq vs.toArray }→IntsAre vs ns→ns.length≤n→s₁.gens=#[] →
   codeAny (model l.prog w) callerA (.call (.ref fa) ⟨[.ref a],[]⟩) (fun r s'=>r=.ok (.ret (.bool true))∧OldK s₁.heap s'.heap∧s'.os=s₁.os∧AllBare s'.gens) s₁) :
  WalkO q loose XP YP l.row.toRowW d [] (fun f vs=>PySem.call f vs):=by
 intro w s₀ s₁ mg mb G Y fa o pm cd doc dV kV ho hd hcd hD hmg hg args vals as hpre hlay hrd hwl hlo
 obtain rfl:dV=.none:=Dflts.none hD hdf
 obtain rfl:kV=.none:=Dflts.noKw hD
 obtain ⟨a,vs,ns,rfl,rfl,hobj,hints,hlen⟩:=script_of hn hpre hwl
 refine enter_call (codeAny_mono (call w s₀ s₁ mg mb fa o pm cd doc a vs ns G Y ho (fd_plain hd) hcd hmg hobj hints hlen hg) fun r s' hq=>?_)
 obtain ⟨rfl,h2,h3,h4⟩:=hq
 exact ⟨.inl ⟨.bool true,.bool true,[],rfl,fun _=>rfl,.bool true,post_true l _,fun _=>⟨List.Pairwise.nil,fun _ hm=>(nomatch hm)⟩⟩,h2,h3,h4⟩
section
variable {prog:Program} {w:World} {A:Around} {E:Value→Shared→Prop} {s:Shared} {K:Frag}
end
end Att
namespace L2
open PySem PySem.Spec PyProof.Rows
theorem vals_ints:∀ {vs:List Value} {ns:List Int},IntsAre vs ns→Vals (ns.map V.int) vs
 | _,_,.nil=>.nil
 | _,_,.cons n t h=>.cons ⟨t,rfl⟩ (vals_ints h)
def Only (H:Hp):Prop:=∀ b,H b=none∨∃ o xs,H b=some (.frz o (.lst xs))
theorem law_call {P:Program} {w:World} {K:PySem.W.Frag} {mg mb:Str→Option Value} {CX:CXT} {k:Nat} {fa a:Addr} {fd:FuncData} {x:Str} {sp:Sp} {s₁:Shared} {vs:List Value} {ns:List Int}
  (KX:K.In s₁.heap) (hns:s₁.heap.Ns mainGlobals mg) (hb:s₁.heap.Ns builtinsNs mb) (hbb:∀ x:Str,x≠"__name__"→mb x=bootBuiltins x) (hlim:s₁.heap.NoLimit) (hg:s₁.gens=#[])
  (ha:s₁.heap.get? a=some { cls:=.type "list",data:=.seq vs.toArray }) (hi:IntsAre vs ns) (hl:ns.length≤sizeLine) (hr:Room k callerA)
  (F:∀ base:Heap,K.In base→base.Ns mainGlobals mg→FnOk P w K mg base CX k fa fd [x] sp) (hbind:∀ (s:Shared) (u:Value),BindsTo s fd ⟨[u],[]⟩ [(x,u)])
  (hsp:∀ H:Hp,Only H→SqL K H a (ns.map V.int)→sp [.ref a] H (fun v _=>v=.bl true) fun _ _ _=>False)
  (hCX:∀ H e s',CX [] H s₁ (fun _ _ _=>False) e s'→False) :
  codeAny (model P w) callerA (.call (.ref fa) ⟨[.ref a],[]⟩) (fun r s'=>r=.ok (.ret (.bool true))∧OldK s₁.heap s'.heap∧s'.os=s₁.os∧AllBare s'.gens) s₁:=by
 have rv:=vals_ints hi
 have lenV:=hi.length
 -- from an abstract heap in which nothing but the script may be tracked
 have core:∀ H:Hp,Only H→SqL K H a (ns.map V.int)→HOk P w H s₁.heap→(∀ b,H b≠none→b=a)→(H a≠none→K.lookup a=none) →
   codeAny (model P w) callerA (.call (.ref fa) ⟨[.ref a],[]⟩) (fun r s'=>r=.ok (.ret (.bool true))∧OldK s₁.heap s'.heap∧s'.os=s₁.os∧AllBare s'.gens) s₁:=by
  intro H hO hS hok hA hK
  have base_of:∀ {b:Addr} {o:Obj},s₁.heap.get? b=some o→H b=none→(hidT s₁.heap H).get? b=some o:=fun e n=>hidT_get e n
  have noA:∀ {b:Addr} {o:Obj} {es:Array DictEntry} {ep:Nat},s₁.heap.get? b=some o→o.data=.dict es ep→H b=none:=fun {b o es ep} e d=>by
   cases q:H b with
   | none=>rfl
   | some u =>
    have e':b=a:=hA b (by rw [q]; simp)
    subst e'
    rw [ha] at e; cases e
    have d':Data.seq vs.toArray _=Data.dict es ep:=d
    cases d'
  have nsK:∀ {b:Addr} {m:Str→Option Value},s₁.heap.Ns b m→(hidT s₁.heap H).Ns b m:=fun {b m} ⟨o,es,ep,e,d,r⟩=>⟨o,es,ep,base_of e (noA e d),d,r⟩
  have hKb:K.In (hidT s₁.heap H):=fun b o e=>base_of (KX b o e) (by
   cases q:H b with
   | none=>rfl
   | some u =>
    have e':b=a:=hA b (by rw [q]; simp)
    subst e'
    rw [hK (by rw [q]; simp)] at e; cases e)
  have hM:Mod K mg (hidT s₁.heap H):=⟨hKb,nsK hns,⟨mb,nsK hb,hbb⟩,let ⟨mc,h1,h2⟩:=hlim; ⟨mc,nsK h1,h2⟩⟩
  have e0:Env0 P w K mg (hidT s₁.heap H) callerA [] s₁ H:=⟨rfl,hM,fun b o e=>of_hidT e,Nat.le_of_eq (hidT_size _ _),trivial,fun b hb=>absurd (show b∈([]:List Addr) from hb) (by simp),hok,.of_eq hg⟩
  refine codeAny_mono ((F _ hKb (nsK hns)).run callerA [] s₁ H ⟨[.ref a],[]⟩ [.ref a] [.ref a] _ _ hr e0 (hbind s₁ (.ref a)) (.cons rfl .nil) (hsp H hO hS)) fun r s' h=>?_
  cases r with
  | error e=>exact (hCX H e s' h).elim
  | ok fl =>
   cases fl with
   | next=>exact False.elim h
   | brk=>exact False.elim h
   | cont=>exact False.elim h
   | ret u =>
    obtain ⟨v,H',os,bare,un,hok',r',q⟩:=h
    have q':v=.bl true:=q
    subst q'
    obtain rfl:u=Value.bool true:=r'
    refine ⟨rfl,OldK.of_keep fun b o e=>?_,os,bare⟩
    cases q:H b with
    | none=>exact un.keep b o e q (by intro z; exact absurd (show b∈([]:List Addr) from z) (by simp)) (by simp)
    | some u =>
     rcases hO b with z | ⟨ob,xs,z⟩
     ·rw [q] at z; cases z
     ·have z2:=un.frzs b ob _ z
      obtain ⟨e1,_⟩:=hok b _ z
      obtain ⟨e2,_⟩:=hok' b _ z2
      rw [e] at e1; cases e1
      exact e2
 cases hk:K.lookup a with
 | some o =>
  -- the script is one of the module's own objects
  have e:=KX a o hk
  rw [ha] at e
  cases e
  refine core (fun _=>none) (fun _=>.inl rfl) (.inr ⟨_,vs.toArray,_,hk,rfl,rfl,rfl,by rw [List.size_toArray,lenV]; exact hl,by simpa using rv⟩) (fun b u z=>by have z':(none:Option HO)=some u:=z; cases z') (fun b z=>absurd rfl z) fun z=>absurd rfl z
 | none =>
  refine core (fun b=>if b=a then some (.frz { cls:=.type "list",data:=.seq vs.toArray } (.lst (ns.map V.int))) else none) (fun b=>?_) (.inl (.inr ⟨{ cls:=.type "list",data:=.seq vs.toArray },if_pos rfl⟩)) (fun b u z=>?_) (fun b z=>?_) fun _=>hk
  ·by_cases hb:b=a
   ·exact .inr ⟨_,_,if_pos hb⟩
   ·exact .inl (if_neg hb)
  ·by_cases hb:b=a
   ·have z':=(if_pos hb).symm.trans z
    cases z'
    subst hb
    exact ⟨ha,by rw [List.length_map]; exact hl,vs,_,rv,ha⟩
   ·have z':=(if_neg hb).symm.trans z
    cases z'
  ·by_cases hb:b=a
   ·exact hb
   ·exact absurd (if_neg hb) z
end L2
namespace L2
open PySem PySem.Spec PyProof.Rows
abbrev KOf {K:PySem.W.Frag} {h:Heap} (_:K.In h):PySem.W.Frag:=K
theorem walk_of {l:PySem.W.OpenLaw} {n k:Nat} {q:Program} {loose:List Str} {XP:(Str→Option Value)→Heap→Prop} {YP:World→Heap→Prop} {d:DefRec} {K:Params→PySem.W.Frag} {CX:World→CXT} {sp:World→Sp} {x:Str}
  (hn:l.most=some n) (hn2:n≤sizeLine) (hdf:d.params.defaults=[]) (hr:Room k callerA)
  (hY:∀ (w:World) (h:Heap),YP w h→(K w.params).In h)
  (F:∀ (w:World) (mg:Str→Option Value) (fa:Addr) (h:Heap),(K w.params).In h→h.Ns mainGlobals mg→mg d.name=some (.ref fa) →
   ∃ fd:FuncData,(∀ (s:Shared) (u:Value),BindsTo s fd ⟨[u],[]⟩ [(x,u)]) ∧
    ∀ base:Heap,(K w.params).In base→base.Ns mainGlobals mg→FnOk l.prog w (K w.params) mg base (CX w) k fa fd [x] (sp w))
  (hsp:∀ (w:World) (H:Hp) (a:Addr) (ns:List Int),ns.length≤n→Only H→SqL (K w.params) H a (ns.map V.int)→sp w [.ref a] H (fun v _=>v=.bl true) fun _ _ _=>False)
  (hCX:∀ (w:World) (H:Hp) (s:Shared) (e:Value) (s':Shared),CX w [] H s (fun _ _ _=>False) e s'→False) :
  PySem.W.WalkO q loose XP YP l.row.toRowW d [] (fun f vs=>PySem.call f vs):=by
 refine Att.attach_call hn hdf fun w s₀ s₁ mg mb fa o pm cd doc a vs ns G Y ho hd hcd hmg hobj hints hlen hg=>?_
 have KX:=hY w _ Y
 obtain ⟨fd,hb,hF⟩:=F w mg fa _ KX G.T.g hmg
 exact law_call KX G.T.g G.T.b G.T.builtins G.T.nolimit hg hobj hints (Nat.le_trans hlen hn2) hr hF hb (fun H hO hS=>hsp w H a ns hlen hO hS) fun H e s'=>hCX w H s₁ e s'
theorem walk_ofK {l:PySem.W.OpenLaw} {n k:Nat} {q:Program} {loose:List Str} {XP:(Str→Option Value)→Heap→Prop} {YP:World→Heap→Prop} {d:DefRec} {K:Params→PySem.W.Frag} {CX:CXT} {sp:PySem.W.Frag→Sp} {x:Str}
  (hn:l.most=some n) (hn2:n≤sizeLine) (hdf:d.params.defaults=[]) (hr:Room k callerA)
  (hY:∀ (w:World) (h:Heap),YP w h→(K w.params).In h)
  (F:∀ (w:World) (mg:Str→Option Value) (fa:Addr) (h:Heap),(K w.params).In h→h.Ns mainGlobals mg→mg d.name=some (.ref fa) →
   ∃ fd:FuncData,(∀ (s:Shared) (u:Value),BindsTo s fd ⟨[u],[]⟩ [(x,u)]) ∧
    ∀ base:Heap,(K w.params).In base→base.Ns mainGlobals mg→FnOk l.prog w (K w.params) mg base CX k fa fd [x] (sp (K w.params)))
  (hsp:∀ (K:PySem.W.Frag) (H:Hp) (a:Addr) (ns:List Int),ns.length≤n→Only H→SqL K H a (ns.map V.int)→sp K [.ref a] H (fun v _=>v=.bl true) fun _ _ _=>False)
  (hCX:∀ (H:Hp) (s:Shared) (e:Value) (s':Shared),CX [] H s (fun _ _ _=>False) e s'→False) :
  PySem.W.WalkO q loose XP YP l.row.toRowW d [] (fun f vs=>PySem.call f vs) :=
 walk_of (K:=K) (CX:=fun _=>CX) (sp:=fun w=>sp (K w.params)) hn hn2 hdf hr hY F (fun w H a ns h1 h2 h3=>hsp (K w.params) H a ns h1 h2 h3) fun _ H s e s'=>hCX H s e s'
end L2
namespace L2
open PySem PySem.Spec PyProof.Rows
def defArgs (s:Stmt):Arguments:=match s with
 | .FunctionDef _ a _ _ _ _ _ _ _ _=>a
 | _=>{ posonlyargs:=[],args:=[],vararg:=none,kwonlyargs:=[],kw_defaults:=[],kwarg:=none,defaults:=[] }
def defBody (s:Stmt):List Stmt:=match s with
 | .FunctionDef _ _ b _ _ _ _ _ _ _=>b
 | _=>[]
def defScope (s:Stmt):Scope:=match s with
 | .FunctionDef _ _ _ _ _ _ sc _ _ _=>sc
 | _=>{ kind:=.function,names:=[],isGenerator:=false,isCoroutine:=false }
abbrev CX0:CXT:=fun _ _ _ _ _ _=>False
abbrev E0:XK:=fun _ _ _=>False
theorem pass0 {X:Cx}:Passes CX0 X E0:=fun _ _ _ _ _ _ _ h=>h.elim
structure Fun (K:PySem.W.Frag) (x qual:Str) (st:Stmt) (f:Addr) (fd:FuncData):Prop where
 ex:∃ (oc:Value) (od:Option Addr) (kV doc pm:Value) (an:Option Addr) (cdv ct:Value) (osl:Array (Option Value)),
  fd=PySem.W.fnOf x qual (defArgs st) (defBody st) (defScope st) .none kV doc pm an cdv ct∧K.lookup f=some ⟨oc,od,.func fd,osl⟩∧PySem.W.codeIn K cdv qual=true
 kp:PySem.W.keepIn K (.ref f)=true
section
variable {P:Program} {w:World} {K:PySem.W.Frag} {mg:Str→Option Value} {base:Heap}
theorem Fun.ok {x qual:Str} {st:Stmt} {f:Addr} {fd:FuncData} {N ps:List Str} {k:Nat} {sp:Sp} (F:Fun K x qual st f fd) (S:FnScope N ps (defScope st)) (len:∀ vs H Q E,sp vs H Q E→vs.length=ps.length)
  (hbody:∀ (cdv:Value) (A:Around) (outer:List Env) (s:Shared) (H:Hp) (vs:List V) (Q:VK) (E:XK),Room k (A.deeper (envOfC qual (defScope st) s.heap.objs.size f cdv))→sp vs H Q E →
   ∃ t,PSs (cxOf CX0 P w K mg base N qual (defScope st) f cdv A outer s H E).nox (defBody st) t∧t { nx:=fun _ H'=>Q .non H',rt:=Q } (start N vs) H):FnOk P w K mg base CX0 (k + 1) f fd ps sp:=by
 obtain ⟨oc,od,kV,doc,pm,an,cdv,ct,osl,rfl,lk,hcd⟩:=F.ex
 refine fn_of lk hcd S len fun A outer s H vs Q E hr hsp=>?_
 obtain ⟨t,h,q⟩:=hbody cdv A outer s H vs Q E hr hsp
 exact ⟨t,h.nox,q⟩
theorem Fun.binds {x qual:Str} {st:Stmt} {f:Addr} {fd:FuncData} {ps:List Str} (F:Fun K x qual st f fd)
  (h:∀ (kV doc pm:Value) (an:Option Addr) (cdv ct:Value) (us:List Value),us.length=ps.length→bindArgs (PySem.W.fnOf x qual (defArgs st) (defBody st) (defScope st) .none kV doc pm an cdv ct) ⟨us,[]⟩=pure (ps.zip us)):Binds K fd ps []:=by
 obtain ⟨oc,od,kV,doc,pm,an,cdv,ct,osl,rfl,lk,hcd⟩:=F.ex
 exact .all (h kV doc pm an cdv ct)
theorem fun_mk {x qual:Str} {st:Stmt} {f:Addr} {oc:Value} {od an:Option Addr} {osl:Array (Option Value)} {kV doc pm cdv ct:Value} (l:K.lookup f=some ⟨oc,od,.func (PySem.W.fnOf x qual (defArgs st) (defBody st) (defScope st) .none kV doc pm an cdv ct),osl⟩)
  (c:PySem.W.codeIn K cdv qual=true) (k:PySem.W.keepIn K (.ref f)=true):Fun K x qual st f (PySem.W.fnOf x qual (defArgs st) (defBody st) (defScope st) .none kV doc pm an cdv ct):=⟨⟨oc,od,kV,doc,pm,an,cdv,ct,osl,rfl,l,c⟩,k⟩
end
theorem small1000 {n:Nat} (h:n≤1000):n < sizeLine:=Nat.lt_of_le_of_lt h (by decide)
section
variable {X:Cx}
theorem pv (i:Nat) {x:Str} {pos:Pos} (hN:X.N[i]?=some x:=by rfl) (hv:Vis X.env.scope x:=by first | exact Or.inl rfl | exact Or.inr (Or.inl rfl) | exact Or.inr (Or.inr rfl)) (hd:(x == ("__debug__":Str))=false:=by decide)
  (hcd:(x == ("__classdict__":Str))=false:=by decide):PE X (.Name x pos) (tVar i):=pe_var hN hv hd hcd
end
theorem iteF {A B:Prop} (h:B):if false=true then A else B:=by
 rw [if_neg Bool.false_ne_true]
 exact h
theorem iteT {A B:Prop} (h:A):if true=true then A else B:=by
 rw [if_pos rfl]
 exact h
def Same (H H':Hp):Prop:=∀ b o,H b=some o→H' b=some o
theorem Same.refl (H:Hp):Same H H:=fun _ _ h=>h
theorem Same.trans {H H1 H2:Hp} (a:Same H H1) (b:Same H1 H2):Same H H2:=fun c o h=>b c o (a c o h)
theorem Same.free {H H':Hp} (e:Same H H') {l:Addr} (h:H' l=Option.none):H l=Option.none:=by
 cases q:H l with
 | none=>rfl
 | some o =>
  rw [e l o q] at h
  cases h
theorem Same.seq {K:PySem.W.Frag} {H H':Hp} {a:Addr} {xs:List V} (e:Same H H') (h:SqL K H a xs):SqL K H' a xs:=by
 rcases h with (h | ⟨o,h⟩) | h
 ·exact .inl (.inl (e _ _ h))
 ·exact .inl (.inr ⟨o,e _ _ h⟩)
 ·exact .inr h
end L2
namespace L2
open PySem PySem.Spec PyProof.Rows
def CInj (acc:List (Str × Addr)):Prop:=∀ x y c,acc.lookup x=some c→acc.lookup y=some c→x=y
theorem lookup_cons_some {α:Type} {x n:Str} {a c:α} {r:List (Str × α)} (h:List.lookup x ((n,a) :: r)=some c):(x=n∧a=c)∨(x≠n∧r.lookup x=some c):=by
 rw [List.lookup_cons] at h
 cases hb:x == n with
 | true=>rw [hb] at h; cases h; exact .inl ⟨beq_iff_eq.mp hb,rfl⟩
 | false=>rw [hb] at h; exact .inr ⟨(fun z=>by (rw [z,beq_self_eq_true] at hb; cases hb)),h⟩
theorem cf_ok:∀ (names:List (Str × NameKind)) (n:Nat) (acc:List (Str × Addr)),CInj acc→(∀ x c,acc.lookup x=some c→c < n) →
  CInj (cellsFrom n names acc)∧∀ x c,(cellsFrom n names acc).lookup x=some c→acc.lookup x=some c∨n≤c
 | [],_,_,hi,_=>⟨hi,fun _ _ h=>.inl h⟩
 | (y,k) :: r,n,acc,hi,hb=>by
  unfold cellsFrom
  by_cases hk:(k == NameKind.cell)=true
  ·rw [if_pos hk]
   have h1:CInj ((y,n) :: acc):=fun a b c e1 e2=>by
    rcases lookup_cons_some e1 with ⟨q1,q2⟩ | ⟨q1,q2⟩ <;> rcases lookup_cons_some e2 with ⟨p1,p2⟩ | ⟨p1,p2⟩
    ·rw [q1,p1]
    ·exact absurd (hb _ _ p2) (by rw [← q2]; exact Nat.lt_irrefl _)
    ·exact absurd (hb _ _ q2) (by rw [← p2]; exact Nat.lt_irrefl _)
    ·exact hi a b c q2 p2
   have h2:∀ x c,List.lookup x ((y,n) :: acc)=some c→c < n + 1:=fun x c e=>by
    rcases lookup_cons_some e with ⟨_,q2⟩ | ⟨_,q2⟩
    ·rw [← q2]; exact Nat.lt_succ_self _
    ·exact Nat.lt_succ_of_lt (hb _ _ q2)
   obtain ⟨i1,i2⟩:=cf_ok r (n + 1) ((y,n) :: acc) h1 h2
   refine ⟨i1,fun x c e=>?_⟩
   rcases i2 x c e with q | q
   ·rcases lookup_cons_some q with ⟨_,q2⟩ | ⟨_,q2⟩
    ·exact .inr (Nat.le_of_eq q2)
    ·exact .inl q2
   ·exact .inr (Nat.le_of_succ_le q)
  ·rw [if_neg hk]
   exact cf_ok r n acc hi hb
theorem cf_cell:∀ (names:List (Str × NameKind)) (h:Heap) (acc:List (Str × Addr)) (x:Str) (c:Addr),(cellsFrom h.objs.size names acc).lookup x=some c→acc.lookup x=some c∨(pushCells h names).IsCell c none
 | [],_,_,_,_,e=>.inl e
 | (y,k) :: r,h,acc,x,c,e=>by
  unfold cellsFrom at e
  unfold pushCells
  by_cases hk:(k == NameKind.cell)=true
  ·rw [if_pos hk] at e ⊢
   have e':(cellsFrom (h.push { cls:=.type "cell",data:=.cell none }).objs.size r ((y,h.objs.size) :: acc)).lookup x=some c:=by rw [Heap.size_push]; exact e
   rcases cf_cell r (h.push { cls:=.type "cell",data:=.cell none }) ((y,h.objs.size) :: acc) x c e' with q | q
   ·rcases lookup_cons_some q with ⟨_,q2⟩ | ⟨_,q2⟩
    ·refine .inr ?_
     subst q2
     exact ⟨_,pushCells_keeps _ _ _ _ (Heap.get?_push_size _ rfl),rfl⟩
    ·exact .inl q2
   ·exact .inr q
  ·rw [if_neg hk] at e ⊢
   exact cf_cell r h acc x c e
theorem cf_keep:∀ (names:List (Str × NameKind)) (n:Nat) (acc:List (Str × Addr)) (x:Str),(∀ y∈names,y.1=x→y.2≠.cell)→(cellsFrom n names acc).lookup x=acc.lookup x
 | [],_,_,_,_=>rfl
 | (y,k) :: r,n,acc,x,h=>by
  unfold cellsFrom
  by_cases hk:(k == NameKind.cell)=true
  ·rw [if_pos hk,cf_keep r (n + 1) _ x fun z hz=>h z (List.mem_cons_of_mem _ hz),List.lookup_cons]
   have hx:(x == y)=false:=by
    cases hb:x == y with
    | false=>rfl
    | true=>exact absurd (by simpa using hk) (h (y,k) List.mem_cons_self (beq_iff_eq.mp hb).symm)
   rw [hx]
  ·rw [if_neg hk]
   exact cf_keep r n acc x fun z hz=>h z (List.mem_cons_of_mem _ hz)
def clOf (env:Env):List (Str × NameKind)→List (Str × Addr)→List (Str × Addr)
 | [],acc=>acc
 | (n,k) :: r,acc=>clOf env r (if k == .free then (n,(env.cells.lookup n).getD 0) :: acc else acc)
theorem clos_go {env:Env}:∀ (names:List (Str × NameKind)) (acc:List (Str × Addr)),(∀ x∈names,x.2=.free→∃ c,env.cells.lookup x.1=some c) →
  (forIn names acc fun x cs=>(if (x.2 == NameKind.free)=true then (do let a ← cellOf env x.1; pure (ForInStep.yield ((x.1,a) :: cs))) else pure (ForInStep.yield cs):Sem (ForInStep (List (Str × Addr)))))=pure (clOf env names acc)
 | [],_,_=>rfl
 | (n,k) :: r,acc,h=>by
  rw [List.forIn_cons]
  have hr:=fun acc=>clos_go r acc fun x hx=>h x (List.mem_cons_of_mem _ hx)
  unfold clOf
  by_cases hk:(k == NameKind.free)=true
  ·obtain ⟨c,hc⟩:=h (n,k) List.mem_cons_self (by simpa using hk)
   have hc':env.cells.lookup n=some c:=hc
   have e:cellOf env n=pure c:=by unfold cellOf; rw [hc']
   simp only [hk,if_true,e,hc',Option.getD_some,pure_bind]
   exact hr _
  ·simp only [hk,if_false,pure_bind]
   exact hr _
theorem closureFor_clOf {env:Env} {scope:Scope} (h:∀ x∈scope.names,x.2=.free→∃ c,env.cells.lookup x.1=some c):closureFor scope env=pure (clOf env scope.names []):=by
 have:=clos_go (env:=env) scope.names [] h
 unfold closureFor
 simp only [bind_pure_comp]
 first | exact this | simpa using this
theorem clOf_lookup {env:Env} {x:Str}:∀ (names:List (Str × NameKind)) (acc:List (Str × Addr)) (c:Addr),(∀ y∈names,y.2=.free→∃ c,env.cells.lookup y.1=some c)→(clOf env names acc).lookup x=some c→acc.lookup x=some c∨env.cells.lookup x=some c
 | [],_,_,_,e=>.inl e
 | (n,k) :: r,acc,c,h,e=>by
  unfold clOf at e
  have hr:=fun acc=>clOf_lookup (x:=x) r acc c fun y hy=>h y (List.mem_cons_of_mem _ hy)
  by_cases hk:(k == NameKind.free)=true
  ·rw [if_pos hk] at e
   rcases hr _ e with q | q
   ·rcases lookup_cons_some q with ⟨q1,q2⟩ | ⟨_,q2⟩
    ·obtain ⟨c',hc'⟩:=h (n,k) List.mem_cons_self (by simpa using hk)
     have hc2:env.cells.lookup n=some c':=hc'
     rw [hc2] at q2
     right
     rw [q1,hc2]
     exact congrArg some q2
    ·exact .inl q2
   ·exact .inr q
  ·rw [if_neg hk] at e
   exact hr _ e
theorem clOf_has {env:Env} {x:Str}:∀ (names:List (Str × NameKind)) (acc:List (Str × Addr)),((x,NameKind.free)∈names∨∃ c,acc.lookup x=some c)→∃ c,(clOf env names acc).lookup x=some c
 | [],_,h=>h.elim (fun z=>nomatch z) id
 | (n,k) :: r,acc,h=>by
  unfold clOf
  refine clOf_has r _ ?_
  rcases h with h | ⟨c,h⟩
  ·rcases List.mem_cons.mp h with e | h
   ·cases e
    right
    rw [if_pos (by decide)]
    exact ⟨_,by rw [List.lookup_cons,beq_self_eq_true]⟩
   ·exact .inl h
  ·right
   split
   ·rw [List.lookup_cons]
    split
    ·exact ⟨_,rfl⟩
    ·exact ⟨c,h⟩
   ·exact ⟨c,h⟩
end L2
namespace L2
open PySem PySem.Spec PyProof.Rows
def blk (X:Cx) (N:List Str) (scope:Scope) (C:Addr) (s:Shared) (H:Hp) (fp:List Addr):Cx where
 prog:=X.prog
 w:=X.w
 K:=X.K
 mg:=X.mg
 base:=X.base
 A:=X.A
 N:=N
 s₀:=s
 H₀:=H
 env:={ scope:=relabel scope X.env,locals:=C,globals:=X.env.globals,cells:=cellsFrom (C + 1) scope.names (clOf X.env scope.names []),qual:=X.env.qual,func:=none,code:=X.env.code,frame:=X.env.frame,builtins:=X.env.builtins }
 outer:=X.stack
 stack:=X.stack
 ex:=fp
 fn:=fun x=>match scope.names.lookup x with | some .cell=>true | _=>false
 calm:=X.calm
 pn:=[]
 xe:=fun _ _=>False
theorem relabel_lookup {env:Env}:∀ {names:List (Str × NameKind)} {x:Str} {k:NameKind},(names.map fun (n,k)=>if (k == NameKind.free && env.scope.kind == .function && env.kindOf n == some .cell) then (n,NameKind.cell) else (n,k)).lookup x=some k →
  ∃ k0,names.lookup x=some k0∧(k=k0∨k0=.free)
 | [],_,_,h=>by simp at h
 | (n,q) :: r,x,k,h=>by
  rw [List.map_cons] at h
  have h':List.lookup x ((if (q == NameKind.free && env.scope.kind == .function && env.kindOf n == some .cell)=true then (n,NameKind.cell) else (n,q)) :: _)=some k:=h
  have fstn:∀ b:Bool,(if b=true then (n,NameKind.cell) else (n,q))=(n,if b=true then NameKind.cell else q):=fun b=>by cases b <;> rfl
  rw [fstn] at h'
  rw [List.lookup_cons]
  rcases lookup_cons_some h' with ⟨e1,e2⟩ | ⟨e1,e2⟩
  ·rw [e1,beq_self_eq_true]
   refine ⟨q,rfl,?_⟩
   rw [← e2]
   by_cases hb:(q == NameKind.free && env.scope.kind == .function && env.kindOf n == some .cell)=true
   ·right
    have:=(Bool.and_eq_true_iff.mp (Bool.and_eq_true_iff.mp hb).1).1
    simpa using this
   ·left; rw [if_neg hb]
  ·have hx:(x == n)=false:=by
    cases hb:x == n with
    | false=>rfl
    | true=>exact absurd (beq_iff_eq.mp hb) e1
   rw [hx]
   exact relabel_lookup e2
structure CScope (X:Cx) (scope:Scope) (tn:List Str) (js:List Nat):Prop where
 kind:scope.kind=.function
 loc:∀ x∈scope.names,x.2=.local→scope.names.lookup x.1=some .local
 fre:∀ x∈scope.names,x.2=.free→scope.names.lookup x.1=some .free∧(X.env.kindOf x.1=some .cell∨X.env.kindOf x.1=some .free)
 one:∀ x∈scope.names,∀ y∈scope.names,x.1=y.1→x.2=y.2
 js:∀ j∈js,∃ x,X.N[j]?=some x∧scope.names.lookup x=some .free
def cN (X:Cx) (tn:List Str) (js:List Nat):List Str:=tn ++ js.map fun j=>(X.N[j]?).getD ("":Str)
def cσ (σ:St) (tn:List Str) (js:List Nat):St:=tn.map (fun _=>none) ++ js.map fun j=>(σ[j]?).getD none
theorem mem_of_lookup_kind {names:List (Str × NameKind)} {x:Str} {k:NameKind} (h:names.lookup x=some k):(x,k)∈names:=PySem.mem_of_lookup h
section
variable {X:Cx} {pins:List (Addr × Obj)} {σ:St} {H:Hp} {s:Shared} {scope:Scope} {tn:List Str} {js:List Nat} {fp:List Addr}
theorem has_cell (ok:X.Ok) (S:CScope X scope tn js):∀ x∈scope.names,x.2=.free→∃ c,X.env.cells.lookup x.1=some c:=fun x hx hf=>ok.has x.1 (S.fre x hx hf).2
theorem blk_cells (ok:X.Ok) (S:CScope X scope tn js) {n:Nat} (hb:∀ x c,X.env.cells.lookup x=some c→c < n) :
  CInj (cellsFrom n scope.names (clOf X.env scope.names []))∧∀ x c,(cellsFrom n scope.names (clOf X.env scope.names [])).lookup x=some c→X.env.cells.lookup x=some c∨n≤c:=by
 have hc:∀ x c,(clOf X.env scope.names []).lookup x=some c→X.env.cells.lookup x=some c:=fun x c e=>by
  rcases clOf_lookup scope.names [] c (has_cell ok S) e with q | q
  ·cases q
  ·exact q
 obtain ⟨h1,h2⟩:=cf_ok scope.names n (clOf X.env scope.names []) (fun x y c e1 e2=>ok.inj x y c (hc x c e1) (hc y c e2)) (fun x c e=>hb x c (hc x c e))
 exact ⟨h1,fun x c e=>(h2 x c e).imp (hc x c) id⟩
theorem inv_block {h4:Heap} {m:Str→Option Value} {t':Nat} (I:Inv X pins σ H s) (S:CScope X scope tn js) (hf:∀ b∈fp,FpOk X pins H b∧b < s.heap.objs.size) (hns:h4.Ns s.heap.objs.size m)
  (hk:∀ b o,s.heap.get? b=some o→h4.get? b=some o) (hcell:∀ x c,(cellsFrom (s.heap.objs.size + 1) scope.names (clOf X.env scope.names [])).lookup x=some c→X.env.cells.lookup x=some c∨h4.IsCell c none) :
  Inv (blk X (cN X tn js) scope s.heap.objs.size s H fp) [] (cσ σ tn js) H { s with heap:=h4,toks:=t' }:=by
 have hlt:∀ x c,X.env.cells.lookup x=some c→c < s.heap.objs.size + 1:=fun x c e=>by
  obtain ⟨v,q⟩:=I.cell x c e
  exact Nat.lt_succ_of_lt q.lt
 obtain ⟨hinj,hcs⟩:=blk_cells I.ok S hlt
 have hC:H s.heap.objs.size=none:=I.hok.fresh (Nat.le_refl _)
 refine ⟨⟨I.ok.mod,S.kind,I.ok.glob,I.ok.blt,Nat.le_refl _,hinj,fun x hx=>?_,fun x c hx e=>?_,I.ok.hd,I.ok.frames,.inl rfl,fun b hb=>⟨Nat.ne_of_lt (hf b hb).2,fun x c e z=>?_⟩,I.bs,Nat.le_trans I.ok.bsz I.sz,fun b o e hb=>?_,fun b hb z=>?_,I.stack,I.stkFree⟩,
  rfl,I.bare,Un.kept hk,⟨m,hns,fun i x v h1 h2 h3=>?_⟩,fun x c e=>?_,hC,fun x c e=>?_,(fun p hp=>nomatch hp),I.hok.kept hk,?_⟩
 ·-- has
  have hx':(relabel scope X.env).names.lookup x=some .cell∨(relabel scope X.env).names.lookup x=some .free:=hx
  have own:scope.names.lookup x=some .cell→∃ c,(cellsFrom (s.heap.objs.size + 1) scope.names (clOf X.env scope.names [])).lookup x=some c:=fun q =>
   Option.isSome_iff_exists.mp (PySem.W.cellsFrom_some scope.names _ _ (.inl q))
  have fre:scope.names.lookup x=some .free→∃ c,(cellsFrom (s.heap.objs.size + 1) scope.names (clOf X.env scope.names [])).lookup x=some c:=fun q =>
   Option.isSome_iff_exists.mp (PySem.W.cellsFrom_some scope.names _ _ (.inr (Option.isSome_iff_exists.mpr (clOf_has scope.names [] (.inl (mem_of_lookup_kind q))))))
  rcases hx' with q | q
  ·obtain ⟨k0,q1,q2⟩:=relabel_lookup q
   rcases q2 with q2 | q2
   ·subst q2; exact own q1
   ·subst q2; exact fre q1
  ·obtain ⟨k0,q1,q2⟩:=relabel_lookup q
   rcases q2 with q2 | q2
   ·subst q2; exact fre q1
   ·subst q2; exact fre q1
 ·-- cab
  rcases hcs x c e with q | q
  ·exfalso
   have hx':(match scope.names.lookup x with | some .cell=>true | _=>false)=true:=hx
   split at hx'
   ·rename_i hl
    -- an own cell is new
    have hb:∀ y c',(clOf X.env scope.names []).lookup y=some c'→c' < s.heap.objs.size + 1:=fun y c' e'=>by
     rcases clOf_lookup scope.names [] c' (has_cell I.ok S) e' with z | z
     ·cases z
     ·exact hlt y c' z
    have nof:(clOf X.env scope.names []).lookup x=none:=by
     cases z:(clOf X.env scope.names []).lookup x with
     | none=>rfl
     | some c' =>
      exfalso
      have mem:∀ (names:List (Str × NameKind)) (acc:List (Str × Addr)),(∃ c',(clOf X.env names acc).lookup x=some c')→(x,NameKind.free)∈names∨∃ c',acc.lookup x=some c':=by
       intro names
       induction names with
       | nil=>exact fun acc z=>.inr z
       | cons p r ih =>
        obtain ⟨n,k⟩:=p
        intro acc z
        unfold clOf at z
        rcases ih _ z with z | ⟨c',z⟩
        ·exact .inl (List.mem_cons_of_mem _ z)
        ·split at z
         ·rename_i hk
          rcases lookup_cons_some z with ⟨e1,_⟩ | ⟨_,e2⟩
          ·left
           have:k=NameKind.free:=by simpa using hk
           rw [e1,this]; exact List.mem_cons_self
          ·exact .inr ⟨c',e2⟩
         ·exact .inr ⟨c',z⟩
      rcases mem scope.names [] ⟨c',z⟩ with z | ⟨_,z⟩
      ·have:=S.one _ z _ (mem_of_lookup_kind hl) rfl
       cases this
      ·cases z
    have hh:=cf_ok scope.names (s.heap.objs.size + 1) (clOf X.env scope.names []) (fun a b c' e1 e2=>by
     rcases clOf_lookup scope.names [] c' (has_cell I.ok S) e1 with z | z
     ·cases z
     ·rcases clOf_lookup scope.names [] c' (has_cell I.ok S) e2 with z' | z'
      ·cases z'
      ·exact I.ok.inj a b c' z z') hb
    rcases hh.2 x c e with z | z
    ·rw [nof] at z; cases z
    ·exact absurd (hlt x c q) (Nat.not_lt.mpr z)
   ·cases hx'
  ·exact Nat.le_of_succ_le q
 ·-- exf
  obtain ⟨⟨f0,f1,f2,f3,f4,f5⟩,hbl⟩:=hf b hb
  rcases hcs x c e with q | q
  ·exact f4 x c q z
  ·rw [z] at q; exact absurd hbl (Nat.not_lt.mpr (Nat.le_of_succ_le q))
 ·-- noex
  obtain ⟨⟨f0,f1,f2,f3,f4,f5⟩,hbl⟩:=hf b hb
  rcases f3 with q | q
  ·exact I.ok.noex b o e q
  ·exact absurd (Nat.lt_of_lt_of_le (Heap.lt_size e) (Nat.le_trans I.ok.bsz q)) (Nat.lt_irrefl _)
 ·-- exfs
  obtain ⟨⟨f0,f1,f2,f3,f4,f5⟩,hbl⟩:=hf b hb
  rcases List.mem_cons.mp (I.stkSub b z) with q | q
  ·exact f1 q
  ·exact f2 q
 ·-- the names
  have h2':(cσ σ tn js)[i]?=some (some v):=h2
  have h1':(cN X tn js)[i]?=some x:=h1
  unfold cσ at h2'
  unfold cN at h1'
  by_cases hi:i < tn.length
  ·rw [List.getElem?_append_left (by simpa using hi),List.getElem?_map] at h2'
   cases q:tn[i]? with
   | none=>rw [q] at h2'; cases h2'
   | some y=>rw [q] at h2'; cases h2'
  ·rw [List.getElem?_append_right (by simpa using hi),List.getElem?_map,List.length_map] at h2'
   rw [List.getElem?_append_right (by simpa using hi),List.getElem?_map] at h1'
   cases q:js[i - tn.length]? with
   | none=>rw [q] at h2'; cases h2'
   | some j =>
    rw [q] at h2' h1'
    obtain ⟨y,hy1,hy2⟩:=S.js j (List.mem_of_getElem? q)
    have exy:y=x:=by
     have:some ((X.N[j]?).getD ("":Str))=some x:=h1'
     rw [hy1] at this
     exact Option.some.inj this
    subst exy
    have hv:σ[j]?=some (some v):=by
     have:some ((σ[j]?).getD none)=some (some v):=h2'
     cases z:σ[j]? with
     | none=>rw [z] at this; cases this
     | some o=>rw [z] at this; exact congrArg some (Option.some.inj this)
    have kfr:=(S.fre _ (mem_of_lookup_kind hy2) rfl).2
    have vis:Vis X.env.scope y:=kfr.elim (fun z=>.inr (.inl z)) fun z=>.inr (.inr z)
    obtain ⟨m0,hn0,hl0⟩:=I.loc
    obtain ⟨u,ru,lk⟩:=hl0 j y v hy1 hv vis
    refine ⟨u,ru,.inr ⟨?_,?_⟩⟩
    ·have h3':(relabel scope X.env).names.lookup y=some .local∨(relabel scope X.env).names.lookup y=some .cell∨(relabel scope X.env).names.lookup y=some .free:=h3
     rcases h3' with z | z | z
     ·obtain ⟨k0,z1,z2⟩:=relabel_lookup z
      rw [hy2] at z1; cases z1
      rcases z2 with z2 | z2
      ·cases z2
      ·exfalso
       -- free is relabelled to cell or stays
       have:=z
       have nolocal:∀ {names:List (Str × NameKind)},(∀ p∈names,p.1=y→p.2=.free)→(names.map fun (n,k)=>if (k == NameKind.free && X.env.scope.kind == .function && X.env.kindOf n == some .cell) then (n,NameKind.cell) else (n,k)).lookup y≠some .local:=by
        intro names
        induction names with
        | nil=>intro _ w; simp at w
        | cons p r ih =>
         obtain ⟨n,k⟩:=p
         intro hp w
         rw [List.map_cons] at w
         have w':List.lookup y ((if (k == NameKind.free && X.env.scope.kind == .function && X.env.kindOf n == some .cell)=true then (n,NameKind.cell) else (n,k)) :: _)=some .local:=w
         have fstn:∀ b:Bool,(if b=true then (n,NameKind.cell) else (n,k))=(n,if b=true then NameKind.cell else k):=fun b=>by cases b <;> rfl
         rw [fstn] at w'
         rcases lookup_cons_some w' with ⟨e1,e2⟩ | ⟨e1,e2⟩
         ·have hk:k=.free:=hp (n,k) List.mem_cons_self e1.symm
          subst hk
          split at e2 <;> cases e2
         ·exact ih (fun p hp'=>hp p (List.mem_cons_of_mem _ hp')) e2
       exact nolocal (fun p hp e=>S.one p hp _ (mem_of_lookup_kind hy2) e) z
     ·exact .inl z
     ·exact .inr z
    ·have lk':∃ c,X.env.cells.lookup y=some c∧s.heap.IsCell c (some u):=by
      rcases lk with ⟨z,_⟩ | ⟨_,z⟩
      ·exfalso
       rcases kfr with q | q
       ·rw [q] at z; cases z
       ·rw [q] at z; cases z
      ·exact z
     obtain ⟨c,hc1,hc2⟩:=lk'
     refine ⟨c,?_,hc2.keeps hk⟩
     show (cellsFrom (s.heap.objs.size + 1) scope.names (clOf X.env scope.names [])).lookup y=some c
     rw [cf_keep scope.names _ _ y fun p hp e=>by (rw [S.one p hp _ (mem_of_lookup_kind hy2) e]; intro z; cases z)]
     obtain ⟨c',hc'⟩:=clOf_has (env:=X.env) scope.names [] (.inl (mem_of_lookup_kind hy2))
     rcases clOf_lookup scope.names [] c' (has_cell I.ok S) hc' with z | z
     ·cases z
     ·rw [hc1] at z; cases z; exact hc'
 ·-- cells are there
  rcases hcell x c e with q | q
  ·obtain ⟨v,z⟩:=I.cell x c q
   exact ⟨v,z.keeps hk⟩
  ·exact ⟨none,q⟩
 ·-- and free
  rcases hcs x c e with q | q
  ·exact I.freeC x c q
  ·exact I.hok.fresh (Nat.le_of_succ_le q)
 ·show (cσ σ tn js).length=(cN X tn js).length
  unfold cσ cN
  simp
end
end L2
namespace L2
open PySem PySem.Spec PyProof.Rows
section
variable {M:Model} {A:Around} {E:Value→Shared→Prop} {s:Shared}
theorem newEnv_comp {scope:Scope} {globals:Addr} {cl:List (Str × Addr)} {qual:Str} {env:Env} {Q:Env→Shared→Prop}
  (hQ:∀ h',h'.Ns s.heap.objs.size (fun _=>none)→(∀ b o,s.heap.get? b=some o→h'.get? b=some o)→(∀ x c,(cellsFrom (s.heap.objs.size + 1) scope.names cl).lookup x=some c→cl.lookup x=some c∨h'.IsCell c none) →
   Q { scope,locals:=s.heap.objs.size,globals,cells:=cellsFrom (s.heap.objs.size + 1) scope.names cl,qual,func:=none,code:=env.code,frame:=env.frame,builtins:=env.builtins } { s with heap:=h' }) :
  wpAny M A (newFunctionEnv scope globals cl [] qual none .none (some env)) Q E s:=by
 simp only [newFunctionEnv,Option.isSome_some,if_true]
 refine wpAny_bind (wpAny_alloc ?_)
 refine wpAny_bind (wpAny_layCells _ (fun name kind cells=>by cases hkc:kind == NameKind.cell <;> simp [hkc]) _ _ _ _ ?_)
 rw [show ({ s with heap:=s.heap.push { cls:=.type "dict",data:=.dict #[] } }:Shared).heap.objs.size=s.heap.objs.size + 1 from Heap.size_push ..]
 refine wpAny_bind ?_
 rw [List.forIn_nil]
 refine wpAny_pure (wpAny_pure ?_)
 refine hQ _ ((Heap.Ns.new s.heap (.type "dict")).keeps (pushCells_keeps _ _)) (fun b o e=>pushCells_keeps _ _ b o (Heap.get?_push_of_some _ e)) fun x c e=>?_
 refine cf_cell scope.names _ cl x c ?_
 rw [Heap.size_push]; exact e
end
section
variable {prog:Program} {w:World} {A:Around} {R:Result→Shared→Prop} {s:Shared}
theorem comp_loop {elt target iter:Expr} {ifs:List Expr} {scope:Scope} {pos:Pos} {it acc:Value} {env:Env} (I:Nat→Shared→Prop)
  (turn:∀ n s,I n s→wpAny (model prog w) A (pyNext it) (fun r s₁=>match r with
   | none=>R (.ok .next) s₁
   | some v=>wpAny (model prog w) A (letOwnedTupleGo target it v) (fun _ s₂'=>wpAny (model prog w) A (assign target env v) (fun _ s₂ =>
     wpAny (model prog w) A (forIn ifs true fun c r=>if r=true then do let ok ← isTrue c env (eval c env); pure (ForInStep.yield ok) else pure (ForInStep.yield r)) (fun ok s₃ =>
      if ok=true then wpAny (model prog w) A (eval elt env) (fun x s₄ =>
       wpAny (model prog w) A (call (.builtin "list.append") [acc,x]) (fun _ s₅=>∃ m,m < n∧I m s₅) (fun _ _=>False) s₄) (fun _ _=>False) s₃
      else ∃ m,m < n∧I m s₃) (fun _ _=>False) s₂) (fun _ _=>False) s₂') (fun _ _=>False) s₁) (fun _ _=>False) s)
  (n:Nat) (h:I n s) :
  codeAny (model prog w) A (.compLoop (.ListComp elt [⟨target,iter,ifs,0⟩] scope pos) 0 it acc env) R s:=by
 refine codeAny_loop rfl I (fun n s hI=>?_) n h
 show wpAny _ A ((compTurn (.ListComp elt [⟨target,iter,ifs,0⟩] scope pos) 0 it acc env).onRaise (fun x=>do noteFrame x env; theTreesLotGoes x)) _ _ s
 refine wpAny_noted ?_
 rw [compTurn_list]
 refine wpAny_bind (wpAny_standAt (wpAny_bind (wpAny_mono (turn n s hI) (fun r s₁ h₁=>?_) fun _ _ z=>z.elim)))
 cases r with
 | none=>exact wpAny_pure h₁
 | some v =>
  refine wpAny_bind (wpAny_mono h₁ (fun _ s₂' h₂'=>?_) fun _ _ z=>z.elim)
  refine wpAny_bind (wpAny_mono h₂' (fun _ s₂ h₂=>wpAny_bind (wpAny_mono h₂ (fun ok s₃ h₃=>?_) fun _ _ z=>z.elim)) fun _ _ z=>z.elim)
  cases ok with
  | false=>exact wpAny_pure ⟨rfl,h₃⟩
  | true =>
   exact wpAny_bind (wpAny_bind (wpAny_mono h₃ (fun x s₄ h₄=>wpAny_bind (wpAny_mono h₄ (fun _ s₅ h₅=>wpAny_pure (wpAny_pure ⟨rfl,h₅⟩)) fun _ _ z=>z.elim)) fun _ _ z=>z.elim))
end
def PF (X:Cx) (ifs:List Expr) (t:TT):Prop :=
 ∀ (pins:List (Addr × Obj)) (s:Shared) (σ:St) (H:Hp) (Q:Bool→Hp→Prop),Inv X pins σ H s→t σ H Q →
  wpAny (model X.prog X.w) X.A (forIn ifs true fun c r=>if r=true then do let ok ← isTrue c X.env (eval c X.env); pure (ForInStep.yield ok) else pure (ForInStep.yield r)) (TP X pins σ Q) X.xe s
theorem pf_nil {X:Cx}:PF X [] (fun _ H Q=>Q true H):=fun pins s σ H Q I q=>wpAny_tests_nil ⟨H,I,q⟩
def KeepC (σ:St) (tn:List Str) (js:List Nat) (σ':St):Prop:=(∀ (j:Nat) (v:V),tn.length≤j→(cσ σ tn js)[j]?=some (some v)→σ'[j]?=some (some v))∧σ'.length=(cσ σ tn js).length
def tLC (wi:TI) (tn:List Str) (js:List Nat) (g:TG) (tt:TT) (te:TE):TE:=fun σ H Q=>wi σ H fun J H1=>∀ D,H1 D=none→∃ W:Nat→Nat→Hp→List V→Prop,(∃ m,W 0 m (upd H1 D (.lst [])) []) ∧
 ∀ i m H xs,W i m H xs→H D=some (.lst xs)∧((J.stop i H∧Q (.ref D) H)∨(J.go i H∧∀ x H',J.yld i H x H'→g x (cσ σ tn js) H' fun σ2 H2=>KeepC σ tn js σ2∧tt σ2 H2 fun ok H3 =>
  if ok=true then te σ2 H3 fun y H4=>H4 D=some (.lst xs)∧xs.length < sizeLine∧∃ m',m' < m∧W (i + 1) m' (upd H4 D (.lst (xs ++ [y]))) (xs ++ [y])
  else ∃ m',m' < m∧W (i + 1) m' H3 xs))
section
variable {X:Cx} {pins:List (Addr × Obj)} {σ:St} {H:Hp} {s:Shared} {scope:Scope} {tn:List Str} {js:List Nat} {elt target iter:Expr} {ifs:List Expr} {pos:Pos} {wi:TI} {g:TG} {tt:TT} {te:TE}
theorem comp_core {Q:VK} {RR:Value→Addr→Result→Shared→Prop} (S:CScope X scope tn js) (hc:X.calm=true) (hi:PI X target iter wi)
  (hb:∀ C s H fp,PG (blk X (cN X tn js) scope C s H fp) target g∧PF (blk X (cN X tn js) scope C s H fp) ifs tt∧PE (blk X (cN X tn js) scope C s H fp) elt te)
  (I:Inv X pins σ H s) (h:tLC wi tn js g tt te σ H Q)
  (hRR:∀ D C s' H' oC m,Inv X (pins ++ [(C,oC)]) σ H' s'→s'.heap.get? C=some oC→s'.heap.Ns C m→X.s₀.heap.objs.size≤C→C≠X.env.locals→(∀ x c,X.env.cells.lookup x=some c→c≠C)→(∀ p∈X.pn ++ pins,p.1≠C)→Q (.ref D) H'→RR (.ref D) C (.ok .next) s') :
  wpAny (model X.prog X.w) X.A (eval iter X.env) (fun x s₁=>wpAny (model X.prog X.w) X.A (pyIter x) (fun it s₂=>wpAny (model X.prog X.w) X.A (newList []) (fun acc s₃ =>
   wpAny (model X.prog X.w) X.A (newFunctionEnv scope X.env.globals (clOf X.env scope.names []) [] X.env.qual none .none (some X.env)) (fun cenv s₄ =>
    codeAny (model X.prog X.w) X.A (.compStart (.ListComp elt [⟨target,iter,ifs,0⟩] scope pos) 0 it acc { cenv with scope:=relabel scope X.env }) (RR acc cenv.locals) s₄) X.xe s₃) X.xe s₂) X.xe s₁) X.xe s:=by
 refine thn (hi pins s σ H _ I h) fun v s1 h1=>thn h1 fun itv s2 h2=>?_
 obtain ⟨it,fp,tnn,J,H2,e,I2,T,st2,f2,hJ⟩:=h2
 subst e
 refine wpAny_newList ?_
 have D0:H2 s2.heap.objs.size=none:=I2.hok.fresh (Nat.le_refl _)
 obtain ⟨W,⟨m0,w0⟩,turn⟩:=hJ s2.heap.objs.size D0
 have I3:Inv X pins σ (upd H2 s2.heap.objs.size (.lst [])) { s2 with heap:=s2.heap.push { cls:=.type "list",data:=.seq ([]:List Value).toArray },toks:=s2.toks }:=I2.lnew .nil (Nat.zero_le _)
 generalize hs3:({ s2 with heap:=s2.heap.push { cls:=.type "list",data:=.seq ([]:List Value).toArray },toks:=s2.toks }:Shared)=s3 at I3
 have s3s:s3.heap.objs.size=s2.heap.objs.size + 1:=by rw [← hs3]; exact Heap.size_push ..
 have k23:∀ b o,s2.heap.get? b=some o→s3.heap.get? b=some o:=fun b o e=>by rw [← hs3]; exact Heap.get?_push_of_some _ e
 have u23:Un (frs X.stack) fp H2 (upd H2 s2.heap.objs.size (.lst [])) s2.heap s3.heap:=Un.laid k23 (Nat.le_refl _) D0
 generalize hH3:upd H2 s2.heap.objs.size (.lst [])=H3 at I3 u23 w0
 generalize hD:s2.heap.objs.size=D at *
 have fpl:∀ b∈fp,b < D:=fun b hb=>by
  obtain ⟨o,e,_⟩:=T.obj 0 _ st2 b hb
  rw [← hD]; exact Heap.lt_size e
 have f3:∀ b∈fp,FpOk X pins H3 b∧b < s3.heap.objs.size:=fun b hb=>by
  obtain ⟨q0,q⟩:=f2 b hb
  refine ⟨⟨?_,q⟩,by have:=fpl b hb; rw [s3s]; exact Nat.lt_succ_of_lt this⟩
  rw [← hH3,upd_ne (Nat.ne_of_lt (fpl b hb))]; exact q0
 refine newEnv_comp fun h4 hns hk hcell=>?_
 have cl0:∀ x c,(clOf X.env scope.names []).lookup x=some c→X.env.cells.lookup x=some c:=fun x c e=>by
  rcases clOf_lookup scope.names [] c (has_cell I.ok S) e with q | q
  ·cases q
  ·exact q
 have I4:Inv (blk X (cN X tn js) scope s3.heap.objs.size s3 H3 fp) [] (cσ σ tn js) H3 { s3 with heap:=h4,toks:=s3.toks }:=inv_block I3 S f3 hns hk fun x c e=>(hcell x c e).imp (cl0 x c) id
 have st4:tnn 0 h4:=T.keep 0 _ _ st2 fun b hb o e=>hk b o (k23 b o e)
 have fpk:∀ {H':Hp},(∀ b∈fp,H' b=none)→∀ b∈fp,FpOk (blk X (cN X tn js) scope s3.heap.objs.size s3 H3 fp) [] H' b:=fun hn b hb=>by
  obtain ⟨⟨q0,q1,q2,q3,q4,q5⟩,ql⟩:=f3 b hb
  refine ⟨hn b hb,Nat.ne_of_lt ql,fun z=>?_,.inl hb,fun x c e z=>?_,fun p hp=>nomatch hp⟩
  ·rcases List.mem_cons.mp (I3.stkSub b z) with q | q
   ·exact q1 q
   ·exact q2 q
  ·exact (I4.ok.exf b hb).2 x c e z
 have loop:codeAny (model X.prog X.w) X.A (.compLoop (.ListComp elt [⟨target,iter,ifs,0⟩] scope pos) 0 (.ref it) (.ref D) (blk X (cN X tn js) scope s3.heap.objs.size s3 H3 fp).env) (RR (.ref D) s3.heap.objs.size) { s3 with heap:=h4,toks:=s3.toks }:=by
  refine comp_loop (fun n s'=>∃ i σ' H' xs,Inv (blk X (cN X tn js) scope s3.heap.objs.size s3 H3 fp) [] σ' H' s'∧tnn i s'.heap∧(∀ b∈fp,H' b=none)∧W i n H' xs∧KeepC σ tn js σ') ?_ m0
   ⟨0,_,H3,[],I4,st4,fun b hb=>(f3 b hb).1.1,w0,fun _ _ _ z=>z,rfl⟩
  rintro n s5 ⟨i,σ5,H5,xs,I5,st5,fr5,w5,kσ,lσ⟩
  -- the state with the targets forgotten
  have I5':Inv (blk X (cN X tn js) scope s3.heap.objs.size s3 H3 fp) [] (cσ σ tn js) H5 s5:=I5.weak lσ.symm fun j v e=>by
   by_cases hj:tn.length≤j
   ·exact kσ j v hj e
   ·exfalso
    unfold cσ at e
    rw [List.getElem?_append_left (by simpa using Nat.lt_of_not_le hj),List.getElem?_map] at e
    cases q:tn[j]? with
    | none=>rw [q] at e; cases e
    | some y=>rw [q] at e; cases e
  obtain ⟨hDx,hturn⟩:=turn i n H5 xs w5
  rcases hturn with ⟨stop,q⟩ | ⟨go,step⟩
  ·refine thn (T.done (blk X (cN X tn js) scope s3.heap.objs.size s3 H3 fp) rfl rfl rfl hc i [] s5 _ H5 (fun _ _=>False) I5' (fpk fr5) st5 stop) fun r s6 ⟨hr,I6⟩=>?_
   subst hr
   -- back to the def's own state
   have u36:Un (frs X.stack) fp H3 H5 s3.heap s6.heap:=I6.base
   have u26:Un (frs X.stack) fp H2 H5 s2.heap s6.heap:=u23.trans u36
   have I6X:Inv X pins σ H5 s6:=I2.call' (I6.os.trans (show s3.os=s2.os by rw [← hs3])) u26 I6.hok I6.bare fun b hb=>⟨(f2 b hb).2.2.2.1,(f2 b hb).2.1,(f2 b hb).2.2.2.2.1,(f2 b hb).2.2.2.2.2⟩
   obtain ⟨mm,hnn,_⟩:=I6.loc
   obtain ⟨oC,es,ep,hoC,rC⟩:=id hnn
   have Cge:D≤s3.heap.objs.size:=by rw [s3s]; exact Nat.le_succ _
   have lt2:∀ {b:Addr} {o:Obj},s2.heap.get? b=some o→b≠s3.heap.objs.size:=fun e z=>absurd (Heap.lt_size e) (Nat.not_lt.mpr (by rw [hD,z]; exact Cge))
   have cC:∀ x c,X.env.cells.lookup x=some c→c≠s3.heap.objs.size:=fun x c e z=>by
    obtain ⟨v,o,q1,_⟩:=I2.cell x c e
    exact lt2 q1 z
   have pC:∀ p∈X.pn ++ pins,p.1≠s3.heap.objs.size:=fun p hp=>lt2 (I2.pin p hp).1
   have lC:s3.heap.objs.size≠X.env.locals:=fun z=>by
    have:=I2.lt
    rw [hD,← z] at this
    exact absurd this (Nat.not_lt.mpr Cge)
   refine hRR D s3.heap.objs.size s6 H5 oC mm (I6X.pins_of fun p hp=>?_) hoC hnn (Nat.le_trans I2.sz (by rw [hD]; exact Cge)) lC cC pC q
   rcases List.mem_append.mp hp with hp | hp
   ·exact I6X.pin p (List.mem_append_right _ hp)
   ·have:p=(s3.heap.objs.size,oC):=by simpa using hp
    subst this
    refine ⟨hoC,I6.free,lC,fun z=>?_,fun v z=>?_⟩
    ·have:=I2.ok.funs.mem z
     have hz:=I2.funs.mem z
     obtain ⟨_,o,hz,_⟩:=hz
     exact lt2 hz rfl
    ·have:=rC.1
     rw [z] at this; cases this
  ·refine thn (T.item (blk X (cN X tn js) scope s3.heap.objs.size s3 H3 fp) rfl rfl rfl hc i [] s5 _ H5 (fun _ _=>False) I5' (fpk fr5) st5 go) fun r s6 ⟨u,hr,h6⟩=>?_
   subst hr
   refine thn h6 fun _ s7 ⟨x,H7,I7,r7,y7,st7,fr7⟩=>?_
   have I7':=I7.pinned (fpk fr7) (T.obj _ _ st7)
   refine thn ((hb s3.heap.objs.size s3 H3 fp).1 _ s7 _ H7 x u _ I7' r7 (step x H7 y7)) fun _ s8 ⟨σ8,H8,I8,kc8,q8⟩=>?_
   -- what the pins say of the iterator,later
   have again:∀ {σ':St} {H':Hp} {s':Shared} {xs':List V} {m':Nat},Inv (blk X (cN X tn js) scope s3.heap.objs.size s3 H3 fp) ([] ++ pinsAt fp s7.heap) σ' H' s'→m' < n→W (i + 1) m' H' xs'→KeepC σ tn js σ' →
     ∃ m,m < n∧∃ i σ' H' xs,Inv (blk X (cN X tn js) scope s3.heap.objs.size s3 H3 fp) [] σ' H' s'∧tnn i s'.heap∧(∀ b∈fp,H' b=none)∧W i m H' xs∧KeepC σ tn js σ':=fun {σ' H' s' xs' m'} I' hm w' k'=>by
    refine ⟨m',hm,i + 1,σ',H',xs',I'.unpinned,T.keep _ _ _ st7 fun b hb o e=>(I'.pin (b,o) (List.mem_append_right _ (List.mem_append_right _ (mem_pinsAt hb e)))).1,fun b hb=>?_,w',k'⟩
    obtain ⟨o,e,d⟩:=T.obj _ _ st7 b hb
    exact (I'.pin (b,o) (List.mem_append_right _ (List.mem_append_right _ (mem_pinsAt hb e)))).2.1
   refine thn ((hb s3.heap.objs.size s3 H3 fp).2.1 _ s8 σ8 H8 _ I8 q8) fun ok s9 ⟨H9,I9,q9⟩=>?_
   cases ok with
   | false =>
    have q9':∃ m',m' < n∧W (i + 1) m' H9 xs:=by
     have z:=q9
     rw [if_neg Bool.false_ne_true] at z
     exact z
    obtain ⟨m',hm,w9⟩:=q9'
    exact again I9 hm w9 kc8
   | true =>
    rw [if_pos rfl] at q9 ⊢
    refine thn ((hb s3.heap.objs.size s3 H3 fp).2.2 _ s9 σ8 H9 _ I9 q9) fun yv s10 ⟨y,H10,I10,r10,hD10,hz,m',hm,w10⟩=>?_
    exact thn (mt_append _ s10 σ8 H10 (.ref D) [y] (.ref D) [yv] (fun _ H'=>H'=upd H10 D (.lst (xs ++ [y]))) I10 rfl (.cons r10 .nil) ⟨D,xs,y,rfl,rfl,hD10,hz,rfl⟩) fun _ s11 ⟨_,H11,I11,_,e11⟩=>by
     subst e11
     exact again I11 hm w10 kc8
 exact codeAny_compStart_list loop (T.self _ 0 _ _ _ st4 loop)
theorem pe_lc (S:CScope X scope tn js) (hc:X.calm=true) (hi:PI X target iter wi)
  (hb:∀ C s H fp,PG (blk X (cN X tn js) scope C s H fp) target g∧PF (blk X (cN X tn js) scope C s H fp) ifs tt∧PE (blk X (cN X tn js) scope C s H fp) elt te)
  (hs:∀ x,foldedSetIterable iter X.env x=pure x:=by intro _; rfl):PE X (.ListComp elt [⟨target,iter,ifs,0⟩] scope pos) (tLC wi tn js g tt te):=by
 intro pins s σ H Q I h
 rw [eval_ListComp]
 refine wpAny_comprehension_free (use:=none) rfl hs (closureFor_clOf (has_cell I.ok S)) S.kind S.loc ?_
 refine comp_core (RR:=fun acc C=>compPost (model X.prog X.w) X.A X.xe none (EP X pins σ Q) acc C) S hc hi hb I h ?_
 intro D C s' H' oC m I' hoC hn h1 h2 h3 h4 q
 refine ⟨m,hn,fun h' sb=>⟨.ref D,H',?_,rfl,q⟩⟩
 have I2:Inv X pins σ H' s':=I'.pins_of fun p hp=>I'.pin p (List.mem_append_right _ (List.mem_append_left _ hp))
 exact I2.turned (t':=s'.toks) (fun b o hb e=>sb.extBut b o hb e) (I'.pin (C,oC) (List.mem_append_right _ (List.mem_append_right _ (by simp)))).2.1 (Ne.symm (Ne.symm h2)) (.inr h1) h3 h4
theorem ps_setLC {i:Nat} {y:Str} {py spos:Pos} (hN:X.N.Nodup) (hiN:X.N[i]?=some y) (hy:Loc X.env.scope y) (hf:X.fn y=true∨X.env.scope.names.lookup y=some .local) (S:CScope X scope tn js) (hc:X.calm=true) (hi:PI X target iter wi)
  (hb:∀ C s H fp,PG (blk X (cN X tn js) scope C s H fp) target g∧PF (blk X (cN X tn js) scope C s H fp) ifs tt∧PE (blk X (cN X tn js) scope C s H fp) elt te)
  (hsw:swapsWith (.ListComp elt [⟨target,iter,ifs,0⟩] scope pos) (some (.Name y py)) spos.line X.env=pure true)
  (hs:∀ x,foldedSetIterable iter X.env x=pure x:=by intro _; rfl):PS X (.Assign [.Name y py] (.ListComp elt [⟨target,iter,ifs,0⟩] scope pos) spos) (fun D σ H=>tLC wi tn js g tt te σ H fun v H1=>D.nx (σ.set i (some v)) H1):=by
 intro pins s σ H De I h
 rw [exec_Assign_Name_used _ _ _ _ hsw]
 refine wpAny_bind (wpAny_standAt (wpAny_bind ?_))
 show wpAny _ X.A (do let _ ← comprehension (.ListComp elt [⟨target,iter,ifs,0⟩] scope pos) scope X.env _ (newList []) false (eval iter X.env) (some (assign (.Name y py) X.env))) _ _ s
 refine wpAny_bind (wpAny_mono (wpAny_comprehension_free (use:=some (assign (.Name y py) X.env)) (Q:=fun _ s'=>SP X pins De .next s') rfl hs (closureFor_clOf (has_cell I.ok S)) S.kind S.loc ?_) (fun _ s' hq=>wpAny_pure (wpAny_pure hq)) fun _ _ e=>e)
 refine comp_core (RR:=fun acc C=>compPost (model X.prog X.w) X.A X.xe (some (assign (.Name y py) X.env)) (fun _ s'=>SP X pins De .next s') acc C) S hc hi hb I h ?_
 intro D C s' H' oC m I' hoC hn h1 h2 h3 h4 q
 show wpAny _ X.A (assign (.Name y py) X.env (.ref D)) _ _ _
 refine thn (pg_name (pos:=py) hN hiN hy hf _ s' σ H' (.ref D) (.ref D) (fun σ2 H2=>σ2=σ.set i (some (.ref D))∧H2=H') I' rfl ⟨rfl,rfl⟩) fun _ s'' ⟨σ2,H2,I2,e1,e2⟩=>?_
 subst e1 e2
 obtain ⟨g1,g2,_⟩:=I2.pin (C,oC) (List.mem_append_right _ (List.mem_append_right _ (by simp)))
 refine ⟨m,hn.at' fun o e=>?_,fun h' sb=>?_⟩
 ·rw [hoC] at e; cases e; exact g1
 ·have I3:Inv X pins (σ.set i (some (.ref D))) H2 s'':=I2.pins_of fun p hp=>I2.pin p (List.mem_append_right _ (List.mem_append_left _ hp))
  exact ⟨_,H2,I3.turned (t':=s''.toks) (fun b o hb e=>sb.extBut b o hb e) g2 h2 (.inr h1) h3 h4,q⟩
end
end L2
namespace L2
open PySem PySem.Spec PyProof.Rows
section
variable {X:Cx}
theorem op_mulK:OpR X (binaryOp .Mult) (rI IntMulOk fun i j=>.int (i * j)):=opI fun _ _ _ _ _ _ _ hc q=>mul_int q hc
def CDivK (_ j:Int):Prop:=j≠0∧j.natAbs.log2 < 9000
theorem op_fdivK:OpR X (binaryOp .FloorDiv) (rI CDivK fun i j=>.int (i.fdiv j)):=opI fun _ _ _ _ _ _ _ hc q=>floordiv_int hc.1 q (.inl (PyProof.noPylong_of_log2 hc.2))
def Itc (lo c:Int) (n:Nat):It:=⟨fun i _=>i < n,fun i H x H'=>H'=H∧x=.int (lo + i * c),fun i _=>n≤i⟩
theorem turn_rangeC {P:Program} {w:World} {K:PySem.W.Frag} {tg:Expr} (it:Addr) (lo c:Int) (n:Nat):Turn P w K tg (Itc lo c n) [it] it (fun i h=>IsRangeIter h it (lo + (i:Nat) * c) ((n:Int) - (i:Nat)) c) where
 mem:=by simp
 obj:=fun i h st b hb=>by
  have e:b=it:=by simpa using hb
  subst e
  exact ⟨_,st,fun v z=>by
   have z':Data.fields _=Data.cell v:=z
   cases z'⟩
 keep:=fun i h h' st k=>k it (by simp) _ st
 item:=by
  intro X hP hw hK hc i pins s σ H E I hf st hg
  subst hP hw hK
  obtain ⟨f0,f1,f2,f3,f4,f5⟩:=hf it (by simp)
  have W:=Walks.range (prog:=X.prog) (w:=X.w) (I.ok.hd hc) it lo c n
  refine W.item i s _ _ hg st fun v h' tk hv st' kk=>?_
  obtain ⟨t,rfl⟩:=hv
  have I1:Inv X pins σ H { s with heap:=h',toks:=tk }:=I.turned (fun b o hb e=>kk b o (by simpa using hb) e) f0 f1 f3 f4 f5
  exact ⟨_,rfl,go_of (s:={ s with heap:=h',toks:=tk }) (n:="range_iterator") st' rfl rfl (by decide) ⟨.int (lo + i * c),H,I1,⟨t,rfl⟩,⟨rfl,rfl⟩,st',fun b hb=>(hf b hb).1⟩⟩
 done:=by
  intro X hP hw hK hc i pins s σ H E I hf st hg
  subst hP hw hK
  obtain ⟨f0,f1,f2,f3,f4,f5⟩:=hf it (by simp)
  exact wpAny_pyNext_range_end (I.ok.hd hc) st (by have:n≤i:=hg; omega) fun h' eb=>⟨rfl,I.turned (t':=s.toks) (fun b o hb e=>eb b o hb e) f0 f1 f3 f4 f5⟩
 self:=fun _ _ _ _ _ st h=>wpAny_pyIter_rangeiter st h
theorem small_c {a b c:Int} (ha:-(2 ^ 62)≤a) (ha':a < 2 ^ 62) (hb:-(2 ^ 62)≤b) (hb':b < 2 ^ 62) (hc:c≠0) (hc1:-1000≤c) (hc2:c≤1000):Builtin.Range.small a b c=true:=by
 have h1:=rangeSize_toNat a b c
 have h2:=rangeSize_toNat_le a b c
 unfold Builtin.Range.small
 generalize Builtin.Range.rangeSize a b c=r at *
 simp only [Builtin.Range.rangeFitsLong,Bool.and_eq_true,Bool.or_eq_true,decide_eq_true_eq,beq_iff_eq]
 refine ⟨⟨⟨⟨⟨by omega,by omega⟩,by omega,by omega⟩,by omega,by omega⟩,by omega,by omega⟩,?_⟩
 right
 split <;> simp only [Bool.and_eq_true,decide_eq_true_eq] <;> omega
variable {tg:Expr}
theorem range_itC {pins:List (Addr × Obj)} {σ:St} {H:Hp} {s:Shared} {R:It→Hp→Prop} {E:Value→Shared→Prop} {lo hi c:Int} {t u v:Tok} {tk:Nat} (I:Inv X pins σ H s) (h1:-(2 ^ 62)≤lo) (h2:lo < 2 ^ 62) (h3:-(2 ^ 62)≤hi) (h4:hi < 2 ^ 62)
  (c0:c≠0) (c1:-1000≤c) (c2:c≤1000)
  (q:R (Itc lo c (Builtin.Range.rangeSize lo hi c).toNat) H):wpAny (model X.prog X.w) X.A (pyIter (.ref s.heap.objs.size)) (PIE X pins σ tg R) E { s with heap:=s.heap.push { cls:=.type "range",data:=.fields #[.int lo t,.int hi u,.int c v] },toks:=tk }:=by
 refine wpAny_pyIter_range (IsRange.new ..) (small_c h1 h2 h3 h4 c0 c1 c2) ?_
 have I1:Inv X pins σ H { s with heap:=s.heap.push { cls:=.type "range",data:=.fields #[.int lo t,.int hi u,.int c v] },toks:=tk }:=I.kept fun b o e=>Heap.get?_push_of_some _ e
 refine ⟨(s.heap.push { cls:=.type "range",data:=.fields #[.int lo t,.int hi u,.int c v] }).objs.size,[(s.heap.push { cls:=.type "range",data:=.fields #[.int lo t,.int hi u,.int c v] }).objs.size],_,_,H,rfl,
  I1.kept (t':=tk) fun b o e=>Heap.get?_push_of_some _ e,turn_rangeC _ lo c (Builtin.Range.rangeSize lo hi c).toNat,?_,fun b hb=>?_,q⟩
 ·have e1:lo + ((0:Nat):Int) * c=lo:=by simp
  have e2:(((Builtin.Range.rangeSize lo hi c).toNat:Nat):Int) - ((0:Nat):Int)=Builtin.Range.rangeSize lo hi c:=by have:=rangeSize_toNat lo hi c; omega
  show IsRangeIter _ _ (lo + ((0:Nat):Int) * c) ((((Builtin.Range.rangeSize lo hi c).toNat:Nat):Int) - ((0:Nat):Int)) c
  rw [e1,e2]
  exact Heap.get?_push_size _ rfl
 ·have e:b=(s.heap.push { cls:=.type "range",data:=.fields #[.int lo t,.int hi u,.int c v] }).objs.size:=by simpa using hb
  subst e
  exact I1.fpOk (Nat.le_refl _) (I1.hok.fresh (Nat.le_refl _))
def iRng3 (ta:TA):TI:=fun σ H R=>ta σ H fun vs H1=>∃ i j c:Int,vs=[.int i,.int j,.int c]∧(-(2 ^ 62)≤i∧i < 2 ^ 62∧-(2 ^ 62)≤j∧j < 2 ^ 62)∧(c≠0∧-1000≤c∧c≤1000)∧R (Itc i c (Builtin.Range.rangeSize i j c).toNat) H1
theorem pi_range3 {a b c:Expr} {ta:TA} {p pos:Pos} (hg:Gl X "range") (hm:X.mg "range"=none) (ha:PA X [a,b,c] ta) (he:starEach [a,b,c] X.env=(false,eval a X.env) :: starEach [b,c] X.env:=by rfl)
  (hpl:(backTo pos (starEach [b,c] X.env)).any (·.1)=false:=by rfl):PI X tg (.Call (.Name "range" p) [a,b,c] [] pos) (iRng3 ta):=by
 intro pins s σ H R I h
 refine Call_ (ld_blt I hg hm boot_range (PyProof.Rows.callWith_type1 (thn (ha pos pins s σ H _ I h) fun us s1 ⟨vs,H1,I1,r1,q1⟩=>?_) he hpl))
 obtain ⟨i,j,c,e,⟨q1,q2,q3,q4⟩,⟨c0,c1,c2⟩,q⟩:=q1
 subst e
 cases r1 with
 | cons r rr =>
  cases rr with
  | cons r' rr =>
   cases rr with
   | cons r'' rr =>
    cases rr
    obtain ⟨t,rfl⟩:=r
    obtain ⟨t',rfl⟩:=r'
    obtain ⟨t'',rfl⟩:=r''
    exact call_range_3 c0 (range_itC I1 q1 q2 q3 q4 c0 c1 c2 q) (.inl (PyProof.noPylong_small (by omega)))
theorem for_rangeC {lo c:Int} {n:Nat} {g:TG} {tb:TS} {D:Ends} {σ:St} {H:Hp} (Pv:Nat→St→Hp→Prop) (h0:Pv 0 σ H)
  (hs:∀ i σ H,i < n→Pv i σ H→g (.int (lo + i * c)) σ H fun σ2 H2=>tb { D with nx:=Pv (i + 1),ct:=Pv (i + 1),bk:=D.nx } σ2 H2) (hd:∀ σ H,Pv n σ H→D.nx σ H) :
  ∃ W:Nat→Nat→St→Hp→Prop,(∃ m,W 0 m σ H)∧∀ i m σ H,W i m σ H →
   ((Itc lo c n).stop i H∧D.nx σ H)∨((Itc lo c n).go i H∧∃ N:St→Hp→Prop,(∀ σ' H',N σ' H'→∃ m',m' < m∧W (i + 1) m' σ' H')∧∀ x H',(Itc lo c n).yld i H x H'→g x σ H' fun σ2 H2=>tb { D with nx:=N,ct:=N,bk:=D.nx } σ2 H2):=by
 refine ⟨fun i m σ H=>m=n - i∧i≤n∧Pv i σ H,⟨n,by simp,Nat.zero_le _,h0⟩,?_⟩
 rintro i m σ H ⟨rfl,hi,p⟩
 by_cases hlt:i < n
 ·refine .inr ⟨hlt,Pv (i + 1),fun σ' H' p'=>⟨n - (i + 1),by omega,rfl,hlt,p'⟩,fun x H' y=>?_⟩
  obtain ⟨e,y⟩:=y
  subst e y
  exact hs i σ _ hlt p
 ·have e:i=n:=by omega
  subst e
  exact .inl ⟨Nat.le_refl _,hd σ H p⟩
end
mutual
inductive DR (K:PySem.W.Frag) (H:Hp):V→PyData→Prop
 | non:DR K H .non .none
 | bl (b:Bool):DR K H (.bl b) (.bool b)
 | int (i:Int):DR K H (.int i) (.int i)
 | str (x:Str):DR K H (.str x) (.str x)
 | lst {a:Addr} {xs:List V} {ds:List PyData}:SqL K H a xs→DRs K H xs ds→DR K H (.ref a) (.list ds)
 | tup {a:Addr} {xs:List V} {ds:List PyData}:SqT K H a xs→DRs K H xs ds→DR K H (.ref a) (.tuple ds)
inductive DRs (K:PySem.W.Frag) (H:Hp):List V→List PyData→Prop
 | nil:DRs K H [] []
 | cons {x:V} {xs:List V} {d:PyData} {ds:List PyData}:DR K H x d→DRs K H xs ds→DRs K H (x :: xs) (d :: ds)
end
section
variable {X:Cx} {pins:List (Addr × Obj)} {σ:St} {H:Hp} {s:Shared}
mutual
theorem DR.reads (I:Inv X pins σ H s):∀ {x:V} {d:PyData} {u:Value},DR X.K H x d→RelV x u→∃ as,Reads s.heap u d as
 | _,_,_,.non,r=>by cases r; exact ⟨_,.none⟩
 | _,_,_,.bl b,r=>by cases r; exact ⟨_,.bool b⟩
 | _,_,_,.int i,r=>by obtain ⟨t,rfl⟩:=r; exact ⟨_,.int i t⟩
 | _,_,_,.str x,r=>by obtain ⟨t,rfl⟩:=r; exact ⟨_,.str x t⟩
 | _,_,_,.lst h hs,r=>by
  cases r
  obtain ⟨its,rv,p,_⟩:=I.list h
  obtain ⟨as,ra⟩:=DRs.reads I hs rv
  obtain ⟨o,e1,e2,n,e3⟩:=p.isList
  exact ⟨_,.list e1 e2 e3 (by simpa using ra)⟩
 | _,_,_,.tup h hs,r=>by
  cases r
  obtain ⟨its,rv,p,_⟩:=I.tuple h
  obtain ⟨as,ra⟩:=DRs.reads I hs rv
  obtain ⟨o,e1,e2,n,e3⟩:=p
  exact ⟨_,.tuple e1 e2 e3 (by simpa using ra)⟩
theorem DRs.reads (I:Inv X pins σ H s):∀ {xs:List V} {ds:List PyData} {us:List Value},DRs X.K H xs ds→Vals xs us→∃ as,ReadsAll s.heap us ds as
 | _,_,_,.nil,r=>by cases r; exact ⟨_,.nil⟩
 | _,_,_,.cons h hs,r=>by
  cases r with
  | cons r1 r2 =>
   obtain ⟨as,a⟩:=DR.reads I h r1
   obtain ⟨bs,b⟩:=DRs.reads I hs r2
   exact ⟨_,.cons a b⟩
end
end
section
variable {X:Cx}
def rEqD (K:PySem.W.Frag):R2:=fun x y H Q=>∃ d e,DR K H x d∧DR K H y e∧d.canLay0=true∧e.canLay0=true∧d.depth≤60∧Q (.bl (PyData.eqv d e)) H
def rNeD (K:PySem.W.Frag):R2:=fun x y H Q=>∃ d e,DR K H x d∧DR K H y e∧d.canLay0=true∧e.canLay0=true∧d.depth≤60∧Q (.bl (!PyData.eqv d e)) H
theorem op_eqD (hu:X.A.units + 60 < cLine):OpR X (compareOp .Eq) (rEqD X.K):=by
 intro pins s σ H x y v u Q I rx ry h
 obtain ⟨d,e,hd,he,c1,c2,dp,q⟩:=h
 obtain ⟨as,ra⟩:=hd.reads I rx
 obtain ⟨bs,rb⟩:=he.reads I ry
 exact SeqAt.compareEq_reads ra rb c1 c2 (by have:=Nat.min_le_left d.depth e.depth; omega) ⟨.bl _,H,I,rfl,q⟩
theorem op_neD (hu:X.A.units + 60 < cLine):OpR X (compareOp .NotEq) (rNeD X.K):=by
 intro pins s σ H x y v u Q I rx ry h
 obtain ⟨d,e,hd,he,c1,c2,dp,q⟩:=h
 obtain ⟨as,ra⟩:=hd.reads I rx
 obtain ⟨bs,rb⟩:=he.reads I ry
 exact SeqAt.compareNe_reads ra rb c1 c2 (by have:=Nat.min_le_left d.depth e.depth; omega) ⟨.bl _,H,I,rfl,q⟩
end
end L2
namespace L2.EP
open PySem PySem.Spec PyProof.Rows
open Classical in
noncomputable def off (H:Hp) (O:Addr→Prop):Hp:=fun b=>if O b then none else H b
theorem off_get {H:Hp} {O:Addr→Prop} {b:Addr} (h:¬ O b):off H O b=H b:=by unfold off; rw [if_neg h]
theorem off_own {H:Hp} {O:Addr→Prop} {b:Addr} (h:O b):off H O b=none:=by unfold off; rw [if_pos h]
theorem off_some {H:Hp} {O:Addr→Prop} {b:Addr} {o:HO} (h:off H O b=some o):¬ O b∧H b=some o:=by
 by_cases hb:O b
 ·rw [off_own hb] at h; cases h
 ·rw [off_get hb] at h; exact ⟨hb,h⟩
theorem off_same (H:Hp) (O:Addr→Prop):Same (off H O) H:=fun _ _ h=>(off_some h).2
theorem off_mono {H H':Hp} {O:Addr→Prop} (s:Same H H'):Same (off H O) (off H' O):=fun b o h=>by
 obtain ⟨h1,h2⟩:=off_some h
 rw [off_get h1]; exact s _ _ h2
theorem off_less {H:Hp} {O O':Addr→Prop} (l:∀ b,O' b→O b):Same (off H O) (off H O'):=fun b o h=>by
 obtain ⟨h1,h2⟩:=off_some h
 rw [off_get fun z=>h1 (l _ z)]; exact h2
theorem off_nil (H:Hp):off H (fun _=>False)=H:=funext fun _=>off_get fun z=>z
theorem off_upd {H:Hp} {O:Addr→Prop} {p:Addr} {o:HO} (h:O p):off (upd H p o) O=off H O:=funext fun b=>by
 by_cases hb:O b
 ·rw [off_own hb,off_own hb]
 ·rw [off_get hb,off_get hb,upd_ne]; rintro rfl; exact hb h
theorem same_upd {H:Hp} {p:Addr} (h:H p=none) (o:HO):Same H (upd H p o):=fun b u q=>by rw [upd_ne (ne_of_none q h)]; exact q
theorem Same.rd {H H':Hp} {a:Addr} {u:HO} (e:Same H H') (h:Rd H a u):Rd H' a u:=by
 rcases h with h | ⟨o,h⟩
 ·exact .inl (e _ _ h)
 ·exact .inr ⟨o,e _ _ h⟩
def Rt (H:Hp) (p:Addr) (xs:List V):Prop:=H p=some (.tup xs)∨∃ _:Empty,H p=some (.tup xs)
theorem Rt.pl {H:Hp} {p:Addr} {xs:List V} (h:Rt H p xs):H p=some (.tup xs):=by
 rcases h with h | ⟨o,h⟩
 ·exact h
 ·exact h
theorem Rt.rd {H:Hp} {p:Addr} {xs:List V} (h:Rt H p xs):Rd H p (.tup xs):=.inl h.pl
theorem Same.rt {H H':Hp} {a:Addr} {u:List V} (e:Same H H') (h:Rt H a u):Rt H' a u:=.inl (e _ _ h.pl)
theorem sqT_rd {K:PySem.W.Frag} {H H':Hp} {p:Addr} {xs:List V} (e:Same H H') (h:Rt H p xs):SqT K H' p xs:=.inl (Same.rt e h).rd
inductive Nn where
 | any
 | new (H0:Hp)
 | set (D:Addr→Prop)
inductive Mt where
 | inl (xs:List V)
 | inr (kvs:List (Key × V))
 | inT (kvs:List (List Key × V))
 | inB (kvs:List ((Int × Bool) × V))
def mo:Mt→HO
 | .inl xs=>.lst xs
 | .inr kvs=>.dK kvs
 | .inT kvs=>.dT kvs
 | .inB kvs=>.dB kvs
def Mo (K:PySem.W.Frag) (H:Hp) (p:Addr):Mt→Prop
 | .inl xs=>SqL K H p xs
 | .inr kvs=>Rd H p (.dK kvs)
 | .inT kvs=>Rd H p (.dT kvs)
 | .inB kvs=>Rd H p (.dB kvs)
theorem Mo.mono {K:PySem.W.Frag} {H H':Hp} {p:Addr} {o:Mt} (s:Same H H') (h:Mo K H p o):Mo K H' p o:=by
 cases o with
 | inl xs=>exact s.seq h
 | inr kvs=>exact Same.rd s h
 | inT kvs=>exact Same.rd s h
 | inB kvs=>exact Same.rd s h
theorem Mo.of {K:PySem.W.Frag} {H:Hp} {p:Addr} {o:Mt} (h:H p=some (mo o)):Mo K H p o:=by
 cases o with
 | inl xs=>exact SqL.of h
 | inr kvs=>exact .inl h
 | inT kvs=>exact .inl h
 | inB kvs=>exact .inl h
def Nn.has:Nn→Hp→Addr→Mt→Prop
 | .any,_,_,_=>True
 | .new H0,H,p,xs=>H0 p=none∧H p=some (mo xs)
 | .set D,H,p,xs=>D p∧H p=some (mo xs)
theorem Nn.mono {N:Nn} {H H':Hp} {p:Addr} {xs:Mt} (s:Same H H') (h:N.has H p xs):N.has H' p xs:=by
 cases N with
 | any=>exact True.intro
 | new H0=>exact ⟨h.1,s _ _ h.2⟩
 | set D=>exact ⟨h.1,s _ _ h.2⟩
class Py (α:Type) where
 rp:PySem.W.Frag→Nn→Hp→V→α→Prop
 tr:∀ {K:PySem.W.Frag} {N N':Nn} {H H':Hp} {v:V} {a:α},(∀ p (o:Mt),Mo K H p o→N.has H p o→Mo K H' p o∧N'.has H' p o)→(∀ p xs,Rt H p xs→Rt H' p xs)→rp K N H v a→rp K N' H' v a
theorem rp_mono {α:Type} [Py α] {K:PySem.W.Frag} {N:Nn} {H H':Hp} {v:V} {a:α} (s:Same H H') (h:Py.rp K N H v a):Py.rp K N H' v a :=
 Py.tr (fun _ _ q n=>⟨Mo.mono s q,Nn.mono s n⟩) (fun _ _ q=>Same.rt s q) h
theorem rp_wid {α:Type} [Py α] {K:PySem.W.Frag} {N N':Nn} {H:Hp} {v:V} {a:α} (w:∀ p (o:Mt),N.has H p o→N'.has H p o) (h:Py.rp K N H v a):Py.rp K N' H v a :=
 Py.tr (fun _ _ q n=>⟨q,w _ _ n⟩) (fun _ _ q=>q) h
instance:Py Int where
 rp _ _ _ v a:=v=.int a
 tr _ _ h:=h
instance:Py Bool where
 rp _ _ _ v a:=v=.bl a
 tr _ _ h:=h
instance:Py Unit where
 rp _ _ _ v _:=v=.non
 tr _ _ h:=h
instance:Py Str where
 rp _ _ _ v a:=v=.str a
 tr _ _ h:=h
structure Any where
instance:Py Any where
 rp _ _ _ _ _:=True
 tr _ _ h:=h
instance {α:Type} [Py α]:Py (Option α) where
 rp K N H v a:=match a with | none=>v=.non | some b=>Py.rp K N H v b
 tr {K N N' H H' v a} l t h:=by
  cases a with
  | none=>exact h
  | some b=>exact Py.tr (α:=α) l t h
instance {α β:Type} [Py α] [Py β]:Py (α × β) where
 rp K N H v a:=∃ p x y,v=.ref p∧Rt H p [x,y]∧Py.rp K N H x a.1∧Py.rp K N H y a.2
 tr l t h:=by
  obtain ⟨p,x,y,e,s,h1,h2⟩:=h
  exact ⟨p,x,y,e,t _ _ s,Py.tr l t h1,Py.tr l t h2⟩
structure T3 (α β γ:Type) where
 a:α
 b:β
 c:γ
 deriving DecidableEq
instance {α β γ:Type} [Py α] [Py β] [Py γ]:Py (T3 α β γ) where
 rp K N H v a:=∃ p x y z,v=.ref p∧Rt H p [x,y,z]∧Py.rp K N H x a.a∧Py.rp K N H y a.b∧Py.rp K N H z a.c
 tr l t h:=by
  obtain ⟨p,x,y,z,e,s,h1,h2,h3⟩:=h
  exact ⟨p,x,y,z,e,t _ _ s,Py.tr l t h1,Py.tr l t h2,Py.tr l t h3⟩
theorem pr_imp {α β:Type} {F G:α→β→Prop} (f:∀ a b,F a b→G a b):∀ {l₁:List α} {l₂:List β},Paired F l₁ l₂→Paired G l₁ l₂
 | _,_,.nil=>.nil
 | _,_,.cons h t=>.cons (f _ _ h) (pr_imp f t)
theorem pr_len {α β:Type} {F:α→β→Prop}:∀ {l₁:List α} {l₂:List β},Paired F l₁ l₂→l₁.length=l₂.length
 | _,_,.nil=>rfl
 | _,_,.cons _ t=>congrArg (· + 1) (pr_len t)
theorem pr_get {α β:Type} {F:α→β→Prop}:∀ {l₁:List α} {l₂:List β} {i:Nat} {b:β},Paired F l₁ l₂→l₂[i]?=some b→∃ a,l₁[i]?=some a∧F a b
 | _,_,_,_,.nil,e=>by simp at e
 | _,_,0,_,.cons h _,e=>by simp at e; subst e; exact ⟨_,rfl,h⟩
 | _,_,i + 1,_,.cons _ t,e=>by
  obtain ⟨a,h1,h2⟩:=pr_get (i:=i) t (by simpa using e)
  exact ⟨a,by simpa using h1,h2⟩
theorem pr_get' {α β:Type} {F:α→β→Prop}:∀ {l₁:List α} {l₂:List β} {i:Nat} {a:α},Paired F l₁ l₂→l₁[i]?=some a→∃ b,l₂[i]?=some b∧F a b
 | _,_,_,_,.nil,e=>by simp at e
 | _,_,0,_,.cons h _,e=>by simp at e; subst e; exact ⟨_,rfl,h⟩
 | _,_,i + 1,_,.cons _ t,e=>by
  obtain ⟨a,h1,h2⟩:=pr_get' (i:=i) t (by simpa using e)
  exact ⟨a,by simpa using h1,h2⟩
theorem pr_app {α β:Type} {F:α→β→Prop}:∀ {l₁ m₁:List α} {l₂ m₂:List β},Paired F l₁ l₂→Paired F m₁ m₂→Paired F (l₁ ++ m₁) (l₂ ++ m₂)
 | _,_,_,_,.nil,h=>h
 | _,_,_,_,.cons h t,h'=>.cons h (pr_app t h')
theorem pr_set {α β:Type} {F:α→β→Prop} {a:α} {b:β} (f:F a b):∀ {l₁:List α} {l₂:List β} (i:Nat),Paired F l₁ l₂→Paired F (l₁.set i a) (l₂.set i b)
 | _,_,_,.nil=>.nil
 | _,_,0,.cons _ t=>.cons f t
 | _,_,i + 1,.cons h t=>.cons h (pr_set f i t)
theorem pr_drop {α β:Type} {F:α→β→Prop}:∀ {l₁:List α} {l₂:List β} (n:Nat),Paired F l₁ l₂→Paired F (l₁.drop n) (l₂.drop n)
 | _,_,0,h=>h
 | _,_,_ + 1,.nil=>.nil
 | _,_,n + 1,.cons _ t=>pr_drop n t
theorem pr_take {α β:Type} {F:α→β→Prop}:∀ {l₁:List α} {l₂:List β} (n:Nat),Paired F l₁ l₂→Paired F (l₁.take n) (l₂.take n)
 | _,_,0,_=>.nil
 | _,_,_ + 1,.nil=>.nil
 | _,_,n + 1,.cons h t=>.cons h (pr_take n t)
instance {α:Type} [Py α]:Py (List α) where
 rp K N H v a:=∃ p xs,v=.ref p∧SqL K H p xs∧N.has H p (.inl xs)∧Paired (fun x b=>Py.rp K N H x b) xs a
 tr l t h:=by
  obtain ⟨p,xs,e,s,n,r⟩:=h
  obtain ⟨s',n'⟩:=l _ (.inl xs) s n
  exact ⟨p,xs,e,s',n',pr_imp (fun _ _ q=>Py.tr l t q) r⟩
class PyD (α:Type) extends Py α where
 dat:α→PyData
 dr:∀ {K:PySem.W.Frag} {N:Nn} {H:Hp} {v:V} {a:α},Py.rp K N H v a→DR K H v (dat a)
 lay:∀ a,(dat a).canLay0=true
 dep:Nat
 depth:∀ a,(dat a).depth≤dep
 eqv:∀ a b,PyData.eqv (dat a) (dat b)=true↔a=b
instance:PyD Int where
 dat:=.int
 dr h:=by cases h; exact .int _
 lay _:=rfl
 dep:=0
 depth _:=Nat.le_refl _
 eqv a b:=by simp [PyData.eqv]
instance:PyD Bool where
 dat:=.bool
 dr h:=by cases h; exact .bl _
 lay _:=rfl
 dep:=0
 depth _:=Nat.le_refl _
 eqv a b:=by simp [PyData.eqv]
instance {α β:Type} [PyD α] [PyD β]:PyD (α × β) where
 dat a:=.tuple [PyD.dat a.1,PyD.dat a.2]
 dr h:=by
  obtain ⟨p,x,y,e,s,h1,h2⟩:=h
  subst e
  exact .tup (.inl s.rd) (.cons (PyD.dr h1) (.cons (PyD.dr h2) .nil))
 lay a:=by
  show PyData.canLayAll0 [PyD.dat a.1,PyD.dat a.2]=true
  simp [PyData.canLayAll0,PyD.lay]
 dep:=max (PyD.dep α) (PyD.dep β) + 1
 depth a:=by
  have h1:=PyD.depth a.1
  have h2:=PyD.depth a.2
  show PyData.depthAll [PyD.dat a.1,PyD.dat a.2] + 1≤_
  simp only [PyData.depthAll]
  omega
 eqv a b:=by
  rw [PyData.eqv]
  simp only [PyData.eqvAll,Bool.and_true,Bool.and_eq_true,PyD.eqv]
  exact ⟨fun h=>Prod.ext h.1 h.2,fun h=>by subst h; exact ⟨rfl,rfl⟩⟩
theorem drs_list {α:Type} [PyD α] {K:PySem.W.Frag} {N:Nn} {H:Hp}:∀ {xs:List V} {as:List α},Paired (fun x b=>Py.rp K N H x b) xs as→DRs K H xs (as.map PyD.dat)
 | _,_,.nil=>.nil
 | _,_,.cons h t=>.cons (PyD.dr h) (drs_list t)
theorem lay_list {α:Type} [PyD α]:∀ as:List α,PyData.canLayAll0 (as.map PyD.dat)=true
 | []=>rfl
 | a :: as=>by simp [PyData.canLayAll0,PyD.lay,lay_list as]
theorem dep_list {α:Type} [PyD α]:∀ as:List α,PyData.depthAll (as.map PyD.dat)≤PyD.dep α
 | []=>Nat.zero_le _
 | a :: as=>by
  have h1:=PyD.depth a
  have h2:=dep_list as
  simp only [List.map_cons,PyData.depthAll]
  omega
theorem eqv_list {α:Type} [PyD α]:∀ as bs:List α,PyData.eqvAll (as.map PyD.dat) (bs.map PyD.dat)=true↔as=bs
 | [],[]=>by simp [PyData.eqvAll]
 | [],_ :: _=>by simp [PyData.eqvAll]
 | _ :: _,[]=>by simp [PyData.eqvAll]
 | a :: as,b :: bs=>by simp [PyData.eqvAll,PyD.eqv,eqv_list as bs]
instance {α:Type} [PyD α]:PyD (List α) where
 dat a:=.list (a.map PyD.dat)
 dr h:=by
  obtain ⟨p,xs,e,s,n,r⟩:=h
  subst e
  exact .lst s (drs_list r)
 lay a:=lay_list a
 dep:=PyD.dep α + 1
 depth a:=by
  show PyData.depthAll (a.map PyD.dat) + 1≤_
  have:=dep_list a
  omega
 eqv a b:=by rw [PyData.eqv]; exact eqv_list a b
inductive Bd:Type 1
 | val {α:Type} [Py α] (b:Bool) (a:α):Bd
 | own {α:Type} [Py α] (b:Bool) (as:List α):Bd
 | dpo {α:Type} [Py α] (a:α):Bd
abbrev GEnv:=List (Option Bd)
def Nf (H0:Hp):Bool→Nn
 | true=>.new H0
 | false=>.any
theorem Nf.wk {H0 H:Hp} {b:Bool} {p:Addr} {xs:Mt} (h:H0 p=none) (hx:H p=some (mo xs)):(Nf H0 b).has H p xs:=by cases b; exact True.intro; exact ⟨h,hx⟩
theorem Nf.le {H0 H:Hp} {b b':Bool} {p:Addr} {xs:Mt} (l:b'=true→b=true) (h:(Nf H0 b).has H p xs):(Nf H0 b').has H p xs:=by
 cases b' with
 | false=>exact True.intro
 | true=>rw [l rfl] at h; exact h
def Bd.ok (K:PySem.W.Frag) (H0:Hp) (O:Addr→Prop) (H:Hp) (v:V):Bd→Prop
 | @Bd.val _ _ b a=>Py.rp K (Nf H0 b) (off H O) v a
 | @Bd.own _ _ _ _=>False
 | @Bd.dpo _ _ _=>False
def Bd.okD (K:PySem.W.Frag) (H0:Hp) (O:Addr→Prop) (H:Hp) (D:Addr→Prop) (v:V):Bd→Prop
 | @Bd.val _ _ _ _=>False
 | @Bd.own _ _ b as=>∃ p xs,v=.ref p∧D p∧H p=some (.lst xs)∧Paired (fun x a=>Py.rp K (Nf H0 b) (off H O) x a) xs as
 | @Bd.dpo _ _ a=>Py.rp K (.set D) H v a
def Bd.isOwn:Bd→Prop
 | @Bd.val _ _ _ _=>False
 | @Bd.own _ _ _ _=>True
 | @Bd.dpo _ _ _=>True
structure Sta (K:PySem.W.Frag) (H0:Hp) (F O:Addr→Prop) (Γ:GEnv) (σ:St) (H:Hp):Prop where
 same:Same H0 H
 fo:∀ p,F p→O p
 f0:∀ p,F p→∃ xs:Mt,H0 p=some (mo xs)
 own:∀ p,O p→∃ xs:Mt,H p=some (mo xs)
 len:σ.length=Γ.length
 at_:∀ (i:Nat) (g:Bd),Γ[i]?=some (some g)→¬ g.isOwn→∃ v,σ[i]?=some (some v)∧g.ok K H0 O H v
 dis:∃ D:Nat→Addr→Prop,(∀ i j p,D i p→D j p→i=j)∧(∀ i p,D i p→O p∧H0 p=none)∧∀ (i:Nat) (g:Bd),Γ[i]?=some (some g)→g.isOwn→∃ v,σ[i]?=some (some v)∧g.okD K H0 O H (D i) v
section
variable {K:PySem.W.Frag} {H0:Hp} {F O:Addr→Prop} {Γ:GEnv} {σ:St} {H H':Hp}
theorem Bd.go {v:V} {g:Bd} (s:Same H H') (h:g.ok K H0 O H v):g.ok K H0 O H' v:=by
 cases g with
 | val b a=>exact rp_mono (off_mono s) h
 | own b as=>exact h
 | dpo a=>exact h
theorem Bd.goD {v:V} {g:Bd} {D O':Addr→Prop} (h:g.okD K H0 O H D v) (hD:∀ p (xs:Mt),D p→H p=some (mo xs)→H' p=some (mo xs)) (so:Same (off H O) (off H' O')) (hO:∀ p,D p→O p) (hOl:∀ p,O p→∃ xs:Mt,H p=some (mo xs)):g.okD K H0 O' H' D v:=by
 cases g with
 | val b a=>exact h
 | own b as =>
  obtain ⟨p,xs,e,o,q,r⟩:=h
  exact ⟨p,xs,e,o,hD p (.inl xs) o q,pr_imp (fun _ _ z=>rp_mono so z) r⟩
 | dpo a =>
  have h':Py.rp K (.set D) H v a:=h
  refine Py.tr (α:=_) (a:=a) (fun p xs q n=>?_) (fun p xs q=>?_) h'
  ·obtain ⟨n1,n2⟩:=n
   have h2:=hD p xs n1 n2
   exact ⟨Mo.of h2,n1,h2⟩
  ·have hp:∀ u,(H p=some (.tup u)∨∃ o,H p=some (.frz o (.tup u)))→¬ O p:=fun u z hp=>by
    obtain ⟨ys,w⟩:=hOl p hp
    rcases z with z | ⟨o,z⟩
    ·rw [z] at w; rcases ys with ys | ys | ys <;> cases w
    ·rw [z] at w; rcases ys with ys | ys | ys <;> cases w
   have hp':=hp xs q.rd
   rcases q with q | ⟨o,q⟩
   ·exact .inl ((off_same _ _) _ _ (so _ _ (by rw [off_get hp']; exact q)))
   ·exact .inr ⟨o,(off_same _ _) _ _ (so _ _ (by rw [off_get hp']; exact q))⟩
theorem Sta.go (S:Sta K H0 F O Γ σ H) (s:Same H H'):Sta K H0 F O Γ σ H' where
 same:=S.same.trans s
 fo:=S.fo
 f0:=S.f0
 own:=fun p h=>let ⟨xs,q⟩:=S.own p h; ⟨xs,s _ _ q⟩
 len:=S.len
 at_:=fun i g e n=>let ⟨v,q,r⟩:=S.at_ i g e n; ⟨v,q,Bd.go s r⟩
 dis:=by
  obtain ⟨D,d1,d2,d3⟩:=S.dis
  refine ⟨D,d1,d2,fun i g e o=>?_⟩
  obtain ⟨v,q,r⟩:=d3 i g e o
  exact ⟨v,q,Bd.goD r (fun p xs _ z=>s _ _ z) (off_mono s) (fun p z=>(d2 i p z).1) S.own⟩
theorem Sta.free0 (S:Sta K H0 F O Γ σ H) {p:Addr} (h:H p=none):H0 p=none:=S.same.free h
theorem Sta.notOwn (S:Sta K H0 F O Γ σ H) {p:Addr} (h:H p=none):¬ O p:=fun o=>by
 obtain ⟨xs,q⟩:=S.own p o
 rw [h] at q; cases q
theorem Sta.back {α:Type} [Py α] {b:Bool} {v:V} {a:α} (S:Sta K H0 F O Γ σ H) (h:Py.rp K (Nf H b) (off H' O) v a):Py.rp K (Nf H0 b) (off H' O) v a :=
 rp_wid (fun p xs n=>by cases b with | true=>exact ⟨S.free0 n.1,n.2⟩ | false=>exact True.intro) h
end
theorem get_set_ne.{u} {α:Type u} {l:List α} {i j:Nat} {a:α} (h:j≠i):(l.set i a)[j]?=l[j]?:=by
 rw [List.getElem?_set_ne (Ne.symm h)]
theorem get_set_eq.{u} {α:Type u} {l:List α} {i:Nat} {a:α} (h:i < l.length):(l.set i a)[i]?=some a:=by
 rw [List.getElem?_set_self h]
theorem get_set_some.{u} {α:Type u} {l:List (Option α)} {i:Nat} {a x:α} (h:(l.set i (some a))[i]?=some (some x)):i < l.length∧a=x:=by
 by_cases hl:i < l.length
 ·rw [get_set_eq hl] at h
  injection h with h; injection h with h
  exact ⟨hl,h⟩
 ·rw [List.getElem?_eq_none (by rw [List.length_set]; omega)] at h; cases h
theorem Sta.set {K:PySem.W.Frag} {H0:Hp} {F O:Addr→Prop} {Γ:GEnv} {σ:St} {H:Hp} {α:Type} [Py α] {b:Bool} {a:α} {v:V} {i:Nat} (S:Sta K H0 F O Γ σ H) (r:Py.rp K (Nf H0 b) (off H O) v a) :
  Sta K H0 F O (Γ.set i (some (.val b a))) (σ.set i (some v)) H where
 same:=S.same
 fo:=S.fo
 f0:=S.f0
 own:=S.own
 len:=by rw [List.length_set,List.length_set]; exact S.len
 at_:=fun j g e n=>by
  by_cases hj:j=i
  ·subst hj
   obtain ⟨hl,e'⟩:=get_set_some e
   subst e'
   exact ⟨v,get_set_eq (by rw [S.len]; exact hl),r⟩
  ·rw [get_set_ne hj] at e
   obtain ⟨w,q,z⟩:=S.at_ j g e n
   exact ⟨w,by rw [get_set_ne hj]; exact q,z⟩
 dis:=by
  obtain ⟨D,d1,d2,d3⟩:=S.dis
  refine ⟨D,d1,d2,fun j g e o=>?_⟩
  have hj:j≠i:=by
   rintro rfl
   obtain ⟨_,e'⟩:=get_set_some e
   subst e'; exact o
  rw [get_set_ne hj] at e
  obtain ⟨w,q,z⟩:=d3 j g e o
  exact ⟨w,by rw [get_set_ne hj]; exact q,z⟩
def tV {α:Type} [Py α] (K:PySem.W.Frag) (Γ:GEnv) (b:Bool) (a:α):TE:=fun σ H Q=>∃ H0 F O,Sta K H0 F O Γ σ H∧∀ v H',Same H H'→Py.rp K (Nf H0 b) (off H' O) v a→Q v H'
@[irreducible] def E {α:Type} [Py α] (X:Cx) (Γ:GEnv) (e:Expr) (b:Bool) (a:α):Prop:=PE X e (tV X.K Γ b a)
def tVT (K:PySem.W.Frag) (Γ:GEnv) (c:Bool):TT:=fun σ H Q=>∃ H0 F O,Sta K H0 F O Γ σ H∧∀ H',Same H H'→Q c H'
@[irreducible] def T (X:Cx) (Γ:GEnv) (e:Expr) (c:Bool):Prop:=PT X e (tVT X.K Γ c)
@[irreducible] def TW (X:Cx) (Γ:GEnv) (e:Expr) (c:Bool):Prop:=PW X e (tVT X.K Γ c)
theorem pe_wk {X:Cx} {e:Expr} {t t':TE} (h:PE X e t) (w:∀ σ H Q,t' σ H Q→t σ H Q):PE X e t':=fun pins s σ H Q I q=>h pins s σ H Q I (w _ _ _ q)
theorem pt_wk {X:Cx} {e:Expr} {t t':TT} (h:PT X e t) (w:∀ σ H Q,t' σ H Q→t σ H Q):PT X e t':=fun pins s σ H Q I q=>h pins s σ H Q I (w _ _ _ q)
theorem pw_wk {X:Cx} {e:Expr} {t t':TT} (h:PW X e t) (w:∀ σ H Q,t' σ H Q→t σ H Q):PW X e t':=fun wh pins s σ H Q I q=>h wh pins s σ H Q I (w _ _ _ q)
section
variable {X:Cx} {Γ:GEnv} {α β γ:Type} [Py α] [Py β] [Py γ] {e e1 e2 e3:Expr} {b b1 b2 b3:Bool} {pos:Pos}
theorem E.wk {a:α} (h:E X Γ e b a) (l:b'=true→b=true):E X Γ e b' a:=by
 with_unfolding_all
  exact pe_wk h fun σ H Q ⟨H0,F,O,S,q⟩=>⟨H0,F,O,S,fun v H' s r=>q v H' s (rp_wid (fun _ _ n=>Nf.le l n) r)⟩
theorem e_var (i:Nat) {a:α} {x:Str} (h:Γ[i]?=some (some (.val b a)):=by rfl) (hN:X.N[i]?=some x:=by rfl) (hv:Vis X.env.scope x:=by first | exact Or.inl rfl | exact Or.inr (Or.inl rfl) | exact Or.inr (Or.inr rfl))
  (hd:(x == ("__debug__":Str))=false:=by decide) (hcd:(x == ("__classdict__":Str))=false:=by decide):E X Γ (.Name x pos) b a:=by
 with_unfolding_all
  exact pe_wk (pv i hN hv hd hcd) fun σ H Q ⟨H0,F,O,S,q⟩=>by
    obtain ⟨v,h1,h2⟩:=S.at_ i _ h (fun z=>z)
    exact ⟨v,h1,q v H (Same.refl _) h2⟩
theorem e_int {i:Int} {j:Nat}:E X Γ (.Constant (.int i) j pos) true i:=by
 with_unfolding_all
  exact pe_wk pe_int fun σ H Q ⟨H0,F,O,S,q⟩=>q _ H (Same.refl _) rfl
theorem e_bl {i:Bool} {j:Nat}:E X Γ (.Constant (.bool i) j pos) true i:=by
 with_unfolding_all
  exact pe_wk pe_bl fun σ H Q ⟨H0,F,O,S,q⟩=>q _ H (Same.refl _) rfl
theorem e_non {j:Nat}:E X Γ (.Constant .none j pos) true (none:Option α):=by
 with_unfolding_all
  exact pe_wk pe_non fun σ H Q ⟨H0,F,O,S,q⟩=>q _ H (Same.refl _) rfl
theorem e_str {x:Str} {j:Nat}:E X Γ (.Constant (.str x) j pos) true x:=by
 with_unfolding_all
  exact pe_wk pe_str fun σ H Q ⟨H0,F,O,S,q⟩=>q _ H (Same.refl _) rfl
theorem E.some {a:α} (h:E X Γ e b a):E X Γ e b (some a):=by
 with_unfolding_all
  exact pe_wk h fun σ H Q ⟨H0,F,O,S,q⟩=>⟨H0,F,O,S,fun v H' s r=>q v H' s r⟩
theorem e_ii {op:Operator} {C:Int→Int→Prop} {g:Int→Int→Int} {i j:Int} (ho:OpR X (binaryOp op) (rI C fun i j=>.int (g i j))) (ha:E X Γ e1 b1 i) (hb:E X Γ e2 b2 j) (hc:C i j):E X Γ (.BinOp e1 op e2 pos) true (g i j):=by
 with_unfolding_all
  exact pe_wk (pe_op ho ha hb) fun σ H Q ⟨H0,F,O,S,q⟩=>⟨H0,F,O,S,fun v H1 s1 r1=>⟨H0,F,O,S.go s1,fun w H2 s2 r2=>⟨i,j,r1,r2,hc,q _ H2 (s1.trans s2) rfl⟩⟩⟩
theorem e_add {i j:Int} (ha:E X Γ e1 b1 i) (hb:E X Γ e2 b2 j):E X Γ (.BinOp e1 .Add e2 pos) true (i + j):=by
 with_unfolding_all
  exact e_ii (C:=fun _ _=>True) (fun pins s σ H x y v u Q I rx ry ⟨i,j,h1,h2,_,q⟩=>op_add pins s σ H x y v u Q I rx ry ⟨i,j,h1,h2,q⟩) ha hb True.intro
theorem e_sub {i j:Int} (ha:E X Γ e1 b1 i) (hb:E X Γ e2 b2 j):E X Γ (.BinOp e1 .Sub e2 pos) true (i - j):=by
 with_unfolding_all
  exact e_ii (C:=fun _ _=>True) (fun pins s σ H x y v u Q I rx ry ⟨i,j,h1,h2,_,q⟩=>op_sub pins s σ H x y v u Q I rx ry ⟨i,j,h1,h2,q⟩) ha hb True.intro
theorem e_mul {i j:Int} (ha:E X Γ e1 b1 i) (hb:E X Γ e2 b2 j) (hc:IntMulOk i j):E X Γ (.BinOp e1 .Mult e2 pos) true (i * j):=by
 with_unfolding_all
  exact e_ii op_mulK ha hb hc
theorem e_fdiv {i j:Int} (ha:E X Γ e1 b1 i) (hb:E X Γ e2 b2 j) (hc:CDivK i j):E X Γ (.BinOp e1 .FloorDiv e2 pos) true (i.fdiv j):=by
 with_unfolding_all
  exact e_ii op_fdivK ha hb hc
theorem e_mod {i j:Int} (ha:E X Γ e1 b1 i) (hb:E X Γ e2 b2 j) (hc:j≠0):E X Γ (.BinOp e1 .Mod e2 pos) true (i.fmod j):=by
 with_unfolding_all
  exact e_ii op_modN ha hb hc
theorem e_pow {i j:Int} (ha:E X Γ e1 b1 i) (hb:E X Γ e2 b2 j) (hc:CPow i j):E X Γ (.BinOp e1 .Pow e2 pos) true (i ^ j.toNat):=by
 with_unfolding_all
  exact e_ii op_pow ha hb hc
theorem e_neg {i:Int} (ha:E X Γ e1 b1 i):E X Γ (.UnaryOp .USub e1 pos) true (-i):=by
 with_unfolding_all
  exact pe_wk (pe_un un_neg ha) fun σ H Q ⟨H0,F,O,S,q⟩=>⟨H0,F,O,S,fun v H1 s1 r1=>⟨i,r1,q _ H1 s1 rfl⟩⟩
def CV (X:Cx) (op:CmpOp) (x:α) (y:β) (c:Bool):Prop:=∃ r,OpR X (compareOp op) r∧∀ (N N':Nn) (H:Hp) (u v:V) (Q:VK),Py.rp X.K N H u x→Py.rp X.K N' H v y→Q (.bl c) H→r u v H Q
theorem cv_ii {op:CmpOp} {g:Int→Int→Bool} (ho:OpR X (compareOp op) (rI0 fun i j=>.bl (g i j))) (i j:Int):CV X op i j (g i j):=⟨_,ho,fun N N' H u v Q h1 h2 q=>⟨i,j,h1,h2,q⟩⟩
theorem cv_lt {i j:Int}:CV X .Lt i j (decide (i < j)):=cv_ii op_lt i j
theorem cv_le {i j:Int}:CV X .LtE i j (decide (i≤j)):=cv_ii op_le i j
theorem cv_gt {i j:Int}:CV X .Gt i j (decide (j < i)):=cv_ii op_gt i j
theorem cv_ge {i j:Int}:CV X .GtE i j (decide (j≤i)):=cv_ii op_ge i j
theorem cv_eqI {i j:Int}:CV X .Eq i j (decide (i=j)):=⟨_,op_eq,fun N N' H u v Q h1 h2 q=>by
 cases h1; cases h2
 refine ⟨rfl,?_⟩
 rw [dec_int,Bool.beq_eq_decide_eq]; exact q⟩
theorem cv_neI {i j:Int}:CV X .NotEq i j (!decide (i=j)):=⟨_,op_ne,fun N N' H u v Q h1 h2 q=>by
 cases h1; cases h2
 refine ⟨rfl,?_⟩
 rw [dec_int,Bool.beq_eq_decide_eq]; exact q⟩
theorem cv_eq {α:Type} [PyD α] [DecidableEq α] {x y:α} (hu:X.A.units + 60 < cLine) (hd:PyD.dep α≤60:=by decide):CV X .Eq x y (decide (x=y)):=⟨_,op_eqD hu,fun N N' H u v Q h1 h2 q=>by
 refine ⟨_,_,PyD.dr h1,PyD.dr h2,PyD.lay _,PyD.lay _,Nat.le_trans (PyD.depth _) hd,?_⟩
 have e:PyData.eqv (PyD.dat x) (PyD.dat y)=decide (x=y):=by
  by_cases h:x=y
  ·rw [decide_eq_true h]; exact (PyD.eqv x y).mpr h
  ·rw [decide_eq_false h]; exact Bool.eq_false_iff.mpr fun z=>h ((PyD.eqv x y).mp z)
 rw [e]; exact q⟩
theorem cv_ne {α:Type} [PyD α] [DecidableEq α] {x y:α} (hu:X.A.units + 60 < cLine) (hd:PyD.dep α≤60:=by decide):CV X .NotEq x y (!decide (x=y)):=⟨_,op_neD hu,fun N N' H u v Q h1 h2 q=>by
 refine ⟨_,_,PyD.dr h1,PyD.dr h2,PyD.lay _,PyD.lay _,Nat.le_trans (PyD.depth _) hd,?_⟩
 have e:PyData.eqv (PyD.dat x) (PyD.dat y)=decide (x=y):=by
  by_cases h:x=y
  ·rw [decide_eq_true h]; exact (PyD.eqv x y).mpr h
  ·rw [decide_eq_false h]; exact Bool.eq_false_iff.mpr fun z=>h ((PyD.eqv x y).mp z)
 rw [e]; exact q⟩
theorem e_cmp {op:CmpOp} {x:α} {y:β} {c:Bool} (hc:CV X op x y c) (ha:E X Γ e1 b1 x) (hb:E X Γ e2 b2 y) (hm:behindInMarks op e2=false:=by first | exact nomark _ | rfl):E X Γ (.Compare e1 [op] [e2] pos) true c:=by
 with_unfolding_all
  obtain ⟨r,ho,hr⟩:=hc
  exact pe_wk (pe_cmpR ho ha hb hm) fun σ H Q ⟨H0,F,O,S,q⟩=>⟨H0,F,O,S,fun v H1 s1 r1=>⟨H0,F,O,S.go s1,fun w H2 s2 r2 =>
   hr _ _ H2 v w _ (rp_mono ((off_mono s2).trans (off_same _ _)) r1) (rp_mono (off_same _ _) r2) (q _ H2 (s1.trans s2) rfl)⟩⟩
theorem t_cmp {op:CmpOp} {x:α} {y:β} {c:Bool} (hc:CV X op x y c) (ha:E X Γ e1 b1 x) (hb:E X Γ e2 b2 y) (hm:behindInMarks op e2=false:=by first | exact nomark _ | rfl):T X Γ (.Compare e1 [op] [e2] pos) c:=by
 with_unfolding_all
  obtain ⟨r,ho,hr⟩:=hc
  exact pt_wk (pt_cmpR ho ha hb hm) fun σ H Q ⟨H0,F,O,S,q⟩=>⟨H0,F,O,S,fun v H1 s1 r1=>⟨H0,F,O,S.go s1,fun w H2 s2 r2 =>
   hr _ _ H2 v w _ (rp_mono ((off_mono s2).trans (off_same _ _)) r1) (rp_mono (off_same _ _) r2) ⟨c,rfl,q H2 (s1.trans s2)⟩⟩⟩
theorem t_isN {x:Option α} {j:Nat} {p:Pos} (ha:E X Γ e1 b1 x) (hx:∀ (K:PySem.W.Frag) (N:Nn) (H:Hp) (a:α),¬ Py.rp K N H .non a):T X Γ (.Compare e1 [.Is] [.Constant .none j p] pos) x.isNone:=by
 with_unfolding_all
  exact pt_wk (pt_cmp (pc_isN ha)) fun σ H Q ⟨H0,F,O,S,q⟩=>⟨H0,F,O,S,fun v H1 s1 r1=>by
    refine ⟨decide (v=.non),rfl,?_⟩
    have e:decide (v=.non)=x.isNone:=by
     cases x with
     | none=>cases r1; rfl
     | some a =>
      have hv:v≠.non:=by rintro rfl; exact hx _ _ _ a r1
      rw [decide_eq_false hv]; rfl
    rw [e]; exact q H1 s1⟩
theorem t_val {c:Bool} (h:E X Γ e b c) (he:∀ whole,isTrue e X.env whole=(do let v ← whole; standAt e.pos; holding [v] (truthy v)):=by intro _; rfl):T X Γ e c:=by
 with_unfolding_all
  exact pt_wk (pt_val h he) fun σ H Q ⟨H0,F,O,S,q⟩=>⟨H0,F,O,S,fun v H1 s1 r1=>⟨c,r1,q H1 s1⟩⟩
theorem t_not {c:Bool} (h:T X Γ e c):T X Γ (.UnaryOp .Not e pos) (!c):=by
 with_unfolding_all
  exact pt_wk (pt_not h) fun σ H Q ⟨H0,F,O,S,q⟩=>⟨H0,F,O,S,fun H1 s1=>q H1 s1⟩
variable {rest:List Expr}
theorem tw_and1 {c:Bool} (h:T X Γ e c):TW X Γ (.BoolOp .And [e] pos) c:=by
 with_unfolding_all
  exact pw_and1 h
theorem tw_or1 {c:Bool} (h:T X Γ e c):TW X Γ (.BoolOp .Or [e] pos) c:=by
 with_unfolding_all
  exact pw_or1 h
theorem pw_no:PW X e (fun _ _ _=>False):=fun _ _ _ _ _ _ _ h=>h.elim
theorem pe_no:PE X e (fun _ _ _=>False):=fun _ _ _ _ _ _ h=>h.elim
theorem tw_and {c c':Bool} (h:T X Γ e1 c) (h':c=true→TW X Γ (.BoolOp .And (e2 :: rest) pos) c'):TW X Γ (.BoolOp .And (e1 :: e2 :: rest) pos) (c && c'):=by
 with_unfolding_all
  cases c with
  | true=>exact pw_wk (pw_and h (h' rfl)) fun σ H Q ⟨H0,F,O,S,q⟩=>⟨H0,F,O,S,fun H1 s1=>iteT ⟨H0,F,O,S.go s1,fun H2 s2=>q H2 (s1.trans s2)⟩⟩
  | false=>exact pw_wk (pw_and h pw_no) fun σ H Q ⟨H0,F,O,S,q⟩=>⟨H0,F,O,S,fun H1 s1=>iteF (q H1 s1)⟩
theorem tw_or {c c':Bool} (h:T X Γ e1 c) (h':c=false→TW X Γ (.BoolOp .Or (e2 :: rest) pos) c'):TW X Γ (.BoolOp .Or (e1 :: e2 :: rest) pos) (c || c'):=by
 with_unfolding_all
  cases c with
  | false=>exact pw_wk (pw_or h (h' rfl)) fun σ H Q ⟨H0,F,O,S,q⟩=>⟨H0,F,O,S,fun H1 s1=>iteF ⟨H0,F,O,S.go s1,fun H2 s2=>q H2 (s1.trans s2)⟩⟩
  | true=>exact pw_wk (pw_or h pw_no) fun σ H Q ⟨H0,F,O,S,q⟩=>⟨H0,F,O,S,fun H1 s1=>iteT (q H1 s1)⟩
theorem TW.t {c:Bool} (h:TW X Γ e c):T X Γ e c:=by
 with_unfolding_all
  exact h.pt
theorem e_one {op:BoolOp} {a:α} (h:E X Γ e b a):E X Γ (.BoolOp op [e] pos) b a:=by
 with_unfolding_all
  exact pe_one h
theorem e_and {c c':Bool} (h:E X Γ e1 b1 c) (h':c=true→E X Γ (.BoolOp .And (e2 :: rest) pos) b2 c'):E X Γ (.BoolOp .And (e1 :: e2 :: rest) pos) true (c && c'):=by
 with_unfolding_all
  cases c with
  | true=>exact pe_wk (pe_and h (h' rfl)) fun σ H Q ⟨H0,F,O,S,q⟩=>⟨H0,F,O,S,fun v H1 s1 r1=>⟨true,r1,iteT ⟨H0,F,O,S.go s1,fun w H2 s2 r2=>q w H2 (s1.trans s2) r2⟩⟩⟩
  | false=>exact pe_wk (pe_and h pe_no) fun σ H Q ⟨H0,F,O,S,q⟩=>⟨H0,F,O,S,fun v H1 s1 r1=>⟨false,r1,iteF (q _ H1 s1 rfl)⟩⟩
theorem e_not {c:Bool} (h:E X Γ e b c):E X Γ (.UnaryOp .Not e pos) true (!c):=by
 with_unfolding_all
  exact pe_wk (pe_not h) fun σ H Q ⟨H0,F,O,S,q⟩=>⟨H0,F,O,S,fun v H1 s1 r1=>⟨c,r1,q _ H1 s1 rfl⟩⟩
theorem e_if {c:Bool} {x y:α} (hc:T X Γ e c) (ha:c=true→E X Γ e1 b x) (hb:c=false→E X Γ e2 b y):E X Γ (.IfExp e e1 e2 pos) b (if c then x else y):=by
 with_unfolding_all
  cases c with
  | true=>exact pe_wk (pe_ifExp hc (ha rfl) pe_no) fun σ H Q ⟨H0,F,O,S,q⟩=>⟨H0,F,O,S,fun H1 s1=>iteT ⟨H0,F,O,S.go s1,fun w H2 s2 r2=>q w H2 (s1.trans s2) r2⟩⟩
  | false=>exact pe_wk (pe_ifExp hc pe_no (hb rfl)) fun σ H Q ⟨H0,F,O,S,q⟩=>⟨H0,F,O,S,fun H1 s1=>iteF ⟨H0,F,O,S.go s1,fun w H2 s2 r2=>q w H2 (s1.trans s2) r2⟩⟩
theorem nf_and1 {H0 H:Hp} {p:Addr} {xs:Mt} (h:(Nf H0 b1).has H p xs):(Nf H0 (b1 && b2)).has H p xs:=Nf.le (fun z=>(Bool.and_eq_true_iff.mp z).1) h
theorem nf_and2 {H0 H:Hp} {p:Addr} {xs:Mt} (h:(Nf H0 b2).has H p xs):(Nf H0 (b1 && b2)).has H p xs:=Nf.le (fun z=>(Bool.and_eq_true_iff.mp z).2) h
theorem laid_tup {K:PySem.W.Frag} {H0 H:Hp} {F O:Addr→Prop} {Γ:GEnv} {σ:St} {p:Addr} {xs:List V} (S:Sta K H0 F O Γ σ H) (hp:H p=none):Same H (upd H p (.tup xs))∧Rt (off (upd H p (.tup xs)) O) p xs:=by
 with_unfolding_all
  exact ⟨same_upd hp _,.inl (by rw [off_get (S.notOwn hp)]; exact upd_same)⟩
theorem laid_lst {K:PySem.W.Frag} {H0 H:Hp} {F O:Addr→Prop} {Γ:GEnv} {σ:St} {p:Addr} {xs:List V} (S:Sta K H0 F O Γ σ H) (hp:H p=none):Same H (upd H p (.lst xs))∧off (upd H p (.lst xs)) O p=some (.lst xs):=by
 with_unfolding_all
  exact ⟨same_upd hp _,by rw [off_get (S.notOwn hp)]; exact upd_same⟩
theorem e_tup2 {x:α} {y:β} {k:Nat} (ha:E X Γ e1 b1 x) (hb:E X Γ e2 b2 y) (hs:starEach [e1,e2] X.env=(false,eval e1 X.env) :: starEach [e2] X.env:=by rfl) (hs2:starEach [e2] X.env=(false,eval e2 X.env) :: starEach [] X.env:=by rfl) :
  E X Γ (.Tuple [e1,e2] k pos) (b1 && b2) (x,y):=by
 with_unfolding_all
  exact pe_wk (pe_tup (pa_cons ha (pa_cons hb pa_nil hs2) hs)) fun σ H Q ⟨H0,F,O,S,q⟩=>⟨H0,F,O,S,fun v H1 s1 r1=>⟨H0,F,O,S.go s1,fun w H2 s2 r2=>⟨by show 2≤sizeLine; decide,fun p hp=>by
    obtain ⟨z1,z2⟩:=laid_tup (xs:=[v,w]) ((S.go s1).go s2) hp
    refine q _ _ (s1.trans (s2.trans z1)) ⟨p,v,w,rfl,z2,?_,?_⟩
    ·exact rp_wid (fun _ _ n=>nf_and1 n) (rp_mono ((off_mono s2).trans (off_mono z1)) r1)
    ·exact rp_wid (fun _ _ n=>nf_and2 n) (rp_mono (off_mono z1) r2)⟩⟩⟩
@[irreducible] def EA (X:Cx) (Γ:GEnv) (es:List Expr) (b:Bool) (as:List α):Prop :=
 PA X es fun σ H Q=>∃ H0 F O,Sta X.K H0 F O Γ σ H∧∀ vs H',Same H H'→Paired (fun x a=>Py.rp X.K (Nf H0 b) (off H' O) x a) vs as→Q vs H'
theorem pa_wk {X:Cx} {es:List Expr} {t t':TA} (h:PA X es t) (w:∀ σ H Q,t' σ H Q→t σ H Q):PA X es t':=fun p pins s σ H Q I q=>h p pins s σ H Q I (w _ _ _ q)
theorem ea_nil:EA X Γ [] b ([]:List α):=by
 with_unfolding_all
  exact pa_wk pa_nil fun σ H Q ⟨H0,F,O,S,q⟩=>q [] H (Same.refl _) .nil
theorem ea_cons {es:List Expr} {a:α} {as:List α} (h:E X Γ e b a) (h':EA X Γ es b as) (hs:starEach (e :: es) X.env=(false,eval e X.env) :: starEach es X.env:=by rfl):EA X Γ (e :: es) b (a :: as):=by
 with_unfolding_all
  exact pa_wk (pa_cons h h' hs) fun σ H Q ⟨H0,F,O,S,q⟩=>⟨H0,F,O,S,fun v H1 s1 r1=>⟨H0,F,O,S.go s1,fun vs H2 s2 r2=>q _ H2 (s1.trans s2) (.cons (rp_mono (off_mono s2) r1) r2)⟩⟩
theorem e_lst {es:List Expr} {as:List α} (h:EA X Γ es b as) (hl:as.length≤1000):E X Γ (.List es pos) b as:=by
 with_unfolding_all
  exact pe_wk (pe_lst h) fun σ H Q ⟨H0,F,O,S,q⟩=>⟨H0,F,O,S,fun vs H1 s1 r1=>⟨by rw [pr_len r1]; exact Nat.le_of_lt (small1000 hl),fun p hp=>by
    obtain ⟨z1,z2⟩:=laid_lst (xs:=vs) (S.go s1) hp
    exact q _ _ (s1.trans z1) ⟨p,vs,rfl,SqL.of z2,Nf.wk ((S.go s1).free0 hp) z2,pr_imp (fun _ _ r=>rp_mono (off_mono z1) r) r1⟩⟩⟩
theorem e_ixL {xs:List α} {i:Int} {a:α} (ha:E X Γ e1 b xs) (hb:E X Γ e2 b2 i) (h:atI xs i=some a) (hs:PlainIx e2:=by intro _ _; rfl):E X Γ (.Subscript e1 e2 pos) b a:=by
 with_unfolding_all
  exact pe_wk (pe_ix ix_list ha hb hs) fun σ H Q ⟨H0,F,O,S,q⟩=>⟨H0,F,O,S,fun v H1 s1 r1=>⟨H0,F,O,S.go s1,fun w H2 s2 r2=>by
    obtain ⟨p,vs,e,sq,n,r⟩:=r1
    obtain ⟨j,h1,h2,h3,h4,h5⟩:=atI_get h
    obtain ⟨x,g1,g2⟩:=pr_get r h2
    refine ⟨p,vs,i,x,e,r2,(off_same _ _).seq ((off_mono s2).seq sq),?_,q x H2 (s1.trans s2) (rp_mono (off_mono s2) g2)⟩
    unfold atI at h ⊢
    rw [pr_len r]
    cases hx:ixN xs.length i with
    | none=>rw [hx] at h; cases h
    | some k =>
     have hk:=(ixN_seq hx).1
     rw [h1] at hk; cases hk
     exact g1⟩⟩
theorem e_fst {u:α × β} {j:Nat} {p':Pos} (ha:E X Γ e1 b u):E X Γ (.Subscript e1 (.Constant (.int 0) j p') pos) b u.1:=by
 with_unfolding_all
  exact pe_wk (pe_ix ix_tup ha e_int (fun _ _=>rfl)) fun σ H Q ⟨H0,F,O,S,q⟩=>⟨H0,F,O,S,fun v H1 s1 r1=>⟨H0,F,O,S.go s1,fun w H2 s2 r2=>by
    obtain ⟨p,u,w',e,sq,g1,g2⟩:=r1
    exact ⟨p,_,0,u,e,r2,sqT_rd (off_same _ _) (Same.rt (off_mono s2) sq),rfl,q u H2 (s1.trans s2) (rp_mono (off_mono s2) g1)⟩⟩⟩
theorem e_snd {u:α × β} {j:Nat} {p':Pos} (ha:E X Γ e1 b u):E X Γ (.Subscript e1 (.Constant (.int 1) j p') pos) b u.2:=by
 with_unfolding_all
  exact pe_wk (pe_ix ix_tup ha e_int (fun _ _=>rfl)) fun σ H Q ⟨H0,F,O,S,q⟩=>⟨H0,F,O,S,fun v H1 s1 r1=>⟨H0,F,O,S.go s1,fun w H2 s2 r2=>by
    obtain ⟨p,u,w',e,sq,g1,g2⟩:=r1
    exact ⟨p,_,1,w',e,r2,sqT_rd (off_same _ _) (Same.rt (off_mono s2) sq),rfl,q w' H2 (s1.trans s2) (rp_mono (off_mono s2) g2)⟩⟩⟩
theorem e_abs {i:Int} {p:Pos} (hg:Gl X "abs") (hm:X.mg "abs"=none) (ha:E X Γ e b i) (hs:starEach [e] X.env=(false,eval e X.env) :: starEach [] X.env:=by rfl):E X Γ (.Call (.Name "abs" p) [e] [] pos) true (if i < 0 then -i else i):=by
 with_unfolding_all
  exact pe_wk (pe_callB call_abs hg hm boot_abs (pa_cons ha pa_nil hs) (he:=hs)) fun σ H Q ⟨H0,F,O,S,q⟩=>⟨H0,F,O,S,fun v H1 s1 r1=>⟨i,by cases r1; rfl,q _ H1 s1 rfl⟩⟩
theorem e_min {i j:Int} {p:Pos} (hc:X.calm=true) (hg:Gl X "min") (hm:X.mg "min"=none) (ha:E X Γ e1 b1 i) (hb:E X Γ e2 b2 j) (hs:starEach [e1,e2] X.env=(false,eval e1 X.env) :: starEach [e2] X.env:=by rfl) (hs2:starEach [e2] X.env=(false,eval e2 X.env) :: starEach [] X.env:=by rfl) (hpl:(backTo pos (starEach [e2] X.env)).any (·.1)=false:=by rfl) :
  E X Γ (.Call (.Name "min" p) [e1,e2] [] pos) true (if j < i then j else i):=by
 with_unfolding_all
  exact pe_wk (pe_callB (call_min2 hc) hg hm boot_min (pa_cons ha (pa_cons hb pa_nil hs2) hs) (he:=hs) (hpl:=hpl)) fun σ H Q ⟨H0,F,O,S,q⟩=>⟨H0,F,O,S,fun v H1 s1 r1=>⟨H0,F,O,S.go s1,fun w H2 s2 r2=>⟨i,j,by cases r1; cases r2; rfl,q _ H2 (s1.trans s2) rfl⟩⟩⟩
theorem e_max {i j:Int} {p:Pos} (hc:X.calm=true) (hg:Gl X "max") (hm:X.mg "max"=none) (ha:E X Γ e1 b1 i) (hb:E X Γ e2 b2 j) (hs:starEach [e1,e2] X.env=(false,eval e1 X.env) :: starEach [e2] X.env:=by rfl) (hs2:starEach [e2] X.env=(false,eval e2 X.env) :: starEach [] X.env:=by rfl) (hpl:(backTo pos (starEach [e2] X.env)).any (·.1)=false:=by rfl) :
  E X Γ (.Call (.Name "max" p) [e1,e2] [] pos) true (if j > i then j else i):=by
 with_unfolding_all
  exact pe_wk (pe_callB (call_max2 hc) hg hm boot_max (pa_cons ha (pa_cons hb pa_nil hs2) hs) (he:=hs) (hpl:=hpl)) fun σ H Q ⟨H0,F,O,S,q⟩=>⟨H0,F,O,S,fun v H1 s1 r1=>⟨H0,F,O,S.go s1,fun w H2 s2 r2=>⟨i,j,by cases r1; cases r2; rfl,q _ H2 (s1.trans s2) rfl⟩⟩⟩
theorem e_lenL {xs:List α} {p:Pos} (hg:Gl X "len") (hm:X.mg "len"=none) (ha:E X Γ e b xs) (hs:starEach [e] X.env=(false,eval e X.env) :: starEach [] X.env:=by rfl):E X Γ (.Call (.Name "len" p) [e] [] pos) true (xs.length:Int):=by
 with_unfolding_all
  exact pe_wk (pe_callB call_len_seq hg hm PySem.boot_len (pa_cons ha pa_nil hs) (he:=hs)) fun σ H Q ⟨H0,F,O,S,q⟩=>⟨H0,F,O,S,fun v H1 s1 r1=>by
    obtain ⟨p,vs,e,sq,n,r⟩:=r1
    refine ⟨p,vs,by rw [e],.inl ((off_same _ _).seq sq),q _ H1 s1 ?_⟩
    show V.int _=V.int _
    rw [pr_len r]⟩
theorem e_intB {c:Bool} {p:Pos} (hg:Gl X "int") (hm:X.mg "int"=none) (ha:E X Γ e b c) (hs:starEach [e] X.env=(false,eval e X.env) :: starEach [] X.env:=by rfl):E X Γ (.Call (.Name "int" p) [e] [] pos) true (if c then (1:Int) else 0):=by
 with_unfolding_all
  exact pe_wk (pe_callTy call_int1 hg hm PyProof.Rows.boot_int (pa_cons ha pa_nil hs) (he:=hs)) fun σ H Q ⟨H0,F,O,S,q⟩=>⟨H0,F,O,S,fun v H1 s1 r1=>.inr ⟨c,by cases r1; rfl,q _ H1 s1 rfl⟩⟩
end
structure GD where
 nx:GEnv→Prop
 rt:Bd→Prop
 bk:GEnv→Prop:=fun _=>False
 ct:GEnv→Prop:=fun _=>False
def Bd.okR (K:PySem.W.Frag) (H0:Hp) (F:Addr→Prop) (H:Hp) (v:V):Bd→Prop
 | @Bd.val _ _ b a=>Py.rp K (Nf H0 b) (off H F) v a
 | @Bd.own _ _ _ _=>False
 | @Bd.dpo _ _ _=>False
def tG (K:PySem.W.Frag) (Γ:GEnv) (D:GD):TS:=fun De σ H=>∃ H0 F O,Sta K H0 F O Γ σ H ∧
 (∀ Γ' σ' H' O',Same (off H O) (off H' O')→Sta K H0 F O' Γ' σ' H'→D.nx Γ'→De.nx σ' H') ∧
 (∀ g v H',Same H0 H'→Bd.okR K H0 F H' v g→D.rt g→De.rt v H') ∧
 (∀ Γ' σ' H' O',Same (off H O) (off H' O')→Sta K H0 F O' Γ' σ' H'→D.bk Γ'→De.bk σ' H') ∧
 (∀ Γ' σ' H' O',Same (off H O) (off H' O')→Sta K H0 F O' Γ' σ' H'→D.ct Γ'→De.ct σ' H')
@[irreducible] def S (X:Cx) (Γ:GEnv) (st:List Stmt) (D:GD):Prop:=PSs X st (tG X.K Γ D)
@[irreducible] def S1 (X:Cx) (Γ:GEnv) (st:Stmt) (D:GD):Prop:=PS X st (tG X.K Γ D)
theorem ps_wk {X:Cx} {st:Stmt} {t t':TS} (h:PS X st t) (w:∀ D σ H,t' D σ H→t D σ H):PS X st t':=fun pins s σ H D I q=>h pins s σ H D I (w _ _ _ q)
theorem pss_wk {X:Cx} {st:List Stmt} {t t':TS} (h:PSs X st t) (w:∀ D σ H,t' D σ H→t D σ H):PSs X st t':=fun pins s σ H D I q=>h pins s σ H D I (w _ _ _ q)
section
variable {X:Cx} {Γ:GEnv} {D:GD} {α β γ:Type} [Py α] [Py β] [Py γ] {e e1 e2 e3:Expr} {b b1 b2 b3:Bool} {pos:Pos} {st:Stmt} {rest body orelse:List Stmt}
theorem s_nil (h:D.nx Γ):S X Γ [] D:=by
 with_unfolding_all
  exact pss_wk pss_nil fun De σ H ⟨H0,F,O,Z,n,_⟩=>n Γ σ H O (Same.refl _) Z h
theorem pss_some {X:Cx} {st:List Stmt} {ι:Type 1} {P:ι→Prop} {t:ι→TS} (h:∀ i,P i→PSs X st (t i)):PSs X st (fun D σ H=>∃ i,P i∧t i D σ H):=fun pins s σ H D I ⟨i,p,q⟩=>h i p pins s σ H D I q
theorem s_seq (h:S1 X Γ st { D with nx:=fun Γ'=>S X Γ' rest D }):S X Γ (st :: rest) D:=by
 with_unfolding_all
  exact pss_wk (pss_cons h (pss_some (ι:=GEnv) (P:=fun Γ'=>S X Γ' rest D) (t:=fun Γ'=>tG X.K Γ' D) fun _ q=>q)) fun De σ H ⟨H0,F,O,Z,n,r,bk,ct⟩ =>
    ⟨H0,F,O,Z,fun Γ' σ' H' O' sm Z' q=>⟨Γ',q,H0,F,O',Z',fun Γ2 σ2 H2 O2 sm2 Z2 q2=>n Γ2 σ2 H2 O2 (sm.trans sm2) Z2 q2,r,fun Γ2 σ2 H2 O2 sm2 Z2 q2=>bk Γ2 σ2 H2 O2 (sm.trans sm2) Z2 q2,
     fun Γ2 σ2 H2 O2 sm2 Z2 q2=>ct Γ2 σ2 H2 O2 (sm.trans sm2) Z2 q2⟩,r,bk,ct⟩
theorem s_asg (i:Nat) {x:Str} {a:α} {p:Pos} (hN:X.N.Nodup) (he:E X Γ e b a) (h:S X (Γ.set i (some (.val b a))) rest D) (hi:X.N[i]?=some x:=by rfl) (hx:Loc X.env.scope x:=by first | exact Or.inl rfl | exact Or.inr rfl)
  (hs:swapsWith e (some (.Name x p)) pos.line X.env=pure false:=by rfl) (hf:X.fn x=true∨X.env.scope.names.lookup x=some .local:=by first | exact .inl rfl | exact .inr rfl):S X Γ (.Assign [.Name x p] e pos :: rest) D:=by
 with_unfolding_all
  exact s_seq (ps_wk (ps_set hN hi hx he hs hf) fun De σ H ⟨H0,F,O,Z,n,_⟩=>⟨H0,F,O,Z,fun v H1 s1 r1=>n _ _ H1 O (off_mono s1) ((Z.go s1).set r1) h⟩)
theorem s_expr {a:α} (he:E X Γ e b a) (h:S X Γ rest D) (hs:swapsWith e none pos.line X.env=pure false:=by rfl):S X Γ (.Expr e pos :: rest) D:=by
 with_unfolding_all
  exact s_seq (ps_wk (ps_expr he hs) fun De σ H ⟨H0,F,O,Z,n,_⟩=>⟨H0,F,O,Z,fun v H1 s1 r1=>n Γ σ H1 O (off_mono s1) (Z.go s1) h⟩)
theorem s_ret {a:α} (he:E X Γ e b a) (h:D.rt (.val b a)):S X Γ (.Return (some e) pos :: rest) D:=by
 with_unfolding_all
  exact s_seq (ps_wk (ps_ret he) fun De σ H ⟨H0,F,O,Z,n,r,_⟩=>⟨H0,F,O,Z,fun v H1 s1 r1=>r (.val b a) v H1 ((Z.go s1).same) (rp_mono (off_less Z.fo) r1) h⟩)
theorem s_if {c:Bool} (hc:T X Γ e c) (h1:c=true→S X Γ body { D with nx:=fun Γ'=>S X Γ' rest D }) (h2:c=false→S X Γ orelse { D with nx:=fun Γ'=>S X Γ' rest D }):S X Γ (.If e body orelse pos :: rest) D:=by
 with_unfolding_all
  cases c with
  | true=>exact s_seq (ps_wk (ps_if hc (h1 rfl) pss_never) fun De σ H ⟨H0,F,O,Z,n,r,bk,ct⟩=>⟨H0,F,O,Z,fun H1 s1=>iteT ⟨H0,F,O,Z.go s1,fun Γ2 σ2 H2 O2 sm=>n Γ2 σ2 H2 O2 ((off_mono s1).trans sm),r,fun Γ2 σ2 H2 O2 sm=>bk Γ2 σ2 H2 O2 ((off_mono s1).trans sm),fun Γ2 σ2 H2 O2 sm=>ct Γ2 σ2 H2 O2 ((off_mono s1).trans sm)⟩⟩)
  | false=>exact s_seq (ps_wk (ps_if hc pss_never (h2 rfl)) fun De σ H ⟨H0,F,O,Z,n,r,bk,ct⟩=>⟨H0,F,O,Z,fun H1 s1=>iteF ⟨H0,F,O,Z.go s1,fun Γ2 σ2 H2 O2 sm=>n Γ2 σ2 H2 O2 ((off_mono s1).trans sm),r,fun Γ2 σ2 H2 O2 sm=>bk Γ2 σ2 H2 O2 ((off_mono s1).trans sm),fun Γ2 σ2 H2 O2 sm=>ct Γ2 σ2 H2 O2 ((off_mono s1).trans sm)⟩⟩)
theorem s_if1 {c:Bool} (hc:T X Γ e c) (h1:c=true→S X Γ body { D with nx:=fun Γ'=>S X Γ' rest D }) (h2:c=false→S X Γ rest D):S X Γ (.If e body [] pos :: rest) D:=by
 with_unfolding_all
  exact s_if hc h1 fun z=>s_nil (h2 z)
def bodyT (X:Cx) (body:List Stmt):TS:=fun De σ H=>∃ Γ',∃ D',S X Γ' body D'∧tG X.K Γ' D' De σ H
theorem bodyT_ok:PSs X body (bodyT X body):=by
 with_unfolding_all
  exact fun pins s σ H De I ⟨Γ',D',t,q⟩=>(show PSs X body (tG X.K Γ' D') from t) pins s σ H De I q
theorem s_while {ι:Type} (J:ι→GEnv→Prop) (μ:ι→Nat) (i0:ι) (h0:J i0 Γ) (ht:∀ i Γ',J i Γ'→∃ c,T X Γ' e c∧(c=true→S X Γ' body { D with nx:=fun Γ2=>∃ j,J j Γ2∧μ j < μ i,ct:=fun Γ2=>∃ j,J j Γ2∧μ j < μ i,bk:=fun Γ2=>S X Γ2 rest D })∧(c=false→S X Γ' rest D))
  (hp:PassesOwn (model X.prog X.w) X.A X.env X.xe:=by exact PassesOwn.never):S X Γ (.While e body [] pos :: rest) D:=by
 with_unfolding_all
  refine s_seq (ps_wk (ps_while (tc:=fun σ H Q=>∃ Γ',∃ c,T X Γ' e c∧tVT X.K Γ' c σ H Q) (tb:=bodyT X body) hp
   (fun pins s σ H Q I ⟨Γ',c,t,q⟩=>(show PT X e (tVT X.K Γ' c) from t) pins s σ H Q I q) bodyT_ok) fun De σ H ⟨H0,F,O,Z,n,r,bk,ct⟩=>?_)
  refine ⟨fun m σ' H'=>∃ i Γ' O',Same (off H O) (off H' O')∧Sta X.K H0 F O' Γ' σ' H'∧J i Γ'∧m=μ i,⟨_,i0,Γ,O,Same.refl _,Z,h0,rfl⟩,?_⟩
  rintro m σ' H' ⟨i,Γ',O',sm,Z',j,rfl⟩
  obtain ⟨c,t,ht1,ht2⟩:=ht i Γ' j
  refine ⟨Γ',c,t,H0,F,O',Z',fun H1 s1=>?_⟩
  cases c with
  | true =>
   refine iteT ⟨fun σ2 H2=>∃ i2 Γ2 O2,Same (off H O) (off H2 O2)∧Sta X.K H0 F O2 Γ2 σ2 H2∧J i2 Γ2∧μ i2 < μ i,fun σ2 H2 ⟨i2,Γ2,O2,sm2,Z2,j2,l⟩=>⟨μ i2,l,i2,Γ2,O2,sm2,Z2,j2,rfl⟩,Γ',_,ht1 rfl,H0,F,O',Z'.go s1,?_,r,?_,?_⟩
   ·exact fun Γ2 σ2 H2 O2 sm2 Z2 ⟨i2,q1,q2⟩=>⟨i2,Γ2,O2,sm.trans ((off_mono s1).trans sm2),Z2,q1,q2⟩
   ·exact fun Γ2 σ2 H2 O2 sm2 Z2 q=>n Γ2 σ2 H2 O2 (sm.trans ((off_mono s1).trans sm2)) Z2 q
   ·exact fun Γ2 σ2 H2 O2 sm2 Z2 ⟨i2,q1,q2⟩=>⟨i2,Γ2,O2,sm.trans ((off_mono s1).trans sm2),Z2,q1,q2⟩
  | false=>exact iteF (n Γ' σ' H1 O' (sm.trans (off_mono s1)) (Z'.go s1) (ht2 rfl))
def GP (g:TG) (α:Type) [Py α] (put:Bool→α→GEnv→GEnv) (tc:Nat→Prop) (K:PySem.W.Frag):Prop :=
 ∀ (b:Bool) (a:α) (H0:Hp) (F O:Addr→Prop) (Γ:GEnv) (σ:St) (H:Hp) (v:V) (Q:St→Hp→Prop),Sta K H0 F O Γ σ H→Py.rp K (Nf H0 b) (off H O) v a →
  (∀ σ',Sta K H0 F O (put b a Γ) σ' H→σ'.length=σ.length→(∀ j,¬ tc j→σ'[j]?=σ[j]?)→Q σ' H)→g v σ H Q
def G (X:Cx) (tg:Expr) (g:TG) (α:Type) [Py α] (put:Bool→α→GEnv→GEnv) (tc:Nat→Prop):Prop:=PG X tg g∧GP g α put tc X.K
theorem gp_name (i:Nat) {K:PySem.W.Frag}:GP (gName i) α (fun b a Γ=>Γ.set i (some (.val b a))) (·=i) K:=fun b a H0 F O Γ σ H v Q Z r q=>q _ (Z.set r) (List.length_set ..) fun j hj=>get_set_ne hj
theorem g_name (i:Nat) {x:Str} (hN:X.N.Nodup) (hi:X.N[i]?=some x:=by rfl) (hx:Loc X.env.scope x:=by first | exact Or.inl rfl | exact Or.inr rfl) (hf:X.fn x=true∨X.env.scope.names.lookup x=some .local:=by first | exact .inl rfl | exact .inr rfl) :
  G X (.Name x pos) (gName i) α (fun b a Γ=>Γ.set i (some (.val b a))) (·=i):=⟨pg_name hN hi hx hf,gp_name i⟩
end
section
variable {X:Cx} {Γ:GEnv} {D:GD} {α β γ δ:Type} [Py α] [Py β] [Py γ] [Py δ] {e e1 e2 e3:Expr} {b b1 b2 b3:Bool} {pos:Pos} {st:Stmt} {rest body orelse:List Stmt} {tg:Expr} {g:TG} {tc:Nat→Prop}
theorem s_forRange {put:Bool→Int→GEnv→GEnv} {n:Int} {p ps:Pos} (J:Nat→GEnv→Prop) (hg:Gl X "range") (hm:X.mg "range"=none) (hG:G X tg g Int put tc) (he:E X Γ e b n) (h1:-(2 ^ 62)≤n) (h2:n < 2 ^ 62) (h0:J 0 Γ)
  (ht:∀ (i:Nat) Γ',i < n.toNat→J i Γ'→S X (put true (i:Int) Γ') body { D with nx:=J (i + 1),ct:=J (i + 1),bk:=fun Γ2=>S X Γ2 rest D }) (hd:∀ Γ',J n.toNat Γ'→S X Γ' rest D)
  (hc:X.calm=true:=by rfl) (hp:PassesOwn (model X.prog X.w) X.A X.env X.xe:=by exact PassesOwn.never) (hs:starEach [e] X.env=[(false,eval e X.env)]:=by rfl) (hs1:starEach [e] X.env=(false,eval e X.env) :: starEach [] X.env:=by rfl)
  (hfs:∀ x,foldedSetIterable (.Call (.Name "range" p) [e] [] ps) X.env x=pure x:=by intro _; rfl):S X Γ (.For tg (.Call (.Name "range" p) [e] [] ps) body [] pos :: rest) D:=by
 with_unfolding_all
  refine s_seq (ps_wk (ps_for hp hc (pi_range1 hg hm (pa_cons he pa_nil hs1) hs) hG.1 (tb:=bodyT X body) bodyT_ok hfs) fun De σ H ⟨H0,F,O,Z,nx,r,bk,ct⟩=>?_)
  refine ⟨H0,F,O,Z,fun v H1 s1 r1=>⟨n,by cases r1; rfl,h1,h2,for_range (lo:=0) (n:=n.toNat) (g:=g) (tb:=bodyT X body) (D:=De) (fun i σ' H'=>∃ Γ' O',Same (off H O) (off H' O')∧Sta X.K H0 F O' Γ' σ' H'∧J i Γ') ⟨Γ,O,off_mono s1,Z.go s1,h0⟩ ?_ ?_⟩⟩
  ·rintro i σ' H' hi ⟨Γ',O',sm,Z',j⟩
   refine hG.2 true (i:Int) H0 F O' Γ' σ' H' _ _ Z' (by show V.int _=V.int _; rw [Int.zero_add]) fun σ2 Z2 _ _=>?_
   refine ⟨_,_,ht i Γ' hi j,H0,F,O',Z2,?_,r,?_,?_⟩
   ·exact fun Γ2 σ2 H2 O2 sm2 Z2 q=>⟨Γ2,O2,sm.trans sm2,Z2,q⟩
   ·exact fun Γ2 σ2 H2 O2 sm2 Z2 q=>nx Γ2 σ2 H2 O2 (sm.trans sm2) Z2 q
   ·exact fun Γ2 σ2 H2 O2 sm2 Z2 q=>⟨Γ2,O2,sm.trans sm2,Z2,q⟩
  ·rintro σ' H' ⟨Γ',O',sm,Z',j⟩
   exact nx Γ' σ' H' O' sm Z' (hd Γ' j)
theorem s_forRange2 {put:Bool→Int→GEnv→GEnv} {lo n:Int} {p ps:Pos} (J:Nat→GEnv→Prop) (hg:Gl X "range") (hm:X.mg "range"=none) (hG:G X tg g Int put tc) (he1:E X Γ e1 b1 lo) (he2:E X Γ e2 b2 n) (hb:-(2 ^ 62)≤lo∧lo < 2 ^ 62∧-(2 ^ 62)≤n∧n < 2 ^ 62) (h0:J 0 Γ)
  (ht:∀ (i:Nat) Γ',i < (n - lo).toNat→J i Γ'→S X (put true (lo + i:Int) Γ') body { D with nx:=J (i + 1),ct:=J (i + 1),bk:=fun Γ2=>S X Γ2 rest D }) (hd:∀ Γ',J (n - lo).toNat Γ'→S X Γ' rest D)
  (hc:X.calm=true:=by rfl) (hp:PassesOwn (model X.prog X.w) X.A X.env X.xe:=by exact PassesOwn.never) (hs:starEach [e1,e2] X.env=[(false,eval e1 X.env),(false,eval e2 X.env)]:=by rfl) (hs2:starEach [e2] X.env=[(false,eval e2 X.env)]:=by rfl)
  (hs3:starEach [e1,e2] X.env=(false,eval e1 X.env) :: starEach [e2] X.env:=by rfl) (hs4:starEach [e2] X.env=(false,eval e2 X.env) :: starEach [] X.env:=by rfl)
  (hfs:∀ x,foldedSetIterable (.Call (.Name "range" p) [e1,e2] [] ps) X.env x=pure x:=by intro _; rfl):S X Γ (.For tg (.Call (.Name "range" p) [e1,e2] [] ps) body [] pos :: rest) D:=by
 with_unfolding_all
  refine s_seq (ps_wk (ps_for hp hc (pi_range2 hg hm (pa_cons he1 (pa_cons he2 pa_nil hs4) hs3) hs hs2) hG.1 (tb:=bodyT X body) bodyT_ok hfs) fun De σ H ⟨H0,F,O,Z,nx,r,bk,ct⟩=>?_)
  refine ⟨H0,F,O,Z,fun v H1 s1 r1=>⟨H0,F,O,Z.go s1,fun v' H1' s1' r1'=>⟨lo,n,by cases r1; cases r1'; rfl,hb,for_range (lo:=lo) (n:=(n - lo).toNat) (g:=g) (tb:=bodyT X body) (D:=De) (fun i σ' H'=>∃ Γ' O',Same (off H O) (off H' O')∧Sta X.K H0 F O' Γ' σ' H'∧J i Γ') ⟨Γ,O,off_mono (s1.trans s1'),Z.go (s1.trans s1'),h0⟩ ?_ ?_⟩⟩⟩
  ·rintro i σ' H' hi ⟨Γ',O',sm,Z',j⟩
   refine hG.2 true (lo + i:Int) H0 F O' Γ' σ' H' _ _ Z' rfl fun σ2 Z2 _ _=>?_
   refine ⟨_,_,ht i Γ' hi j,H0,F,O',Z2,?_,r,?_,?_⟩
   ·exact fun Γ2 σ2 H2 O2 sm2 Z2 q=>⟨Γ2,O2,sm.trans sm2,Z2,q⟩
   ·exact fun Γ2 σ2 H2 O2 sm2 Z2 q=>nx Γ2 σ2 H2 O2 (sm.trans sm2) Z2 q
   ·exact fun Γ2 σ2 H2 O2 sm2 Z2 q=>⟨Γ2,O2,sm.trans sm2,Z2,q⟩
  ·rintro σ' H' ⟨Γ',O',sm,Z',j⟩
   exact nx Γ' σ' H' O' sm Z' (hd Γ' j)
theorem s_forRange3 {put:Bool→Int→GEnv→GEnv} {lo n c:Int} {p ps:Pos} (J:Nat→GEnv→Prop) (hg:Gl X "range") (hm:X.mg "range"=none) (hG:G X tg g Int put tc) (he1:E X Γ e1 b1 lo) (he2:E X Γ e2 b2 n) (he3:E X Γ e3 b3 c) (hb:-(2 ^ 62)≤lo∧lo < 2 ^ 62∧-(2 ^ 62)≤n∧n < 2 ^ 62) (hcc:c≠0∧-1000≤c∧c≤1000) (h0:J 0 Γ)
  (ht:∀ (i:Nat) Γ',i < (Builtin.Range.rangeSize lo n c).toNat→J i Γ'→S X (put true (lo + i * c:Int) Γ') body { D with nx:=J (i + 1),ct:=J (i + 1),bk:=fun Γ2=>S X Γ2 rest D }) (hd:∀ Γ',J (Builtin.Range.rangeSize lo n c).toNat Γ'→S X Γ' rest D)
  (hc:X.calm=true:=by rfl) (hp:PassesOwn (model X.prog X.w) X.A X.env X.xe:=by exact PassesOwn.never)
  (hs1:starEach [e1,e2,e3] X.env=(false,eval e1 X.env) :: starEach [e2,e3] X.env:=by rfl) (hs2:starEach [e2,e3] X.env=(false,eval e2 X.env) :: starEach [e3] X.env:=by rfl) (hs3:starEach [e3] X.env=(false,eval e3 X.env) :: starEach [] X.env:=by rfl)
  (hpl:(backTo ps (starEach [e2,e3] X.env)).any (·.1)=false:=by rfl) (hfs:∀ x,foldedSetIterable (.Call (.Name "range" p) [e1,e2,e3] [] ps) X.env x=pure x:=by intro _; rfl):S X Γ (.For tg (.Call (.Name "range" p) [e1,e2,e3] [] ps) body [] pos :: rest) D:=by
 with_unfolding_all
  refine s_seq (ps_wk (ps_for hp hc (pi_range3 hg hm (pa_cons he1 (pa_cons he2 (pa_cons he3 pa_nil hs3) hs2) hs1) hs1 hpl) hG.1 (tb:=bodyT X body) bodyT_ok hfs) fun De σ H ⟨H0,F,O,Z,nx,r,bk,ct⟩=>?_)
  refine ⟨H0,F,O,Z,fun v H1 s1 r1=>⟨H0,F,O,Z.go s1,fun v' H2 s2 r2=>⟨H0,F,O,Z.go (s1.trans s2),fun v'' H3 s3 r3=>⟨lo,n,c,by cases r1; cases r2; cases r3; rfl,hb,hcc,for_rangeC (lo:=lo) (c:=c) (n:=(Builtin.Range.rangeSize lo n c).toNat) (g:=g) (tb:=bodyT X body) (D:=De) (fun i σ' H'=>∃ Γ' O',Same (off H O) (off H' O')∧Sta X.K H0 F O' Γ' σ' H'∧J i Γ') ⟨Γ,O,off_mono (s1.trans (s2.trans s3)),Z.go (s1.trans (s2.trans s3)),h0⟩ ?_ ?_⟩⟩⟩⟩
  ·rintro i σ' H' hi ⟨Γ',O',sm,Z',j⟩
   refine hG.2 true (lo + i * c:Int) H0 F O' Γ' σ' H' _ _ Z' rfl fun σ2 Z2 _ _=>?_
   refine ⟨_,_,ht i Γ' hi j,H0,F,O',Z2,?_,r,?_,?_⟩
   ·exact fun Γ2 σ2 H2 O2 sm2 Z2 q=>⟨Γ2,O2,sm.trans sm2,Z2,q⟩
   ·exact fun Γ2 σ2 H2 O2 sm2 Z2 q=>nx Γ2 σ2 H2 O2 (sm.trans sm2) Z2 q
   ·exact fun Γ2 σ2 H2 O2 sm2 Z2 q=>⟨Γ2,O2,sm.trans sm2,Z2,q⟩
  ·rintro σ' H' ⟨Γ',O',sm,Z',j⟩
   exact nx Γ' σ' H' O' sm Z' (hd Γ' j)
theorem s_forL {put:Bool→α→GEnv→GEnv} {xs:List α} (J:Nat→GEnv→Prop) (hG:G X tg g α put tc) (he:E X Γ e b xs) (h0:J 0 Γ)
  (ht:∀ (i:Nat) (a:α) Γ',xs[i]?=some a→J i Γ'→S X (put b a Γ') body { D with nx:=J (i + 1),ct:=J (i + 1),bk:=fun Γ2=>S X Γ2 rest D }) (hd:∀ Γ',J xs.length Γ'→S X Γ' rest D)
  (hc:X.calm=true:=by rfl) (hp:PassesOwn (model X.prog X.w) X.A X.env X.xe:=by exact PassesOwn.never)
  (hfs:∀ x,foldedSetIterable e X.env x=pure x:=by intro _; rfl):S X Γ (.For tg e body [] pos :: rest) D:=by
 with_unfolding_all
  refine s_seq (ps_wk (ps_for hp hc (pi_list he) hG.1 (tb:=bodyT X body) bodyT_ok hfs) fun De σ H ⟨H0,F,O,Z,nx,r,bk,ct⟩=>?_)
  refine ⟨H0,F,O,Z,fun v H1 s1 r1=>?_⟩
  obtain ⟨p,vs,e,sq,nn,rr⟩:=r1
  refine ⟨p,e,⟨vs,(off_same _ _).seq sq⟩,for_list (K:=X.K) (a:=p) (xs:=vs) (g:=g) (tb:=bodyT X body) (D:=De) (fun i σ' H'=>∃ Γ' O',Same (off H1 O) (off H' O')∧Sta X.K H0 F O' Γ' σ' H'∧J i Γ') ⟨Γ,O,Same.refl _,Z.go s1,h0⟩ ?_ ?_ ?_⟩
  ·rintro i σ' H' hi ⟨Γ',O',sm,Z',j⟩
   exact (off_same _ _).seq (sm.seq sq)
  ·rintro i x σ' H' hi ⟨Γ',O',sm,Z',j⟩
   obtain ⟨a,h1,h2⟩:=pr_get' rr hi
   refine hG.2 b a H0 F O' Γ' σ' H' _ _ Z' (rp_mono sm h2) fun σ2 Z2 _ _=>?_
   refine ⟨_,_,ht i a Γ' h1 j,H0,F,O',Z2,?_,r,?_,?_⟩
   ·exact fun Γ2 σ2 H2 O2 sm2 Z2 q=>⟨Γ2,O2,sm.trans sm2,Z2,q⟩
   ·exact fun Γ2 σ2 H2 O2 sm2 Z2 q=>nx Γ2 σ2 H2 O2 ((off_mono s1).trans (sm.trans sm2)) Z2 q
   ·exact fun Γ2 σ2 H2 O2 sm2 Z2 q=>⟨Γ2,O2,sm.trans sm2,Z2,q⟩
  ·rintro σ' H' ⟨Γ',O',sm,Z',j⟩
   rw [pr_len rr] at j
   exact nx Γ' σ' H' O' ((off_mono s1).trans sm) Z' (hd Γ' j)
end
structure Cal (P:Program) (w:World) (K:PySem.W.Frag) (mg:Str→Option Value) (base:Heap) (k:Nat) (name:Str) (ps:List Str) (sp:Sp):Prop where
 ex:∃ (f:Addr) (fd:FuncData),FnOk P w K mg base CX0 k f fd ps sp∧Binds K fd ps []∧PySem.W.keepIn K (.ref f)=true∧mg name=some (.ref f)
def OwnL (H:Hp) (O:Addr→Prop):Prop:=∀ p,O p→∃ xs:Mt,H p=some (mo xs)
def sp1 {α β:Type} [Py α] [Py β] (K:PySem.W.Frag) (pre:α→Prop) (b:Bool) (f:α→β):Sp:=fun vs H Q _=>∃ O v a,OwnL H O∧vs=[v]∧Py.rp K .any (off H O) v a∧pre a∧∀ r H',Same H H'→Py.rp K (Nf H b) (off H' O) r (f a)→Q r H'
def sp2 {α β γ:Type} [Py α] [Py β] [Py γ] (K:PySem.W.Frag) (pre:α→β→Prop) (b:Bool) (f:α→β→γ):Sp:=fun vs H Q _=>∃ O v w a c,OwnL H O∧vs=[v,w]∧Py.rp K .any (off H O) v a∧Py.rp K .any (off H O) w c∧pre a c∧∀ r H',Same H H'→Py.rp K (Nf H b) (off H' O) r (f a c)→Q r H'
def sp3 {α β γ δ:Type} [Py α] [Py β] [Py γ] [Py δ] (K:PySem.W.Frag) (pre:α→β→γ→Prop) (b:Bool) (f:α→β→γ→δ):Sp:=fun vs H Q _=>∃ O v w x a c d,OwnL H O∧vs=[v,w,x]∧Py.rp K .any (off H O) v a∧Py.rp K .any (off H O) w c∧Py.rp K .any (off H O) x d∧pre a c d∧∀ r H',Same H H'→Py.rp K (Nf H b) (off H' O) r (f a c d)→Q r H'
def sp4 {α β γ δ ε:Type} [Py α] [Py β] [Py γ] [Py δ] [Py ε] (K:PySem.W.Frag) (pre:α→β→γ→δ→Prop) (b:Bool) (f:α→β→γ→δ→ε):Sp:=fun vs H Q _=>∃ O v w x y a c d g,OwnL H O∧vs=[v,w,x,y]∧Py.rp K .any (off H O) v a∧Py.rp K .any (off H O) w c∧Py.rp K .any (off H O) x d∧Py.rp K .any (off H O) y g∧pre a c d g∧∀ r H',Same H H'→Py.rp K (Nf H b) (off H' O) r (f a c d g)→Q r H'
theorem nf_true {H0 H:Hp} {b:Bool}:∀ p xs,(Nf H0 b).has H p xs→Nn.any.has H p xs:=fun _ _ _=>True.intro
section
variable {X:Cx} {Γ:GEnv} {D:GD} {α β γ δ ε:Type} [Py α] [Py β] [Py γ] [Py δ] [Py ε] {e e1 e2 e3 e4:Expr} {b b1 b2 b3 b4:Bool} {p pos:Pos} {k:Nat} {name:Str} {ps:List Str}
theorem e_call1 {pre:α→Prop} {f:α→β} {a:α} (C:Cal X.prog X.w X.K X.mg X.base k name ps (sp1 X.K pre b f)) (hr:Room k X.A) (hg:Gl X name) (h1:E X Γ e1 b1 a) (hp:pre a)
  (hs1:starEach [e1] X.env=(false,eval e1 X.env) :: starEach [] X.env:=by rfl) (hdb:(name == ("__debug__":Str))=false:=by decide) (hpl:(backTo pos (starEach [] X.env)).any (·.1)=false:=by rfl) :
  E X Γ (.Call (.Name name p) [e1] [] pos) b (f a):=by
 with_unfolding_all
  obtain ⟨fa,fd,F,B,kp,m⟩:=C.ex
  exact pe_wk (pe_call F hr hg m kp B .nil pass0 (pa_cons h1 pa_nil hs1) hdb hs1 hpl) fun σ H Q ⟨H0,F,O,S,q⟩=>⟨H0,F,O,S,fun v1 H1 s1 r1 =>
   ⟨O,v1,a,(S.go s1).own,rfl,rp_wid nf_true r1,hp,fun r H' s' z=>q r H' (s1.trans s') ((S.go s1).back z)⟩⟩
theorem e_call2 {pre:α→β→Prop} {f:α→β→γ} {a:α} {c:β} (C:Cal X.prog X.w X.K X.mg X.base k name ps (sp2 X.K pre b f)) (hr:Room k X.A) (hg:Gl X name) (h1:E X Γ e1 b1 a) (h2:E X Γ e2 b2 c) (hp:pre a c)
  (hs1:starEach [e1,e2] X.env=(false,eval e1 X.env) :: starEach [e2] X.env:=by rfl) (hs2:starEach [e2] X.env=(false,eval e2 X.env) :: starEach [] X.env:=by rfl) (hdb:(name == ("__debug__":Str))=false:=by decide) (hpl:(backTo pos (starEach [e2] X.env)).any (·.1)=false:=by rfl) :
  E X Γ (.Call (.Name name p) [e1,e2] [] pos) b (f a c):=by
 with_unfolding_all
  obtain ⟨fa,fd,F,B,kp,m⟩:=C.ex
  exact pe_wk (pe_call F hr hg m kp B .nil pass0 (pa_cons h1 (pa_cons h2 pa_nil hs2) hs1) hdb hs1 hpl) fun σ H Q ⟨H0,F,O,S,q⟩=>⟨H0,F,O,S,fun v1 H1 s1 r1=>⟨H0,F,O,S.go s1,fun v2 H2 s2 r2 =>
   ⟨O,v1,v2,a,c,(S.go (s1.trans s2)).own,rfl,rp_wid nf_true (rp_mono (off_mono s2) r1),rp_wid nf_true r2,hp,fun r H' s' z=>q r H' (s1.trans (s2.trans s')) ((S.go (s1.trans s2)).back z)⟩⟩⟩
theorem e_call3 {pre:α→β→γ→Prop} {f:α→β→γ→δ} {a:α} {c:β} {d:γ} (C:Cal X.prog X.w X.K X.mg X.base k name ps (sp3 X.K pre b f)) (hr:Room k X.A) (hg:Gl X name) (h1:E X Γ e1 b1 a) (h2:E X Γ e2 b2 c) (h3:E X Γ e3 b3 d) (hp:pre a c d)
  (hs1:starEach [e1,e2,e3] X.env=(false,eval e1 X.env) :: starEach [e2,e3] X.env:=by rfl) (hs2:starEach [e2,e3] X.env=(false,eval e2 X.env) :: starEach [e3] X.env:=by rfl) (hs3:starEach [e3] X.env=(false,eval e3 X.env) :: starEach [] X.env:=by rfl)
  (hdb:(name == ("__debug__":Str))=false:=by decide) (hpl:(backTo pos (starEach [e2,e3] X.env)).any (·.1)=false:=by rfl) :
  E X Γ (.Call (.Name name p) [e1,e2,e3] [] pos) b (f a c d):=by
 with_unfolding_all
  obtain ⟨fa,fd,F,B,kp,m⟩:=C.ex
  exact pe_wk (pe_call F hr hg m kp B .nil pass0 (pa_cons h1 (pa_cons h2 (pa_cons h3 pa_nil hs3) hs2) hs1) hdb hs1 hpl) fun σ H Q ⟨H0,F,O,S,q⟩=>⟨H0,F,O,S,fun v1 H1 s1 r1=>⟨H0,F,O,S.go s1,fun v2 H2 s2 r2=>⟨H0,F,O,S.go (s1.trans s2),fun v3 H3 s3 r3 =>
   ⟨O,v1,v2,v3,a,c,d,(S.go (s1.trans (s2.trans s3))).own,rfl,rp_wid nf_true (rp_mono ((off_mono s2).trans (off_mono s3)) r1),rp_wid nf_true (rp_mono (off_mono s3) r2),rp_wid nf_true r3,hp,fun r H' s' z=>q r H' (s1.trans (s2.trans (s3.trans s'))) ((S.go (s1.trans (s2.trans s3))).back z)⟩⟩⟩⟩
theorem e_call4 {pre:α→β→γ→δ→Prop} {f:α→β→γ→δ→ε} {a:α} {c:β} {d:γ} {g:δ} (C:Cal X.prog X.w X.K X.mg X.base k name ps (sp4 X.K pre b f)) (hr:Room k X.A) (hg:Gl X name) (h1:E X Γ e1 b1 a) (h2:E X Γ e2 b2 c) (h3:E X Γ e3 b3 d) (h4:E X Γ e4 b4 g) (hp:pre a c d g)
  (hs1:starEach [e1,e2,e3,e4] X.env=(false,eval e1 X.env) :: starEach [e2,e3,e4] X.env:=by rfl) (hs2:starEach [e2,e3,e4] X.env=(false,eval e2 X.env) :: starEach [e3,e4] X.env:=by rfl) (hs3:starEach [e3,e4] X.env=(false,eval e3 X.env) :: starEach [e4] X.env:=by rfl) (hs4:starEach [e4] X.env=(false,eval e4 X.env) :: starEach [] X.env:=by rfl)
  (hdb:(name == ("__debug__":Str))=false:=by decide) (hpl:(backTo pos (starEach [e2,e3,e4] X.env)).any (·.1)=false:=by rfl) :
  E X Γ (.Call (.Name name p) [e1,e2,e3,e4] [] pos) b (f a c d g):=by
 with_unfolding_all
  obtain ⟨fa,fd,F,B,kp,m⟩:=C.ex
  exact pe_wk (pe_call F hr hg m kp B .nil pass0 (pa_cons h1 (pa_cons h2 (pa_cons h3 (pa_cons h4 pa_nil hs4) hs3) hs2) hs1) hdb hs1 hpl) fun σ H Q ⟨H0,F,O,S,q⟩=>⟨H0,F,O,S,fun v1 H1 s1 r1=>⟨H0,F,O,S.go s1,fun v2 H2 s2 r2=>⟨H0,F,O,S.go (s1.trans s2),fun v3 H3 s3 r3=>⟨H0,F,O,S.go (s1.trans (s2.trans s3)),fun v4 H4 s4 r4 =>
   ⟨O,v1,v2,v3,v4,a,c,d,g,(S.go (s1.trans (s2.trans (s3.trans s4)))).own,rfl,rp_wid nf_true (rp_mono ((off_mono s2).trans ((off_mono s3).trans (off_mono s4))) r1),rp_wid nf_true (rp_mono ((off_mono s3).trans (off_mono s4)) r2),rp_wid nf_true (rp_mono (off_mono s4) r3),rp_wid nf_true r4,hp,fun r H' s' z=>q r H' (s1.trans (s2.trans (s3.trans (s4.trans s')))) ((S.go (s1.trans (s2.trans (s3.trans s4)))).back z)⟩⟩⟩⟩⟩
end
def gst (N:List Str) (gs:List Bd):GEnv:=gs.map some ++ List.replicate (N.length - gs.length) none
def RT {α:Type} [Py α] (b:Bool) (a:α):GD:={ nx:=fun _=>False,rt:=fun g=>g=.val b a }
inductive Args (K:PySem.W.Frag) (H:Hp):List V→List Bd→Prop
 | nil:Args K H [] []
 | cons {α:Type} [Py α] {v:V} {a:α} {vs:List V} {gs:List Bd}:Py.rp K .any H v a→Args K H vs gs→Args K H (v :: vs) (.val false a :: gs)
theorem Args.len {K:PySem.W.Frag} {H:Hp}:∀ {vs:List V} {gs:List Bd},Args K H vs gs→vs.length=gs.length
 | _,_,.nil=>rfl
 | _,_,@Args.cons _ _ _ _ _ _ _ _ _ t=>congrArg (· + 1) t.len
theorem Args.get {K:PySem.W.Frag} {H0 H:Hp} {O:Addr→Prop}:∀ {vs:List V} {gs:List Bd} {i:Nat} {g:Bd},Args K (off H O) vs gs→gs[i]?=some g→∃ v,vs[i]?=some v∧g.ok K H0 O H v∧¬ g.isOwn
 | _,_,_,_,.nil,e=>by simp at e
 | _,_,0,_,@Args.cons _ _ _ _ _ _ _ _ h _,e=>by simp at e; subst e; exact ⟨_,rfl,h,fun z=>z⟩
 | _,_,i + 1,_,@Args.cons _ _ _ _ _ _ _ _ _ t,e=>by
  obtain ⟨a,h1,h2⟩:=Args.get (i:=i) t (by simpa using e)
  exact ⟨a,by simpa using h1,h2⟩
theorem sta_start {K:PySem.W.Frag} {H:Hp} {O:Addr→Prop} {N:List Str} {vs:List V} {gs:List Bd} (ho:OwnL H O) (h:Args K (off H O) vs gs):Sta K H O O (gst N gs) (start N vs) H:=by
 have hl:=h.len
 have hget:∀ (i:Nat) (g:Bd),(gst N gs)[i]?=some (some g)→gs[i]?=some g:=fun i g e=>by
  unfold gst at e
  by_cases hi:i < (gs.map some).length
  ·rw [List.getElem?_append_left hi,List.getElem?_map] at e
   cases q:gs[i]? with
   | none=>rw [q] at e; cases e
   | some g'=>rw [q] at e; simpa using e
  ·rw [List.getElem?_append_right (by omega)] at e
   have:=List.mem_of_getElem? e
   rw [List.mem_replicate] at this
   cases this.2
 refine ⟨Same.refl _,fun _ z=>z,ho,ho,by simp [gst,start,hl],fun i g e _=>?_,⟨fun _ _=>False,fun _ _ _ z=>z.elim,fun _ _ z=>z.elim,fun i g e o=>?_⟩⟩
 ·obtain ⟨v,h1,h2,_⟩:=Args.get (H0:=H) h (hget i g e)
  refine ⟨v,?_,h2⟩
  unfold start
  have hi:i < (vs.map some).length:=by
   rw [List.length_map]
   exact (List.getElem?_eq_some_iff.mp h1).1
  rw [List.getElem?_append_left hi,List.getElem?_map,h1]; rfl
 ·obtain ⟨_,_,_,no⟩:=Args.get (H0:=H) h (hget i g e)
  exact absurd o no
section
variable {P:Program} {w:World} {K:PySem.W.Frag} {mg:Str→Option Value} {base:Heap} {N ps:List Str} {k:Nat} {x qual:Str} {st:Stmt} {f:Addr} {fd:FuncData}
abbrev cx (P:Program) (w:World) (K:PySem.W.Frag) (mg:Str→Option Value) (base:Heap) (N:List Str) (qual:Str) (st:Stmt) (f:Addr) (cdv:Value) (A:Around) (outer:List Env) (s:Shared) (H:Hp) (E:XK):Cx:=(cxOf CX0 P w K mg base N qual (defScope st) f cdv A outer s H E).nox
def Body (P:Program) (w:World) (K:PySem.W.Frag) (mg:Str→Option Value) (base:Heap) (N:List Str) (qual:Str) (st:Stmt) (f:Addr) (k:Nat) (gs:List Bd) (D:GD):Prop :=
 ∀ (cdv:Value) (A:Around) (outer:List Env) (s:Shared) (H:Hp) (E:XK),Room k (A.deeper (envOfC qual (defScope st) s.heap.objs.size f cdv))→S (cx P w K mg base N qual st f cdv A outer s H E) (gst N gs) (defBody st) D
theorem body_run {gs:List Bd} {vs:List V} {H:Hp} {O:Addr→Prop} {α:Type} [Py α] {b:Bool} {a:α} {Q:VK} {cdv:Value} {A:Around} {outer:List Env} {s:Shared} {E:XK} (B:Body P w K mg base N qual st f k gs (RT b a)) (hr:Room k (A.deeper (envOfC qual (defScope st) s.heap.objs.size f cdv)))
  (ho:OwnL H O) (h:Args K (off H O) vs gs) (q:∀ r H',Same H H'→Py.rp K (Nf H b) (off H' O) r a→Q r H') :
  ∃ t,PSs (cxOf CX0 P w K mg base N qual (defScope st) f cdv A outer s H E).nox (defBody st) t∧t { nx:=fun _ H'=>Q .non H',rt:=Q } (start N vs) H:=by
 with_unfolding_all
  refine ⟨_,B cdv A outer s H E hr,H,O,O,sta_start ho h,fun _ _ _ _ _ _ z=>z.elim,fun g v H' sm z e=>?_,fun _ _ _ _ _ _ z=>z.elim,fun _ _ _ _ _ _ z=>z.elim⟩
  have e':g=.val b a:=e
  subst e'
  exact q v H' sm z
theorem fn1 {α β:Type} [Py α] [Py β] {pre:α→Prop} {b:Bool} {g:α→β} (F:Fun K x qual st f fd) (sc:FnScope N ps (defScope st)) (hl:ps.length=1) (B:∀ a,pre a→Body P w K mg base N qual st f k [.val false a] (RT b (g a))) :
  FnOk P w K mg base CX0 (k + 1) f fd ps (sp1 K pre b g):=by
 with_unfolding_all
  refine F.ok sc (fun vs H Q E h=>?_) fun cdv A outer s H vs Q E hr h=>?_
  ·obtain ⟨O,v,a,_,rfl,_⟩:=h; rw [hl]; rfl
  ·obtain ⟨O,v,a,ho,rfl,r,hp,q⟩:=h
   exact body_run (B a hp) hr ho (.cons r .nil) q
theorem fn2 {α β γ:Type} [Py α] [Py β] [Py γ] {pre:α→β→Prop} {b:Bool} {g:α→β→γ} (F:Fun K x qual st f fd) (sc:FnScope N ps (defScope st)) (hl:ps.length=2) (B:∀ a c,pre a c→Body P w K mg base N qual st f k [.val false a,.val false c] (RT b (g a c))) :
  FnOk P w K mg base CX0 (k + 1) f fd ps (sp2 K pre b g):=by
 with_unfolding_all
  refine F.ok sc (fun vs H Q E h=>?_) fun cdv A outer s H vs Q E hr h=>?_
  ·obtain ⟨O,v,v2,a,c,_,rfl,_⟩:=h; rw [hl]; rfl
  ·obtain ⟨O,v,v2,a,c,ho,rfl,r,r2,hp,q⟩:=h
   exact body_run (B a c hp) hr ho (.cons r (.cons r2 .nil)) q
theorem fn3 {α β γ δ:Type} [Py α] [Py β] [Py γ] [Py δ] {pre:α→β→γ→Prop} {b:Bool} {g:α→β→γ→δ} (F:Fun K x qual st f fd) (sc:FnScope N ps (defScope st)) (hl:ps.length=3) (B:∀ a c d,pre a c d→Body P w K mg base N qual st f k [.val false a,.val false c,.val false d] (RT b (g a c d))) :
  FnOk P w K mg base CX0 (k + 1) f fd ps (sp3 K pre b g):=by
 with_unfolding_all
  refine F.ok sc (fun vs H Q E h=>?_) fun cdv A outer s H vs Q E hr h=>?_
  ·obtain ⟨O,v,v2,v3,a,c,d,_,rfl,_⟩:=h; rw [hl]; rfl
  ·obtain ⟨O,v,v2,v3,a,c,d,ho,rfl,r,r2,r3,hp,q⟩:=h
   exact body_run (B a c d hp) hr ho (.cons r (.cons r2 (.cons r3 .nil))) q
theorem fn4 {α β γ δ ε:Type} [Py α] [Py β] [Py γ] [Py δ] [Py ε] {pre:α→β→γ→δ→Prop} {b:Bool} {g:α→β→γ→δ→ε} (F:Fun K x qual st f fd) (sc:FnScope N ps (defScope st)) (hl:ps.length=4) (B:∀ a c d y,pre a c d y→Body P w K mg base N qual st f k [.val false a,.val false c,.val false d,.val false y] (RT b (g a c d y))) :
  FnOk P w K mg base CX0 (k + 1) f fd ps (sp4 K pre b g):=by
 with_unfolding_all
  refine F.ok sc (fun vs H Q E h=>?_) fun cdv A outer s H vs Q E hr h=>?_
  ·obtain ⟨O,v,v2,v3,v4,a,c,d,y,_,rfl,_⟩:=h; rw [hl]; rfl
  ·obtain ⟨O,v,v2,v3,v4,a,c,d,y,ho,rfl,r,r2,r3,r4,hp,q⟩:=h
   exact body_run (B a c d y hp) hr ho (.cons r (.cons r2 (.cons r3 (.cons r4 .nil)))) q
end
end L2.EP
namespace L2.EP
open PySem PySem.Spec PyProof.Rows
section
variable {X:Cx} {Γ:GEnv} {α β:Type} [Py α] [Py β] {e:Expr} {b:Bool} {p p2 pos:Pos}
theorem e_isi {a:α} {T:Str} {T':String} {c:Bool} (hg:Gl X "isinstance") (hm:X.mg "isinstance"=none) (hg2:Gl X T) (hm2:X.mg T=none) (hv:bootBuiltins T=some (.type T')) (ha:E X Γ e b a)
  (hk:∀ (pins:List (Addr × Obj)) (s:Shared) (σ:St) (H:Hp) (N:Nn) (v:V) (u:Value) (Q:Value→Shared→Prop),Inv X pins σ H s→Py.rp X.K N H v a→RelV v u→(∀ tk,Q (.bool c) { s with toks:=tk })→wpAny (model X.prog X.w) X.A (call (.builtin "isinstance") [u,.type T']) Q X.xe s)
  (hs:starEach [e,.Name T p2] X.env=(false,eval e X.env) :: starEach [.Name T p2] X.env:=by rfl) (hs2:starEach [.Name T p2] X.env=(false,eval (.Name T p2) X.env) :: starEach [] X.env:=by rfl) (hpl:(backTo pos (starEach [.Name T p2] X.env)).any (·.1)=false:=by rfl)
  (hn:T≠"__name__":=by decide) (hd:(T == ("__debug__":Str))=false:=by decide) :
  E X Γ (.Call (.Name "isinstance" p) [e,.Name T p2] [] pos) true c:=by
 with_unfolding_all
  have hc:CallR X (.builtin "isinstance") (fun xs H Q=>∃ N v,xs=[v,.ty T']∧Py.rp X.K N H v a∧Q (.bl c) H):=by
   intro pins s σ H xs us Q I r h
   obtain ⟨N,v,rfl,rv,q⟩:=h
   obtain ⟨u,w',rfl,rx,ry⟩:=vals2 r
   cases ry
   exact hk pins s σ H N v u _ I rv rx fun tk=>⟨.bl c,H,I.tok _,rfl,q⟩
  exact pe_wk (pe_callB hc hg hm boot_isinstance (pa_cons ha (pa_cons (pe_bltn (v:=.ty T') hg2 hm2 hv rfl hn hd) pa_nil hs2) hs) (he:=hs) (hpl:=hpl)) fun σ H Q ⟨H0,F,O,S,q⟩=>⟨H0,F,O,S,fun v H1 s1 r1=>⟨_,v,rfl,rp_mono (off_same _ _) r1,q _ H1 s1 rfl⟩⟩
theorem e_isII {i:Int} (hg:Gl X "isinstance") (hm:X.mg "isinstance"=none) (hg2:Gl X "int") (hm2:X.mg "int"=none) (ha:E X Γ e b i)
  (hs:starEach [e,.Name "int" p2] X.env=(false,eval e X.env) :: starEach [.Name "int" p2] X.env:=by rfl):E X Γ (.Call (.Name "isinstance" p) [e,.Name "int" p2] [] pos) true true:=by
 with_unfolding_all
  exact e_isi hg hm hg2 hm2 PyProof.Rows.boot_int ha (fun pins s σ H N v u Q I rv r q=>by
    cases rv; obtain ⟨t,rfl⟩:=r
    exact IsiPair.int_int (q s.toks)) hs
theorem e_isIB {i:Int} (hg:Gl X "isinstance") (hm:X.mg "isinstance"=none) (hg2:Gl X "bool") (hm2:X.mg "bool"=none) (ha:E X Γ e b i)
  (hs:starEach [e,.Name "bool" p2] X.env=(false,eval e X.env) :: starEach [.Name "bool" p2] X.env:=by rfl):E X Γ (.Call (.Name "isinstance" p) [e,.Name "bool" p2] [] pos) true false:=by
 with_unfolding_all
  exact e_isi hg hm hg2 hm2 PyProof.Rows.boot_bool ha (fun pins s σ H N v u Q I rv r q=>by
    cases rv; obtain ⟨t,rfl⟩:=r
    exact IsiPair.int_bool (q (s.toks + 1))) hs
theorem e_isBB {i:Bool} (hg:Gl X "isinstance") (hm:X.mg "isinstance"=none) (hg2:Gl X "bool") (hm2:X.mg "bool"=none) (ha:E X Γ e b i)
  (hs:starEach [e,.Name "bool" p2] X.env=(false,eval e X.env) :: starEach [.Name "bool" p2] X.env:=by rfl):E X Γ (.Call (.Name "isinstance" p) [e,.Name "bool" p2] [] pos) true true:=by
 with_unfolding_all
  exact e_isi hg hm hg2 hm2 PyProof.Rows.boot_bool ha (fun pins s σ H N v u Q I rv r q=>by
    cases rv; cases r
    exact IsiPair.bool_bool (q s.toks)) hs
theorem e_isLL {xs:List α} (hg:Gl X "isinstance") (hm:X.mg "isinstance"=none) (hg2:Gl X "list") (hm2:X.mg "list"=none) (ha:E X Γ e b xs)
  (hs:starEach [e,.Name "list" p2] X.env=(false,eval e X.env) :: starEach [.Name "list" p2] X.env:=by rfl):E X Γ (.Call (.Name "isinstance" p) [e,.Name "list" p2] [] pos) true true:=by
 with_unfolding_all
  exact e_isi hg hm hg2 hm2 PyProof.Rows.boot_list ha (fun pins s σ H N v u Q I rv r q=>by
    obtain ⟨a,ys,rfl,sq,_,_⟩:=rv
    cases r
    obtain ⟨its,rr,pl,_⟩:=I.list sq
    obtain ⟨o,h1,h2,n,h3⟩:=pl.isList
    exact call_isinstance (isinstance_true (Tx:="list") F.isi_meta_list AutoSeq1.sub_list_list) ⟨⟨o,h1,h2⟩,q s.toks⟩) hs
end
end L2.EP
namespace L2.EP
open PySem PySem.Spec PyProof.Rows
def Sm (n:Nat) (i:Int):Prop:=i.natAbs < 2 ^ n
theorem Sm.bits {n:Nat} {i:Int} (h:Sm n i):Builtin.Int.intBits i≤n:=by
 unfold Builtin.Int.intBits
 split
 ·exact Nat.zero_le _
 ·rename_i hi
  have h0:i.natAbs≠0:=by
   intro z; apply hi; simp; omega
  have:=(Nat.log2_lt h0).mpr h
  omega
theorem Sm.le {m n:Nat} {i:Int} (h:Sm m i) (l:m≤n):Sm n i:=Nat.lt_of_lt_of_le h (Nat.pow_le_pow_right (by decide) l)
theorem Sm.ok {m n:Nat} {i j:Int} (h:Sm m i) (h':Sm n j) (l:m≤1048576:=by decide) (l':n≤1048576:=by decide):IntMulOk i j:=IntMulOk.of_bits (Nat.le_trans h.bits (Nat.le_trans l (by decide))) (Nat.le_trans h'.bits (Nat.le_trans l' (by decide)))
theorem Sm.mul {m n:Nat} {i j:Int} (h:Sm m i) (h':Sm n j):Sm (m + n) (i * j):=by
 unfold Sm at *
 rw [Int.natAbs_mul,Nat.pow_add]
 rcases Nat.eq_zero_or_pos j.natAbs with z | z
 ·rw [z,Nat.mul_zero]; exact Nat.mul_pos (Nat.two_pow_pos _) (Nat.two_pow_pos _)
 ·exact Nat.mul_lt_mul_of_lt_of_le h (Nat.le_of_lt h') (Nat.two_pow_pos _)
theorem Sm.add {m n:Nat} {i j:Int} (h:Sm m i) (h':Sm n j):Sm (max m n + 1) (i + j):=by
 have h1:i.natAbs < 2 ^ max m n:=Nat.lt_of_lt_of_le h (Nat.pow_le_pow_right (by decide) (Nat.le_max_left _ _))
 have h2:j.natAbs < 2 ^ max m n:=Nat.lt_of_lt_of_le h' (Nat.pow_le_pow_right (by decide) (Nat.le_max_right _ _))
 have h3:=Int.natAbs_add_le i j
 unfold Sm
 rw [Nat.pow_succ]
 omega
theorem Sm.of_le {n:Nat} {i j:Int} (h:i.natAbs≤j.natAbs) (h':Sm n j):Sm n i:=Nat.lt_of_le_of_lt h h'
theorem Sm.div {n:Nat} {i j:Int} (h:Sm n j) (hj:j≠0) (l:n≤9000:=by decide):CDivK i j:=⟨hj,(Nat.log2_lt (by omega)).mpr (Nat.lt_of_lt_of_le h (Nat.pow_le_pow_right (by decide) l))⟩
theorem mulL {i j:Int} (h1:-(2 ^ 64) < i) (h2:i < 2 ^ 64):IntMulOk i j:=CMul.ok (.inl ⟨h1,h2⟩)
theorem mulR {i j:Int} (h1:-(2 ^ 64) < j) (h2:j < 2 ^ 64):IntMulOk i j:=CMul.ok (.inr ⟨h1,h2⟩)
theorem cdK {i j:Int} (h:j≠0:=by decide) (h2:j.natAbs.log2 < 9000:=by decide):CDivK i j:=⟨h,h2⟩
theorem cpK {i j:Int} (h:0≤j:=by decide) (h2:j≤1000000:=by decide) (h3:i.natAbs < 2 ^ 64:=by decide):CPow i j:=⟨h,h2,h3⟩
theorem hu60 {k:Nat} {A:Around} (hr:Room k A):A.units + 60 < cLine:=by have:=hr.un; omega
structure Bu (mg:Str→Option Value):Prop where
 abs:mg "abs"=none
 len:mg "len"=none
 min:mg "min"=none
 max:mg "max"=none
 range:mg "range"=none
 isinstance:mg "isinstance"=none
 int:mg "int"=none
 bool:mg "bool"=none
 list:mg "list"=none
 tuple:mg "tuple"=none
 sum:mg "sum"=none
 all:mg "all"=none
 zip:mg "zip"=none
 enumerate:mg "enumerate"=none
 any:mg "any"=none
 sorted:mg "sorted"=none
 set:mg "set"=none
 str:mg "str"=none
 reversed:mg "reversed"=none
theorem fmod_pos {a b:Int} (h:0 < b):0≤a.fmod b∧a.fmod b < b:=⟨Int.fmod_nonneg_of_pos a h,Int.fmod_lt_of_pos a h⟩
theorem Sm.fmod {n:Nat} {a b:Int} (h:0 < b) (hb:Sm n b):Sm n (a.fmod b):=by
 have:=fmod_pos (a:=a) h
 exact Sm.of_le (by omega) hb
end L2.EP
namespace L2.EP
open PySem PySem.Spec PyProof.Rows
def Df (K:PySem.W.Frag) (x:Str) (st:Stmt):Prop:=∃ (f:Addr) (fd:FuncData),PySem.W.nsIn K mainGlobals x=some (some (.ref f))∧Fun K x x st f fd
theorem Df.mk {K:PySem.W.Frag} {x:Str} {st:Stmt} {f:Addr} {oc:Value} {od an:Option Addr} {osl:Array (Option Value)} {kV doc pm cdv ct:Value} (a:PySem.W.nsIn K mainGlobals x=some (some (.ref f)))
  (l:K.lookup f=some ⟨oc,od,.func (PySem.W.fnOf x x (defArgs st) (defBody st) (defScope st) .none kV doc pm an cdv ct),osl⟩) (c:PySem.W.codeIn K cdv x=true) (k:PySem.W.keepIn K (.ref f)=true):Df K x st:=⟨f,_,a,fun_mk l c k⟩
theorem bu_mk {K:PySem.W.Frag} {h:Heap} {mg:Str→Option Value} (X:K.In h) (G:h.Ns mainGlobals mg) (z1:PySem.W.nsIn K mainGlobals "abs"=some none) (z2:PySem.W.nsIn K mainGlobals "len"=some none) (z3:PySem.W.nsIn K mainGlobals "min"=some none) (z4:PySem.W.nsIn K mainGlobals "max"=some none)
  (z5:PySem.W.nsIn K mainGlobals "range"=some none) (z6:PySem.W.nsIn K mainGlobals "isinstance"=some none) (z7:PySem.W.nsIn K mainGlobals "int"=some none) (z8:PySem.W.nsIn K mainGlobals "bool"=some none) (z9:PySem.W.nsIn K mainGlobals "list"=some none) (z10:PySem.W.nsIn K mainGlobals "tuple"=some none)
  (z11:PySem.W.nsIn K mainGlobals "sum"=some none) (z12:PySem.W.nsIn K mainGlobals "all"=some none) (z13:PySem.W.nsIn K mainGlobals "zip"=some none) (z14:PySem.W.nsIn K mainGlobals "enumerate"=some none) (z15:PySem.W.nsIn K mainGlobals "any"=some none) (z16:PySem.W.nsIn K mainGlobals "sorted"=some none) (z17:PySem.W.nsIn K mainGlobals "set"=some none) (z18:PySem.W.nsIn K mainGlobals "str"=some none) (z19:PySem.W.nsIn K mainGlobals "reversed"=some none):Bu mg :=
 ⟨PySem.W.mg_none_of X G z1,PySem.W.mg_none_of X G z2,PySem.W.mg_none_of X G z3,PySem.W.mg_none_of X G z4,PySem.W.mg_none_of X G z5,PySem.W.mg_none_of X G z6,PySem.W.mg_none_of X G z7,PySem.W.mg_none_of X G z8,PySem.W.mg_none_of X G z9,PySem.W.mg_none_of X G z10,PySem.W.mg_none_of X G z11,PySem.W.mg_none_of X G z12,PySem.W.mg_none_of X G z13,PySem.W.mg_none_of X G z14,PySem.W.mg_none_of X G z15,PySem.W.mg_none_of X G z16,PySem.W.mg_none_of X G z17,PySem.W.mg_none_of X G z18,PySem.W.mg_none_of X G z19⟩
section
variable {P:Program} {w:World} {K:PySem.W.Frag} {mg:Str→Option Value} {base h:Heap} {x:Str} {st:Stmt} {N ps:List Str} {k:Nat}
theorem Df.cal {sp:Sp} (D:Df K x st) (X:K.In h) (G:h.Ns mainGlobals mg) (hb:∀ (kV doc pm:Value) (an:Option Addr) (cdv ct:Value) (us:List Value),us.length=ps.length→bindArgs (PySem.W.fnOf x x (defArgs st) (defBody st) (defScope st) .none kV doc pm an cdv ct) ⟨us,[]⟩=pure (ps.zip us))
  (ok:∀ f fd,Fun K x x st f fd→FnOk P w K mg base CX0 k f fd ps sp):Cal P w K mg base k x ps sp:=by
 obtain ⟨f,fd,a,F⟩:=D
 exact ⟨f,fd,ok f fd F,F.binds hb,F.kp,PySem.W.mg_of X G a⟩
def spLaw (K:PySem.W.Frag):Sp:=sp1 K (fun (ns:List Int)=>ns.length≤63) true (fun _=>true)
theorem pr_ints {K:PySem.W.Frag} {N:Nn} {H:Hp}:∀ ns:List Int,Paired (fun x (b:Int)=>Py.rp K N H x b) (ns.map V.int) ns
 | []=>.nil
 | _ :: r=>.cons rfl (pr_ints r)
theorem law_start (K:PySem.W.Frag) (H:Hp) (a:Addr) (ns:List Int) (hl:ns.length≤63) (hS:SqL K H a (ns.map V.int)):spLaw K [.ref a] H (fun v _=>v=.bl true) fun _ _ _=>False :=
 ⟨fun _=>False,.ref a,ns,fun _ z=>z.elim,rfl,by rw [off_nil]; exact ⟨a,_,rfl,hS,True.intro,pr_ints ns⟩,hl,fun r H' _ z=>z⟩
theorem law_end {fa:Addr} {lp:Program} (D:Df K "law" st) (X:K.In h) (G:h.Ns mainGlobals mg) (hfa:mg "law"=some (.ref fa)) {y:Str}
  (hb:∀ (kV doc pm:Value) (an:Option Addr) (cdv ct:Value) (s:Shared) (u:Value),BindsTo s (PySem.W.fnOf "law" "law" (defArgs st) (defBody st) (defScope st) .none kV doc pm an cdv ct) ⟨[u],[]⟩ [(y,u)])
  (ok:∀ base,K.In base→base.Ns mainGlobals mg→∀ f fd,Fun K "law" "law" st f fd→FnOk lp w K mg base CX0 k f fd [y] (spLaw K)) :
  ∃ fd:FuncData,(∀ (s:Shared) (u:Value),BindsTo s fd ⟨[u],[]⟩ [(y,u)])∧∀ base:Heap,K.In base→base.Ns mainGlobals mg→FnOk lp w K mg base CX0 k fa fd [y] (spLaw K):=by
 obtain ⟨f,fd,a,F⟩:=D
 have e:=hfa.symm.trans (PySem.W.mg_of X G a)
 cases e
 refine ⟨fd,?_,fun base kb nb=>ok base kb nb _ fd F⟩
 obtain ⟨oc,od,kV,doc,pm,an,cdv,ct,osl,rfl,lk,hcd⟩:=F.ex
 exact hb kV doc pm an cdv ct
end
end L2.EP
namespace L2.EP
open PySem PySem.Spec PyProof.Rows
def ITS {α:Type} [Py α] (K:PySem.W.Frag) (H0:Hp) (O:Addr→Prop) (b:Bool) (as:List α) (J:It) (H1:Hp):Prop :=
 ∀ (H':Hp) (O':Addr→Prop),OwnL H' O'→Same (off H1 O) (off H' O')→(∀ (i:Nat) (a:α),as[i]?=some a→J.go i H'∧∀ x H'',J.yld i H' x H''→Same H' H''∧Py.rp K (Nf H0 b) (off H'' O') x a)∧J.stop as.length H'
def EI {α:Type} [Py α] (X:Cx) (Γ:GEnv) (tg iter:Expr) (b:Bool) (as:List α):Prop:=∃ wi,PI X tg iter wi ∧
 ∀ (σ:St) (H H0:Hp) (F O:Addr→Prop) (R:It→Hp→Prop),Sta X.K H0 F O Γ σ H→(∀ J H1,Same H H1→ITS X.K H0 O b as J H1→R J H1)→wi σ H R
def seqI (lo c:Int) (n:Nat):List Int:=(List.range n).map fun i:Nat=>lo + (i:Int) * c
theorem seqI_get {lo c:Int} {n i:Nat} {a:Int} (h:(seqI lo c n)[i]?=some a):i < n∧a=lo + (i:Int) * c:=by
 unfold seqI at h
 rw [List.getElem?_map] at h
 by_cases hi:i < n
 ·rw [List.getElem?_range hi] at h
  exact ⟨hi,(Option.some.inj h).symm⟩
 ·rw [List.getElem?_eq_none (by rw [List.length_range]; omega)] at h; cases h
theorem seqI_len (lo c:Int) (n:Nat):(seqI lo c n).length=n:=by unfold seqI; rw [List.length_map,List.length_range]
section
variable {X:Cx} {Γ:GEnv} {α β:Type} [Py α] [Py β] {e e1 e2 e3 tg:Expr} {b b1 b2 b3:Bool}
theorem ei_list {xs:List α} (he:E X Γ e b xs):EI X Γ tg e b xs:=by
 with_unfolding_all
  exact ⟨_,pi_list he,fun σ H H0 F O R Z q=>⟨H0,F,O,Z,fun v H1 s1 r1=>by
   obtain ⟨p,vs,e,sq,nn,rr⟩:=r1
   refine ⟨p,e,⟨vs,(off_same _ _).seq sq⟩,q _ H1 s1 fun H' O' _ sm=>⟨fun i a ha=>?_,?_⟩⟩
   ·obtain ⟨x,h1,h2⟩:=pr_get rr ha
    refine ⟨⟨vs,x,(off_same _ _).seq (sm.seq sq),h1⟩,fun y H'' hy=>?_⟩
    obtain ⟨e',hy⟩:=hy
    subst e'
    have:=hy vs ((off_same _ _).seq (sm.seq sq))
    rw [h1] at this; cases this
    exact ⟨Same.refl _,rp_mono sm h2⟩
   ·exact ⟨vs,(off_same _ _).seq (sm.seq sq),by rw [pr_len rr]; exact Nat.le_refl _⟩⟩⟩
theorem its_range {K:PySem.W.Frag} {H0:Hp} {O:Addr→Prop} {lo:Int} {n:Nat} {H1:Hp}:ITS K H0 O true (seqI lo 1 n) (Itr lo n) H1:=fun H' O' _ sm=>⟨fun i a ha=>by
 obtain ⟨h1,h2⟩:=seqI_get ha
 refine ⟨h1,fun x H'' hy=>?_⟩
 obtain ⟨e1,e2⟩:=hy
 subst e1 e2 h2
 exact ⟨Same.refl _,by show V.int _=V.int _; rw [Int.mul_one]⟩,by show n≤_; rw [seqI_len]; exact Nat.le_refl _⟩
theorem ei_range {n:Int} {p ps:Pos} (hg:Gl X "range") (hm:X.mg "range"=none) (he:E X Γ e b n) (h1:-(2 ^ 62)≤n) (h2:n < 2 ^ 62)
  (hs:starEach [e] X.env=[(false,eval e X.env)]:=by rfl) (hs1:starEach [e] X.env=(false,eval e X.env) :: starEach [] X.env:=by rfl):EI X Γ tg (.Call (.Name "range" p) [e] [] ps) true (seqI 0 1 n.toNat):=by
 with_unfolding_all
  exact ⟨_,pi_range1 hg hm (pa_cons he pa_nil hs1) hs,fun σ H H0 F O R Z q=>⟨H0,F,O,Z,fun v H1 s1 r1=>⟨n,by cases r1; rfl,h1,h2,q _ H1 s1 its_range⟩⟩⟩
theorem s_for {D:GD} {pos:Pos} {rest body:List Stmt} {g:TG} {tc:Nat→Prop} {put:Bool→α→GEnv→GEnv} {as:List α} (J:Nat→GEnv→Prop) (hG:G X tg g α put tc) (he:EI X Γ tg e b as) (h0:J 0 Γ)
  (ht:∀ (i:Nat) (a:α) Γ',as[i]?=some a→J i Γ'→S X (put b a Γ') body { D with nx:=J (i + 1),ct:=J (i + 1),bk:=fun Γ2=>S X Γ2 rest D }) (hd:∀ Γ',J as.length Γ'→S X Γ' rest D)
  (hc:X.calm=true:=by rfl) (hp:PassesOwn (model X.prog X.w) X.A X.env X.xe:=by exact PassesOwn.never)
  (hfs:∀ x,foldedSetIterable e X.env x=pure x:=by intro _; rfl):S X Γ (.For tg e body [] pos :: rest) D:=by
 with_unfolding_all
  obtain ⟨wi,hi,hw⟩:=he
  refine s_seq (ps_wk (ps_for hp hc hi hG.1 (tb:=bodyT X body) bodyT_ok hfs) fun De σ H ⟨H0,F,O,Z,nx,r,bk,ct⟩=>?_)
  refine hw σ H H0 F O _ Z fun Jt H1 s1 its=>?_
  refine ⟨fun i m σ' H'=>m=as.length - i∧i≤as.length∧∃ Γ' O',Same (off H1 O) (off H' O')∧Sta X.K H0 F O' Γ' σ' H'∧J i Γ',⟨_,rfl,Nat.zero_le _,Γ,O,Same.refl _,Z.go s1,h0⟩,?_⟩
  rintro i m σ' H' ⟨rfl,hi',Γ',O',sm,Z',j⟩
  obtain ⟨t1,t2⟩:=its H' O' Z'.own sm
  by_cases hlt:i < as.length
  ·have ha:as[i]?=some as[i]:=List.getElem?_eq_getElem hlt
   obtain ⟨go,yl⟩:=t1 i _ ha
   refine .inr ⟨go,fun σ2 H2=>∃ Γ2 O2,Same (off H1 O) (off H2 O2)∧Sta X.K H0 F O2 Γ2 σ2 H2∧J (i + 1) Γ2,fun σ2 H2 q=>⟨as.length - (i + 1),by omega,rfl,hlt,q⟩,fun x H'' hy=>?_⟩
   obtain ⟨s2,rx⟩:=yl x H'' hy
   refine hG.2 b as[i] H0 F O' Γ' σ' H'' _ _ (Z'.go s2) rx fun σ2 Z2 _ _=>?_
   refine ⟨_,_,ht i _ Γ' ha j,H0,F,O',Z2,?_,r,?_,?_⟩
   ·exact fun Γ2 σ2 H2 O2 sm2 Z2 q=>⟨Γ2,O2,sm.trans ((off_mono s2).trans sm2),Z2,q⟩
   ·exact fun Γ2 σ2 H2 O2 sm2 Z2 q=>nx Γ2 σ2 H2 O2 ((off_mono s1).trans (sm.trans ((off_mono s2).trans sm2))) Z2 q
   ·exact fun Γ2 σ2 H2 O2 sm2 Z2 q=>⟨Γ2,O2,sm.trans ((off_mono s2).trans sm2),Z2,q⟩
  ·have ei:i=as.length:=by omega
   subst ei
   exact .inl ⟨t2,nx Γ' σ' H' O' ((off_mono s1).trans sm) Z' (hd Γ' j)⟩
end
def cB:Option (Option Bd)→Option Bd
 | some (some (@Bd.val _ _ b a))=>some (.val b a)
 | _=>none
def cΓ (Γ:GEnv) (tn:List Str) (js:List Nat):GEnv:=tn.map (fun _=>none) ++ js.map fun j=>cB Γ[j]?
theorem cB_val {o:Option (Option Bd)} {g:Bd} (h:cB o=some g):o=some (some g)∧¬ g.isOwn:=by
 unfold cB at h
 split at h
 ·cases h; exact ⟨rfl,fun z=>z⟩
 ·cases h
theorem cΓ_get {Γ:GEnv} {σ:St} {tn:List Str} {js:List Nat} {i:Nat} {g:Bd} (h:(cΓ Γ tn js)[i]?=some (some g)):∃ j,js[i - tn.length]?=some j∧tn.length≤i∧Γ[j]?=some (some g)∧¬ g.isOwn∧(cσ σ tn js)[i]?=some ((σ[j]?).getD none):=by
 unfold cΓ at h
 unfold cσ
 by_cases hi:i < tn.length
 ·rw [List.getElem?_append_left (by simpa using hi),List.getElem?_map] at h
  cases q:tn[i]? with
  | none=>rw [q] at h; cases h
  | some y=>rw [q] at h; cases h
 ·rw [List.getElem?_append_right (by simpa using hi),List.getElem?_map,List.length_map] at h
  rw [List.getElem?_append_right (by simpa using hi),List.getElem?_map,List.length_map]
  cases q:js[i - tn.length]? with
  | none=>rw [q] at h; cases h
  | some j =>
   rw [q] at h
   obtain ⟨h1,h2⟩:=cB_val (Option.some.inj h)
   exact ⟨j,rfl,by omega,h1,h2,rfl⟩
section
variable {K:PySem.W.Frag} {H0:Hp} {F O:Addr→Prop} {Γ:GEnv} {σ:St} {H:Hp}
theorem Sta.blk (Z:Sta K H0 F O Γ σ H) (tn:List Str) (js:List Nat):Sta K H0 F O (cΓ Γ tn js) (cσ σ tn js) H where
 same:=Z.same
 fo:=Z.fo
 f0:=Z.f0
 own:=Z.own
 len:=by unfold cΓ cσ; simp
 at_:=fun i g e n=>by
  obtain ⟨j,h1,h2,h3,h4,h5⟩:=cΓ_get (σ:=σ) e
  obtain ⟨v,q1,q2⟩:=Z.at_ j g h3 n
  exact ⟨v,by rw [h5,q1]; rfl,q2⟩
 dis:=⟨fun _ _=>False,fun _ _ _ z=>z.elim,fun _ _ z=>z.elim,fun i g e o=>by
  obtain ⟨_,_,_,_,h4,_⟩:=cΓ_get (σ:=σ) e
  exact absurd o h4⟩
theorem Sta.ownIn {H':Hp} {D:Addr} {xs:List V} (Z:Sta K H0 F O Γ σ H) (hD:H D=none) (sm:Same H H') (hx:H' D=some (.lst xs)):Sta K H0 F (fun p=>O p∨p=D) Γ σ H'∧Same (off H O) (off H' fun p=>O p∨p=D):=by
 have so:Same (off H O) (off H' fun p=>O p∨p=D):=fun b o h=>by
  obtain ⟨h1,h2⟩:=off_some h
  have hb:b≠D:=fun z=>by rw [z,hD] at h2; cases h2
  rw [off_get (by rintro (z | z); exact h1 z; exact hb z)]; exact sm _ _ h2
 refine ⟨⟨Z.same.trans sm,fun p h=>.inl (Z.fo p h),Z.f0,fun p h=>?_,Z.len,fun i g e n=>?_,?_⟩,so⟩
 ·rcases h with h | h
  ·obtain ⟨ys,q⟩:=Z.own p h
   exact ⟨ys,sm _ _ q⟩
  ·subst h; exact ⟨.inl xs,hx⟩
 ·obtain ⟨v,q1,q2⟩:=Z.at_ i g e n
  refine ⟨v,q1,?_⟩
  cases g with
  | val b a=>exact rp_mono so q2
  | own b as=>exact q2
  | dpo a=>exact q2
 ·obtain ⟨D',d1,d2,d3⟩:=Z.dis
  refine ⟨D',d1,fun i p h=>⟨.inl (d2 i p h).1,(d2 i p h).2⟩,fun i g e o=>?_⟩
  obtain ⟨v,q1,q2⟩:=d3 i g e o
  exact ⟨v,q1,Bd.goD q2 (fun p ys _ z=>sm _ _ z) so (fun p z=>(d2 i p z).1) Z.own⟩
end
section
variable {X:Cx} {Γ:GEnv} {D:GD} {α β:Type} [Py α] [Py β] {elt target iter c:Expr} {b b':Bool} {pos:Pos} {scope:Scope} {tn:List Str} {js:List Nat} {g:TG} {tc:Nat→Prop} {put:Bool→α→GEnv→GEnv} {as:List α} {f:α→β} {p:α→Bool} {ifs:List Expr}
def teC (X:Cx) (tn:List Str) (js:List Nat) (scope:Scope) (elt:Expr) (β:Type) [Py β] (b:Bool):TE:=fun σ H Q=>∃ Γ',∃ v:β,(∀ C s H fp,E (blk X (cN X tn js) scope C s H fp) Γ' elt b v)∧tV X.K Γ' b v σ H Q
@[irreducible] def FT (X:Cx) (Γ:GEnv) (ifs:List Expr) (c:Bool):Prop:=PF X ifs (tVT X.K Γ c)
def ttC (X:Cx) (tn:List Str) (js:List Nat) (scope:Scope) (ifs:List Expr):TT:=fun σ H Q=>∃ Γ' c,(∀ C s H fp,FT (blk X (cN X tn js) scope C s H fp) Γ' ifs c)∧tVT X.K Γ' c σ H Q
theorem ft_nil:FT X Γ [] true:=by
 with_unfolding_all
  exact fun pins s σ H Q I ⟨H0,F,O,Z,q⟩=>pf_nil pins s σ H Q I (q H (Same.refl _))
theorem comp_wk {wi:TI} (hw:∀ (σ:St) (H H0:Hp) (F O:Addr→Prop) (R:It→Hp→Prop),Sta X.K H0 F O Γ σ H→(∀ J H1,Same H H1→ITS X.K H0 O b as J H1→R J H1)→wi σ H R)
  (hgp:GP g α put tc X.K) (htc:∀ j,tc j→j < tn.length)
  (ht:∀ (i:Nat) (a:α),as[i]?=some a→∀ C s H fp,FT (blk X (cN X tn js) scope C s H fp) (put b a (cΓ Γ tn js)) ifs (p a))
  (hb:∀ (i:Nat) (a:α),as[i]?=some a→p a=true→∀ C s H fp,E (blk X (cN X tn js) scope C s H fp) (put b a (cΓ Γ tn js)) elt b' (f a)) (hl:as.length≤1000)
  {σ:St} {H:Hp} {Q:VK} {H0:Hp} {F O:Addr→Prop} (Z:Sta X.K H0 F O Γ σ H) (q:∀ v H',Same H H'→Py.rp X.K (Nf H0 b') (off H' O) v ((as.filter p).map f)→Q v H') :
  tLC wi tn js g (ttC X tn js scope ifs) (teC X tn js scope elt β b') σ H Q:=by
 with_unfolding_all
  refine hw σ H H0 F O _ Z fun J H1 s1 its D hD=>?_
  have Z1:=Z.go s1
  refine ⟨fun i m H' xs=>m=as.length - i∧i≤as.length∧Same H1 H'∧H' D=some (.lst xs)∧Paired (fun x a=>Py.rp X.K (Nf H0 b') (off H' fun p=>O p∨p=D) x a) xs (((as.take i).filter p).map f),
   ⟨_,rfl,Nat.zero_le _,same_upd hD _,upd_same,.nil⟩,?_⟩
  rintro i m H' xs ⟨rfl,hi,sm,hx,rr⟩
  refine ⟨hx,?_⟩
  obtain ⟨Z',so⟩:=Z1.ownIn hD sm hx
  obtain ⟨t1,t2⟩:=its H' _ Z'.own so
  by_cases hlt:i < as.length
  ·have ha:as[i]?=some as[i]:=List.getElem?_eq_getElem hlt
   have htk:as.take (i + 1)=as.take i ++ [as[i]]:=by rw [List.take_succ,ha]; rfl
   obtain ⟨go,yl⟩:=t1 i _ ha
   refine .inr ⟨go,fun x H'' hy=>?_⟩
   obtain ⟨s2,rx⟩:=yl x H'' hy
   refine hgp b as[i] H0 F _ (cΓ Γ tn js) (cσ σ tn js) H'' x _ ((Z'.go s2).blk tn js) rx fun σ2 Z2 l2 k2=>?_
   refine ⟨⟨fun j v hj e=>?_,l2⟩,_,_,ht i _ ha,H0,F,_,Z2,fun H3 s3=>?_⟩
   ·rw [k2 j fun z=>absurd (htc j z) (Nat.not_lt.mpr hj)]; exact e
   cases hp:p as[i] with
   | false =>
    refine iteF ⟨as.length - (i + 1),by omega,rfl,hlt,sm.trans (s2.trans s3),s3 _ _ (s2 _ _ hx),?_⟩
    rw [htk,List.filter_append,List.filter_cons,hp]
    simp only [Bool.false_eq_true,if_false,List.filter_nil,List.append_nil]
    exact pr_imp (fun _ _ z=>rp_mono (off_mono (s2.trans s3)) z) rr
   | true =>
    refine iteT ⟨_,_,hb i _ ha hp,H0,F,_,Z2.go s3,fun y H4 s4 ry=>?_⟩
    have hx4:H4 D=some (.lst xs):=s4 _ _ (s3 _ _ (s2 _ _ hx))
    have hOD:(fun p=>O p∨p=D) D:=.inr rfl
    refine ⟨hx4,?_,as.length - (i + 1),by omega,rfl,hlt,?_,upd_same,?_⟩
    ·have:=pr_len rr
     rw [List.length_map] at this
     have h2:=List.length_filter_le p (as.take i)
     have h3:=List.length_take_le i as
     exact Nat.lt_of_le_of_lt (by omega) (small1000 hl)
    ·exact fun c o z=>by
      have hc:c≠D:=fun w=>by rw [w,hD] at z; cases z
      rw [upd_ne hc]; exact s4 _ _ (s3 _ _ (s2 _ _ (sm _ _ z)))
    ·rw [off_upd hOD,htk,List.filter_append,List.filter_cons,hp]
     simp only [if_true,List.filter_nil,List.map_append,List.map_cons,List.map_nil]
     exact pr_app (pr_imp (fun _ _ z=>rp_mono (off_mono (s2.trans (s3.trans s4))) z) rr) (.cons ry .nil)
  ·have ei:i=as.length:=by omega
   subst ei
   rw [List.take_length] at rr
   have hxo:off H' O D=some (.lst xs):=by rw [off_get (Z1.notOwn hD)]; exact hx
   refine .inl ⟨t2,q _ H' (s1.trans sm) ⟨D,xs,rfl,SqL.of hxo,Nf.wk (Z1.free0 hD) hxo,?_⟩⟩
   ·exact pr_imp (fun _ _ z=>rp_mono (off_less fun _ w=>.inl w) z) rr
theorem teC_ok {C:Addr} {s:Shared} {H:Hp} {fp:List Addr}:PE (blk X (cN X tn js) scope C s H fp) elt (teC X tn js scope elt β b'):=by
 with_unfolding_all
  exact fun pins s' σ H' Q I ⟨Γ',v,h,q⟩=>(show PE (blk X (cN X tn js) scope C s H fp) elt (tV X.K Γ' b' v) from h C s H fp) pins s' σ H' Q I q
theorem ttC_ok {C:Addr} {s:Shared} {H:Hp} {fp:List Addr}:PF (blk X (cN X tn js) scope C s H fp) ifs (ttC X tn js scope ifs):=by
 with_unfolding_all
  exact fun pins s' σ H' Q I ⟨Γ',c,h,q⟩=>(show PF (blk X (cN X tn js) scope C s H fp) ifs (tVT X.K Γ' c) from h C s H fp) pins s' σ H' Q I q
theorem e_compF (tn:List Str) (js:List Nat) (S:CScope X scope tn js) (he:EI X Γ target iter b as) (hgp:GP g α put tc X.K) (hg:∀ C s H fp,PG (blk X (cN X tn js) scope C s H fp) target g) (htc:∀ j,tc j→j < tn.length)
  (ht:∀ (i:Nat) (a:α),as[i]?=some a→∀ C s H fp,FT (blk X (cN X tn js) scope C s H fp) (put b a (cΓ Γ tn js)) ifs (p a))
  (hb:∀ (i:Nat) (a:α),as[i]?=some a→p a=true→∀ C s H fp,E (blk X (cN X tn js) scope C s H fp) (put b a (cΓ Γ tn js)) elt b' (f a)) (hl:as.length≤1000) (hc:X.calm=true:=by rfl)
  (hs:∀ x,foldedSetIterable iter X.env x=pure x:=by intro _; rfl):E X Γ (.ListComp elt [⟨target,iter,ifs,0⟩] scope pos) b' ((as.filter p).map f):=by
 with_unfolding_all
  obtain ⟨wi,hi,hw⟩:=he
  exact pe_wk (pe_lc S hc hi (fun C s H fp=>⟨hg C s H fp,ttC_ok,teC_ok⟩) hs) fun σ H Q ⟨H0,F,O,Z,q⟩=>comp_wk hw hgp htc ht hb hl Z q
theorem e_comp (tn:List Str) (js:List Nat) (S:CScope X scope tn js) (he:EI X Γ target iter b as) (hgp:GP g α put tc X.K) (hg:∀ C s H fp,PG (blk X (cN X tn js) scope C s H fp) target g) (htc:∀ j,tc j→j < tn.length)
  (hb:∀ (i:Nat) (a:α),as[i]?=some a→∀ C s H fp,E (blk X (cN X tn js) scope C s H fp) (put b a (cΓ Γ tn js)) elt b' (f a)) (hl:as.length≤1000) (hc:X.calm=true:=by rfl)
  (hs:∀ x,foldedSetIterable iter X.env x=pure x:=by intro _; rfl):E X Γ (.ListComp elt [⟨target,iter,[],0⟩] scope pos) b' (as.map f):=by
 with_unfolding_all
  have h:=e_compF (pos:=pos) (p:=fun _=>true) tn js S he hgp hg htc (fun i a _ C s H fp=>ft_nil) (fun i a ha _=>hb i a ha) hl hc hs
  rw [List.filter_eq_self.mpr (fun _ _=>rfl)] at h
  exact h
theorem s_compF (i:Nat) {y:Str} {py spos:Pos} {rest:List Stmt} (hN:X.N.Nodup) (tn:List Str) (js:List Nat) (S':CScope X scope tn js) (he:EI X Γ target iter b as) (hgp:GP g α put tc X.K) (hg:∀ C s H fp,PG (blk X (cN X tn js) scope C s H fp) target g) (htc:∀ j,tc j→j < tn.length)
  (ht:∀ (i:Nat) (a:α),as[i]?=some a→∀ C s H fp,FT (blk X (cN X tn js) scope C s H fp) (put b a (cΓ Γ tn js)) ifs (p a))
  (hb:∀ (i:Nat) (a:α),as[i]?=some a→p a=true→∀ C s H fp,E (blk X (cN X tn js) scope C s H fp) (put b a (cΓ Γ tn js)) elt b' (f a)) (hl:as.length≤1000)
  (h:S X (Γ.set i (some (.val b' ((as.filter p).map f)))) rest D) (hiN:X.N[i]?=some y:=by rfl) (hy:Loc X.env.scope y:=by first | exact Or.inl rfl | exact Or.inr rfl)
  (hf:X.fn y=true∨X.env.scope.names.lookup y=some .local:=by first | exact .inl rfl | exact .inr rfl) (hc:X.calm=true:=by rfl)
  (hsw:swapsWith (.ListComp elt [⟨target,iter,ifs,0⟩] scope pos) (some (.Name y py)) spos.line X.env=pure true:=by rfl)
  (hs:∀ x,foldedSetIterable iter X.env x=pure x:=by intro _; rfl):EP.S X Γ (.Assign [.Name y py] (.ListComp elt [⟨target,iter,ifs,0⟩] scope pos) spos :: rest) D:=by
 with_unfolding_all
  obtain ⟨wi,hi,hw⟩:=he
  exact s_seq (ps_wk (ps_setLC hN hiN hy hf S' hc hi (fun C s H fp=>⟨hg C s H fp,ttC_ok,teC_ok⟩) hsw hs) fun De σ H ⟨H0,F,O,Z,n,_⟩=>comp_wk hw hgp htc ht hb hl Z fun v H1 s1 r1=>n _ _ H1 O (off_mono s1) ((Z.go s1).set r1) h)
theorem s_comp (i:Nat) {y:Str} {py spos:Pos} {rest:List Stmt} (hN:X.N.Nodup) (tn:List Str) (js:List Nat) (S':CScope X scope tn js) (he:EI X Γ target iter b as) (hgp:GP g α put tc X.K) (hg:∀ C s H fp,PG (blk X (cN X tn js) scope C s H fp) target g) (htc:∀ j,tc j→j < tn.length)
  (hb:∀ (i:Nat) (a:α),as[i]?=some a→∀ C s H fp,E (blk X (cN X tn js) scope C s H fp) (put b a (cΓ Γ tn js)) elt b' (f a)) (hl:as.length≤1000)
  (h:S X (Γ.set i (some (.val b' (as.map f)))) rest D) (hiN:X.N[i]?=some y:=by rfl) (hy:Loc X.env.scope y:=by first | exact Or.inl rfl | exact Or.inr rfl)
  (hf:X.fn y=true∨X.env.scope.names.lookup y=some .local:=by first | exact .inl rfl | exact .inr rfl) (hc:X.calm=true:=by rfl)
  (hsw:swapsWith (.ListComp elt [⟨target,iter,[],0⟩] scope pos) (some (.Name y py)) spos.line X.env=pure true:=by rfl)
  (hs:∀ x,foldedSetIterable iter X.env x=pure x:=by intro _; rfl):EP.S X Γ (.Assign [.Name y py] (.ListComp elt [⟨target,iter,[],0⟩] scope pos) spos :: rest) D:=by
 with_unfolding_all
  refine s_compF (p:=fun _=>true) i hN tn js S' he hgp hg htc (fun i a _ C s H fp=>ft_nil) (fun i a ha _=>hb i a ha) hl ?_ hiN hy hf hc hsw hs
  rw [List.filter_eq_self.mpr (fun _ _=>rfl)]
  exact h
end
end L2.EP
namespace L2.EP
open PySem PySem.Spec PyProof.Rows
theorem bools_of:∀ {bs:List Bool} {us:List Value},Vals (bs.map V.bl) us→LSm.BoolsAre us bs
 | [],_,h=>by cases h; exact .nil
 | b :: r,_,h=>by
  cases h with
  | cons h1 h2=>cases h1; exact .cons b (bools_of h2)
section
variable {X:Cx}
theorem call_allL (hc:X.calm=true):CallR X (.builtin "all") (fun xs H Q=>∃ p,∃ bs:List Bool,xs=[.ref p]∧SqL X.K H p (bs.map V.bl)∧Q (.bl (bs.all id)) H):=by
 intro pins s σ H xs us Q I r h
 obtain ⟨p,bs,rfl,sq,q⟩:=h
 obtain ⟨u,rfl,rx⟩:=vals1 r
 cases rx
 obtain ⟨its,rr,pl,_⟩:=I.list sq
 have hb:=bools_of rr
 have hl:=pl.isList
 have hlt:p < s.heap.objs.size:=by obtain ⟨_,e,_⟩:=hl; exact Heap.lt_size e
 refine call_all_walk (wpAny_pyIter_list hl ?_)
 refine ⟨s.heap.objs.size,[s.heap.objs.size,p],[s.heap.objs.size],its.toArray.size,_,_,fun i=>(bs[i]?).getD true,rfl,Walks.list (A:=X.A.in1) (I.ok.hd hc) _ p (Nat.ne_of_lt hlt) its.toArray,
  ⟨⟨_,Heap.get?_push_size _ rfl,rfl,rfl⟩,hl.push _⟩,fun i v s' Q' E' hP hQ=>?_,fun h' tk hk=>?_⟩
 ·obtain ⟨b,e,rfl⟩:=hb.get i v (by simpa using hP)
  simp only [e,Option.getD_some] at hQ
  exact wpAny_truthy_bool hQ
 ·have e:((List.range its.toArray.size).all fun i=>(bs[i]?).getD true)=bs.all id:=by
   rw [List.size_toArray,hb.length]; exact LSm.range_all bs
  rw [e]
  exact ⟨.bl _,H,I.kept (LSm.kept_iter hk),rfl,q⟩
theorem call_sumL (hc:X.calm=true):CallR X (.builtin "sum") (fun xs H Q=>∃ p,∃ ns:List Int,xs=[.ref p]∧SqL X.K H p (ns.map V.int)∧Q (.int ns.sum) H):=by
 intro pins s σ H xs us Q I r h
 obtain ⟨p,ns,rfl,sq,q⟩:=h
 obtain ⟨u,rfl,rx⟩:=vals1 r
 cases rx
 obtain ⟨its,rr,pl,_⟩:=I.list sq
 have hi:=intsAre_of rr
 obtain ⟨ys,hx⟩:=hi.allInts.items
 have hl':s.heap.IsList p (intItems ys):=hx ▸ pl.isList
 refine sum_intListG (I.ok.hd hc) hl' fun h' tk t' hk=>?_
 have e1:ns=ys.toList.map (·.1):=by
  rw [← nums_intItems,← hx]
  exact (show numsOf its.toArray.toList=ns from hi.numsOf).symm
 have e2:preSum (numAt ys) ys.size=ns.sum:=by
  rw [preSum_eq,List.take_of_length_le (by simp),e1]
 rw [e2]
 exact ⟨.int _,H,I.kept hk,⟨_,rfl⟩,q⟩
end
theorem pr_bl {K:PySem.W.Frag} {N:Nn} {H:Hp}:∀ {xs:List V} {bs:List Bool},Paired (fun x (b:Bool)=>Py.rp K N H x b) xs bs→xs=bs.map V.bl
 | _,_,.nil=>rfl
 | _,_,.cons h t=>by rw [show _=V.bl _ from h,pr_bl t]; rfl
theorem pr_int {K:PySem.W.Frag} {N:Nn} {H:Hp}:∀ {xs:List V} {bs:List Int},Paired (fun x (b:Int)=>Py.rp K N H x b) xs bs→xs=bs.map V.int
 | _,_,.nil=>rfl
 | _,_,.cons h t=>by rw [show _=V.int _ from h,pr_int t]; rfl
section
variable {X:Cx} {Γ:GEnv} {α β γ:Type} [Py α] [Py β] [Py γ] {e e1 e2 e3:Expr} {b b1 b2 b3:Bool} {pos:Pos}
theorem e_all {bs:List Bool} {p:Pos} (hc:X.calm=true) (hg:Gl X "all") (hm:X.mg "all"=none) (ha:E X Γ e b bs) (hs:starEach [e] X.env=(false,eval e X.env) :: starEach [] X.env:=by rfl):E X Γ (.Call (.Name "all" p) [e] [] pos) true (bs.all id):=by
 with_unfolding_all
  exact pe_wk (pe_callB (call_allL hc) hg hm PyProof.Rows.boot_all (pa_cons ha pa_nil hs) (he:=hs)) fun σ H Q ⟨H0,F,O,S,q⟩=>⟨H0,F,O,S,fun v H1 s1 r1=>by
    obtain ⟨p,vs,e,sq,n,r⟩:=r1
    rw [pr_bl r] at sq
    exact ⟨p,bs,by rw [e],(off_same _ _).seq sq,q _ H1 s1 rfl⟩⟩
theorem e_sum {ns:List Int} {p:Pos} (hc:X.calm=true) (hg:Gl X "sum") (hm:X.mg "sum"=none) (ha:E X Γ e b ns) (hs:starEach [e] X.env=(false,eval e X.env) :: starEach [] X.env:=by rfl):E X Γ (.Call (.Name "sum" p) [e] [] pos) true ns.sum:=by
 with_unfolding_all
  exact pe_wk (pe_callB (call_sumL hc) hg hm PyProof.Rows.boot_sum (pa_cons ha pa_nil hs) (he:=hs)) fun σ H Q ⟨H0,F,O,S,q⟩=>⟨H0,F,O,S,fun v H1 s1 r1=>by
    obtain ⟨p,vs,e,sq,n,r⟩:=r1
    rw [pr_int r] at sq
    exact ⟨p,ns,by rw [e],(off_same _ _).seq sq,q _ H1 s1 rfl⟩⟩
theorem e_from {xs:List α} {k:Int} {p2:Pos} (ha:E X Γ e1 b xs) (hb:E X Γ e2 b2 k) (h0:0≤k):E X Γ (.Subscript e1 (.Slice (some e2) none none p2) pos) b (xs.drop k.toNat):=by
 with_unfolding_all
  exact pe_wk (pe_slice sl_list ha (po_some hb) po_none) fun σ H Q ⟨H0,F,O,S,q⟩=>⟨H0,F,O,S,fun v H1 s1 r1=>⟨H0,F,O,S.go s1,fun w H2 s2 r2=>by
    obtain ⟨p,vs,e,sq,n,r⟩:=r1
    refine ⟨k,r2,p,vs,e,(off_same _ _).seq ((off_mono s2).seq sq),fun l hl=>?_⟩
    obtain ⟨z1,z2⟩:=laid_lst (xs:=cutV vs (some k) none) ((S.go s1).go s2) hl
    refine q _ _ (s1.trans (s2.trans z1)) ⟨l,_,rfl,SqL.of z2,Nf.wk (((S.go s1).go s2).free0 hl) z2,?_⟩
    have ec:cutV vs (some k) none=vs.drop k.toNat:=by
     unfold cutV
     have hk:k=((k.toNat:Nat):Int):=by omega
     rw [hk,HT.sIx_nat,HT.sIx_none]
     simp only [Int.toNat_natCast]
     by_cases hkn:k.toNat≤vs.length
     ·rw [Nat.min_eq_left hkn,List.take_of_length_le (by rw [List.length_drop]; exact Nat.le_refl _)]
     ·rw [Nat.min_eq_right (by omega),List.drop_eq_nil_of_le (Nat.le_refl _),List.drop_eq_nil_of_le (by omega)]; simp
    have rr:=pr_imp (fun _ _ z=>rp_mono ((off_mono s2).trans (off_mono z1)) z) (pr_drop k.toNat r)
    rw [← ec] at rr
    exact rr⟩⟩
end
end L2.EP
namespace L2.EP
open PySem PySem.Spec PyProof.Rows
def ckS (osc:Scope) (N:List Str) (scope:Scope) (js:List Nat):Bool :=
 (scope.kind == .function) && scope.names.all (fun x=>(!(x.2 == .local) || scope.names.lookup x.1 == some .local) && (!(x.2 == .free) || (scope.names.lookup x.1 == some .free && (osc.names.lookup x.1 == some .cell || osc.names.lookup x.1 == some .free))) && scope.names.all (fun y=>!(x.1 == y.1) || x.2 == y.2)) &&
  js.all (fun j=>match N[j]? with | some x=>scope.names.lookup x == some .free | none=>false)
theorem cscope {X:Cx} {scope:Scope} {tn:List Str} {js:List Nat} (osc:Scope) (N:List Str) (h1:X.env.scope=osc) (h2:X.N=N) (h:ckS osc N scope js=true):CScope X scope tn js:=by
 subst h1 h2
 unfold ckS at h
 simp only [Bool.and_eq_true,List.all_eq_true] at h
 obtain ⟨⟨hk,ha⟩,hj⟩:=h
 refine ⟨by simpa using hk,fun x hx e=>?_,fun x hx e=>?_,fun x hx y hy e=>?_,fun j hjm=>?_⟩
 ·obtain ⟨⟨h1,h2⟩,h3⟩:=ha x hx
  simpa [e] using h1
 ·obtain ⟨⟨h1,h2⟩,h3⟩:=ha x hx
  have h2':(scope.names.lookup x.1 == some .free && (X.env.scope.names.lookup x.1 == some .cell || X.env.scope.names.lookup x.1 == some .free))=true:=by simpa [e] using h2
  obtain ⟨q1,q2⟩:=Bool.and_eq_true_iff.mp h2'
  refine ⟨by simpa using q1,?_⟩
  rcases Bool.or_eq_true_iff.mp q2 with z | z
  ·exact .inl (show X.env.scope.names.lookup x.1=_ by simpa using z)
  ·exact .inr (show X.env.scope.names.lookup x.1=_ by simpa using z)
 ·obtain ⟨⟨h1,h2⟩,h3⟩:=ha x hx
  have:=h3 y hy
  simpa [e] using this
 ·have:=hj j hjm
  split at this
  ·rename_i x hx
   exact ⟨x,hx,by simpa using this⟩
  ·cases this
theorem rel_at {env:Env} {x:Str}:∀ (names:List (Str × NameKind)),(names.map fun (n,k)=>if (k == NameKind.free && env.scope.kind == .function && env.kindOf n == some .cell) then (n,NameKind.cell) else (n,k)).lookup x =
  (names.lookup x).map fun k=>if (k == NameKind.free && env.scope.kind == .function && env.kindOf x == some .cell) then NameKind.cell else k
 | []=>rfl
 | (n,k) :: r=>by
  have ih:=rel_at (env:=env) (x:=x) r
  by_cases e:x=n
  ·subst e
   cases hc:(k == NameKind.free && env.scope.kind == .function && env.kindOf x == some .cell) <;>
    simp only [hc,List.map_cons,List.lookup_cons,beq_self_eq_true,if_true,Option.map_some,Bool.false_eq_true,if_false]
  ·have hn:(x == n)=false:=by simpa using e
   cases hc:(k == NameKind.free && env.scope.kind == .function && env.kindOf n == some .cell) <;>
    simp only [hc,hn,List.map_cons,List.lookup_cons,if_true,Bool.false_eq_true,if_false] <;> exact ih
theorem relabel_cell {env:Env} {names:List (Str × NameKind)} {x:Str} (h:names.lookup x=some .cell):(names.map fun (n,k)=>if (k == NameKind.free && env.scope.kind == .function && env.kindOf n == some .cell) then (n,NameKind.cell) else (n,k)).lookup x=some .cell:=by
 rw [rel_at,h]; rfl
theorem pg_cn {X:Cx} {scope:Scope} {tn:List Str} {js:List Nat} {C:Addr} {s:Shared} {H:Hp} {fp:List Addr} {x:Str} {pos:Pos} (i:Nat) (N:List Str) (h:cN X tn js=N:=by rfl) (hd:N.Nodup:=by decide +kernel) (hi:N[i]?=some x:=by rfl)
  (hl:scope.names.lookup x=some .local∨scope.names.lookup x=some .cell:=by first | exact .inl rfl | exact .inr rfl):PG (blk X (cN X tn js) scope C s H fp) (.Name x pos) (gName i):=by
 refine pg_name (show (cN X tn js).Nodup by rw [h]; exact hd) (show (cN X tn js)[i]?=some x by rw [h]; exact hi) ?_ ?_
 ·rcases hl with z | z
  ·exact .inl (lookup_relabel_local z)
  ·exact .inr (relabel_cell z)
 ·rcases hl with z | z
  ·exact .inr (lookup_relabel_local z)
  ·refine .inl ?_
   show (match scope.names.lookup x with | some .cell=>true | _=>false)=true
   rw [z]
theorem lt_of_eq {i n:Nat} (h:i < n:=by decide):∀ j,j=i→j < n:=fun j e=>by rw [e]; exact h
end L2.EP
namespace L2.EP
open PySem PySem.Spec PyProof.Rows
section
variable {K:PySem.W.Frag} {H0:Hp} {F O:Addr→Prop} {Γ:GEnv} {σ:St} {H H':Hp}
theorem Sta.putOwn {v:V} {i:Nat} (Z:Sta K H0 F O Γ σ H) (sm:Same H H') (N:Addr→Prop) (hN:∀ q,N q→H q=none∧∃ xs:Mt,H' q=some (mo xs)) (g:Bd) (hg:g.isOwn) (hv:g.okD K H0 (fun p=>O p∨N p) H' N v) :
  Sta K H0 F (fun p=>O p∨N p) (Γ.set i (some g)) (σ.set i (some v)) H'∧Same (off H O) (off H' fun p=>O p∨N p):=by
 have so:Same (off H O) (off H' fun p=>O p∨N p):=fun b o h=>by
  obtain ⟨h1,h2⟩:=off_some h
  have hb:¬ N b:=fun z=>by rw [(hN b z).1] at h2; cases h2
  rw [off_get (by rintro (z | z); exact h1 z; exact hb z)]; exact sm _ _ h2
 refine ⟨⟨Z.same.trans sm,fun p h=>.inl (Z.fo p h),Z.f0,fun p h=>?_,by rw [List.length_set,List.length_set]; exact Z.len,fun j g' e n=>?_,?_⟩,so⟩
 ·rcases h with h | h
  ·obtain ⟨ys,q⟩:=Z.own p h
   exact ⟨ys,sm _ _ q⟩
  ·exact (hN p h).2
 ·by_cases hj:j=i
  ·subst hj
   obtain ⟨hl,e'⟩:=get_set_some e
   subst e'; exact absurd hg n
  ·rw [get_set_ne hj] at e
   obtain ⟨w,q1,q2⟩:=Z.at_ j g' e n
   refine ⟨w,by rw [get_set_ne hj]; exact q1,?_⟩
   cases g' with
   | val b a=>exact rp_mono so q2
   | own b as=>exact q2
   | dpo a=>exact q2
 ·obtain ⟨D,d1,d2,d3⟩:=Z.dis
  refine ⟨fun j q=>(j=i∧N q)∨(j≠i∧D j q),fun j k q h1 h2=>?_,fun j q h=>?_,fun j g' e o=>?_⟩
  ·rcases h1 with ⟨e1,n1⟩ | ⟨e1,n1⟩ <;> rcases h2 with ⟨e2,n2⟩ | ⟨e2,n2⟩
   ·rw [e1,e2]
   ·exact absurd (d2 k q n2).1 (Z.notOwn (hN q n1).1)
   ·exact absurd (d2 j q n1).1 (Z.notOwn (hN q n2).1)
   ·exact d1 j k q n1 n2
  ·rcases h with ⟨_,n⟩ | ⟨_,n⟩
   ·exact ⟨.inr n,Z.free0 (hN q n).1⟩
   ·exact ⟨.inl (d2 j q n).1,(d2 j q n).2⟩
  ·by_cases hj:j=i
   ·subst hj
    obtain ⟨hl,e'⟩:=get_set_some e
    subst e'
    refine ⟨v,get_set_eq (by rw [Z.len]; exact hl),?_⟩
    have:(fun q=>(j=j∧N q)∨(j≠j∧D j q))=N:=funext fun q=>propext ⟨fun z=>by rcases z with ⟨_,z⟩ | ⟨z,_⟩; exact z; exact absurd rfl z,fun z=>.inl ⟨rfl,z⟩⟩
    show Bd.okD K H0 (fun p=>O p∨N p) H' (fun q=>(j=j∧N q)∨(j≠j∧D j q)) v g
    rw [this]; exact hv
   ·rw [get_set_ne hj] at e
    obtain ⟨w,q1,q2⟩:=d3 j g' e o
    refine ⟨w,by rw [get_set_ne hj]; exact q1,?_⟩
    have:(fun q=>(j=i∧N q)∨(j≠i∧D j q))=D j:=funext fun q=>propext ⟨fun z=>by rcases z with ⟨z,_⟩ | ⟨_,z⟩; exact absurd z hj; exact z,fun z=>.inr ⟨hj,z⟩⟩
    show Bd.okD K H0 (fun p=>O p∨N p) H' (fun q=>(j=i∧N q)∨(j≠i∧D j q)) w g'
    rw [this]
    exact Bd.goD q2 (fun p ys _ z=>sm _ _ z) so (fun p z=>(d2 j p z).1) Z.own
theorem Sta.writeM {i:Nat} {g:Bd} (Z:Sta K H0 F O Γ σ H) (hg:Γ[i]?=some (some g)) (ho:g.isOwn):∃ v D,σ[i]?=some (some v)∧g.okD K H0 O H D v∧(∀ p,D p→O p∧H0 p=none) ∧
  ∀ (p:Addr) (ys:Mt) (g':Option Bd),D p→(∀ g'',g'=some g''→g''.isOwn∧g''.okD K H0 O (upd H p (mo ys)) D v)→Sta K H0 F O (Γ.set i g') σ (upd H p (mo ys))∧off (upd H p (mo ys)) O=off H O:=by
 obtain ⟨D,d1,d2,d3⟩:=Z.dis
 obtain ⟨v,q1,q2⟩:=d3 i g hg ho
 refine ⟨v,D i,q1,q2,d2 i,fun p ys g' hp hok=>?_⟩
 have hOp:=(d2 i p hp).1
 have eo:=off_upd (H:=H) (o:=mo ys) hOp
 refine ⟨⟨fun b o z=>?_,Z.fo,Z.f0,fun b hb=>?_,by rw [List.length_set]; exact Z.len,fun j g2 e n=>?_,D,d1,d2,fun j g2 e o=>?_⟩,eo⟩
 ·have:b≠p:=fun w=>by rw [w,(d2 i p hp).2] at z; cases z
  rw [upd_ne this]; exact Z.same _ _ z
 ·by_cases hbp:b=p
  ·subst hbp; exact ⟨ys,upd_same⟩
  ·rw [upd_ne hbp]; exact Z.own b hb
 ·by_cases hj:j=i
  ·subst hj
   have hl:j < Γ.length:=(List.getElem?_eq_some_iff.mp hg).1
   rw [get_set_eq hl] at e
   have e':g'=some g2:=Option.some.inj e
   exact absurd (hok g2 e').1 n
  ·rw [get_set_ne hj] at e
   obtain ⟨w,q3,q4⟩:=Z.at_ j g2 e n
   refine ⟨w,q3,?_⟩
   cases g2 with
   | val b a =>
    show Py.rp K _ (off (upd H p _) O) w a
    rw [eo]; exact q4
   | own b as=>exact q4
   | dpo a=>exact q4
 ·by_cases hj:j=i
  ·subst hj
   have hl:j < Γ.length:=(List.getElem?_eq_some_iff.mp hg).1
   rw [get_set_eq hl] at e
   have e':g'=some g2:=Option.some.inj e
   exact ⟨v,q1,(hok g2 e').2⟩
  ·rw [get_set_ne hj] at e
   obtain ⟨w,q3,q4⟩:=d3 j g2 e o
   refine ⟨w,q3,Bd.goD q4 (fun q xs hq z=>?_) (by rw [eo]; exact Same.refl _) (fun q z=>(d2 j q z).1) Z.own⟩
   have:q≠p:=fun w=>hj (d1 j i q hq (w ▸ hp))
   rw [upd_ne this]; exact z
theorem Sta.write {i:Nat} {g:Bd} (Z:Sta K H0 F O Γ σ H) (hg:Γ[i]?=some (some g)) (ho:g.isOwn):∃ v D,σ[i]?=some (some v)∧g.okD K H0 O H D v∧(∀ p,D p→O p∧H0 p=none) ∧
  ∀ (p:Addr) (ys:List V) (g':Option Bd),D p→(∀ g'',g'=some g''→g''.isOwn∧g''.okD K H0 O (upd H p (.lst ys)) D v)→Sta K H0 F O (Γ.set i g') σ (upd H p (.lst ys))∧off (upd H p (.lst ys)) O=off H O:=by
 obtain ⟨v,D,a,b,c,f⟩:=Z.writeM hg ho
 exact ⟨v,D,a,b,c,fun p ys=>f p (.inl ys)⟩
theorem Sta.freeze {i:Nat} {g g':Bd} (Z:Sta K H0 F O Γ σ H) (hg:Γ[i]?=some (some g)) (ho:g.isOwn) (hn:¬ g'.isOwn)
  (hk:∀ (D O':Addr→Prop) v,g.okD K H0 O H D v→(∀ p,D p→H0 p=none∧¬ O' p)→Same (off H O) (off H O')→(∀ p xs,Rt H p xs→Rt (off H O') p xs)→g'.ok K H0 O' H v) :
  ∃ O',Sta K H0 F O' (Γ.set i (some g')) σ H∧Same (off H O) (off H O'):=by
 obtain ⟨D,d1,d2,d3⟩:=Z.dis
 obtain ⟨v,q1,q2⟩:=d3 i g hg ho
 have so:Same (off H O) (off H fun p=>O p∧¬ D i p):=off_less fun p h=>h.1
 refine ⟨fun p=>O p∧¬ D i p,⟨Z.same,fun p h=>⟨Z.fo p h,fun z=>?_⟩,Z.f0,fun p h=>Z.own p h.1,by rw [List.length_set]; exact Z.len,fun j g2 e n=>?_,fun j q=>j≠i∧D j q,fun j k q h1 h2=>d1 j k q h1.2 h2.2,fun j q h=>⟨⟨(d2 j q h.2).1,fun z=>h.1 (d1 j i q h.2 z)⟩,(d2 j q h.2).2⟩,fun j g2 e o=>?_⟩,so⟩
 ·obtain ⟨xs,w⟩:=Z.f0 p h
  rw [(d2 i p z).2] at w; cases w
 ·by_cases hj:j=i
  ·subst hj
   obtain ⟨_,e'⟩:=get_set_some e
   subst e'
   refine ⟨v,q1,hk (D j) _ v q2 (fun p z=>⟨(d2 j p z).2,fun w=>w.2 z⟩) so fun p xs q=>?_⟩
   have hp:∀ u,(H p=some (.tup u)∨∃ o,H p=some (.frz o (.tup u)))→¬ (O p∧¬ D j p):=fun u z w=>by
    obtain ⟨ys,w'⟩:=Z.own p w.1
    rcases z with z | ⟨o,z⟩
    ·rw [z] at w'; rcases ys with ys | ys | ys <;> cases w'
    ·rw [z] at w'; rcases ys with ys | ys | ys <;> cases w'
   have hp':=hp xs q.rd
   rcases q with q | ⟨o,q⟩
   ·exact .inl (by rw [off_get hp']; exact q)
   ·exact .inr ⟨o,by rw [off_get hp']; exact q⟩
  ·rw [get_set_ne hj] at e
   obtain ⟨w,q3,q4⟩:=Z.at_ j g2 e n
   refine ⟨w,q3,?_⟩
   cases g2 with
   | val b a=>exact rp_mono so q4
   | own b as=>exact q4
   | dpo a=>exact q4
 ·have hj:j≠i:=by
   rintro rfl
   obtain ⟨_,e'⟩:=get_set_some e
   subst e'; exact hn o
  rw [get_set_ne hj] at e
  obtain ⟨w,q3,q4⟩:=d3 j g2 e o
  refine ⟨w,q3,?_⟩
  have:(fun q=>j≠i∧D j q)=D j:=funext fun q=>propext ⟨fun z=>z.2,fun z=>⟨hj,z⟩⟩
  show Bd.okD K H0 (fun p=>O p∧¬ D i p) H (fun q=>j≠i∧D j q) w g2
  rw [this]
  exact Bd.goD q4 (fun p ys _ z=>z) so (fun p z=>(d2 j p z).1) Z.own
theorem ok_own {α:Type} [Py α] {b:Bool} {as:List α} {D O':Addr→Prop} {v:V} (h:(Bd.own b as).okD K H0 O H D v) (hD:∀ p,D p→H0 p=none∧¬ O' p) (so:Same (off H O) (off H O')):(Bd.val b as).ok K H0 O' H v:=by
 obtain ⟨p,xs,e,o,q,r⟩:=h
 have hx:off H O' p=some (.lst xs):=by rw [off_get (hD p o).2]; exact q
 exact ⟨p,xs,e,SqL.of hx,Nf.wk (hD p o).1 hx,pr_imp (fun _ _ z=>rp_mono so z) r⟩
theorem ok_dpo {α:Type} [Py α] {a:α} {D O':Addr→Prop} {v:V} (h:(Bd.dpo a).okD K H0 O H D v) (hD:∀ p,D p→H0 p=none∧¬ O' p) (ht:∀ p xs,Rt H p xs→Rt (off H O') p xs):(Bd.val true a).ok K H0 O' H v:=by
 refine Py.tr (fun p xs q n=>?_) ht h
 obtain ⟨n1,n2⟩:=n
 have hx:off H O' p=some (mo xs):=by rw [off_get (hD p n1).2]; exact n2
 exact ⟨Mo.of hx,(hD p n1).1,hx⟩
end
section
variable {X:Cx} {Γ:GEnv} {D:GD} {α β γ:Type} [Py α] [Py β] [Py γ] {e e1 e2:Expr} {b b1 b2:Bool} {pos:Pos} {rest st:List Stmt}
theorem s_own (i:Nat) (α:Type) [Py α] {x:Str} {p p2:Pos} (hN:X.N.Nodup) (h:S X (Γ.set i (some (.own true ([]:List α)))) rest D) (hi:X.N[i]?=some x:=by rfl) (hx:Loc X.env.scope x:=by first | exact Or.inl rfl | exact Or.inr rfl)
  (hs:swapsWith (.List [] p2) (some (.Name x p)) pos.line X.env=pure false:=by rfl) (hf:X.fn x=true∨X.env.scope.names.lookup x=some .local:=by first | exact .inl rfl | exact .inr rfl):S X Γ (.Assign [.Name x p] (.List [] p2) pos :: rest) D:=by
 with_unfolding_all
  exact s_seq (ps_wk (ps_set hN hi hx (pe_lst pa_nil) hs hf) fun De σ H ⟨H0,F,O,Z,n,_⟩=>⟨Nat.zero_le _,fun q hq=>by
    obtain ⟨Z',so⟩:=Z.putOwn (i:=i) (v:=.ref q) (same_upd hq (.lst [])) (·=q) (fun r e=>by subst e; exact ⟨hq,.inl [],upd_same⟩) (Bd.own true ([]:List α)) True.intro ⟨q,[],rfl,rfl,upd_same,.nil⟩
    exact n _ _ _ _ so Z' h⟩)
theorem s_append (i:Nat) {as:List α} {a:α} {x:Str} {p ap cp:Pos} (hg:Γ[i]?=some (some (.own b as))) (he:E X Γ e b a) (hl:as.length≤1000) (h:S X (Γ.set i (some (.own b (as ++ [a])))) rest D) (hi:X.N[i]?=some x:=by rfl)
  (hv:Vis X.env.scope x:=by first | exact Or.inl rfl | exact Or.inr (Or.inl rfl) | exact Or.inr (Or.inr rfl)) (hd:(x == ("__debug__":Str))=false:=by decide) (hcd:(x == ("__classdict__":Str))=false:=by decide)
  (hbase:attributeBase (.Name x p) "append" X.env (eval (.Name x p) X.env)=eval (.Name x p) X.env:=by rfl)
  (hfew:((backTo cp (starEach [e] X.env)).all (fun x=>!x.1) && (backToKw cp (keywordEach [] X.env)).all (fun x=>x.1.isSome)
   && decide (([e]:List Expr).length + ([]:List Keyword).length + (if ([]:List Keyword).isEmpty then 0 else 1) < 30))=true:=by rfl)
  (hline:(ap.endLine == cp.line)=true:=by rfl) (hs:starEach [e] X.env=(false,eval e X.env) :: starEach [] X.env:=by rfl) (hplain:(backTo cp (starEach [] X.env)).any (·.1)=false:=by rfl)
  (hsw:swapsWith (.Call (.Attribute (.Name x p) "append" ap) [e] [] cp) none pos.line X.env=pure false:=by rfl) :
  S X Γ (.Expr (.Call (.Attribute (.Name x p) "append" ap) [e] [] cp) pos :: rest) D:=by
 with_unfolding_all
  exact s_seq (ps_wk (ps_expr (pe_bm PySem.F.plainAttrs_list PySem.F.slot_list_append PySem.F.type_list_append mt_append (pv i hi hv hd hcd) (pa_cons he pa_nil hs) hbase hfew hline hs hplain) hsw) fun De σ H ⟨H0,F,O,Z,n,_⟩=>by
    obtain ⟨v,Di,hv1,⟨q,xs,hq1,hq2,hq3,hq4⟩,_,_⟩:=Z.write hg True.intro
    subst hq1
    refine ⟨.ref q,hv1,.inl ⟨rfl,xs,SqL.of hq3⟩,H0,F,O,Z,fun y H2 s2 ry=>⟨q,xs,y,rfl,rfl,s2 _ _ hq3,?_,?_⟩⟩
    ·rw [pr_len hq4]; exact small1000 hl
    ·obtain ⟨v',D',hv2,⟨q',xs',w1,w2,w3,w4⟩,hO',wr⟩:=(Z.go s2).write hg True.intro
     rw [hv1] at hv2
     have ev:V.ref q=v':=by injection hv2 with z; injection z
     subst ev
     cases w1
     have ex:xs'=xs:=by
      have:=s2 _ _ hq3
      rw [w3] at this; cases this; rfl
     subst ex
     obtain ⟨Z',eo⟩:=wr q (xs' ++ [y]) (some (.own b (as ++ [a]))) w2 fun g'' e'=>by
      cases e'
      refine ⟨True.intro,q,_,rfl,w2,upd_same,?_⟩
      rw [off_upd (hO' q w2).1]
      exact pr_app w4 (.cons ry .nil)
     exact n _ _ _ _ (by rw [eo]; exact off_mono s2) Z' h)
theorem pss_frz {g g':Bd} (i:Nat) (hg:Γ[i]?=some (some g)) (ho:g.isOwn) (hn:¬ g'.isOwn)
  (hk:∀ (H0 H:Hp) (O D O':Addr→Prop) v,g.okD X.K H0 O H D v→(∀ p,D p→H0 p=none∧¬ O' p)→Same (off H O) (off H O')→(∀ p xs,Rt H p xs→Rt (off H O') p xs)→g'.ok X.K H0 O' H v)
  (h:S X (Γ.set i (some g')) st D):S X Γ st D:=by
 with_unfolding_all
  exact pss_wk h fun De σ H ⟨H0,F,O,Z,n,r,bk,ct⟩=>by
   obtain ⟨O',Z',so⟩:=Z.freeze hg ho hn fun Di O' v=>hk H0 H O Di O' v
   exact ⟨H0,F,O',Z',fun Γ2 σ2 H2 O2 sm=>n Γ2 σ2 H2 O2 (so.trans sm),r,fun Γ2 σ2 H2 O2 sm=>bk Γ2 σ2 H2 O2 (so.trans sm),fun Γ2 σ2 H2 O2 sm=>ct Γ2 σ2 H2 O2 (so.trans sm)⟩
theorem s_freeze (i:Nat) {as:List α} (hg:Γ[i]?=some (some (.own b as))) (h:S X (Γ.set i (some (.val b as))) st D):S X Γ st D:=by
 with_unfolding_all
  exact pss_frz (g':=.val b as) i hg True.intro (fun z=>z) (fun H0 H O Di O' v z1 z2 z3 _=>ok_own z1 z2 z3) h
theorem s_asg2 (i j:Nat) {x y:Str} {u:α × β} {p1 p2 p3:Pos} {k:Nat} (hN:X.N.Nodup) (he:E X Γ e b u) (h:S X ((Γ.set i (some (.val b u.1))).set j (some (.val b u.2))) rest D) (hc:X.calm=true:=by rfl) (hi:X.N[i]?=some x:=by rfl) (hj:X.N[j]?=some y:=by rfl)
  (hx:Loc X.env.scope x:=by first | exact Or.inl rfl | exact Or.inr rfl) (hy:Loc X.env.scope y:=by first | exact Or.inl rfl | exact Or.inr rfl)
  (hf:X.fn x=true∨X.env.scope.names.lookup x=some .local:=by first | exact .inl rfl | exact .inr rfl) (hf2:X.fn y=true∨X.env.scope.names.lookup y=some .local:=by first | exact .inl rfl | exact .inr rfl)
  (hs:swapsWithSole [.Tuple [.Name x p1,.Name y p2] k p3] e pos.line X.env=pure false:=by rfl) (hw:swappedStores [.Tuple [.Name x p1,.Name y p2] k p3] e X.env=pure none:=by rfl)
  (h1:(assignEach [.Tuple [.Name x p1,.Name y p2] k p3] X.env).map (·.2)=[assign (.Tuple [.Name x p1,.Name y p2] k p3) X.env]:=by rfl) (hn:(assignEach [.Name x p1,.Name y p2] X.env).length=2:=by rfl)
  (hst:(assignEach [.Name x p1,.Name y p2] X.env).findIdx? (·.1)=none:=by rfl) (ha1:assignEach [.Name x p1,.Name y p2] X.env=(false,assign (.Name x p1) X.env) :: assignEach [.Name y p2] X.env:=by rfl) (ha2:assignEach [.Name y p2] X.env=(false,assign (.Name y p2) X.env) :: assignEach [] X.env:=by rfl) :
  S X Γ (.Assign [.Tuple [.Name x p1,.Name y p2] k p3] e pos :: rest) D:=by
 with_unfolding_all
  exact s_seq (ps_wk (ps_asg he (pg_tup hc (pgs_cons (pg_name hN hi hx hf) (pgs_cons (pg_name hN hj hy hf2) pgs_nil))) hs hw h1) fun De σ H ⟨H0,F,O,Z,n,_⟩=>⟨H0,F,O,Z,fun v H1 s1 r1=>by
    obtain ⟨q,v1,v2,e',sq,g1,g2⟩:=r1
    refine ⟨q,_,e',sqT_rd (off_same _ _) sq,rfl,v1,[v2],rfl,v2,[],rfl,rfl,?_⟩
    exact n _ _ H1 O (off_mono s1) (((Z.go s1).set g1).set g2) h⟩)
theorem gp_two (i j:Nat) {K:PySem.W.Frag}:GP (gTup K 2 (gCons (gName i) (gCons (gName j) gNil))) (α × β) (fun b u Γ=>(Γ.set i (some (.val b u.1))).set j (some (.val b u.2))) (fun k=>k=i∨k=j) K:=fun b u H0 F O Γ σ H v Q Z r q=>by
 obtain ⟨p,v1,v2,e',sq,g1,g2⟩:=r
 refine ⟨p,_,e',sqT_rd (off_same _ _) sq,rfl,v1,[v2],rfl,v2,[],rfl,rfl,?_⟩
 exact q _ ((Z.set g1).set g2) (by rw [List.length_set,List.length_set]) fun k hk=>by rw [get_set_ne fun z=>hk (.inr z),get_set_ne fun z=>hk (.inl z)]
end
end L2.EP
namespace L2
open PySem PySem.Spec PyProof.Rows
def Itz (K : PySem.W.Frag) (a b : Addr) : It :=
  ⟨fun i H => ∃ xs ys x y, SqL K H a xs ∧ SqL K H b ys ∧ xs[i]? = some x ∧ ys[i]? = some y,
   fun i H v H' => ∃ T x y, H T = none ∧ v = .ref T ∧ H' = upd H T (.tup [x, y]) ∧ (∀ xs, SqL K H a xs → xs[i]? = some x) ∧ ∀ ys, SqL K H b ys → ys[i]? = some y,
   fun i H => ∃ xs ys, SqL K H a xs ∧ SqL K H b ys ∧ (xs.length ≤ i ∨ ys.length ≤ i)⟩
theorem cls_ne {h:Heap} {a b:Addr} {o u:Obj} (e1:h.get? a=some o) (e2:h.get? b=some u) (d:o.cls≠u.cls):a≠b:=fun z=>by
 subst z; rw [e1] at e2; cases e2; exact d rfl
theorem zip_apart {h:Heap} {z TI TO i1 i2 l1 l2:Addr} {f0 va vb wa wb:Value} {k1 k2:Nat} {xs ys:Array Value} (hz:IsZip h z TI TO f0) (hTI:IsPair h TI va vb) (hTO:IsPair h TO wa wb) (h1:h.IsListIter i1 l1 k1) (h2:h.IsListIter i2 l2 k2)
  (hl1:h.IsList l1 xs) (hl2:h.IsList l2 ys) (n1:TI≠TO) (n2:i1≠i2):ZipApart z TI TO i1 i2 l1 l2:=by
 obtain ⟨o1,a1,b1,_⟩:=h1
 obtain ⟨o2,a2,b2,_⟩:=h2
 obtain ⟨p1,c1,d1,_⟩:=hl1
 obtain ⟨p2,c2,d2,_⟩:=hl2
 have X:∀ {s t:String},s≠t→Value.type s≠Value.type t:=fun ne e=>ne (by injection e)
 exact ⟨cls_ne hTI hz (X (by decide)),cls_ne hTO hz (X (by decide)),cls_ne a1 hz (by rw [b1]; exact X (by decide)),cls_ne a2 hz (by rw [b2]; exact X (by decide)),n1,cls_ne hTI a1 (by rw [b1]; exact X (by decide)),cls_ne hTI a2 (by rw [b2]; exact X (by decide)),
  cls_ne hTO a1 (by rw [b1]; exact X (by decide)),cls_ne hTO a2 (by rw [b2]; exact X (by decide)),n2,cls_ne c1 hz (by rw [d1]; exact X (by decide)),cls_ne c1 hTO (by rw [d1]; exact X (by decide)),cls_ne c1 a1 (by rw [d1,b1]; exact X (by decide)),cls_ne c1 a2 (by rw [d1,b2]; exact X (by decide)),
  cls_ne c2 hz (by rw [d2]; exact X (by decide)),cls_ne c2 hTO (by rw [d2]; exact X (by decide)),cls_ne c2 a1 (by rw [d2,b1]; exact X (by decide)),cls_ne c2 a2 (by rw [d2,b2]; exact X (by decide))⟩
section
variable {X:Cx} {pins:List (Addr × Obj)} {σ:St} {H H':Hp} {s:Shared}
theorem Inv.turnedT {h':Heap} {t':Nat} {ch:List Addr} {T:Addr} {xs:List V} (I:Inv X pins σ H s) (hT:s.heap.objs.size≤T) (k:∀ b o,b ∉ ch→s.heap.get? b=some o→h'.get? b=some o) (th:∀ b o,s.heap.get? b=some o→∃ o',h'.get? b=some o') (hf:∀ b∈ch,FpOk X pins H b)
  (new:ObjOk X.prog X.w (upd H T (.tup xs)) h' T (.tup xs)):Inv X pins σ (upd H T (.tup xs)) { s with heap:=h',toks:=t' }:=by
 with_unfolding_all
  have hn:H T=none:=I.hok.fresh hT
  have nch:∀ b u,H b=some u→b ∉ ch:=fun b u e z=>by rw [(hf b z).1] at e; cases e
  refine I.step (g':=s.gens) (d':=s.drawn) (ch:=ch) (fun b hb=>⟨(hf b hb).2.2.2.1,(hf b hb).2.1,(hf b hb).2.2.2.2.1,(hf b hb).2.2.2.2.2⟩) (fun b o _ _ hc e _=>k b o hc e) (fun b o _ _ hc e _=>⟨o.slots,k b o hc e⟩)
   (fun b o hc e n=>by rw [upd_ne (Nat.ne_of_lt (Nat.lt_of_lt_of_le (Heap.lt_size e) hT))]; exact n) (fun b o hc e=>⟨o,k b o hc e⟩) (fun b ys e=>by rw [upd_ne (ne_of_none e hn)]; exact e) (fun b u ys e=>by rw [upd_ne (ne_of_none e hn)]; exact e) (fun b ps e=>⟨#[],by rw [upd_ne (ne_of_none e hn),e]; simp⟩) (fun m hm=>?_) (fun b u e=>?_) I.bare
  ·obtain ⟨o,es,ep,ho,r⟩:=hm
   exact ⟨o,es,ep,k _ o (fun z=>(hf _ z).2.1 rfl) ho,r⟩
  ·by_cases hb:b=T
   ·subst hb
    rw [upd_same] at e; cases e; exact new
   ·rw [upd_ne hb] at e
    refine (I.hok b u e).stay (fun c v hc q=>k c v ?_ q) (fun c z=>?_) fun c ys z=>?_
    ·rcases hc with z | z
     ·rw [z]; exact nch b u e
     ·exact nch c _ z
    ·rw [upd_ne (ne_of_none z hn)]; exact z
    ·rw [upd_ne (ne_of_none z hn)]; exact z
end
theorem turn_zip {P:Program} {w:World} {K:PySem.W.Frag} {elts:List Expr} {kk:Nat} {tp:Pos} (z TI TO i1 i2 a b:Addr) (n1:TI≠TO) (n2:i1≠i2):Turn P w K (.Tuple elts kk tp) (Itz K a b) [z,TI,TO,i1,i2] z
  (fun i h=>IsZip h z TI TO .none∧IsPair h TI (.ref i1) (.ref i2)∧(∃ x y,IsPair h TO x y)∧h.IsListIter i1 a i∧h.IsListIter i2 b i) where
 mem:=by simp
 obj:=fun i h st c hc=>by
  obtain ⟨hz,hTI,⟨x,y,hTO⟩,h1,h2⟩:=st
  have hc':c=z∨c=TI∨c=TO∨c=i1∨c=i2:=by simpa using hc
  rcases hc' with e | e | e | e | e
  ·subst e; exact ⟨_,hz,fun v q=>by cases q⟩
  ·subst e; exact ⟨_,hTI,fun v q=>by cases q⟩
  ·subst e; exact ⟨_,hTO,fun v q=>by cases q⟩
  ·subst e; obtain ⟨o,q1,q2,q3⟩:=h1; exact ⟨o,q1,fun v q=>by rw [q3] at q; cases q⟩
  ·subst e; obtain ⟨o,q1,q2,q3⟩:=h2; exact ⟨o,q1,fun v q=>by rw [q3] at q; cases q⟩
 keep:=fun i h h' st k=>by
  obtain ⟨hz,hTI,⟨x,y,hTO⟩,h1,h2⟩:=st
  exact ⟨k z (by simp) _ hz,k TI (by simp) _ hTI,⟨x,y,k TO (by simp) _ hTO⟩,h1.at fun o e=>k i1 (by simp) o e,h2.at fun o e=>k i2 (by simp) o e⟩
 item:=by
  intro X hP hw hK hc i pins s σ H E I hf st hg
  subst hP hw hK
  obtain ⟨xs,ys,x,y,sx,sy,gx,gy⟩:=hg
  obtain ⟨hz,hTI,⟨wa,wb,hTO⟩,h1,h2⟩:=st
  obtain ⟨ix,rx,px,_⟩:=I.list sx
  obtain ⟨iy,ry,py,_⟩:=I.list sy
  have D:=zip_apart hz hTI hTO h1 h2 px.isList py.isList n1 n2
  obtain ⟨u,ux,uxr⟩:=rx.get gx
  obtain ⟨v,vy,vyr⟩:=ry.get gy
  refine wpAny_pyNext_zip_item D hz hTI hTO h1 h2 px.isList py.isList (by simpa using ux) (by simpa using vy) fun h' a1 a2 a3 a4 a5 a6 hk=>?_
  have hT0:H s.heap.objs.size=none:=I.hok.fresh (Nat.le_refl _)
  have I1:Inv X pins σ (upd H s.heap.objs.size (.tup [x,y])) { s with heap:=h',toks:=s.toks }:=by
   refine I.turnedT (ch:=[z,TO,i1,i2]) (Nat.le_refl _) (fun c o hc' e=>hk c o (fun q=>hc' (by simp [q])) (fun q=>hc' (by simp [q])) (fun q=>hc' (by simp [q])) (fun q=>hc' (by simp [q])) e) (fun c o e=>?_) (fun c hc'=>hf c (by simp at hc' ⊢; rcases hc' with q | q | q | q <;> simp [q])) ?_
   ·have hlt:=Heap.lt_size e
    have:c < h'.objs.size:=by rw [a6]; exact Nat.lt_succ_of_lt hlt
    by_cases q1:c=z
    ·subst q1; exact ⟨_,a1⟩
    by_cases q2:c=TO
    ·subst q2; exact ⟨_,a2⟩
    by_cases q3:c=i1
    ·subst q3; obtain ⟨o',q,_⟩:=a3; exact ⟨o',q⟩
    by_cases q4:c=i2
    ·subst q4; obtain ⟨o',q,_⟩:=a4; exact ⟨o',q⟩
    exact ⟨o,hk c o q1 q2 q3 q4 e⟩
   ·exact ⟨by show 2≤sizeLine; decide,[u,v],.cons uxr (.cons vyr .nil),⟨_,a5,rfl,_,rfl⟩⟩
  refine ⟨_,rfl,?_⟩
  have fz:=hf z (by simp)
  refine wpAny_letOwnedTupleGo_zip a1 fun h2' hz' hs'=>?_
  have zT:z≠s.heap.objs.size:=Nat.ne_of_lt (Heap.lt_size hz)
  have I2:Inv X pins σ (upd H s.heap.objs.size (.tup [x,y])) { ({ s with heap:=h',toks:=s.toks }:Shared) with heap:=h2',toks:=s.toks }:=I1.turned (fun c o hc' e=>hs'.extBut c o hc' e) (by rw [upd_ne zT]; exact fz.1) fz.2.1 fz.2.2.2.1 fz.2.2.2.2.1 fz.2.2.2.2.2
  refine ⟨.ref s.heap.objs.size,upd H s.heap.objs.size (.tup [x,y]),I2,rfl,⟨s.heap.objs.size,x,y,hT0,rfl,rfl,fun xs' sx'=>?_,fun ys' sy'=>?_⟩,⟨hz',hs'.extBut _ _ D.TIz (hk _ _ D.TIz D.TITO D.TIi1 D.TIi2 hTI),⟨_,_,hs'.extBut _ _ D.TOz a2⟩,a3.extBut hs'.extBut D.i1z,a4.extBut hs'.extBut D.i2z⟩,fun c hc'=>?_⟩
  ·rw [I.list_inj sx' sx]; exact gx
  ·rw [I.list_inj sy' sy]; exact gy
  ·have hcl:c < s.heap.objs.size:=by
    have hc2:c=z∨c=TI∨c=TO∨c=i1∨c=i2:=by simpa using hc'
    rcases hc2 with e | e | e | e | e
    ·subst e; exact Heap.lt_size hz
    ·subst e; exact Heap.lt_size hTI
    ·subst e; exact Heap.lt_size hTO
    ·subst e; obtain ⟨_,q,_⟩:=h1; exact Heap.lt_size q
    ·subst e; obtain ⟨_,q,_⟩:=h2; exact Heap.lt_size q
   rw [upd_ne (Nat.ne_of_lt hcl)]; exact (hf c hc').1
 done:=by
  intro X hP hw hK hc i pins s σ H E I hf st hg
  subst hP hw hK
  obtain ⟨xs,ys,sx,sy,hend⟩:=hg
  obtain ⟨hz,hTI,⟨wa,wb,hTO⟩,h1,h2⟩:=st
  obtain ⟨ix,rx,px,_⟩:=I.list sx
  obtain ⟨iy,ry,py,_⟩:=I.list sy
  have D:=zip_apart hz hTI hTO h1 h2 px.isList py.isList n1 n2
  refine wpAny_pyNext_zip_end (I.ok.hd hc) D hz hTI hTO h1 h2 px.isList py.isList ?_ fun h' hk=>⟨rfl,?_⟩
  ·rcases hend with q | q
   ·left; simp [← rx.length]; omega
   ·right; simp [← ry.length]; omega
  ·have fz:=hf z (by simp)
   have fo:=hf TO (by simp)
   have f1:=hf i1 (by simp)
   have f2:=hf i2 (by simp)
   refine I.step (g':=s.gens) (d':=s.drawn) (t':=s.toks) (ch:=[z,TO,i1,i2]) (fun b hb=>?_) (fun b o _ _ hc' e _=>hk b o (fun q=>hc' (by simp [q])) (fun q=>hc' (by simp [q])) (fun q=>hc' (by simp [q])) (fun q=>hc' (by simp [q])) e) (fun b o _ _ hc' e _=>⟨o.slots,hk b o (fun q=>hc' (by simp [q])) (fun q=>hc' (by simp [q])) (fun q=>hc' (by simp [q])) (fun q=>hc' (by simp [q])) e⟩) (fun _ _ _ _ n=>n)
    (fun b o hc' e=>⟨o,hk b o (fun q=>hc' (by simp [q])) (fun q=>hc' (by simp [q])) (fun q=>hc' (by simp [q])) (fun q=>hc' (by simp [q])) e⟩) (fun _ _ e=>e) (fun _ _ _ e=>e) (fun b ps e=>⟨#[],by rw [e]; simp⟩) (fun m hm=>?_) (fun b u e=>?_) I.bare
   ·have q:=hf b (by simp at hb ⊢; rcases hb with q | q | q | q <;> simp [q])
    exact ⟨q.2.2.2.1,q.2.1,q.2.2.2.2.1,q.2.2.2.2.2⟩
   ·obtain ⟨o,es,ep,ho,r⟩:=hm
    exact ⟨o,es,ep,hk _ o (Ne.symm fz.2.1) (Ne.symm fo.2.1) (Ne.symm f1.2.1) (Ne.symm f2.2.1) ho,r⟩
   ·have nn:∀ c v,H c=some v→c≠z∧c≠TO∧c≠i1∧c≠i2:=fun c v e=>⟨(fun q=>by (rw [q,fz.1] at e; cases e)),(fun q=>by (rw [q,fo.1] at e; cases e)),(fun q=>by (rw [q,f1.1] at e; cases e)),(fun q=>by (rw [q,f2.1] at e; cases e))⟩
    refine (I.hok b u e).stay (fun c v hc' q=>?_) (fun _ q=>q) fun _ _ q=>q
    have:=nn c
    rcases hc' with e' | e'
    ·subst e'; obtain ⟨w1,w2,w3,w4⟩:=nn c _ e; exact hk c v w1 w2 w3 w4 q
    ·obtain ⟨w1,w2,w3,w4⟩:=nn c _ e'; exact hk c v w1 w2 w3 w4 q
 self:=fun _ _ _ _ _ st h=>wpAny_pyIter_zip st.1 h
section
variable {X:Cx} {elts:List Expr} {kk:Nat} {tp:Pos}
def iZip (K:PySem.W.Frag) (ta:TA):TI:=fun σ H R=>ta σ H fun vs H1=>∃ a b,vs=[.ref a,.ref b]∧(∃ xs,SqL K H1 a xs)∧(∃ ys,SqL K H1 b ys)∧R (Itz K a b) H1
theorem pi_zip {e1 e2:Expr} {ta:TA} {p pos:Pos} (hg:Gl X "zip") (hm:X.mg "zip"=none) (ha:PA X [e1,e2] ta) (he:starEach [e1,e2] X.env=(false,eval e1 X.env) :: starEach [e2] X.env:=by rfl)
  (hpl:(backTo pos (starEach [e2] X.env)).any (·.1)=false:=by rfl):PI X (.Tuple elts kk tp) (.Call (.Name "zip" p) [e1,e2] [] pos) (iZip X.K ta):=by
 intro pins s σ H R I h
 refine Call_ (ld_blt I hg hm PyProof.Rows.boot_zip (PyProof.Rows.callWith_type1 (thn (ha pos pins s σ H _ I h) fun us s1 ⟨vs,H1,I1,r1,q1⟩=>?_) he hpl))
 obtain ⟨a,b,e,⟨xs,sx⟩,⟨ys,sy⟩,q⟩:=q1
 subst e
 obtain ⟨u,w',rfl,ra,rb⟩:=vals2 r1
 cases ra; cases rb
 obtain ⟨ix,rx,px,_⟩:=I1.list sx
 obtain ⟨iy,ry,py,_⟩:=I1.list sy
 refine call_zip_2 px.isList py.isList fun h' z1 z2 z3 z4 z5 z6 hk=>?_
 have I2:Inv X pins σ H1 { s1 with heap:=h',toks:=s1.toks }:=I1.kept hk
 refine wpAny_pyIter_zip (s:={ s1 with heap:=h' }) z1 ?_
 refine ⟨s1.heap.objs.size + 4,[s1.heap.objs.size + 4,s1.heap.objs.size + 2,s1.heap.objs.size + 3,s1.heap.objs.size,s1.heap.objs.size + 1],_,Itz X.K a b,H1,rfl,I2,turn_zip (s1.heap.objs.size + 4) (s1.heap.objs.size + 2) (s1.heap.objs.size + 3) s1.heap.objs.size (s1.heap.objs.size + 1) a b (Nat.ne_of_lt (Nat.lt_succ_self _)) (Nat.ne_of_lt (Nat.lt_succ_self _)),⟨z1,z2,⟨_,_,z3⟩,z4,z5⟩,fun c hc=>?_,q⟩
 have hge:s1.heap.objs.size≤c:=by
  simp at hc
  rcases hc with e | e | e | e | e <;> subst e <;> omega
 exact I1.fpOk hge (I1.hok.fresh hge)
end
end L2
namespace L2.EP
open PySem PySem.Spec PyProof.Rows
section
variable {X:Cx} {Γ:GEnv} {α β:Type} [Py α] [Py β] {e1 e2:Expr} {b1 b2:Bool} {elts:List Expr} {kk:Nat} {tp p ps:Pos}
theorem ei_zip {xs:List α} {ys:List β} (hg:Gl X "zip") (hm:X.mg "zip"=none) (h1:E X Γ e1 b1 xs) (h2:E X Γ e2 b2 ys) (hs1:starEach [e1,e2] X.env=(false,eval e1 X.env) :: starEach [e2] X.env:=by rfl) (hs2:starEach [e2] X.env=(false,eval e2 X.env) :: starEach [] X.env:=by rfl)
  (hpl:(backTo ps (starEach [e2] X.env)).any (·.1)=false:=by rfl):EI X Γ (.Tuple elts kk tp) (.Call (.Name "zip" p) [e1,e2] [] ps) (b1 && b2) (xs.zip ys):=by
 with_unfolding_all
  exact ⟨_,pi_zip hg hm (pa_cons h1 (pa_cons h2 pa_nil hs2) hs1) hs1 hpl,fun σ H H0 F O R Z q=>⟨H0,F,O,Z,fun v H1 s1 r1=>⟨H0,F,O,Z.go s1,fun w H2 s2 r2=>by
    obtain ⟨a,va,ea,sa,na,ra⟩:=r1
    obtain ⟨c,vc,ec,sc,nc,rc⟩:=r2
    have sa2:=(off_mono (O:=O) s2).seq sa
    refine ⟨a,c,by rw [ea,ec],⟨va,(off_same _ _).seq sa2⟩,⟨vc,(off_same _ _).seq sc⟩,q _ H2 (s1.trans s2) fun H' O' hO' sm=>⟨fun i u hu=>?_,?_⟩⟩
    ·obtain ⟨hx,hy⟩:=List.getElem?_zip_eq_some.mp hu
     obtain ⟨x,gx,rx⟩:=pr_get ra hx
     obtain ⟨y,gy,ry⟩:=pr_get rc hy
     have sa':=(off_same _ _).seq (sm.seq sa2)
     have sc':=(off_same _ _).seq (sm.seq sc)
     refine ⟨⟨va,vc,x,y,sa',sc',gx,gy⟩,fun v' H'' hv=>?_⟩
     obtain ⟨T,x',y',hT,rfl,rfl,f1,f2⟩:=hv
     have ex:=f1 va sa'
     have ey:=f2 vc sc'
     rw [gx] at ex; cases ex
     rw [gy] at ey; cases ey
     have hTO:¬ O' T:=fun z=>by
      obtain ⟨zs,w⟩:=hO' T z
      rw [hT] at w; cases w
     refine ⟨same_upd hT _,T,x,y,rfl,.inl (by rw [off_get hTO]; exact upd_same),?_,?_⟩
     ·exact rp_wid (fun _ _ n=>nf_and1 n) (rp_mono ((off_mono s2).trans (sm.trans (off_mono (same_upd hT _)))) rx)
     ·exact rp_wid (fun _ _ n=>nf_and2 n) (rp_mono (sm.trans (off_mono (same_upd hT _))) ry)
    ·refine ⟨va,vc,(off_same _ _).seq (sm.seq sa2),(off_same _ _).seq (sm.seq sc),?_⟩
     rw [pr_len ra,pr_len rc,List.length_zip]
     omega⟩⟩⟩
theorem pg_cn2 {scope:Scope} {tn:List Str} {js:List Nat} {C:Addr} {s:Shared} {H:Hp} {fp:List Addr} {x y:Str} {p1 p2 p3:Pos} {k:Nat} (i j:Nat) (N:List Str) (hc:X.calm=true:=by rfl) (h:cN X tn js=N:=by rfl) (hd:N.Nodup:=by decide +kernel) (hi:N[i]?=some x:=by rfl) (hj:N[j]?=some y:=by rfl)
  (hl:scope.names.lookup x=some .local∨scope.names.lookup x=some .cell:=by first | exact .inl rfl | exact .inr rfl) (hl2:scope.names.lookup y=some .local∨scope.names.lookup y=some .cell:=by first | exact .inl rfl | exact .inr rfl) :
  PG (blk X (cN X tn js) scope C s H fp) (.Tuple [.Name x p1,.Name y p2] k p3) (gTup X.K 2 (gCons (gName i) (gCons (gName j) gNil))) :=
 pg_tup (X:=blk X (cN X tn js) scope C s H fp) hc (pgs_cons (pg_cn i N h hd hi hl) (pgs_cons (pg_cn j N h hd hj hl2) pgs_nil))
theorem lt_of_eq2 {i j n:Nat} (h:i < n:=by decide) (h2:j < n:=by decide):∀ k,k=i∨k=j→k < n:=fun k e=>by rcases e with e | e <;> rw [e] <;> assumption
end
end L2.EP
namespace L2.EP
open PySem PySem.Spec PyProof.Rows
class PyT (β:Type) [Py β]:Prop where
 free:∀ {K:PySem.W.Frag} {N N':Nn} {H H':Hp} {v:V} {b:β},(∀ p xs,Rt H p xs→Rt H' p xs)→Py.rp K N H v b→Py.rp K N' H' v b
 nl:∀ {K:PySem.W.Frag} {N:Nn} {H:Hp} {q:Addr} {b:β} {xs:List V},Py.rp K N H (.ref q) b→H q=some (.lst xs)→False
instance:PyT Int where
 free _ h:=h
 nl h _:=nomatch h
instance:PyT Bool where
 free _ h:=h
 nl h _:=nomatch h
instance {α β:Type} [Py α] [Py β] [PyT α] [PyT β]:PyT (α × β) where
 free t h:=by
  obtain ⟨p,x,y,e,s,h1,h2⟩:=h
  exact ⟨p,x,y,e,t _ _ s,PyT.free t h1,PyT.free t h2⟩
 nl h e:=by
  obtain ⟨p,x,y,e',s,h1,h2⟩:=h
  cases e'
  rcases s with s | ⟨o,s⟩
  ·rw [e] at s; cases s
  ·rw [e] at s; cases s
def tN {α:Type} [Py α] (K:PySem.W.Frag) (Γ:GEnv) (a:α):TE:=fun σ H Q=>∃ H0 F O,Sta K H0 F O Γ σ H∧∀ v H',Same H H'→Py.rp K (.new H) (off H' O) v a→Q v H'
@[irreducible] def EN {α:Type} [Py α] (X:Cx) (Γ:GEnv) (e:Expr) (a:α):Prop:=PE X e (tN X.K Γ a)
theorem new_less {α:Type} [Py α] {K:PySem.W.Frag} {H H1 Hx:Hp} {v:V} {a:α} (s:Same H H1) (h:Py.rp K (.new H1) Hx v a):Py.rp K (.new H) Hx v a:=rp_wid (N:=.new H1) (N':=.new H) (fun _ _ n=>⟨s.free n.1,n.2⟩) h
section
variable {X:Cx} {Γ:GEnv} {D:GD} {α β γ:Type} [Py α] [Py β] [Py γ] {e e1 e2:Expr} {b b1 b2:Bool} {pos p:Pos} {rest st:List Stmt} {k:Nat} {name:Str} {ps:List Str}
theorem en_call1 {pre:α→Prop} {f:α→β} {a:α} (C:Cal X.prog X.w X.K X.mg X.base k name ps (sp1 X.K pre true f)) (hr:Room k X.A) (hg:Gl X name) (h1:E X Γ e1 b1 a) (hp:pre a)
  (hs1:starEach [e1] X.env=(false,eval e1 X.env) :: starEach [] X.env:=by rfl) (hdb:(name == ("__debug__":Str))=false:=by decide) (hpl:(backTo pos (starEach [] X.env)).any (·.1)=false:=by rfl) :
  EN X Γ (.Call (.Name name p) [e1] [] pos) (f a):=by
 with_unfolding_all
  obtain ⟨fa,fd,F,B,kp,m⟩:=C.ex
  exact pe_wk (pe_call F hr hg m kp B .nil pass0 (pa_cons h1 pa_nil hs1) hdb hs1 hpl) fun σ H Q ⟨H0,F,O,S,q⟩=>⟨H0,F,O,S,fun v1 H1 s1 r1 =>
   ⟨O,v1,a,(S.go s1).own,rfl,rp_wid nf_true r1,hp,fun r H' s' z=>q r H' (s1.trans s') (new_less s1 z)⟩⟩
theorem s_deep (i:Nat) {x:Str} {a:α} {p:Pos} (hN:X.N.Nodup) (he:EN X Γ e a) (h:S X (Γ.set i (some (.dpo a))) rest D) (hi:X.N[i]?=some x:=by rfl) (hx:Loc X.env.scope x:=by first | exact Or.inl rfl | exact Or.inr rfl)
  (hs:swapsWith e (some (.Name x p)) pos.line X.env=pure false:=by rfl) (hf:X.fn x=true∨X.env.scope.names.lookup x=some .local:=by first | exact .inl rfl | exact .inr rfl):S X Γ (.Assign [.Name x p] e pos :: rest) D:=by
 with_unfolding_all
  exact s_seq (ps_wk (ps_set hN hi hx he hs hf) fun De σ H ⟨H0,F,O,Z,n,_⟩=>⟨H0,F,O,Z,fun v H1 s1 r1=>by
    obtain ⟨Z',so⟩:=Z.putOwn (i:=i) (v:=v) s1 (fun q=>H q=none∧∃ xs:Mt,H1 q=some (mo xs)) (fun q z=>z) (Bd.dpo a) True.intro (by
     refine Py.tr (fun q xs sq nn=>?_) (fun q xs sq=>Same.rt (off_same _ _) sq) r1
     have:=(off_same _ _) _ _ nn.2
     exact ⟨Mo.of this,⟨nn.1,xs,this⟩,this⟩)
    exact n _ _ _ _ so Z' h⟩)
end
end L2.EP
namespace L2.EP
open PySem PySem.Spec PyProof.Rows
theorem relabel_free {env:Env} {names:List (Str × NameKind)} {x:Str} (h:names.lookup x=some .free) :
  (names.map fun (n,k)=>if (k == NameKind.free && env.scope.kind == .function && env.kindOf n == some .cell) then (n,NameKind.cell) else (n,k)).lookup x=some .cell ∨
  (names.map fun (n,k)=>if (k == NameKind.free && env.scope.kind == .function && env.kindOf n == some .cell) then (n,NameKind.cell) else (n,k)).lookup x=some .free:=by
 rw [rel_at,h,Option.map_some]
 split
 ·exact .inl rfl
 ·exact .inr rfl
theorem cscope2 {X:Cx} {scope0 scope:Scope} {tn:List Str} {js:List Nat} {N':List Str} {C:Addr} {s:Shared} {H:Hp} {fp:List Addr} (N:List Str) (h2:N'=N) (h:ckS scope0 N scope js=true):CScope (blk X N' scope0 C s H fp) scope tn js:=by
 subst h2
 unfold ckS at h
 simp only [Bool.and_eq_true,List.all_eq_true] at h
 obtain ⟨⟨hk,ha⟩,hj⟩:=h
 refine ⟨by simpa using hk,fun x hx e=>?_,fun x hx e=>?_,fun x hx y hy e=>?_,fun j hjm=>?_⟩
 ·obtain ⟨⟨h1,h2⟩,h3⟩:=ha x hx
  simpa [e] using h1
 ·obtain ⟨⟨h1,h2⟩,h3⟩:=ha x hx
  have h2':(scope.names.lookup x.1 == some .free && (scope0.names.lookup x.1 == some .cell || scope0.names.lookup x.1 == some .free))=true:=by simpa [e] using h2
  obtain ⟨q1,q2⟩:=Bool.and_eq_true_iff.mp h2'
  refine ⟨by simpa using q1,?_⟩
  rcases Bool.or_eq_true_iff.mp q2 with z | z
  ·exact .inl (relabel_cell (by simpa using z))
  ·exact relabel_free (by simpa using z)
 ·obtain ⟨⟨h1,h2⟩,h3⟩:=ha x hx
  have:=h3 y hy
  simpa [e] using this
 ·have:=hj j hjm
  split at this
  ·rename_i x hx
   exact ⟨x,hx,by simpa using this⟩
  ·cases this
section
variable {X:Cx} {Γ:GEnv} {α:Type} [Py α] {e:Expr} {b b':Bool} {pos:Pos}
theorem E.up [PyT α] {a:α} (h:E X Γ e b a):E X Γ e b' a:=by
 with_unfolding_all
  exact pe_wk h fun σ H Q ⟨H0,F,O,S,q⟩=>⟨H0,F,O,S,fun v H' s r=>q v H' s (PyT.free (fun _ _ z=>z) r)⟩
theorem e_up [PyT α] {a:α} (h:E X Γ e b a):E X Γ e b' a:=by
 with_unfolding_all
  exact E.up h
theorem e_listT [PyT α] {xs:List α} {p:Pos} (hg:Gl X "list") (hm:X.mg "list"=none) (ha:E X Γ e b xs) (hs:starEach [e] X.env=(false,eval e X.env) :: starEach [] X.env:=by rfl):E X Γ (.Call (.Name "list" p) [e] [] pos) true xs:=by
 with_unfolding_all
  exact pe_wk (pe_callTy call_list_of hg hm PyProof.Rows.boot_list (pa_cons ha pa_nil hs) (he:=hs)) fun σ H Q ⟨H0,F,O,S,q⟩=>⟨H0,F,O,S,fun v H1 s1 r1=>by
    obtain ⟨p,vs,e,sq,n,r⟩:=r1
    refine ⟨p,vs,by rw [e],.inl ((off_same _ _).seq sq),fun l hl=>?_⟩
    obtain ⟨z1,z2⟩:=laid_lst (xs:=vs) (S.go s1) hl
    exact q _ _ (s1.trans z1) ⟨l,vs,rfl,SqL.of z2,Nf.wk ((S.go s1).free0 hl) z2,pr_imp (fun _ _ z=>PyT.free (fun _ _ t=>Same.rt (off_mono z1) t) z) r⟩⟩
end
theorem take_fold {α β:Type} {g:β→α→β} {z:β} {us:List α} {i:Nat} {a:α} (h:us[i]?=some a):(us.take (i + 1)).foldl g z=g ((us.take i).foldl g z) a:=by
 rw [List.take_add_one,h,List.foldl_append]; rfl
end L2.EP
namespace EP
theorem gcd_fmod (a b:Int):Int.gcd b (a.fmod b)=Int.gcd a b:=by
 rw [Int.fmod_def,Int.gcd_comm a b]
 exact Int.gcd_sub_mul_left_right ..
theorem fmod_lt (a b:Int) (hb:b≠0):(a.fmod b).natAbs < b.natAbs:=by
 rcases Int.lt_or_gt_of_ne hb with h | h
 ·have e:=Int.neg_fmod_neg a b
  have h':(0:Int) < -b:=by omega
  have h1:=Int.fmod_nonneg_of_pos (-a) h'
  have h2:=Int.fmod_lt_of_pos (-a) h'
  omega
 ·have h1:=Int.fmod_nonneg_of_pos a h
  have h2:=Int.fmod_lt_of_pos a h
  omega
def fd (t b:Int):Int:=if b < 0 then -(Int.gcd t b:Int) else (Int.gcd t b:Int)
def fr (t b:Int):Int × Int:=(t.fdiv (fd t b),b.fdiv (fd t b))
theorem fd_ne {t b:Int} (hb:b≠0):fd t b≠0:=by
 have h:Int.gcd t b≠0:=by
  intro h; rw [Int.gcd_eq_zero_iff] at h; exact hb h.2
 unfold fd; split <;> omega
theorem fd_dvd_left (t b:Int):fd t b ∣ t:=by
 unfold fd; split
 ·exact (Int.neg_dvd).mpr (Int.gcd_dvd_left ..)
 ·exact Int.gcd_dvd_left ..
theorem fd_dvd_right (t b:Int):fd t b ∣ b:=by
 unfold fd; split
 ·exact (Int.neg_dvd).mpr (Int.gcd_dvd_right ..)
 ·exact Int.gcd_dvd_right ..
theorem fdiv_mul {a d:Int} (h:d ∣ a):d * a.fdiv d=a:=by
 have e:=Int.mul_fdiv_cancel' h
 exact e
theorem fr_top (t b:Int):fd t b * (fr t b).1=t:=fdiv_mul (fd_dvd_left t b)
theorem fr_bot (t b:Int):fd t b * (fr t b).2=b:=fdiv_mul (fd_dvd_right t b)
theorem fr_cross (t b:Int):(fr t b).1 * b=t * (fr t b).2:=by
 have h1:=fr_top t b; have h2:=fr_bot t b
 generalize (fr t b).1=x at *; generalize (fr t b).2=y at *; generalize fd t b=d at *
 subst h1; subst h2
 rw [← Int.mul_assoc,Int.mul_comm x d]
theorem fr_pos {t b:Int} (hb:b≠0):1≤(fr t b).2:=by
 have h2:=fr_bot t b
 have h3:=fd_ne (t:=t) hb
 have h4:fd t b < 0↔b < 0:=by
  unfold fd
  have:0≤(Int.gcd t b:Int):=Int.natCast_nonneg _
  unfold fd at h3
  split <;> split at h3 <;> omega
 generalize (fr t b).2=y at *; generalize fd t b=d at *
 apply Int.not_lt.mp
 intro hy
 have hy0:y≤0:=by omega
 rcases Int.lt_or_gt_of_ne h3 with h | h
 ·have:=Int.mul_nonneg_of_nonpos_of_nonpos (Int.le_of_lt h) hy0
  have:=h4.mp h
  omega
 ·have:=Int.mul_nonpos_of_nonneg_of_nonpos (Int.le_of_lt h) hy0
  have:¬ b < 0:=fun q=>by have:=h4.mpr q; omega
  omega
theorem fd_abs (t b:Int):(fd t b).natAbs=Int.gcd t b:=by
 unfold fd; split <;> omega
theorem fr_gcd {t b:Int} (hb:b≠0):Int.gcd (fr t b).1 (fr t b).2=1:=by
 have h1:=fr_top t b; have h2:=fr_bot t b
 have h3:=fd_ne (t:=t) hb
 have h5:=fd_abs t b
 have h6:Int.gcd (fd t b * (fr t b).1) (fd t b * (fr t b).2)=(fd t b).natAbs * Int.gcd (fr t b).1 (fr t b).2:=Int.gcd_mul_left ..
 rw [h1,h2,h5] at h6
 have h7:0 < Int.gcd t b:=by omega
 have h8:Int.gcd t b * 1=Int.gcd t b * Int.gcd (fr t b).1 (fr t b).2:=by omega
 exact (Nat.eq_of_mul_eq_mul_left h7 h8).symm
theorem fr_abs1 {t b:Int} (hb:b≠0):(fr t b).1.natAbs≤t.natAbs:=by
 have h1:=fr_top t b
 have h3:=fd_ne (t:=t) hb
 have h:t.natAbs=(fd t b).natAbs * (fr t b).1.natAbs:=by rw [← Int.natAbs_mul,h1]
 rw [h]; exact Nat.le_mul_of_pos_left _ (by omega)
theorem fr_abs2 {t b:Int} (hb:b≠0):(fr t b).2.natAbs≤b.natAbs:=by
 have h1:=fr_bot t b
 have h3:=fd_ne (t:=t) hb
 have h:b.natAbs=(fd t b).natAbs * (fr t b).2.natAbs:=by rw [← Int.natAbs_mul,h1]
 rw [h]; exact Nat.le_mul_of_pos_left _ (by omega)
theorem fd_le {t b:Int} (hb:b≠0):(fd t b).natAbs≤b.natAbs:=by
 rw [fd_abs]; exact Nat.le_of_dvd (by omega) (Int.natAbs_dvd_natAbs.mpr (Int.gcd_dvd_right t b))
theorem dvd_of_coprime {a b c:Int} (h:a ∣ b * c) (g:Int.gcd a b=1):a ∣ c:=by
 have h':a.natAbs ∣ b.natAbs * c.natAbs:=by rw [← Int.natAbs_mul]; exact Int.natAbs_dvd_natAbs.mpr h
 exact Int.natAbs_dvd_natAbs.mp (Nat.Coprime.dvd_of_dvd_mul_left (show Nat.Coprime a.natAbs b.natAbs from g) h')
theorem fr_unique {t b x y:Int} (hb:b≠0) (hy:1≤y) (hg:Int.gcd x y=1) (h:x * b=t * y):fr t b=(x,y):=by
 have h1:=fr_top t b; have h2:=fr_bot t b
 have hp:=fr_pos (t:=t) hb
 have hg':=fr_gcd (t:=t) hb
 have hc:=fr_cross t b
 have hd:=fd_ne (t:=t) hb
 generalize hu:(fr t b).1=u at *; generalize hv:(fr t b).2=v at *
 generalize fd t b=d at *
 subst h1; subst h2
 have he:x * v=u * y:=by
  have:d * (x * v)=d * (u * y):=by
   rw [← Int.mul_assoc,← Int.mul_assoc,Int.mul_comm d x,Int.mul_assoc,h]
  exact Int.eq_of_mul_eq_mul_left hd this
 -- v ∣ u * y,gcd u v=1→v ∣ y ; y ∣ x * v→y ∣ v
 have d1:v ∣ y:=by
  have:v ∣ u * y:=⟨x,by rw [← he,Int.mul_comm]⟩
  exact dvd_of_coprime this (by rw [Int.gcd_comm]; exact hg')
 have d2:y ∣ v:=by
  have:y ∣ x * v:=⟨u,by rw [he,Int.mul_comm]⟩
  exact dvd_of_coprime this (by rw [Int.gcd_comm]; exact hg)
 have e:v=y:=Int.dvd_antisymm (by omega) (by omega) d1 d2
 have e2:x=u:=by
  rw [e] at he
  exact Int.eq_of_mul_eq_mul_right (by omega) he
 apply Prod.ext
 ·rw [hu,e2]
 ·rw [hv,e]
end EP
namespace EP
def fadd (u v:Int × Int):Int × Int:=fr (u.1 * v.2 + v.1 * u.2) (u.2 * v.2)
def fmul (u v:Int × Int):Int × Int:=fr (u.1 * v.1) (u.2 * v.2)
def Low (u:Int × Int):Prop:=1≤u.2∧Int.gcd u.1 u.2=1
theorem fr_lowP {t b:Int} (hb:b≠0):Low (fr t b):=⟨fr_pos hb,fr_gcd hb⟩
theorem Low.ne {u:Int × Int} (h:Low u):u.2≠0:=by have:=h.1; omega
theorem fr_is {t b:Int} {u:Int × Int} (hb:b≠0) (h:Low u) (e:u.1 * b=t * u.2):fr t b=u:=fr_unique (x:=u.1) (y:=u.2) hb h.1 h.2 e
end EP
namespace EP
abbrev Fr:=Int × Int
def rng (n:Nat):List Int:=(List.range n).map fun i:Nat=>(i:Int)
theorem rng_len (n:Nat):(rng n).length=n:=by unfold rng; simp
theorem rng_at {n i:Nat} (h:i < n):(rng n)[i]?=some (i:Int):=by
 unfold rng
 rw [List.getElem?_map,List.getElem?_range h]; rfl
def lcmB (us:List Fr):Int:=us.foldl (fun b u=>(b * u.2).fdiv (Int.gcd b u.2:Nat)) 1
theorem lcm_step {b c:Int} (hb:1≤b) (hc:1≤c):1≤(b * c).fdiv (Int.gcd b c:Nat)∧b ∣ (b * c).fdiv (Int.gcd b c:Nat)∧c ∣ (b * c).fdiv (Int.gcd b c:Nat)∧(b * c).fdiv (Int.gcd b c:Nat)≤b * c:=by
 have hg:0 < Int.gcd b c:=by
  rcases Nat.eq_zero_or_pos (Int.gcd b c) with h | h
  ·rw [Int.gcd_eq_zero_iff] at h; omega
  ·exact h
 have d1:((Int.gcd b c:Nat):Int) ∣ b:=Int.gcd_dvd_left ..
 have d2:((Int.gcd b c:Nat):Int) ∣ c:=Int.gcd_dvd_right ..
 generalize Int.gcd b c=g at *
 obtain ⟨x,hx⟩:=d1
 obtain ⟨y,hy⟩:=d2
 have e:(b * c).fdiv (g:Int)=b * y:=by
  rw [hy,← Int.mul_assoc,Int.mul_comm b (g:Int),Int.mul_assoc]
  rw [Int.mul_fdiv_cancel_left _ (by omega)]
 have hg':(1:Int)≤g:=by omega
 have hx1:1≤x:=by
  apply Int.not_lt.mp; intro h
  have:(g:Int) * x≤0:=Int.mul_nonpos_of_nonneg_of_nonpos (by omega) (by omega)
  omega
 have hy1:1≤y:=by
  apply Int.not_lt.mp; intro h
  have:(g:Int) * y≤0:=Int.mul_nonpos_of_nonneg_of_nonpos (by omega) (by omega)
  omega
 rw [e]
 refine ⟨?_,⟨y,rfl⟩,⟨x,?_⟩,?_⟩
 ·have:=Int.mul_le_mul hb hy1 (by omega) (by omega); simpa using this
 ·rw [hx,hy]; grind
 ·refine Int.mul_le_mul_of_nonneg_left ?_ (by omega)
  rw [hy]
  have:=Int.mul_le_mul_of_nonneg_right hg' (show 0≤y by omega)
  simpa using this
theorem lcm_go:∀ (us:List Fr) (b:Int),1≤b→(∀ u∈us,1≤u.2)→1≤us.foldl (fun b u=>(b * u.2).fdiv (Int.gcd b u.2:Nat)) b∧b ∣ us.foldl (fun b u=>(b * u.2).fdiv (Int.gcd b u.2:Nat)) b∧∀ u∈us,u.2 ∣ us.foldl (fun b u=>(b * u.2).fdiv (Int.gcd b u.2:Nat)) b
 | [],b,hb,_=>⟨hb,Int.dvd_refl _,fun _ h=>by cases h⟩
 | u :: us,b,hb,h=>by
  obtain ⟨s1,s2,s3,_⟩:=lcm_step hb (h u List.mem_cons_self)
  obtain ⟨g1,g2,g3⟩:=lcm_go us _ s1 fun w hw=>h w (List.mem_cons_of_mem _ hw)
  refine ⟨g1,Int.dvd_trans s2 g2,fun w hw=>?_⟩
  rcases List.mem_cons.mp hw with e | hw
  ·rw [e]; exact Int.dvd_trans s3 g2
  ·exact g3 w hw
theorem lcmB_pos {us:List Fr} (h:∀ u∈us,1≤u.2):1≤lcmB us:=(lcm_go us 1 (by decide) h).1
theorem lcmB_dvd {us:List Fr} (h:∀ u∈us,1≤u.2) {u:Fr} (hu:u∈us):u.2 ∣ lcmB us:=(lcm_go us 1 (by decide) h).2.2 u hu
def oob (us:List Fr):List Int × Int:=(us.map fun u=>u.1 * (lcmB us).fdiv u.2,lcmB us)
def dotI (xs ys:List Int):Int:=((xs.zip ys).map fun p=>p.1 * p.2).sum
def sop (a b:List Int × Int):Fr:=fr (dotI a.1 b.1) (a.2 * b.2)
def dotF (us vs:List Fr):Fr:=(us.zip vs).foldl (fun acc p=>fadd acc (fmul p.1 p.2)) (0,1)
theorem low_eq {u w:Fr} (hu:Low u) (hw:Low w) (h:u.1 * w.2=w.1 * u.2):u=w:=by
 have h1:=fr_is (t:=w.1) (b:=w.2) hw.ne hu h
 have h2:=fr_is (t:=w.1) (b:=w.2) hw.ne hw rfl
 rw [← h1,h2]
theorem low01:Low (0,1):=⟨by decide,by decide⟩
theorem low_add {u v:Fr} (hu:Low u) (hv:Low v):Low (fadd u v):=fr_lowP (Int.mul_ne_zero hu.ne hv.ne)
theorem low_mul {u v:Fr} (hu:Low u) (hv:Low v):Low (fmul u v):=fr_lowP (Int.mul_ne_zero hu.ne hv.ne)
theorem dot_val {A B:Int} (hA:A≠0) (hB:B≠0) (f g:Fr→Int):∀ (ps:List (Fr × Fr)) (acc:Fr) (s:Int),Low acc→acc.1 * (A * B)=s * acc.2→(∀ p∈ps,Low p.1∧Low p.2∧f p.1 * p.1.2=p.1.1 * A∧g p.2 * p.2.2=p.2.1 * B) →
  Low (ps.foldl (fun acc p=>fadd acc (fmul p.1 p.2)) acc)∧(ps.foldl (fun acc p=>fadd acc (fmul p.1 p.2)) acc).1 * (A * B)=(s + (ps.map fun p=>f p.1 * g p.2).sum) * (ps.foldl (fun acc p=>fadd acc (fmul p.1 p.2)) acc).2
 | [],acc,s,ha,he,_=>⟨ha,by simpa using he⟩
 | p :: ps,acc,s,ha,he,h=>by
  obtain ⟨l1,l2,e1,e2⟩:=h p List.mem_cons_self
  have lm:=low_mul l1 l2
  have la:=low_add ha lm
  have c1:(fmul p.1 p.2).1 * (p.1.2 * p.2.2)=(p.1.1 * p.2.1) * (fmul p.1 p.2).2:=fr_cross _ _
  have c2:(fadd acc (fmul p.1 p.2)).1 * (acc.2 * (fmul p.1 p.2).2)=(acc.1 * (fmul p.1 p.2).2 + (fmul p.1 p.2).1 * acc.2) * (fadd acc (fmul p.1 p.2)).2:=fr_cross _ _
  have n1:=l1.ne
  have n2:=l2.ne
  have n3:=ha.ne
  have n4:=lm.ne
  have m1:(fmul p.1 p.2).1 * (A * B)=(f p.1 * g p.2) * (fmul p.1 p.2).2:=by
   generalize fmul p.1 p.2=m at *
   apply Int.eq_of_mul_eq_mul_right (Int.mul_ne_zero n1 n2)
   have:m.1 * (A * B) * (p.1.2 * p.2.2)=(m.1 * (p.1.2 * p.2.2)) * (A * B):=by grind
   rw [this,c1]
   have:f p.1 * g p.2 * m.2 * (p.1.2 * p.2.2)=(f p.1 * p.1.2) * (g p.2 * p.2.2) * m.2:=by grind
   rw [this,e1,e2]
   grind
  have step:(fadd acc (fmul p.1 p.2)).1 * (A * B)=(s + f p.1 * g p.2) * (fadd acc (fmul p.1 p.2)).2:=by
   generalize fadd acc (fmul p.1 p.2)=a at *
   generalize fmul p.1 p.2=m at *
   apply Int.eq_of_mul_eq_mul_right (Int.mul_ne_zero n3 n4)
   have:a.1 * (A * B) * (acc.2 * m.2)=(a.1 * (acc.2 * m.2)) * (A * B):=by grind
   rw [this,c2]
   have:(acc.1 * m.2 + m.1 * acc.2) * a.2 * (A * B)=((acc.1 * (A * B)) * m.2 + (m.1 * (A * B)) * acc.2) * a.2:=by grind
   rw [this,he,m1]
   grind
  have r:=dot_val hA hB f g ps (fadd acc (fmul p.1 p.2)) (s + f p.1 * g p.2) la step fun q hq=>h q (List.mem_cons_of_mem _ hq)
  rw [List.foldl_cons,List.map_cons,List.sum_cons,← Int.add_assoc]
  exact r
theorem zip_map_mul (f g:Fr→Int):∀ (us vs:List Fr),dotI (us.map f) (vs.map g)=((us.zip vs).map fun p=>f p.1 * g p.2).sum
 | [],_=>by simp [dotI]
 | _ :: _,[]=>by simp [dotI]
 | u :: us,v :: vs=>by
  have:=zip_map_mul f g us vs
  unfold dotI at this ⊢
  simp only [List.map_cons,List.zip_cons_cons,List.sum_cons,this]
theorem div_mul {a b:Int} (h:b ∣ a) (c:Int):(c * a.fdiv b) * b=c * a:=by
 have:=fdiv_mul h
 rw [Int.mul_assoc,Int.mul_comm _ b,this]
theorem mem_zip_l {α β:Type} {xs:List α} {ys:List β} {p:α × β} (h:p∈xs.zip ys):p.1∈xs∧p.2∈ys:=List.of_mem_zip (a:=p.1) (b:=p.2) h
theorem sop_dot {us vs:List Fr} (hu:∀ u∈us,Low u) (hv:∀ v∈vs,Low v):sop (oob us) (oob vs)=dotF us vs:=by
 have pA:=lcmB_pos fun u h=>(hu u h).1
 have pB:=lcmB_pos fun u h=>(hv u h).1
 have nA:lcmB us≠0:=by omega
 have nB:lcmB vs≠0:=by omega
 obtain ⟨h1,h2⟩:=dot_val nA nB (fun u=>u.1 * (lcmB us).fdiv u.2) (fun u=>u.1 * (lcmB vs).fdiv u.2) (us.zip vs) (0,1) 0 low01 (by simp) fun p hp=>by
  obtain ⟨m1,m2⟩:=mem_zip_l hp
  exact ⟨hu _ m1,hv _ m2,div_mul (lcmB_dvd (fun u h=>(hu u h).1) m1) _,div_mul (lcmB_dvd (fun u h=>(hv u h).1) m2) _⟩
 rw [Int.zero_add] at h2
 unfold sop oob
 rw [zip_map_mul]
 exact fr_is (Int.mul_ne_zero nA nB) h1 h2
theorem dotF_low {us vs:List Fr} (hu:∀ u∈us,Low u) (hv:∀ v∈vs,Low v):Low (dotF us vs):=by
 rw [← sop_dot hu hv]
 have pA:=lcmB_pos fun u h=>(hu u h).1
 have pB:=lcmB_pos fun u h=>(hv u h).1
 exact fr_lowP (Int.mul_ne_zero (by show lcmB us≠0; omega) (by show lcmB vs≠0; omega))
abbrev Tb:=List (List Fr)
def colm (T:Tb) (j:Int):List Fr:=T.map fun r=>r.getD j.toNat (0,1)
def tov (T:Tb):Tb:=(rng T.length).map (colm T)
def prd (A B:Tb):Tb:=A.map fun r=>((tov B).map oob).map (sop (oob r))
structure Sq (n:Nat) (T:Tb):Prop where
 len:T.length=n
 row:∀ r∈T,r.length=n
 low:∀ r∈T,∀ u∈r,Low u
theorem getD_mem {α:Type} {l:List α} {i:Nat} {d:α} (h:i < l.length):l.getD i d∈l:=by
 rw [List.getD_eq_getElem?_getD,List.getElem?_eq_getElem h]; exact List.getElem_mem h
theorem Sq.col {n:Nat} {T:Tb} (h:Sq n T) {j:Int} (h0:0≤j) (hj:j < n):(colm T j).length=n∧∀ u∈colm T j,Low u:=by
 refine ⟨by unfold colm; rw [List.length_map]; exact h.len,fun u hu=>?_⟩
 unfold colm at hu
 obtain ⟨r,hr,e⟩:=List.mem_map.mp hu
 subst e
 exact h.low r hr _ (getD_mem (by rw [h.row r hr]; omega))
theorem mem_rng {n:Nat} {j:Int} (h:j∈rng n):0≤j∧j < n:=by
 unfold rng at h
 obtain ⟨i,hi,e⟩:=List.mem_map.mp h
 have:=List.mem_range.mp hi
 omega
theorem Sq.tov {n:Nat} {T:Tb} (h:Sq n T):Sq n (tov T):=by
 refine ⟨by unfold EP.tov; rw [List.length_map,rng_len]; exact h.len,fun r hr=>?_,fun r hr=>?_⟩
 ·obtain ⟨j,hj,e⟩:=List.mem_map.mp hr
  obtain ⟨j0,j1⟩:=mem_rng hj
  rw [h.len] at j1
  subst e; exact (h.col j0 j1).1
 ·obtain ⟨j,hj,e⟩:=List.mem_map.mp hr
  obtain ⟨j0,j1⟩:=mem_rng hj
  rw [h.len] at j1
  subst e; exact (h.col j0 j1).2
theorem prd_eq {n:Nat} {A B:Tb} (hA:Sq n A) (hB:Sq n B):prd A B=A.map fun r=>(rng n).map fun j=>dotF r (colm B j):=by
 unfold prd
 apply List.map_congr_left
 intro r hr
 unfold EP.tov
 rw [List.map_map,List.map_map,hB.len]
 apply List.map_congr_left
 intro j hj
 obtain ⟨j0,j1⟩:=mem_rng hj
 exact sop_dot (hA.low r hr) (hB.col j0 j1).2
theorem Sq.prd {n:Nat} {A B:Tb} (hA:Sq n A) (hB:Sq n B):Sq n (prd A B):=by
 rw [prd_eq hA hB]
 refine ⟨by rw [List.length_map]; exact hA.len,fun r hr=>?_,fun r hr u hu=>?_⟩
 ·obtain ⟨q,hq,e⟩:=List.mem_map.mp hr
  subst e; rw [List.length_map,rng_len]
 ·obtain ⟨q,hq,e⟩:=List.mem_map.mp hr
  subst e
  obtain ⟨j,hj,e⟩:=List.mem_map.mp hu
  obtain ⟨j0,j1⟩:=mem_rng hj
  subst e
  exact dotF_low (hA.low q hq) (hB.col j0 j1).2
def lsum (r:List Fr) (B:Tb) (j:Int):Nat→Fr
 | 0=>(0,1)
 | k + 1=>fadd (lsum r B j k) (fmul (r.getD k (0,1)) ((B.getD k []).getD j.toNat (0,1)))
def lprd (A B:Tb):Tb:=A.map fun r=>(rng B.length).map fun j=>lsum r B j r.length
theorem zip_take_succ {us vs:List Fr} {k:Nat} (h1:k < us.length) (h2:k < vs.length):(us.zip vs).take (k + 1)=(us.zip vs).take k ++ [(us.getD k (0,1),vs.getD k (0,1))]:=by
 have hk:k < (us.zip vs).length:=by rw [List.length_zip]; omega
 rw [List.take_succ,List.getElem?_eq_getElem hk,List.getD_eq_getElem?_getD,List.getD_eq_getElem?_getD,List.getElem?_eq_getElem h1,List.getElem?_eq_getElem h2]
 simp
def plL (n:Nat) (i:Int):List Fr:=(rng n).map fun j=>if j=i then (1,1) else (0,1)
def plT (n:Nat):Tb:=(rng n).map fun i=>plL n i
theorem plL_len (n:Nat) (i:Int):(plL n i).length=n:=by unfold plL; rw [List.length_map,rng_len]
theorem low11:Low (1,1):=⟨by decide,by decide⟩
theorem plT_sq (n:Nat):Sq n (plT n):=by
 refine ⟨by unfold plT; rw [List.length_map,rng_len],fun r hr=>?_,fun r hr u hu=>?_⟩
 ·obtain ⟨i,_,e⟩:=List.mem_map.mp hr
  subst e; exact plL_len n i
 ·obtain ⟨i,_,e⟩:=List.mem_map.mp hr
  subst e
  obtain ⟨j,_,e⟩:=List.mem_map.mp hu
  subst e
  split
  ·exact low11
  ·exact low01
theorem tb_ext {n:Nat} {A B:Tb} (hA:Sq n A) (hB:Sq n B) (h:∀ i j:Nat,i < n→j < n→(A.getD i []).getD j (0,1)=(B.getD i []).getD j (0,1)):A=B:=by
 refine List.ext_getElem (by rw [hA.len,hB.len]) fun i h1 h2=>?_
 have r1:=hA.row _ (List.getElem_mem h1)
 have r2:=hB.row _ (List.getElem_mem h2)
 refine List.ext_getElem (by rw [r1,r2]) fun j h3 h4=>?_
 have:=h i j (by rw [← hA.len]; exact h1) (by rw [← r1]; exact h3)
 simp only [List.getD_eq_getElem?_getD,List.getElem?_eq_getElem h1,List.getElem?_eq_getElem h2,Option.getD_some,List.getElem?_eq_getElem h3,List.getElem?_eq_getElem h4] at this
 exact this
theorem getD_map {α β:Type} {l:List α} {f:α→β} {i:Nat} {d:β} {e:α} (h:i < l.length):(l.map f).getD i d=f (l.getD i e):=by
 rw [List.getD_eq_getElem?_getD,List.getElem?_map,List.getD_eq_getElem?_getD,List.getElem?_eq_getElem h]; rfl
theorem rng_getD {n i:Nat} {d:Int} (h:i < n):(rng n).getD i d=(i:Int):=by rw [List.getD_eq_getElem?_getD,rng_at h]; rfl
theorem tov_get {n:Nat} {T:Tb} (h:Sq n T) {i j:Nat} (hi:i < n) (hj:j < n):((tov T).getD i []).getD j (0,1)=(T.getD j []).getD i (0,1):=by
 unfold EP.tov
 rw [getD_map (e:=0) (by rw [rng_len,h.len]; exact hi),rng_getD (by rw [h.len]; exact hi)]
 unfold colm
 rw [getD_map (e:=[]) (by rw [h.len]; exact hj),Int.toNat_natCast]
theorem prd_get {n:Nat} {A B:Tb} (hA:Sq n A) (hB:Sq n B) {i j:Nat} (hi:i < n) (hj:j < n):((prd A B).getD i []).getD j (0,1)=dotF (A.getD i []) (colm B j):=by
 rw [prd_eq hA hB,getD_map (e:=[]) (by rw [hA.len]; exact hi),getD_map (e:=0) (by rw [rng_len]; exact hj),rng_getD hj]
theorem row_mem {n:Nat} {A:Tb} (hA:Sq n A) {i:Nat} (hi:i < n):A.getD i []∈A:=getD_mem (by rw [hA.len]; exact hi)
theorem colm_getD {n:Nat} {A:Tb} (hA:Sq n A) {i:Nat} {j:Int} (hi:i < n):(colm A j).getD i (0,1)=(A.getD i []).getD j.toNat (0,1):=by
 unfold colm; rw [getD_map (e:=[]) (by rw [hA.len]; exact hi)]
end EP
namespace EP
def val (u:Fr):Rat:=Rat.divInt u.1 u.2
theorem val_fr {t b:Int} (hb:b≠0):val (fr t b)=Rat.divInt t b :=
 (Rat.divInt_eq_divInt_iff (fr_lowP hb).ne hb).mpr (fr_cross t b)
theorem val_inj {u v:Fr} (hu:Low u) (hv:Low v) (h:val u=val v):u=v :=
 low_eq hu hv ((Rat.divInt_eq_divInt_iff hu.ne hv.ne).mp h)
theorem val_add {u v:Fr} (hu:Low u) (hv:Low v):val (fadd u v)=val u + val v:=by
 unfold fadd
 rw [val_fr (Int.mul_ne_zero hu.ne hv.ne)]
 exact (Rat.divInt_add_divInt u.1 v.1 hu.ne hv.ne).symm
theorem val_mul {u v:Fr} (hu:Low u) (hv:Low v):val (fmul u v)=val u * val v:=by
 unfold fmul
 rw [val_fr (Int.mul_ne_zero hu.ne hv.ne)]
 exact (Rat.divInt_mul_divInt u.1 v.1).symm
theorem val01:val (0,1)=0:=Rat.zero_divInt 1
def sN (f:Nat→Rat):Nat→Rat
 | 0=>0
 | n + 1=>sN f n + f n
theorem sN_congr {f g:Nat→Rat}:∀ n,(∀ i,i < n→f i=g i)→sN f n=sN g n
 | 0,_=>rfl
 | n + 1,h=>by
  show sN f n + f n=sN g n + g n
  rw [sN_congr n fun i hi=>h i (by omega),h n (by omega)]
theorem sN_mulL (c:Rat) (f:Nat→Rat):∀ n,sN (fun i=>c * f i) n=c * sN f n
 | 0=>by show (0:Rat)=c * 0; grind
 | n + 1=>by
  show sN (fun i=>c * f i) n + c * f n=c * (sN f n + f n)
  rw [sN_mulL c f n]; grind
theorem sN_mulR (c:Rat) (f:Nat→Rat) (n:Nat):sN (fun i=>f i * c) n=sN f n * c:=by
 rw [Rat.mul_comm,← sN_mulL]
 exact sN_congr n fun i _=>Rat.mul_comm _ _
theorem sN_add (f g:Nat→Rat):∀ n,sN (fun i=>f i + g i) n=sN f n + sN g n
 | 0=>by show (0:Rat)=0 + 0; grind
 | n + 1=>by
  show sN (fun i=>f i + g i) n + (f n + g n)=sN f n + f n + (sN g n + g n)
  rw [sN_add f g n]; grind
theorem sN_zero:∀ n,sN (fun _=>0) n=0
 | 0=>rfl
 | n + 1=>by show sN (fun _=>0) n + 0=0; rw [sN_zero n]; grind
def vsum (r x:List Fr):Nat→Fr
 | 0=>(0,1)
 | k + 1=>fadd (vsum r x k) (fmul (r.getD k (0,1)) (x.getD k (0,1)))
theorem low_getD {l:List Fr} (h:∀ u∈l,Low u) (k:Nat):Low (l.getD k (0,1)):=by
 by_cases hk:k < l.length
 ·exact h _ (getD_mem hk)
 ·rw [List.getD_eq_getElem?_getD,List.getElem?_eq_none (by omega)]; exact low01
theorem vsum_val {r x:List Fr} (hr:∀ u∈r,Low u) (hx:∀ u∈x,Low u):∀ k,Low (vsum r x k)∧val (vsum r x k)=sN (fun i=>val (r.getD i (0,1)) * val (x.getD i (0,1))) k
 | 0=>⟨low01,val01⟩
 | k + 1=>by
  obtain ⟨a,b⟩:=vsum_val hr hx k
  have h1:=low_getD hr k
  have h2:=low_getD hx k
  refine ⟨low_add a (low_mul h1 h2),?_⟩
  show val (fadd _ (fmul _ _))=sN _ k + _
  rw [val_add a (low_mul h1 h2),val_mul h1 h2,b]
theorem vsum_fold (r x:List Fr) (hl:r.length=x.length):∀ k,k≤r.length→vsum r x k=((r.zip x).take k).foldl (fun acc p=>fadd acc (fmul p.1 p.2)) (0,1)
 | 0,_=>rfl
 | k + 1,h=>by
  rw [zip_take_succ (by omega) (by omega),List.foldl_append,← vsum_fold r x hl k (by omega)]
  rfl
theorem dot_vsum {r x:List Fr} {n:Nat} (h1:r.length=n) (h2:x.length=n):dotF r x=vsum r x n:=by
 rw [vsum_fold r x (by omega) n (by omega),List.take_of_length_le (by rw [List.length_zip]; omega)]
 rfl
theorem dot_val' {r x:List Fr} {n:Nat} (h1:r.length=n) (h2:x.length=n) (hr:∀ u∈r,Low u) (hx:∀ u∈x,Low u):val (dotF r x)=sN (fun i=>val (r.getD i (0,1)) * val (x.getD i (0,1))) n:=by
 rw [dot_vsum h1 h2]; exact (vsum_val hr hx n).2
def atv (T:Tb) (x:List Fr):List Fr:=(T.map oob).map (sop (oob x))
def latv (T:Tb) (x:List Fr):List Fr:=T.map fun r=>vsum r x x.length
end EP
namespace EP
theorem eps_eq {α:Type} {P:α→Prop} (hu:∀ a b,P a→P b→a=b) {a:α} (h:P a):a=@Classical.epsilon α ⟨a⟩ P :=
 hu _ _ h (@Classical.epsilon_spec α P ⟨a,h⟩)
def rtN:Nat→Nat
 | 0=>0
 | n + 1=>if (rtN n + 1) * (rtN n + 1)≤n + 1 then rtN n + 1 else rtN n
theorem rtN_le:∀ n,rtN n * rtN n≤n
 | 0=>Nat.le_refl _
 | n + 1=>by
  have:=rtN_le n
  unfold rtN
  split <;> omega
theorem rtN_lt:∀ n,n < (rtN n + 1) * (rtN n + 1)
 | 0=>by decide
 | n + 1=>by
  have h:=rtN_lt n
  unfold rtN
  split
  ·have:(rtN n + 1) * (rtN n + 1) < (rtN n + 1 + 1) * (rtN n + 1 + 1):=Nat.mul_lt_mul'' (by omega) (by omega)
   omega
  ·omega
def rt (k:Int):Int:=(rtN k.toNat:Int)
theorem rt_nonneg (k:Int):0≤rt k:=by unfold rt; omega
theorem rt_le {k:Int} (h:0≤k):rt k * rt k≤k:=by
 have:=rtN_le k.toNat
 unfold rt
 have e:((rtN k.toNat * rtN k.toNat:Nat):Int)≤((k.toNat:Nat):Int):=by omega
 rw [Int.natCast_mul] at e
 omega
theorem rt_lt {k:Int} (h:0≤k):k < (rt k + 1) * (rt k + 1):=by
 have:=rtN_lt k.toNat
 unfold rt
 have e:((k.toNat:Nat):Int) < (((rtN k.toNat + 1) * (rtN k.toNat + 1):Nat):Int):=by omega
 rw [Int.natCast_mul] at e
 simp only [Int.natCast_add,Int.natCast_one] at e
 omega
theorem sq_lt {a b:Int} (h0:0≤a) (h:a * a < b * b) (hb:0≤b):a < b:=by
 apply Classical.byContradiction
 intro hn
 have:b * b≤a * a:=Int.mul_le_mul (by omega) (by omega) hb h0
 omega
theorem sq_le {a b:Int} (h0:0≤a) (h:a≤b):a * a≤b * b:=Int.mul_le_mul h h h0 (by omega)
theorem rt_unique {k r:Int} (h0:0≤r) (h1:r * r≤k) (h2:k < (r + 1) * (r + 1)):r=rt k:=by
 have hk:0≤k:=Int.le_trans (Int.mul_nonneg h0 h0) h1
 have a:=rt_le hk
 have b:=rt_lt hk
 have c:=rt_nonneg k
 have:=sq_lt h0 (show r * r < (rt k + 1) * (rt k + 1) by omega) (by omega)
 have:=sq_lt c (show rt k * rt k < (r + 1) * (r + 1) by omega) (by omega)
 omega
theorem lt_rt {d k:Int} (h:0≤k) (hd:0≤d):d < rt k + 1↔d * d≤k:=by
 constructor
 ·intro z
  exact Int.le_trans (sq_le hd (by omega)) (rt_le h)
 ·intro z
  exact sq_lt hd (by have:=rt_lt h; omega) (by have:=rt_nonneg k; omega)
theorem newton {k r:Int} (hk:0≤k) (hr:0 < r) (h:k < r * r):0≤(r + k.fdiv r).fdiv 2∧(r + k.fdiv r).fdiv 2 < r∧k < ((r + k.fdiv r).fdiv 2 + 1) * ((r + k.fdiv r).fdiv 2 + 1):=by
 rw [Int.fdiv_eq_ediv_of_nonneg k (by omega),Int.fdiv_eq_ediv_of_nonneg _ (by decide)]
 have e:=Int.mul_ediv_add_emod k r
 have m0:=Int.emod_nonneg k (show r≠0 by omega)
 have m1:=Int.emod_lt_of_pos k hr
 have q0:0≤k / r:=Int.ediv_nonneg hk (by omega)
 have q1:k / r < r:=Int.ediv_lt_of_lt_mul hr h
 generalize k / r=q at *
 generalize k % r=m at *
 have n1:2 * ((r + q) / 2)≤r + q:=by omega
 have n2:r + q + 1≤2 * ((r + q) / 2) + 2:=by omega
 refine ⟨by omega,by omega,?_⟩
 generalize (r + q) / 2=n at *
 have s1:(r + q + 1) * (r + q + 1)≤(2 * n + 2) * (2 * n + 2):=sq_le (by omega) n2
 have s2:0≤(r - (q + 1)) * (r - (q + 1)):=by
  rcases Int.le_total 0 (r - (q + 1)) with z | z
  ·exact Int.mul_nonneg z z
  ·exact Int.mul_nonneg_of_nonpos_of_nonpos z z
 grind
def OddFree (k:Int):Prop:=∀ d:Int,3≤d→d * d≤k→d % 2=1→¬ d ∣ k
open Classical in
noncomputable def isP (k:Int):Bool:=decide (k=2∨(3≤k∧k % 2=1∧OddFree k))
open Classical in
theorem isP_iff {k:Int}:isP k=true↔k=2∨(3≤k∧k % 2=1∧OddFree k):=by unfold isP; exact decide_eq_true_iff
theorem isP_ge {k:Int} (h:isP k=true):2≤k:=by rcases isP_iff.mp h with h | h <;> omega
def nodiv (n:Nat) (m:Nat):Bool:=@Nat.rec (fun _=>Bool) true (fun i ih=>cond (Nat.beq (n % (2 * i + 3)) 0) false ih) m
theorem nodiv_ok {n:Nat}:∀ {m:Nat},nodiv n m=true→∀ i,i < m→n % (2 * i + 3)≠0
 | 0,_,i,hi=>absurd hi (Nat.not_lt_zero _)
 | m + 1,h,i,hi=>by
  have h':cond (Nat.beq (n % (2 * m + 3)) 0) false (nodiv n m)=true:=h
  cases hb:Nat.beq (n % (2 * m + 3)) 0 with
  | true=>rw [hb] at h'; cases h'
  | false =>
   rw [hb] at h'
   rcases Nat.lt_succ_iff_lt_or_eq.mp hi with z | z
   ·exact nodiv_ok h' i z
   ·subst z
    intro e
    rw [e] at hb
    cases hb
theorem oddFree_of {n m:Nat} (h:nodiv n m=true) (hm:n < (2 * m + 3) * (2 * m + 3)):OddFree (n:Int):=by
 intro d h3 hd ho hdv
 have hlt:d < (2 * m + 3:Int):=sq_lt (by omega) (by
  have:(n:Int) < (((2 * m + 3) * (2 * m + 3):Nat):Int):=by omega
  rw [Int.natCast_mul] at this
  simp only [Int.natCast_add,Int.natCast_mul] at this
  exact Int.lt_of_le_of_lt hd this) (by omega)
 have z:=nodiv_ok h ((d.toNat - 3) / 2) (by omega)
 have e:2 * ((d.toNat - 3) / 2) + 3=d.toNat:=by omega
 rw [e] at z
 obtain ⟨c,hc⟩:=hdv
 apply z
 have hdn:d.toNat ∣ n:=by
  have:(d.toNat:Int) ∣ (n:Int):=⟨c,by rw [hc]; congr 1; omega⟩
  exact Int.natCast_dvd_natCast.mp this
 exact Nat.mod_eq_zero_of_dvd hdn
theorem isP_of {n m:Nat} (h:nodiv n m=true) (h3:3≤n) (ho:n % 2=1) (hm:n < (2 * m + 3) * (2 * m + 3)):isP (n:Int)=true :=
 isP_iff.mpr (.inr ⟨by omega,by omega,oddFree_of h hm⟩)
noncomputable def pfF:Nat→Int→Int
 | 0,k=>k
 | n + 1,k=>if isP k then k else pfF n (k + 2)
noncomputable def pf (k:Int):Int:=if k < 3 then 2 else pfF 1073741824 (k + 1 - k % 2)
theorem isP_two:isP 2=true:=isP_iff.mpr (.inl rfl)
def NdS (k b m:Int) (r:Option Int):Prop:=match r with
 | none=>∀ d,b≤d→d < m→(d - b) % 2=0→¬ d ∣ k
 | some d=>b≤d∧d < m∧(d - b) % 2=0∧d ∣ k∧∀ d',b≤d'→d' < d→(d' - b) % 2=0→¬ d' ∣ k
theorem NdS.uniq {k b m:Int}:∀ r r',NdS k b m r→NdS k b m r'→r=r'
 | none,none,_,_=>rfl
 | none,some d,h,h'=>absurd h'.2.2.2.1 (h d h'.1 h'.2.1 h'.2.2.1)
 | some d,none,h,h'=>absurd h.2.2.2.1 (h' d h.1 h.2.1 h.2.2.1)
 | some d,some d',h,h'=>by
  rcases Int.lt_trichotomy d d' with z | z | z
  ·exact absurd h.2.2.2.1 (h'.2.2.2.2 d h.1 z h.2.2.1)
  ·rw [z]
  ·exact absurd h'.2.2.2.1 (h.2.2.2.2 d' h'.1 z h'.2.2.1)
theorem NdS.ex (k b m:Int):∀ n:Nat,(∃ d,NdS k b m (some d))∨∀ d,b≤d→d < m→d < b + 2 * n→(d - b) % 2=0→¬ d ∣ k
 | 0=>.inr fun d h1 h2 h3=>by omega
 | n + 1=>by
  rcases NdS.ex k b m n with h | h
  ·exact .inl h
  ·by_cases hm:b + 2 * n < m∧(b + 2 * n:Int) ∣ k
   ·exact .inl ⟨b + 2 * n,by omega,hm.1,by omega,hm.2,fun d' h1 h2 h3=>h d' h1 (by omega) h2 h3⟩
   ·refine .inr fun d h1 h2 h3 h4 hd=>?_
    by_cases e:d=b + 2 * n
    ·subst e; exact hm ⟨h2,hd⟩
    ·exact h d h1 h2 (by omega) h4 hd
noncomputable def ndM (k b m:Int):Option Int:=Classical.epsilon (NdS k b m)
theorem ndM_eq {k b m:Int} {r:Option Int} (h:NdS k b m r):r=ndM k b m:=eps_eq NdS.uniq h
theorem ndM_ok (k b m:Int):NdS k b m (ndM k b m):=by
 rcases NdS.ex k b m (m - b).toNat with ⟨d,h⟩ | h
 ·rw [← ndM_eq h]; exact h
 ·have z:NdS k b m none:=fun d h1 h2 h3=>h d h1 h2 (by omega) h3
  rw [← ndM_eq z]; exact z
noncomputable def ndv (k b e:Int):Option Int:=ndM k b (if rt k + 1 < e then rt k + 1 else e)
theorem dvd_fmod {d k:Int}:k.fmod d=0↔d ∣ k:=⟨Int.dvd_of_fmod_eq_zero,Int.fmod_eq_zero_of_dvd⟩
end EP
namespace EP
theorem isP_dvd {p d:Int} (hp:isP p=true) (hd:0 < d) (h:d ∣ p):d=1∨d=p:=by
 obtain ⟨e,he⟩:=h
 have hp2:=isP_ge hp
 have he0:0 < e:=by
  apply Classical.byContradiction
  intro hn
  have:d * e≤0:=Int.mul_nonpos_of_nonneg_of_nonpos (by omega) (by omega)
  omega
 rcases isP_iff.mp hp with h2 | ⟨h3,ho,hf⟩
 ·have:d≤2:=by
   have:=Int.le_of_dvd (show (0:Int) < 2 by decide) (⟨e,by omega⟩:d ∣ 2)
   omega
  omega
 ·apply Classical.byContradiction
  intro hn
  have hd1:d≠1:=fun z=>hn (.inl z)
  have hd2:d≠p:=fun z=>hn (.inr z)
  have he1:e≠1:=by rintro rfl; omega
  have dodd:d % 2=1:=by
   rcases Int.emod_two_eq d with z | z
   ·obtain ⟨c,hc⟩:=Int.dvd_of_emod_eq_zero z
    rw [hc,Int.mul_assoc] at he
    omega
   ·exact z
  have eodd:e % 2=1:=by
   rcases Int.emod_two_eq e with z | z
   ·obtain ⟨c,hc⟩:=Int.dvd_of_emod_eq_zero z
    rw [hc,Int.mul_left_comm] at he
    omega
   ·exact z
  rcases Int.le_total d e with z | z
  ·exact hf d (by omega) (by rw [he]; exact Int.mul_le_mul_of_nonneg_left z (by omega)) dodd ⟨e,he⟩
  ·exact hf e (by omega) (by rw [he]; exact Int.mul_le_mul_of_nonneg_right z (by omega)) eodd ⟨d,by rw [he,Int.mul_comm]⟩
theorem euclid {p a b:Int} (hp:isP p=true) (h:p ∣ a * b):p ∣ a∨p ∣ b:=by
 have hp2:=isP_ge hp
 have hg:(0:Int) < (Int.gcd p a:Nat):=by
  have:=Int.gcd_pos_of_ne_zero_left a (show p≠0 by omega)
  omega
 rcases isP_dvd hp hg (Int.gcd_dvd_left p a) with z | z
 ·right
  have hc:Nat.Coprime p.natAbs a.natAbs:=by
   show Nat.gcd p.natAbs a.natAbs=1
   have:Int.gcd p a=1:=by omega
   exact this
  have:=Int.natAbs_dvd_natAbs.mpr h
  rw [Int.natAbs_mul] at this
  exact Int.natAbs_dvd_natAbs.mp (hc.dvd_of_dvd_mul_left this)
 ·left
  rw [← z]
  exact Int.gcd_dvd_right p a
theorem small_dvd {p x:Int} (h:p ∣ x) (h1:-p < x) (h2:x < p):x=0:=by
 obtain ⟨c,rfl⟩:=h
 have hp:0 < p:=by omega
 by_cases hc:c=0
 ·rw [hc,Int.mul_zero]
 ·rcases Int.lt_or_gt_of_ne hc with z | z
  ·have:p * c≤p * (-1):=Int.mul_le_mul_of_nonneg_left (by omega) (by omega)
   omega
  ·have:p * 1≤p * c:=Int.mul_le_mul_of_nonneg_left (by omega) (by omega)
   omega
def sqb (k p:Int):Int:=if k % p=0 then 0 else if p=2 then 1 else if (k % p) ^ ((p - 1) / 2).toNat % p=1 then 1 else -1
end EP
namespace EP
def TkS (k d:Int) (r:Int × Int):Prop:=0≤r.1∧k=r.2 * d ^ r.1.toNat∧¬ d ∣ r.2
theorem TkS.lt {k d:Int} (hd:2≤d) {r r':Int × Int} (h:TkS k d r) (h':TkS k d r') (hl:r.1 < r'.1):False:=by
 obtain ⟨a1,a2,a3⟩:=h
 obtain ⟨b1,b2,b3⟩:=h'
 have e:r'.1.toNat=(r'.1.toNat - r.1.toNat - 1) + 1 + r.1.toNat:=by omega
 rw [e,Int.pow_add,Int.pow_succ] at b2
 have hp:d ^ r.1.toNat≠0:=Int.pow_ne_zero (by omega)
 have z:r.2 * d ^ r.1.toNat=(r'.2 * d ^ (r'.1.toNat - r.1.toNat - 1) * d) * d ^ r.1.toNat:=by rw [← a2,b2]; grind
 have w:=Int.eq_of_mul_eq_mul_right hp z
 exact a3 ⟨r'.2 * d ^ (r'.1.toNat - r.1.toNat - 1),by rw [w,Int.mul_comm]⟩
theorem TkS.uniq {k d:Int} (hd:2≤d) (r r':Int × Int) (h:TkS k d r) (h':TkS k d r'):r=r':=by
 have h1:r.1=r'.1:=by
  rcases Int.lt_trichotomy r.1 r'.1 with z | z | z
  ·exact (TkS.lt hd h h' z).elim
  ·exact z
  ·exact (TkS.lt hd h' h z).elim
 have hp:d ^ r.1.toNat≠0:=Int.pow_ne_zero (by omega)
 have h2:r.2=r'.2:=by
  have:=h.2.1.symm.trans h'.2.1
  rw [← h1] at this
  exact Int.eq_of_mul_eq_mul_right hp this
 exact Prod.ext h1 h2
theorem TkS.ex {d:Int} (hd:2≤d):∀ (n:Nat) (k:Int),k≠0→k.natAbs≤n→∃ r,TkS k d r
 | 0,k,h0,hn=>by omega
 | n + 1,k,h0,hn=>by
  by_cases h:d ∣ k
  ·obtain ⟨c,hc⟩:=h
   have hc0:c≠0:=by rintro rfl; rw [Int.mul_zero] at hc; exact h0 hc
   have hlt:c.natAbs < k.natAbs:=by
    rw [hc,Int.natAbs_mul]
    have:2 * c.natAbs≤d.natAbs * c.natAbs:=Nat.mul_le_mul_right _ (by omega)
    omega
   obtain ⟨r,h1,h2,h3⟩:=TkS.ex hd n c hc0 (by omega)
   refine ⟨(r.1 + 1,r.2),by dsimp only; omega,?_,h3⟩
   dsimp only
   rw [show (r.1 + 1).toNat=r.1.toNat + 1 by omega,Int.pow_succ,hc]
   rw [show d * c=d * (r.2 * d ^ r.1.toNat) by rw [← h2]]
   grind
  ·exact ⟨(0,k),Int.le_refl 0,by dsimp only; rw [show (0:Int).toNat=0 from rfl,Int.pow_zero,Int.mul_one],h⟩
noncomputable def tko (k d:Int):Int × Int:=Classical.epsilon (TkS k d)
theorem tko_eq {k d:Int} (hd:2≤d) {r:Int × Int} (h:TkS k d r):tko k d=r:=(eps_eq (TkS.uniq hd) h).symm
theorem tko_ok {k d:Int} (hd:2≤d) (h:k≠0):TkS k d (tko k d):=by
 obtain ⟨r,hr⟩:=TkS.ex hd k.natAbs k h (Nat.le_refl _)
 rw [tko_eq hd hr]; exact hr
theorem tko_step {k d:Int} (hd:2≤d) (h:d ∣ k) (h0:k≠0):k.fdiv d * d=k∧k.fdiv d≠0∧(k.fdiv d).natAbs < k.natAbs:=by
 obtain ⟨c,rfl⟩:=h
 have e:(d * c).fdiv d=c:=Int.mul_fdiv_cancel_left c (by omega)
 rw [e]
 have hc:c≠0:=by rintro rfl; simp at h0
 refine ⟨Int.mul_comm ..,hc,?_⟩
 rw [Int.natAbs_mul]
 have:2 * c.natAbs≤d.natAbs * c.natAbs:=Nat.mul_le_mul_right _ (by omega)
 omega
noncomputable def cls (k p:Int):Int × Int:=((tko k p).1 % 2,if p=2 then (tko k p).2 % 8 else sqb (tko k p).2 p)
def b1 (c:Bool):Int:=if c then 1 else 0
end EP
namespace EP
def C2:List (Int × Int):=[(0,1),(0,3),(0,5),(0,7),(1,1),(1,3),(1,5),(1,7)]
def Pl (p:Int):Prop:=p=0∨isP p=true
end EP
namespace EP
noncomputable def dvF (e:Int):Nat→List (Int × Int)→Int→Int→List (Int × Int) × Int
 | 0,fs,l,_=>(fs,l)
 | n + 1,fs,l,b=>match ndv l b e with
  | none=>(fs,l)
  | some d=>dvF e n (fs ++ [(d,(tko l d).1)]) (tko l d).2 (d + 2)
noncomputable def dvd0 (k:Int):List (Int × Int):=if 0 < (tko k 2).1 then [(2,(tko k 2).1)] else []
noncomputable def dvdF (k e:Int):List (Int × Int) × Int:=dvF e k.toNat (dvd0 k) (tko k 2).2 3
theorem ndv_some {l b e d:Int} (hl:0≤l) (hb:1≤b) (h:ndv l b e=some d):b≤d∧d < e∧d * d≤l∧(d - b) % 2=0∧d ∣ l∧∀ d',b≤d'→d' < d→(d' - b) % 2=0→¬ d' ∣ l:=by
 have z:=ndM_ok l b (if rt l + 1 < e then rt l + 1 else e)
 unfold ndv at h
 rw [h] at z
 obtain ⟨z1,z2,z3,z4,z5⟩:=z
 have h1:d < rt l + 1∧d < e:=by split at z2 <;> omega
 exact ⟨z1,h1.2,(lt_rt hl (by omega)).mp h1.1,z3,z4,z5⟩
theorem ndv_none {l b e:Int} (hl:0≤l) (hb:1≤b) (h:ndv l b e=none):∀ d,b≤d→d < e→d * d≤l→(d - b) % 2=0→¬ d ∣ l:=by
 have z:=ndM_ok l b (if rt l + 1 < e then rt l + 1 else e)
 unfold ndv at h
 rw [h] at z
 intro d h1 h2 h3 h4
 have:=(lt_rt hl (by omega)).mpr h3
 exact z d h1 (by split <;> omega) h4
theorem tko_lt {l d:Int} (hd:2≤d) (hl:0 < l) (h:d ∣ l):0 < (tko l d).2∧2 * (tko l d).2≤l∧1≤(tko l d).1∧(tko l d).2 ∣ l:=by
 obtain ⟨h1,h2,h3⟩:=tko_ok hd (show l≠0 by omega)
 have h1':1≤(tko l d).1:=by
  apply Classical.byContradiction
  intro hn
  have e:(tko l d).1.toNat=0:=by omega
  rw [e,Int.pow_zero,Int.mul_one] at h2
  exact h3 (h2 ▸ h)
 have hp:(2:Int)≤d ^ (tko l d).1.toNat:=by
  have e:(tko l d).1.toNat=((tko l d).1.toNat - 1) + 1:=by omega
  rw [e,Int.pow_succ]
  have:(0:Int) < d ^ ((tko l d).1.toNat - 1):=Int.pow_pos (by omega)
  have:1 * 2≤d ^ ((tko l d).1.toNat - 1) * d:=Int.mul_le_mul (by omega) hd (by decide) (by omega)
  omega
 generalize (tko l d).2=x at *
 generalize d ^ (tko l d).1.toNat=t at *
 have hx:0 < x:=by
  apply Classical.byContradiction
  intro hn
  have:x * t≤0:=Int.mul_nonpos_of_nonpos_of_nonneg (by omega) (by omega)
  omega
 have:x * 2≤x * t:=Int.mul_le_mul_of_nonneg_left hp (by omega)
 exact ⟨hx,by omega,h1',⟨t,h2⟩⟩
def pp:List (Int × Int)→Int
 | []=>1
 | u :: us=>u.1 ^ u.2.toNat * pp us
theorem pp_snoc (u:Int × Int):∀ us,pp (us ++ [u])=pp us * u.1 ^ u.2.toNat
 | []=>by show _ * 1=1 * _; rw [Int.mul_one,Int.one_mul]
 | v :: us=>by
  show v.1 ^ v.2.toNat * pp (us ++ [u])=v.1 ^ v.2.toNat * pp us * _
  rw [pp_snoc u us,Int.mul_assoc]
def Rise:Int→List (Int × Int)→Int→Prop
 | a,[],b=>a < b
 | a,u :: us,b=>a < u.1∧isP u.1=true∧1≤u.2∧Rise u.1 us b
theorem Rise.lt:∀ {a b:Int} {us},Rise a us b→a < b
 | _,_,[],h=>h
 | _,_,_ :: _,h=>Int.lt_trans h.1 (Rise.lt h.2.2.2)
theorem Rise.mono {b b':Int} (hb:b≤b'):∀ {a us},Rise a us b→Rise a us b'
 | _,[],h=>Int.lt_of_lt_of_le h hb
 | _,_ :: _,h=>⟨h.1,h.2.1,h.2.2.1,Rise.mono hb h.2.2.2⟩
theorem Rise.snoc {b b':Int} {u:Int × Int} (hu:isP u.1=true) (h1:1≤u.2) (hb:b≤u.1) (hb':u.1 < b'):∀ {a us},Rise a us b→Rise a (us ++ [u]) b'
 | _,[],h=>⟨Int.lt_of_lt_of_le h hb,hu,h1,hb'⟩
 | _,_ :: _,h=>⟨h.1,h.2.1,h.2.2.1,Rise.snoc hu h1 hb hb' h.2.2.2⟩
structure DvI (k:Int) (fs:List (Int × Int)) (l b:Int):Prop where
 rise:Rise 1 fs b
 prod:pp fs * l=k
 pos:0 < l
 odd:l % 2=1
 b3:3≤b
 bo:b % 2=1
 free:∀ d,3≤d→d < b→d % 2=1→¬ d ∣ l
theorem DvI.prime {k:Int} {fs:List (Int × Int)} {l b e d:Int} (I:DvI k fs l b) (h:ndv l b e=some d):isP d=true:=by
 obtain ⟨h1,h2,h3,h4,h5,h6⟩:=ndv_some (Int.le_of_lt I.pos) (by have:=I.b3; omega) h
 have hb:=I.b3
 have hbo:=I.bo
 refine isP_iff.mpr (.inr ⟨by omega,by omega,fun f g1 g2 g3 g4=>?_⟩)
 have hfl:f ∣ l:=Int.dvd_trans g4 h5
 have hfd:f < d:=by
  have:f * 3≤f * f:=Int.mul_le_mul_of_nonneg_left g1 (by omega)
  omega
 rcases Int.lt_or_le f b with z | z
 ·exact I.free f g1 z g3 hfl
 ·exact h6 f z hfd (by omega) hfl
theorem DvI.step {k:Int} {fs:List (Int × Int)} {l b e d:Int} (I:DvI k fs l b) (h:ndv l b e=some d):DvI k (fs ++ [(d,(tko l d).1)]) (tko l d).2 (d + 2):=by
 obtain ⟨h1,h2,h3,h4,h5,h6⟩:=ndv_some (Int.le_of_lt I.pos) (by have:=I.b3; omega) h
 have hb:=I.b3
 have hbo:=I.bo
 obtain ⟨t1,t2,t3,t4⟩:=tko_lt (show 2≤d by omega) I.pos h5
 obtain ⟨s1,s2,s3⟩:=tko_ok (show 2≤d by omega) (show l≠0 by have:=I.pos; omega)
 refine ⟨I.rise.snoc (I.prime h) t3 h1 (by omega),?_,t1,?_,by omega,by omega,fun f g1 g2 g3 g4=>?_⟩
 ·rw [pp_snoc,Int.mul_assoc,Int.mul_comm (d ^ _),← s2,I.prod]
 ·have ho:=I.odd
  obtain ⟨c,hc⟩:=t4
  rcases Int.emod_two_eq (tko l d).2 with z | z
  ·obtain ⟨y,hy⟩:=Int.dvd_of_emod_eq_zero z
   rw [hy,Int.mul_assoc] at hc
   omega
  ·exact z
 ·have hfl:f ∣ l:=Int.dvd_trans g4 t4
  rcases Int.lt_trichotomy f d with z | z | z
  ·rcases Int.lt_or_le f b with y | y
   ·exact I.free f g1 y g3 hfl
   ·exact h6 f y z (by omega) hfl
  ·rw [z] at g4; exact s3 g4
  ·omega
theorem dvF_ok {k e:Int}:∀ (n:Nat) (fs:List (Int × Int)) (l b:Int),DvI k fs l b→l≤n→∃ b',DvI k (dvF e n fs l b).1 (dvF e n fs l b).2 b'∧ndv (dvF e n fs l b).2 b' e=none
 | 0,fs,l,b,I,h=>by have:=I.pos; omega
 | n + 1,fs,l,b,I,h=>by
  unfold dvF
  cases hn:ndv l b e with
  | none=>exact ⟨b,I,hn⟩
  | some d =>
   obtain ⟨h1,h2,h3,h4,h5,h6⟩:=ndv_some (Int.le_of_lt I.pos) (by have:=I.b3; omega) hn
   obtain ⟨t1,t2,t3,t4⟩:=tko_lt (show 2≤d by have:=I.b3; omega) I.pos h5
   exact dvF_ok n _ _ _ (I.step hn) (by omega)
theorem dvd_start {k:Int} (hk:1≤k):DvI k (dvd0 k) (tko k 2).2 3∧(tko k 2).2≤k:=by
 obtain ⟨s1,s2,s3⟩:=tko_ok (show (2:Int)≤2 by decide) (show k≠0 by omega)
 have hodd:(tko k 2).2 % 2=1:=by omega
 have hp:(0:Int) < 2 ^ (tko k 2).1.toNat:=Int.pow_pos (by decide)
 have hpos:0 < (tko k 2).2:=by
  apply Classical.byContradiction
  intro hn
  have:(tko k 2).2 * 2 ^ (tko k 2).1.toNat≤0:=Int.mul_nonpos_of_nonpos_of_nonneg (by omega) (by omega)
  omega
 have hle:(tko k 2).2≤k:=by
  have:(tko k 2).2 * 1≤(tko k 2).2 * 2 ^ (tko k 2).1.toNat:=Int.mul_le_mul_of_nonneg_left (by omega) (by omega)
  omega
 refine ⟨⟨?_,?_,hpos,hodd,by decide,by decide,fun d h1 h2=>by omega⟩,hle⟩
 ·unfold dvd0
  split
  ·exact ⟨by show (1:Int) < 2; decide,isP_two,by dsimp only; omega,by show (2:Int) < 3; decide⟩
  ·show (1:Int) < 3; decide
 ·unfold dvd0
  split
  ·show (2 ^ (tko k 2).1.toNat * 1) * _=k
   rw [Int.mul_one,Int.mul_comm]; exact s2.symm
  ·have e:(tko k 2).1.toNat=0:=by omega
   rw [e,Int.pow_zero,Int.mul_one] at s2
   show 1 * _=k
   rw [Int.one_mul]; exact s2.symm
theorem dvdF_ok {k e:Int} (hk:1≤k):∃ b,DvI k (dvdF k e).1 (dvdF k e).2 b∧ndv (dvdF k e).2 b e=none:=by
 obtain ⟨I,h⟩:=dvd_start hk
 exact dvF_ok k.toNat _ _ 3 I (by omega)
noncomputable def prt (k:Int):List (Int × Int):=(dvdF k (k + 1)).1 ++ (if 1 < (dvdF k (k + 1)).2 then [((dvdF k (k + 1)).2,1)] else [])
theorem pp_pos:∀ {us:List (Int × Int)} {a b:Int},0≤a→Rise a us b→0 < pp us
 | [],_,_,_,_=>by show (0:Int) < 1; decide
 | u :: us,a,b,ha,h=>Int.mul_pos (Int.pow_pos (by have:=h.1; omega)) (pp_pos (by have:=h.1; omega) h.2.2.2)
theorem prt_ok {k:Int} (hk:1≤k):(∃ b,Rise 1 (prt k) b)∧pp (prt k)=k:=by
 obtain ⟨b,I,hn⟩:=dvdF_ok (e:=k + 1) hk
 have hle:(dvdF k (k + 1)).2≤k:=by
  have h1:=I.prod
  have h2:=pp_pos (by decide) I.rise
  have h3:=I.pos
  have:1 * (dvdF k (k + 1)).2≤pp (dvdF k (k + 1)).1 * (dvdF k (k + 1)).2:=Int.mul_le_mul_of_nonneg_right (by omega) (by omega)
  omega
 unfold prt
 generalize dvdF k (k + 1)=r at *
 split
 ·rename_i hl
  have hodd:=I.odd
  have hb3:=I.b3
  have hbo:=I.bo
  have hlb:b≤r.2:=by
   rcases Int.lt_or_le r.2 b with z | z
   ·exact absurd (Int.dvd_refl r.2) (I.free r.2 (by omega) z hodd)
   ·exact z
  have hpr:isP r.2=true:=by
   refine isP_iff.mpr (.inr ⟨by omega,hodd,fun f g1 g2 g3 g4=>?_⟩)
   rcases Int.lt_or_le f b with z | z
   ·exact I.free f g1 z g3 g4
   ·refine ndv_none (by omega) (by omega) hn f z ?_ g2 (by omega) g4
    have:f * 3≤f * f:=Int.mul_le_mul_of_nonneg_left g1 (by omega)
    omega
  refine ⟨⟨r.2 + 1,I.rise.snoc hpr (Int.le_refl 1) hlb (by dsimp only; omega)⟩,?_⟩
  rw [pp_snoc]
  show pp r.1 * r.2 ^ (1:Int).toNat=k
  rw [show (1:Int).toNat=1 from rfl,Int.pow_succ,Int.pow_zero,Int.one_mul]
  exact I.prod
 ·have:r.2=1:=by have:=I.pos; omega
  rw [List.append_nil]
  refine ⟨⟨b,I.rise⟩,?_⟩
  have:=I.prod
  rw [‹r.2=1›,Int.mul_one] at this
  exact this
end EP
namespace EP
end EP
namespace EP
def Cg (p a b:Int):Prop:=p ∣ a - b
theorem cg_refl (p a:Int):Cg p a a:=⟨0,by omega⟩
theorem cg_symm {p a b:Int} (h:Cg p a b):Cg p b a:=by obtain ⟨c,h⟩:=h; exact ⟨-c,by rw [Int.mul_neg]; omega⟩
theorem cg_trans {p a b c:Int} (h:Cg p a b) (h':Cg p b c):Cg p a c:=by
 obtain ⟨x,h⟩:=h
 obtain ⟨y,h'⟩:=h'
 exact ⟨x + y,by rw [Int.mul_add]; omega⟩
theorem cg_mul {p a b c d:Int} (h:Cg p a b) (h':Cg p c d):Cg p (a * c) (b * d):=by
 obtain ⟨x,h⟩:=h
 obtain ⟨y,h'⟩:=h'
 exact ⟨x * c + b * y,by grind⟩
theorem cg_pow {p a b:Int} (h:Cg p a b):∀ n:Nat,Cg p (a ^ n) (b ^ n)
 | 0=>by rw [Int.pow_zero,Int.pow_zero]; exact cg_refl _ _
 | n + 1=>by rw [Int.pow_succ,Int.pow_succ]; exact cg_mul (cg_pow h n) h
theorem cg_mod (p a:Int):Cg p (a % p) a:=by
 have:=Int.emod_add_mul_ediv a p
 exact ⟨-(a / p),by rw [Int.mul_neg]; omega⟩
theorem cg_eq {p a b:Int} (ha:0≤a∧a < p) (hb:0≤b∧b < p) (h:Cg p a b):a=b:=by
 have:=small_dvd h (by omega) (by omega)
 omega
theorem cg_pm {p y:Int} (hp:isP p=true) (h:Cg p (y * y) 1):Cg p y 1∨Cg p y (-1):=by
 have:p ∣ (y - 1) * (y + 1):=by rw [show (y - 1) * (y + 1)=y * y - 1 by grind]; exact h
 rcases euclid hp this with z | z
 ·exact .inl z
 ·exact .inr (by unfold Cg; rw [show y - -1=y + 1 by omega]; exact z)
def NsS (p k:Int):Prop:=2≤k∧sqb k p=-1∧∀ j,2≤j→j < k→sqb j p≠-1
theorem NsS.uniq {p:Int} (a b:Int) (ha:NsS p a) (hb:NsS p b):a=b:=by
 rcases Int.lt_trichotomy a b with z | z | z
 ·exact absurd ha.2.1 (hb.2.2 a ha.1 z)
 ·exact z
 ·exact absurd hb.2.1 (ha.2.2 b hb.1 z)
def SqS (e p s:Int):Prop:=0≤s∧Cg p (e ^ 2 ^ s.toNat) 1∧∀ j:Nat,(j:Int) < s→¬ Cg p (e ^ 2 ^ j) 1
theorem SqS.uniq {e p:Int} (a b:Int) (ha:SqS e p a) (hb:SqS e p b):a=b:=by
 rcases Int.lt_trichotomy a b with z | z | z
 ·exact absurd ha.2.1 (hb.2.2 a.toNat (by have:=ha.1; omega))
 ·exact z
 ·exact absurd hb.2.1 (ha.2.2 b.toNat (by have:=hb.1; omega))
noncomputable def sqr (e p:Int):Int:=Classical.epsilon (SqS e p)
theorem sqr_eq {e p s:Int} (h:SqS e p s):s=sqr e p:=eps_eq SqS.uniq h
theorem sqr_ok {e p:Int} {n:Nat} (h:Cg p (e ^ 2 ^ n) 1):SqS e p (sqr e p)∧sqr e p≤n:=by
 have:∀ m:Nat,(∃ s:Nat,s≤m∧SqS e p s)∨∀ j:Nat,j≤m→¬ Cg p (e ^ 2 ^ j) 1:=fun m=>by
  induction m with
  | zero =>
   by_cases w:Cg p (e ^ 2 ^ 0) 1
   ·exact .inl ⟨0,Nat.le_refl 0,by omega,w,fun j hj=>by omega⟩
   ·exact .inr fun j hj=>by rw [Nat.le_zero.mp hj]; exact w
  | succ m ih =>
   rcases ih with ⟨s,hs,z⟩ | z
   ·exact .inl ⟨s,by omega,z⟩
   ·by_cases w:Cg p (e ^ 2 ^ (m + 1)) 1
    ·exact .inl ⟨m + 1,Nat.le_refl _,by omega,w,fun j hj=>z j (by omega)⟩
    ·refine .inr fun j hj=>?_
     by_cases q:j=m + 1
     ·rw [q]; exact w
     ·exact z j (by omega)
 rcases this n with ⟨s,hs,z⟩ | z
 ·rw [← sqr_eq z]; exact ⟨z,by omega⟩
 ·exact absurd h (z n (Nat.le_refl n))
def mq (p m:Int):Nat→Int
 | 0=>m
 | i + 1=>mq p m i * mq p m i % p
theorem mq_cg (p m:Int):∀ i,Cg p (mq p m i) (m ^ 2 ^ i)
 | 0=>by show Cg p m (m ^ 1); rw [Int.pow_succ,Int.pow_zero,Int.one_mul]; exact cg_refl _ _
 | i + 1=>by
  have h:=mq_cg p m i
  refine cg_trans (cg_mod p _) ?_
  rw [show (2:Nat) ^ (i + 1)=2 ^ i + 2 ^ i by rw [Nat.pow_succ]; omega,Int.pow_add]
  exact cg_mul h h
theorem mq_ok {p m:Int} (hp:0 < p) (hm:0≤m∧m < p):∀ i,0≤mq p m i∧mq p m i < p
 | 0=>hm
 | _ + 1=>⟨Int.emod_nonneg _ (by omega),Int.emod_lt_of_pos _ hp⟩
structure RoI (p k t r e m:Int):Prop where
 r0:0≤r∧r < p
 e0:0≤e∧e < p
 m0:0≤m∧m < p
 t1:1≤t
 rr:Cg p (r * r) (k * e)
 ee:Cg p (e ^ 2 ^ (t - 1).toNat) 1
 mm:e≠1→Cg p (m ^ 2 ^ (t - 1).toNat) (-1)
theorem RoI.step {p k t r e m:Int} (hp:isP p=true) (I:RoI p k t r e m) (he:e≠1) :
  SqS e p (sqr e p)∧1≤sqr e p∧sqr e p < t∧RoI p k (sqr e p) (r * mq p m (t - sqr e p - 1).toNat % p) (e * (mq p m (t - sqr e p - 1).toNat * mq p m (t - sqr e p - 1).toNat % p) % p) (mq p m (t - sqr e p - 1).toNat * mq p m (t - sqr e p - 1).toNat % p):=by
 have hp2:=isP_ge hp
 obtain ⟨hS,hle⟩:=sqr_ok I.ee
 have ht:=I.t1
 have hs1:1≤sqr e p:=by
  apply Classical.byContradiction
  intro hn
  have hz:sqr e p=0:=by have:=hS.1; omega
  have h1:=hS.2.1
  rw [hz] at h1
  have h1':Cg p e 1:=by
   have:e ^ 2 ^ (0:Int).toNat=e:=by show e ^ 1=e; rw [Int.pow_succ,Int.pow_zero,Int.one_mul]
   rwa [this] at h1
  exact he (cg_eq I.e0 ⟨by decide,by omega⟩ h1')
 have hst:sqr e p < t:=by omega
 refine ⟨hS,hs1,hst,?_⟩
 generalize hsd:sqr e p=s at *
 have hx:=mq_cg p m (t - s - 1).toNat
 have hxb:=mq_ok (show 0 < p by omega) I.m0 (t - s - 1).toNat
 generalize mq p m (t - s - 1).toNat=x at *
 have e1:Cg p (e ^ 2 ^ (s - 1).toNat) (-1):=by
  have hsq:Cg p (e ^ 2 ^ (s - 1).toNat * e ^ 2 ^ (s - 1).toNat) 1:=by
   rw [← Int.pow_add,show 2 ^ (s - 1).toNat + 2 ^ (s - 1).toNat=2 ^ s.toNat by rw [show s.toNat=(s - 1).toNat + 1 by omega,Nat.pow_succ]; omega]
   exact hS.2.1
  rcases cg_pm hp hsq with z | z
  ·exact absurd z (hS.2.2 (s - 1).toNat (by omega))
  ·exact z
 have x1:Cg p (x ^ 2 ^ s.toNat) (-1):=by
  refine cg_trans (cg_pow hx _) ?_
  rw [← Int.pow_mul,← Nat.pow_add,show (t - s - 1).toNat + s.toNat=(t - 1).toNat by omega]
  exact I.mm he
 have m1:Cg p ((x * x % p) ^ 2 ^ (s - 1).toNat) (-1):=by
  refine cg_trans (cg_pow (cg_mod p _) _) ?_
  rw [Int.mul_pow,← Int.pow_add,show 2 ^ (s - 1).toNat + 2 ^ (s - 1).toNat=2 ^ s.toNat by rw [show s.toNat=(s - 1).toNat + 1 by omega,Nat.pow_succ]; omega]
  exact x1
 have bd:∀ y:Int,0≤y % p∧y % p < p:=fun y=>⟨Int.emod_nonneg _ (by omega),Int.emod_lt_of_pos _ (by omega)⟩
 refine ⟨bd _,bd _,bd _,hs1,?_,?_,fun _=>m1⟩
 ·have h1:Cg p (r * x % p * (r * x % p)) (r * x * (r * x)):=cg_mul (cg_mod _ _) (cg_mod _ _)
  have h2:Cg p (k * (e * (x * x % p) % p)) (k * (e * (x * x))):=cg_mul (cg_refl _ _) (cg_trans (cg_mod _ _) (cg_mul (cg_refl _ _) (cg_mod _ _)))
  refine cg_trans h1 (cg_trans ?_ (cg_symm h2))
  rw [show r * x * (r * x)=r * r * (x * x) by grind,show k * (e * (x * x))=k * e * (x * x) by grind]
  exact cg_mul I.rr (cg_refl _ _)
 ·refine cg_trans (cg_pow (cg_mod p _) _) ?_
  rw [Int.mul_pow]
  refine cg_trans (cg_mul e1 m1) ?_
  exact cg_refl _ _
def hz (g p:Nat):List Bool→Nat
 | []=>1 % p
 | b :: bs=>(hz g p bs) ^ 2 * (cond b g 1) % p
def hv:List Bool→Nat
 | []=>0
 | b :: bs=>(cond b 1 0) + 2 * hv bs
end EP
namespace EP
theorem cop_dvd {k n m:Int} (h:k ∣ n * m) (hg:Int.gcd k m=1):k ∣ n:=by
 have:=Int.dvd_mul_gcd_iff_dvd_mul.mpr h
 rw [hg] at this
 simpa using this
def Sqf (n:Int):Prop:=n≠0∧∀ d:Int,2≤d→¬ d * d ∣ n
theorem sqf_one:Sqf 1:=⟨by decide,fun d hd h=>by
 have:=Int.le_of_dvd (by decide) h
 have:2 * 2≤d * d:=Int.mul_le_mul hd hd (by decide) (by omega)
 omega⟩
theorem sqf_neg {n:Int} (h:Sqf n):Sqf (-n):=⟨by have:=h.1; omega,fun d hd z=>h.2 d hd (Int.dvd_neg.mp z)⟩
theorem sqf_dvd {n m:Int} (h:Sqf n) (hd:m ∣ n):Sqf m:=⟨by rintro rfl; exact h.1 (Int.zero_dvd.mp hd),fun d h2 z=>h.2 d h2 (Int.dvd_trans z hd)⟩
theorem gcd_prime {p d:Int} (hp:isP p=true) (h:¬ p ∣ d):Int.gcd d p=1:=by
 have hp2:=isP_ge hp
 have h1:=isP_dvd hp (d:=(Int.gcd d p:Int)) (by
  have:0 < Int.gcd d p:=Int.gcd_pos_of_ne_zero_right _ (by omega)
  omega) (Int.gcd_dvd_right ..)
 rcases h1 with h1 | h1
 ·omega
 ·exact absurd (by rw [← h1]; exact Int.gcd_dvd_left ..) h
theorem sqf_mul_prime {n p:Int} (h:Sqf n) (hp:isP p=true) (hn:¬ p ∣ n):Sqf (n * p):=⟨Int.mul_ne_zero h.1 (by have:=isP_ge hp; omega),fun d hd z=>by
 have hp2:=isP_ge hp
 by_cases hpd:p ∣ d
 ·obtain ⟨c,rfl⟩:=hpd
  have:p * p ∣ n * p:=Int.dvd_trans ⟨c * c,by grind⟩ z
  exact hn (Int.dvd_of_mul_dvd_mul_right (by omega) this)
 ·exact h.2 d hd (cop_dvd z (gcd_prime hp fun w=>by rcases euclid hp w with w | w <;> exact hpd w))⟩
theorem gcd_sq {r s:Int} (hg:Int.gcd r s=1):Int.gcd (s * s) (r * r)=1:=by
 have a:Int.gcd s (r * r)=1:=by rw [Int.gcd_mul_right_right_of_gcd_eq_one (by rw [Int.gcd_comm]; exact hg),Int.gcd_comm]; exact hg
 rw [Int.gcd_mul_right_left_of_gcd_eq_one a]; exact a
theorem sqf_cop {f r s:Int} (hf:Sqf f) (hs:0 < s) (hg:Int.gcd r s=1) (h:s * s ∣ f * (r * r)):s=1:=by
 have h2:s * s ∣ f:=cop_dvd h (gcd_sq hg)
 rcases Int.lt_or_le s 2 with z | z
 ·omega
 ·exact absurd h2 (hf.2 s z)
theorem sqf_uniq {n f r s:Int} (hn:Sqf n) (hf:Sqf f) (hr:0 < r) (hs:0 < s) (e:n * (r * r)=f * (s * s)):n=f∧r=s:=by
 obtain ⟨g,r',s',hg,hgr,er,es⟩:∃ g r' s':Int,0 < g∧Int.gcd r' s'=1∧r=g * r'∧s=g * s':=by
  have h0:0 < Int.gcd r s:=Int.gcd_pos_of_ne_zero_left _ (by omega)
  refine ⟨Int.gcd r s,r / Int.gcd r s,s / Int.gcd r s,by omega,?_,(Int.mul_ediv_cancel' (Int.gcd_dvd_left ..)).symm,(Int.mul_ediv_cancel' (Int.gcd_dvd_right ..)).symm⟩
  rw [Int.gcd_ediv_gcd_ediv_gcd h0]
 subst er es
 have hr':0 < r':=by
  rcases Int.lt_or_le 0 r' with z | z
  ·exact z
  ·have:=Int.mul_nonpos_of_nonneg_of_nonpos (Int.le_of_lt hg) z; omega
 have hs':0 < s':=by
  rcases Int.lt_or_le 0 s' with z | z
  ·exact z
  ·have:=Int.mul_nonpos_of_nonneg_of_nonpos (Int.le_of_lt hg) z; omega
 have e':n * (r' * r')=f * (s' * s'):=by
  have:(g * g) * (n * (r' * r'))=(g * g) * (f * (s' * s')):=by grind
  exact Int.eq_of_mul_eq_mul_left (Int.mul_ne_zero (by omega) (by omega)) this
 have h1:s'=1:=sqf_cop hn hs' hgr ⟨f,by grind⟩
 have h2:r'=1:=sqf_cop hf hr' (by rw [Int.gcd_comm]; exact hgr) ⟨n,by grind⟩
 subst h1 h2
 exact ⟨by omega,rfl⟩
def Smo (A:Int):Prop:=∀ q,isP q=true→q ∣ A→q < 32768
def Rgh (l:Int):Prop:=∀ q,isP q=true→q ∣ l→32768≤q
theorem has_prime {k:Int} (h:2≤k):∃ q,isP q=true∧q ∣ k:=by
 obtain ⟨⟨b,hr⟩,hp⟩:=prt_ok (k:=k) (by omega)
 cases hq:prt k with
 | nil=>rw [hq] at hp; simp only [pp] at hp; omega
 | cons u us =>
  rw [hq] at hr hp
  refine ⟨u.1,hr.2.1,?_⟩
  rw [← hp,pp]
  have h1:=hr.2.2.1
  obtain ⟨m,hm⟩:∃ m,u.2.toNat=m + 1:=⟨u.2.toNat - 1,by omega⟩
  rw [hm,Int.pow_succ]
  exact ⟨u.1 ^ m * pp us,by grind⟩
theorem cop_of {a b:Int} (h:∀ q,isP q=true→q ∣ a→¬ q ∣ b) (ha:a≠0):Int.gcd a b=1:=by
 have h0:0 < Int.gcd a b:=Int.gcd_pos_of_ne_zero_left _ ha
 rcases Nat.lt_or_ge (Int.gcd a b) 2 with z | z
 ·omega
 ·obtain ⟨q,h1,h2⟩:=has_prime (k:=(Int.gcd a b:Int)) (by omega)
  exact absurd (Int.dvd_trans h2 (Int.gcd_dvd_right ..)) (h q h1 (Int.dvd_trans h2 (Int.gcd_dvd_left ..)))
theorem smo_rgh {A l:Int} (ha:Smo A) (hl:Rgh l) (h0:l≠0):Int.gcd l A=1:=cop_of (fun q h1 h2 h3=>by have:=ha q h1 h3; have:=hl q h1 h2; omega) h0
theorem smo_mul {A B:Int} (ha:Smo A) (hb:Smo B):Smo (A * B):=fun q h1 h2=>by rcases euclid h1 h2 with z | z; exact ha q h1 z; exact hb q h1 z
theorem rgh_mul {A B:Int} (ha:Rgh A) (hb:Rgh B):Rgh (A * B):=fun q h1 h2=>by rcases euclid h1 h2 with z | z; exact ha q h1 z; exact hb q h1 z
theorem smo_lt {A:Int} (h0:0 < A) (h:A < 32768):Smo A:=fun q _ h2=>by have:=Int.le_of_dvd h0 h2; omega
theorem rgh_one:Rgh 1:=fun q h1 h2=>by have:=Int.le_of_dvd (by decide) h2; have:=isP_ge h1; omega
theorem smo_pow {q:Int} (hq:isP q=true) (h:q < 32768):∀ n:Nat,Smo (q ^ n)
 | 0=>fun r h1 h2=>by rw [Int.pow_zero] at h2; have:=Int.le_of_dvd (by decide) h2; have:=isP_ge h1; omega
 | n + 1=>by
  rw [Int.pow_succ]
  exact smo_mul (smo_pow hq h n) fun r h1 h2=>by have:=Int.le_of_dvd (by have:=isP_ge hq; omega) h2; omega
theorem ndv_odd_free {l b:Int} (hl:0 < l) (ho:l % 2=1) (b3:3≤b) (bo:b % 2=1) (hf:∀ d,3≤d→d < b→d % 2=1→¬ d ∣ l) (hn:ndv l b 32768=none):∀ d,3≤d→d < 32768→d * d≤l→d % 2=1→¬ d ∣ l:=fun d h1 h2 h3 h4=>by
 rcases Int.lt_or_le d b with z | z
 ·exact hf d h1 z h4
 ·exact ndv_none (by omega) (by omega) hn d z h2 h3 (by omega)
theorem left_prime {k b l:Int} {fs:List (Int × Int)} (I:DvI k fs l b) (hn:ndv l b 32768=none) (h1:1 < l) (h2:l < 1073741824):isP l=true∧b≤l:=by
 have hf:=ndv_odd_free I.pos I.odd I.b3 I.bo I.free hn
 have ho:=I.odd
 refine ⟨isP_iff.mpr (.inr ⟨by omega,ho,fun d a1 a2 a3=>hf d a1 ?_ a2 a3⟩),?_⟩
 ·rcases Int.lt_or_le d 32768 with z | z
  ·exact z
  ·have:32768 * 32768≤d * d:=Int.mul_le_mul z z (by decide) (by omega)
   omega
 ·rcases Int.lt_or_le l b with z | z
  ·exact absurd (Int.dvd_refl l) (I.free l (by omega) z ho)
  ·exact z
theorem left_rough {k b l:Int} {fs:List (Int × Int)} (I:DvI k fs l b) (hn:ndv l b 32768=none) (h:1073741824≤l):Rgh l:=fun q h1 h2=>by
 have hf:=ndv_odd_free I.pos I.odd I.b3 I.bo I.free hn
 rcases Int.lt_or_le q 32768 with z | z
 ·rcases isP_iff.mp h1 with w | ⟨w1,w2,w3⟩
  ·subst w; have:=I.odd; omega
  ·have:q * q≤32768 * 32768:=Int.mul_le_mul (by omega) (by omega) (by omega) (by decide)
   exact absurd h2 (hf q w1 z (by omega) w2)
 ·exact z
end EP
namespace EP
theorem dvF_small {k e:Int}:∀ (n:Nat) (fs:List (Int × Int)) (l b:Int),DvI k fs l b→(∀ u∈fs,u.1 < e)→∀ u∈(dvF e n fs l b).1,u.1 < e
 | 0,fs,l,b,I,h=>h
 | n + 1,fs,l,b,I,h=>by
  unfold dvF
  cases hd:ndv l b e with
  | none=>exact h
  | some d =>
   refine dvF_small n _ _ _ (I.step hd) fun u hu=>?_
   rcases List.mem_append.mp hu with z | z
   ·exact h u z
   ·have:=ndv_some (Int.le_of_lt I.pos) (by have:=I.b3; omega) hd
    simp only [List.mem_singleton] at z
    subst z
    exact this.2.1
theorem dvdF_small {k e:Int} (hk:1≤k) (he:2 < e):∀ u∈(dvdF k e).1,u.1 < e:=by
 refine dvF_small _ _ _ _ (dvd_start hk).1 fun u hu=>?_
 unfold dvd0 at hu
 split at hu
 ·simp only [List.mem_singleton] at hu
  subst hu; exact he
 ·cases hu
theorem rise_mem:∀ {us:List (Int × Int)} {a b:Int},Rise a us b→∀ u∈us,isP u.1=true∧1≤u.2
 | u :: us,a,b,h,v,hv=>by
  rcases List.mem_cons.mp hv with z | z
  ·subst z; exact ⟨h.2.1,h.2.2.1⟩
  ·exact rise_mem h.2.2.2 v z
theorem smo_pp:∀ {us:List (Int × Int)},(∀ u∈us,isP u.1=true∧u.1 < 32768)→Smo (pp us)
 | [],_=>fun q h1 h2=>by have h3:q ∣ 1:=h2; have:=Int.le_of_dvd (by decide) h3; have:=isP_ge h1; omega
 | u :: us,h=>smo_mul (smo_pow (h u (List.mem_cons_self ..)).1 (h u (List.mem_cons_self ..)).2 _) (smo_pp fun v hv=>h v (List.mem_cons_of_mem _ hv))
theorem smo_rgh_of {s:Int} (hs:1≤s):∃ A L,Smo A∧Rgh L∧0 < A∧0 < L∧s=A * L:=by
 obtain ⟨b,I,hn⟩:=dvdF_ok (k:=s) (e:=32768) hs
 have hs':Smo (pp (dvdF s 32768).1):=smo_pp fun u hu=>⟨(rise_mem I.rise u hu).1,dvdF_small hs (by decide) u hu⟩
 have hp:=pp_pos (by decide) I.rise
 have hl:=I.pos
 by_cases h1:(dvdF s 32768).2 < 32768
 ·exact ⟨s,1,by rw [← I.prod]; exact smo_mul hs' (smo_lt hl h1),rgh_one,by omega,by decide,by omega⟩
 ·refine ⟨_,_,hs',?_,hp,hl,I.prod.symm⟩
  by_cases h2:(dvdF s 32768).2 < 1073741824
  ·have:=left_prime I hn (by omega) h2
   intro q q1 q2
   rcases isP_dvd this.1 (by have:=isP_ge q1; omega) q2 with z | z
   ·have:=isP_ge q1; omega
   ·omega
  ·exact left_rough I hn (by omega)
theorem rgh_eq {A B l L:Int} (hA:Smo A) (hB:Smo B) (hl:Rgh l) (hL:Rgh L) (h0:0 < l) (h1:0 < L) (e:A * l=B * L):l=L:=by
 have d1:l ∣ L:=cop_dvd (k:=l) (n:=L) (m:=B) ⟨A,by grind⟩ (smo_rgh hB hl (by omega))
 have d2:L ∣ l:=cop_dvd (k:=L) (n:=l) (m:=A) ⟨B,by grind⟩ (smo_rgh hA hL (by omega))
 have:=Int.le_of_dvd h1 d1
 have:=Int.le_of_dvd h0 d2
 omega
def Tame (k:Int):Prop:=(∃ f s,Smo f∧0 < f∧1≤s∧k=f * (s * s))∨(∃ f P,Smo f∧0 < f∧isP P=true∧P < 1073741824∧k=f * P)
theorem tame_left {k b l:Int} {fs:List (Int × Int)} (h:Tame k) (hk:1≤k) (I:DvI k fs l b) (hf:∀ u∈fs,u.1 < 32768) (hn:ndv l b 32768=none):l < 1073741824∨rt l * rt l=l:=by
 rcases Int.lt_or_le l 1073741824 with z | z
 ·exact .inl z
 have hl:=left_rough I hn z
 have hs':Smo (pp fs):=smo_pp fun u hu=>⟨(rise_mem I.rise u hu).1,hf u hu⟩
 have hpr:=I.prod
 rcases h with ⟨f,s,h1,h2,h3,h4⟩ | ⟨f,P,h1,h2,h3,h4,h5⟩
 ·obtain ⟨A,L,a1,a2,a3,a4,a5⟩:=smo_rgh_of h3
  have e:l=L * L:=rgh_eq hs' (smo_mul h1 (smo_mul a1 a1)) hl (rgh_mul a2 a2) (by omega) (Int.mul_pos a4 a4) (by rw [hpr,h4,a5]; grind)
  right
  have:L=rt l:=rt_unique (by omega) (by omega) (by rw [e]; grind)
  rw [← this,e]
 ·have d1:l ∣ P:=cop_dvd (k:=l) (n:=P) (m:=f) ⟨pp fs,by grind⟩ (smo_rgh h1 hl (by omega))
  have:=Int.le_of_dvd (by have:=isP_ge h3; omega) d1
  omega
def frS (c:Int × Int) (u:Int × Int):Int × Int:=(if u.2 % 2=1 then c.1 * u.1 else c.1,c.2 * u.1 ^ (u.2 / 2).toNat)
theorem frS_ok:∀ {us:List (Int × Int)} {a b:Int} {c:Int × Int},Rise a us b→Sqf c.1→(∀ q,isP q=true→a < q→¬ q ∣ c.1)→0 < c.2 →
  Sqf (us.foldl frS c).1∧0 < (us.foldl frS c).2∧(us.foldl frS c).1 * ((us.foldl frS c).2 * (us.foldl frS c).2)=c.1 * (c.2 * c.2) * pp us
 | [],a,b,c,_,hs,_,h0=>⟨hs,h0,by simp [pp]⟩
 | u :: us,a,b,c,hr,hs,hq,h0=>by
  obtain ⟨r1,r2,r3,r4⟩:=hr
  have hu2:=isP_ge r2
  have hpow:0 < u.1 ^ (u.2 / 2).toNat:=Int.pow_pos (by omega)
  have hS:Sqf (frS c u).1:=by
   unfold frS; dsimp only
   split
   ·exact sqf_mul_prime hs r2 (hq _ r2 r1)
   ·exact hs
  have hQ:∀ q,isP q=true→u.1 < q→¬ q ∣ (frS c u).1:=fun q h1 h2 h3=>by
   unfold frS at h3; dsimp only at h3
   split at h3
   ·rcases euclid h1 h3 with z | z
    ·exact hq q h1 (by omega) z
    ·have:=Int.le_of_dvd (by omega) z; omega
   ·exact hq q h1 (by omega) h3
  have hP:0 < (frS c u).2:=Int.mul_pos h0 hpow
  obtain ⟨i1,i2,i3⟩:=frS_ok (c:=frS c u) r4 hS hQ hP
  refine ⟨i1,i2,?_⟩
  rw [List.foldl_cons,i3,pp]
  have hpw:(if u.2 % 2=1 then u.1 else 1) * (u.1 ^ (u.2 / 2).toNat * u.1 ^ (u.2 / 2).toNat)=u.1 ^ u.2.toNat:=by
   rw [← Int.pow_add]
   by_cases z:u.2 % 2=1
   ·rw [if_pos z,show u.2.toNat=((u.2 / 2).toNat + (u.2 / 2).toNat) + 1 by omega,Int.pow_succ,Int.mul_comm]
   ·rw [if_neg z,Int.one_mul,show u.2.toNat=(u.2 / 2).toNat + (u.2 / 2).toNat by omega]
  unfold frS
  dsimp only
  rw [← hpw]
  generalize u.1 ^ (u.2 / 2).toNat=y
  split <;> grind
noncomputable def tpM (k:Int):List (Int × Int) × Int :=
 if 1 < (dvdF k 32768).2∧(dvdF k 32768).2 < 1073741824 then ((dvdF k 32768).1 ++ [((dvdF k 32768).2,1)],1) else ((dvdF k 32768).1,rt (dvdF k 32768).2)
theorem tpM_ok {k:Int} (hk:1≤k) (ht:Tame k):(1 < (dvdF k 32768).2∧(dvdF k 32768).2 < 1073741824∨rt (dvdF k 32768).2 * rt (dvdF k 32768).2=(dvdF k 32768).2)∧(∃ b,Rise 1 (tpM k).1 b)∧0 < (tpM k).2∧pp (tpM k).1 * ((tpM k).2 * (tpM k).2)=k:=by
 obtain ⟨b,I,hn⟩:=dvdF_ok (k:=k) (e:=32768) hk
 have hl:=tame_left ht hk I (dvdF_small hk (by decide)) hn
 have hpos:=I.pos
 have hprod:=I.prod
 unfold tpM
 by_cases h1:1 < (dvdF k 32768).2∧(dvdF k 32768).2 < 1073741824
 ·rw [if_pos h1]
  obtain ⟨p1,p2⟩:=left_prime I hn h1.1 h1.2
  refine ⟨.inl h1,⟨_,Rise.snoc p1 (by dsimp only; decide) p2 (b':=(dvdF k 32768).2 + 1) (by dsimp only; omega) I.rise⟩,by dsimp only; decide,?_⟩
  dsimp only
  rw [pp_snoc]
  dsimp only
  rw [show (1:Int).toNat=1 from rfl,Int.pow_succ,Int.pow_zero,Int.one_mul,Int.mul_one,Int.mul_one,hprod]
 ·rw [if_neg h1]
  have hsq:rt (dvdF k 32768).2 * rt (dvdF k 32768).2=(dvdF k 32768).2:=by
   rcases hl with z | z
   ·have e1:(dvdF k 32768).2=1:=by omega
    rw [e1]
    have:(1:Int)=rt 1:=rt_unique (by decide) (by decide) (by decide)
    rw [← this]; rfl
   ·exact z
  have h0:=rt_nonneg (dvdF k 32768).2
  refine ⟨.inr hsq,⟨b,I.rise⟩,?_,?_⟩
  ·dsimp only
   rcases Int.lt_or_eq_of_le h0 with z | z
   ·exact z
   ·rw [← z] at hsq; omega
  ·dsimp only
   rw [hsq,hprod]
noncomputable def frN (t b:Int):Int × Int:=(tpM (t.natAbs * b)).1.foldl frS (if 0 < t then 1 else -1,(tpM (t.natAbs * b)).2)
theorem frN_ok {t b f s:Int} (ht:t≠0) (hb:0 < b) (htm:Tame (t.natAbs * b)) (hf:Sqf f) (hs:0 < s) (e:t * b=f * (s * s)):frN t b=(f,s):=by
 have hk:1≤(t.natAbs:Int) * b:=by
  have:0 < (t.natAbs:Int) * b:=Int.mul_pos (by omega) hb
  omega
 obtain ⟨_,⟨b',hr⟩,h0,hp⟩:=tpM_ok hk htm
 have hS:Sqf (if 0 < t then (1:Int) else -1):=by split; exact sqf_one; exact sqf_neg sqf_one
 have hQ:∀ q,isP q=true→1 < q→¬ q ∣ (if 0 < t then (1:Int) else -1):=fun q h1 h2 h3=>by
  split at h3
  ·have:=Int.le_of_dvd (by decide) h3; omega
  ·have:=Int.le_of_dvd (by decide) (Int.dvd_neg.mp h3); omega
 obtain ⟨a1,a2,a3⟩:=frS_ok (c:=(if 0 < t then (1:Int) else -1,(tpM (t.natAbs * b)).2)) hr hS hQ h0
 have a4:(frN t b).1 * ((frN t b).2 * (frN t b).2)=f * (s * s):=by
  show ((tpM (t.natAbs * b)).1.foldl frS _).1 * (((tpM (t.natAbs * b)).1.foldl frS _).2 * ((tpM (t.natAbs * b)).1.foldl frS _).2)=_
  rw [a3,← e]
  dsimp only
  rw [show (if 0 < t then (1:Int) else -1) * ((tpM (t.natAbs * b)).2 * (tpM (t.natAbs * b)).2) * pp (tpM (t.natAbs * b)).1=(if 0 < t then (1:Int) else -1) * (pp (tpM (t.natAbs * b)).1 * ((tpM (t.natAbs * b)).2 * (tpM (t.natAbs * b)).2)) by grind,hp]
  by_cases z:0 < t
  ·rw [if_pos z,show (t.natAbs:Int)=t by omega]; omega
  ·rw [if_neg z,show (t.natAbs:Int)=-t by omega]; grind
 obtain ⟨u1,u2⟩:=sqf_uniq a1 hf a2 hs a4
 exact Prod.ext u1 u2
end EP
namespace EP
def ev:List Int→Int→Int
 | [],_=>0
 | c :: cs,x=>c + x * ev cs x
end EP
namespace EP
def spF:List Int→Int→Int
 | [],_=>1
 | q :: qs,c=>(if c % 2=1 then q else 1) * spF qs (c / 2)
def P8:List Int:=[2,3,5,7,11,13,17,19]
noncomputable def xtr (c:Int):Int:=if c % 4=1 then pf (20 + c / 4 % 30000) else if c % 4=3 then pf (32768 + c / 4 % 1000000) else 1
noncomputable def fre (c:Int):Int:=(1 - 2 * (c % 2)) * (spF P8 (c / 2) * xtr (c / 512))
noncomputable def frd (u:Int × Int):Int × (Int × Int):=((frN u.1 u.2).1,fr (frN u.1 u.2).2 u.2)
end EP
namespace EP
theorem pp_app:∀ (a b:List (Int × Int)),pp (a ++ b)=pp a * pp b
 | [],b=>by simp [pp]
 | u :: a,b=>by rw [List.cons_append,pp,pp,pp_app a b,Int.mul_assoc]
theorem rise_take:∀ {us:List (Int × Int)} {a b:Int},Rise a us b→∀ i,∃ b',Rise a (us.take i) b'
 | us,a,b,h,0=>⟨a + 1,by rw [List.take_zero]; show a < a + 1; omega⟩
 | [],a,b,h,i + 1=>⟨b,h⟩
 | u :: us,a,b,h,i + 1=>by
  obtain ⟨b',h'⟩:=rise_take h.2.2.2 i
  exact ⟨b',h.1,h.2.1,h.2.2.1,h'⟩
theorem rise_drop:∀ {us:List (Int × Int)} {a b:Int},Rise a us b→∀ i,∃ a',Rise a' (us.drop i) b∧a≤a'
 | us,a,b,h,0=>⟨a,h,Int.le_refl _⟩
 | [],a,b,h,i + 1=>⟨a,h,Int.le_refl _⟩
 | u :: us,a,b,h,i + 1=>by
  obtain ⟨a',h',hl⟩:=rise_drop h.2.2.2 i
  exact ⟨a',h',by have:=h.1; omega⟩
theorem mul_ge {a b:Int} (ha:0 < a) (hb:1≤b):a≤a * b:=by
 have:a * 1≤a * b:=Int.mul_le_mul_of_nonneg_left hb (by omega)
 omega
theorem fold_bd {us:List (Int × Int)} {b sg R:Int} (hr:Rise 1 us b) (hR:0 < R) (hs:sg=1∨sg=-1) (i:Nat) :
  ((us.take i).foldl frS (sg,R)).1.natAbs≤(pp us * (R * R)).natAbs∧0 < ((us.take i).foldl frS (sg,R)).2∧((us.take i).foldl frS (sg,R)).2≤pp us * (R * R):=by
 obtain ⟨b',h'⟩:=rise_take hr i
 obtain ⟨a'',h'',hl⟩:=rise_drop hr i
 have hS:Sqf sg:=by rcases hs with z | z <;> rw [z]; exact sqf_one; exact sqf_neg sqf_one
 have hQ:∀ q,isP q=true→1 < q→¬ q ∣ sg:=fun q h1 h2 h3=>by
  rcases hs with z | z
  ·rw [z] at h3; have:=Int.le_of_dvd (by decide) h3; omega
  ·rw [z] at h3; have:=Int.le_of_dvd (by decide) (Int.dvd_neg.mp h3); omega
 obtain ⟨a1,a2,a3⟩:=frS_ok (c:=(sg,R)) h' hS hQ hR
 have e:pp us=pp (us.take i) * pp (us.drop i):=by rw [← pp_app,List.take_append_drop]
 have p1:=pp_pos (by decide) h'
 have p2:=pp_pos (show 0≤a'' by omega) h''
 have RR:=Int.mul_pos hR hR
 dsimp only at a3
 generalize (us.take i).foldl frS (sg,R)=c at *
 have n1:(c.1.natAbs:Int) * (c.2 * c.2)=pp (us.take i) * (R * R):=by
  have h1:0 < c.2 * c.2:=Int.mul_pos a2 a2
  have h2:0 < pp (us.take i) * (R * R):=Int.mul_pos p1 RR
  generalize c.2 * c.2=X at *
  generalize R * R=Y at *
  generalize pp (us.take i)=Z at *
  have h3:=congrArg Int.natAbs a3
  rw [Int.natAbs_mul,Int.natAbs_mul,Int.natAbs_mul,show sg.natAbs=1 by rcases hs with z | z <;> rw [z] <;> rfl,Nat.one_mul] at h3
  have h4:((c.1.natAbs * X.natAbs:Nat):Int)=((Y.natAbs * Z.natAbs:Nat):Int):=by rw [h3]
  rw [Int.natCast_mul,Int.natCast_mul,show (X.natAbs:Int)=X by omega,show (Y.natAbs:Int)=Y by omega,show (Z.natAbs:Int)=Z by omega] at h4
  rw [h4,Int.mul_comm]
 have k1:pp (us.take i) * (R * R)≤pp us * (R * R):=by
  rw [e]
  exact Int.mul_le_mul_of_nonneg_right (mul_ge p1 (by omega)) (by omega)
 have n0:0 < (c.1.natAbs:Int):=by have:=a1.1; omega
 have c2:0 < c.2 * c.2:=Int.mul_pos a2 a2
 have m1:=mul_ge n0 (show 1≤c.2 * c.2 by omega)
 have m2:c.2 * c.2≤(c.1.natAbs:Int) * (c.2 * c.2):=by rw [Int.mul_comm (c.1.natAbs:Int)]; exact mul_ge c2 (by omega)
 have m3:=mul_ge a2 (show 1≤c.2 by omega)
 exact ⟨by omega,a2,by omega⟩
theorem part_bd {us:List (Int × Int)} {b:Int} (hr:Rise 1 us b) {i:Nat} {u:Int × Int} (hu:us[i]?=some u):2≤u.1∧1≤u.2∧u.1 ^ (u.2 / 2).toNat≤pp us∧u.1≤pp us∧(u.2:Int) < pp us:=by
 have hm:=rise_mem hr u (List.mem_of_getElem? hu)
 have h2:=isP_ge hm.1
 have hi:i < us.length:=(List.getElem?_eq_some_iff.mp hu).1
 have e:us.drop i=u :: us.drop (i + 1):=by
  rw [List.drop_eq_getElem_cons hi]
  rw [List.getElem?_eq_getElem hi] at hu
  rw [Option.some.inj hu]
 obtain ⟨b',h'⟩:=rise_take hr i
 obtain ⟨a'',h'',hl⟩:=rise_drop hr (i + 1)
 have e2:pp us=pp (us.take i) * (u.1 ^ u.2.toNat * pp (us.drop (i + 1))):=by
  have:pp us=pp (us.take i ++ us.drop i):=by rw [List.take_append_drop]
  rw [this,pp_app,e,pp]
 have p1:=pp_pos (by decide) h'
 have p2:=pp_pos (show 0≤a'' by omega) h''
 have p3:0 < u.1 ^ u.2.toNat:=Int.pow_pos (by omega)
 have l1:u.1 ^ u.2.toNat≤pp us:=by
  rw [e2]
  have:=mul_ge p3 (show 1≤pp (us.drop (i + 1)) by omega)
  have q:=Int.mul_pos p3 p2
  have w:u.1 ^ u.2.toNat * pp (us.drop (i + 1))≤pp (us.take i) * (u.1 ^ u.2.toNat * pp (us.drop (i + 1))):=by rw [Int.mul_comm (pp (us.take i))]; exact mul_ge q (by omega)
  omega
 have mono:∀ m n:Nat,m≤n→u.1 ^ m≤u.1 ^ n:=fun m n hmn=>by
  obtain ⟨d,rfl⟩:∃ d,n=m + d:=⟨n - m,by omega⟩
  rw [Int.pow_add]
  exact mul_ge (Int.pow_pos (by omega)) (by have:=Int.pow_pos (n:=u.1) (m:=d) (by omega); omega)
 refine ⟨h2,hm.2,Int.le_trans (mono _ _ (by omega)) l1,?_,?_⟩
 ·have:=mono 1 u.2.toNat (by omega)
  rw [Int.pow_succ,Int.pow_zero,Int.one_mul] at this
  omega
 ·have:((u.2.toNat:Nat):Int) < u.1 ^ u.2.toNat:=by
   have g:∀ n:Nat,(n:Int) < u.1 ^ n:=fun n=>by
    induction n with
    | zero=>rw [Int.pow_zero]; decide
    | succ n ih =>
     rw [Int.pow_succ]
     have:u.1 ^ n * 2≤u.1 ^ n * u.1:=Int.mul_le_mul_of_nonneg_left h2 (Int.le_of_lt (Int.pow_pos (by omega)))
     omega
   exact g _
  omega
end EP
namespace EP
def ent (F:Tb) (i j:Nat):Fr:=(F.getD i []).getD j (0,1)
def setIJ (T:Tb) (i j:Nat) (v:Fr):Tb:=T.set i ((T.getD i []).set j v)
theorem ent_set {n:Nat} {T:Tb} (h:Sq n T) {i j:Nat} (v:Fr) (hi:i < n) (hj:j < n) (a b:Nat) (ha:a < n) (hb:b < n):ent (setIJ T i j v) a b=if a=i∧b=j then v else ent T a b:=by
 have hl:=h.len
 have hr:=h.row _ (row_mem h hi)
 unfold ent setIJ
 by_cases z:a=i
 ·subst z
  rw [List.getD_eq_getElem?_getD (l:=T.set a _),List.getElem?_set_self (by omega)]
  simp only [Option.getD_some]
  by_cases w:b=j
  ·subst w
   rw [if_pos (by simp),List.getD_eq_getElem?_getD,List.getElem?_set_self (by omega)]
   rfl
  ·rw [if_neg (fun q=>w q.2),List.getD_eq_getElem?_getD,List.getElem?_set_ne (Ne.symm w),← List.getD_eq_getElem?_getD]
 ·rw [if_neg (fun q=>z q.1),List.getD_eq_getElem?_getD (l:=T.set i _),List.getElem?_set_ne (Ne.symm z),← List.getD_eq_getElem?_getD]
theorem mem_set {α:Type} {l:List α} {i:Nat} {v x:α} (h:x∈l.set i v):x∈l∨x=v:=List.mem_or_eq_of_mem_set h
structure AllT (n:Nat) (Q:Fr→Prop) (T:Tb):Prop where
 len:T.length=n
 row:∀ r∈T,r.length=n
 all:∀ r∈T,∀ u∈r,Q u
theorem AllT.set {n:Nat} {Q:Fr→Prop} {T:Tb} (h:AllT n Q T) {i j:Nat} {v:Fr} (hi:i < n) (hv:Q v):AllT n Q (setIJ T i j v):=by
 have hm:T.getD i []∈T:=getD_mem (by rw [h.len]; exact hi)
 refine ⟨by unfold setIJ; rw [List.length_set]; exact h.len,fun r hr=>?_,fun r hr u hu=>?_⟩
 ·rcases mem_set hr with z | z
  ·exact h.row r z
  ·rw [z,List.length_set]; exact h.row _ hm
 ·rcases mem_set hr with z | z
  ·exact h.all r z u hu
  ·rw [z] at hu
   rcases mem_set hu with w | w
   ·exact h.all _ hm u w
   ·rw [w]; exact hv
theorem AllT.sq {n:Nat} {Q:Fr→Prop} {T:Tb} (h:AllT n Q T) (hq:∀ u,Q u→Low u):Sq n T:=⟨h.len,h.row,fun r hr u hu=>hq u (h.all r hr u hu)⟩
def Sym (n:Nat) (T:Tb):Prop:=∀ a b,a < n→b < n→ent T a b=ent T b a
theorem Sym.set {n:Nat} {Q:Fr→Prop} {T:Tb} (h:AllT n Q T) (hq:∀ u,Q u→Low u) (s:Sym n T) {i j:Nat} {v:Fr} (hi:i < n) (hj:j < n) (hv:Q v):Sym n (setIJ (setIJ T i j v) j i v):=fun a b ha hb=>by
 have h1:=(h.set (j:=j) hi hv)
 rw [ent_set (h1.sq hq) v hj hi a b ha hb,ent_set (h1.sq hq) v hj hi b a hb ha,ent_set (h.sq hq) v hi hj a b ha hb,ent_set (h.sq hq) v hi hj b a hb ha,s a b ha hb]
 by_cases z1:a=j∧b=i
 ·rw [if_pos z1]
  by_cases z2:b=j∧a=i
  ·rw [if_pos z2]
  ·rw [if_neg z2,if_pos ⟨z1.2,z1.1⟩]
 ·rw [if_neg z1]
  by_cases z2:b=j∧a=i
  ·rw [if_pos z2,if_pos ⟨z2.2,z2.1⟩]
  ·rw [if_neg z2,if_neg (fun q=>z2 ⟨q.2,q.1⟩),if_neg (fun q=>z1 ⟨q.2,q.1⟩)]
end EP
namespace EP
def wNum (n:Nat) (p:Int) (u:Fr):List Fr:=(rng n).map fun j=>if j=p then u else (0,1)
def fOf (us:List Fr):Tb:=us.mapIdx fun i u=>wNum us.length (i:Int) u
def bsd (F G:Tb):Tb:=(F.map fun r=>r ++ List.replicate G.length ((0:Int),(1:Int))) ++ G.map fun r=>List.replicate F.length ((0:Int),(1:Int)) ++ r
theorem wNum_all {n:Nat} {p:Int} {u:Fr} {Q:Fr→Prop} (h0:Q (0,1)) (hu:Q u):(wNum n p u).length=n∧∀ v∈wNum n p u,Q v:=by
 unfold wNum
 refine ⟨by rw [List.length_map,rng_len],fun v hv=>?_⟩
 obtain ⟨j,_,rfl⟩:=List.mem_map.mp hv
 split
 ·exact hu
 ·exact h0
theorem fOf_all {us:List Fr} {Q:Fr→Prop} (h0:Q (0,1)) (hu:∀ u∈us,Q u):AllT us.length Q (fOf us):=by
 unfold fOf
 have key:∀ r∈us.mapIdx fun i u=>wNum us.length (i:Int) u,∃ (i:Nat) (u:Fr),u∈us∧r=wNum us.length (i:Int) u:=fun r hr=>by
  obtain ⟨i,hi,rfl⟩:=List.mem_mapIdx.mp hr
  exact ⟨i,us[i],List.getElem_mem hi,rfl⟩
 refine ⟨by rw [List.length_mapIdx],fun r hr=>?_,fun r hr u hu'=>?_⟩
 ·obtain ⟨i,u,_,rfl⟩:=key r hr
  unfold wNum; rw [List.length_map,rng_len]
 ·obtain ⟨i,v,hv,rfl⟩:=key r hr
  exact (wNum_all h0 (hu v hv)).2 u hu'
theorem fOf_ent {us:List Fr} {i j:Nat} (hi:i < us.length) (hj:j < us.length):ent (fOf us) i j=if i=j then us.getD i (0,1) else (0,1):=by
 unfold ent fOf
 rw [List.getD_eq_getElem?_getD (l:=us.mapIdx _),List.getElem?_mapIdx,List.getElem?_eq_getElem hi]
 simp only [Option.map_some,Option.getD_some]
 unfold wNum
 rw [getD_map (e:=0) (by rw [rng_len]; exact hj),rng_getD hj,List.getD_eq_getElem?_getD,List.getElem?_eq_getElem hi]
 by_cases z:i=j
 ·rw [if_pos z,if_pos (by omega)]; rfl
 ·rw [if_neg z,if_neg (by omega)]
end EP
namespace EP
structure Pls (L:List Int):Prop where
 nd:L.Nodup
 pr:∀ p∈L,isP p=true
 two:(2:Int)∈L
theorem zero_not {L:List Int} (h:Pls L):(0:Int) ∉ L:=fun z=>by have:=isP_ge (h.pr 0 z); omega
theorem Pls.all {L:List Int} (h:Pls L):((0:Int) :: L).Nodup:=List.nodup_cons.mpr ⟨zero_not h,h.nd⟩
theorem Pls.pl {L:List Int} (h:Pls L):∀ p∈(0:Int) :: L,Pl p:=fun p hp=>by
 rcases List.mem_cons.mp hp with z | z
 ·exact .inl z
 ·exact .inr (h.pr p z)
theorem prime_dvd_prime {p q:Int} (hp:isP p=true) (hq:isP q=true) (h:p ∣ q):p=q:=by
 have h1:=isP_ge hp
 have h2:=isP_ge hq
 apply Classical.byContradiction
 intro hn
 have hg:=gcd_prime (p:=p) (d:=q) hp
 by_cases z:q ∣ p
 ·have a:=Int.le_of_dvd (by omega) h
  have b:=Int.le_of_dvd (by omega) z
  omega
 ·have e:=gcd_prime (p:=q) (d:=p) hq z
  have:=Int.dvd_coe_gcd (Int.dvd_refl p) h
  rw [e] at this
  have:=Int.le_of_dvd (by decide) this
  omega
theorem tame_lt {k:Int} (h1:1≤k) (h2:k < 1073741824):Tame k:=by
 by_cases hs:Smo k
 ·exact .inl ⟨k,1,hs,by omega,by decide,by omega⟩
 ·have ⟨q,hq⟩:=Classical.not_forall.mp hs
  have ⟨q1,hq'⟩:=Classical.not_imp.mp hq
  have ⟨⟨f,hf⟩,q3⟩:=Classical.not_imp.mp hq'
  have f0:0 < f:=by
   apply Classical.byContradiction
   intro hn
   have:q * f≤0:=Int.mul_nonpos_of_nonneg_of_nonpos (by omega) (by omega)
   omega
  have hl:f < 32768:=by
   apply Classical.byContradiction
   intro hn
   have:32768 * 32768≤q * f:=Int.mul_le_mul (by omega) (by omega) (by decide) (by omega)
   omega
  have hq2:q < 1073741824:=by
   have:q * 1≤q * f:=Int.mul_le_mul_of_nonneg_left (by omega) (by omega)
   omega
  exact .inr ⟨f,q,smo_lt f0 hl,f0,q1,hq2,by rw [hf]; exact Int.mul_comm ..⟩
theorem free_ex:∀ (n:Nat) (x:Int),x≠0→x.natAbs≤n→∃ f s,Sqf f∧0 < s∧x=f * (s * s)
 | 0,x,h0,hn=>absurd (show x=0 by omega) h0
 | n + 1,x,h0,hn=>by
  by_cases hs:Sqf x
  ·exact ⟨x,1,hs,by decide,by omega⟩
  ·have hs':¬ ∀ d:Int,2≤d→¬ d * d ∣ x:=fun z=>hs ⟨h0,z⟩
   have ⟨d,hd⟩:=Classical.not_forall.mp hs'
   have ⟨d2,hd'⟩:=Classical.not_imp.mp hd
   have ⟨c,hc⟩:=Classical.not_not.mp hd'
   have c0:c≠0:=by rintro rfl; exact h0 (by rw [hc,Int.mul_zero])
   have hl:c.natAbs≤n:=by
    have e:x.natAbs=(d * d).natAbs * c.natAbs:=by rw [hc,Int.natAbs_mul]
    have:2≤(d * d).natAbs:=by
     have:2 * 2≤d * d:=Int.mul_le_mul d2 d2 (by decide) (by omega)
     omega
    have:2 * c.natAbs≤(d * d).natAbs * c.natAbs:=Nat.mul_le_mul_right _ this
    omega
   obtain ⟨f,s,h1,h2,h3⟩:=free_ex n c c0 hl
   exact ⟨f,s * d,h1,Int.mul_pos h2 (by omega),by rw [hc,h3]; grind⟩
theorem free_le {x f s:Int} (hs:0 < s) (e:x=f * (s * s)):f.natAbs≤x.natAbs:=by
 rw [e,Int.natAbs_mul]
 have:1≤(s * s).natAbs:=by have:=Int.mul_pos hs hs; omega
 have:=Nat.mul_le_mul_left f.natAbs this
 omega
end EP
namespace L2.EP
open PySem PySem.Spec PyProof.Rows
section
variable {X:Cx} {Γ:GEnv} {D:GD} {α β:Type} [Py α] [Py β] {e e1 e2:Expr} {b b1 b2:Bool} {pos:Pos} {rest:List Stmt}
theorem e_shl {i j:Int} (ha:E X Γ e1 b1 i) (hb:E X Γ e2 b2 j) (hc:CPow i j):E X Γ (.BinOp e1 .LShift e2 pos) true (i * 2 ^ j.toNat):=by
 with_unfolding_all
  exact e_ii (g:=fun i j=>i * 2 ^ j.toNat) op_shl ha hb hc
theorem mt_bits:MtR X "int.bit_length" (fun x xs H Q=>∃ i,x=.int i∧xs=[]∧Q (.int (Builtin.Int.intBits i:Nat)) H):=by
 intro pins s σ H x xs v us Q I r rs h
 obtain ⟨i,rfl,rfl,q⟩:=h
 obtain ⟨t,rfl⟩:=r
 cases rs
 exact call_int_bit_length ⟨.int (Builtin.Int.intBits i:Nat),H,I.tok _,⟨_,rfl⟩,q⟩
theorem e_bits {i:Int} {apos:Pos} (ha:E X Γ e b i) (hbase:attributeBase e "bit_length" X.env (eval e X.env)=eval e X.env:=by rfl) (hline:(apos.endLine == pos.line)=true:=by rfl):E X Γ (.Call (.Attribute e "bit_length" apos) [] [] pos) true ((Builtin.Int.intBits i:Nat):Int):=by
 with_unfolding_all
  exact pe_wk (pe_bm0 PySem.F.plainAttrs_int PySem.F.slot_int_bit_length PySem.F.type_int_bit_length mt_bits ha hbase hline) fun σ H Q ⟨H0,F,O,S,q⟩=>⟨H0,F,O,S,fun v H1 s1 r1=>by
    cases r1
    exact ⟨rfl,i,rfl,rfl,q _ H1 s1 rfl⟩⟩
theorem S.nxW {D:GD} {nx':GEnv→Prop} {st:List Stmt} (h:S X Γ st D) (w:∀ Γ',D.nx Γ'→nx' Γ'):S X Γ st { D with nx:=nx' }:=by
 with_unfolding_all
  exact pss_wk h fun De σ H ⟨H0,F,O,Z,n,r,bk,ct⟩=>⟨H0,F,O,Z,fun Γ' σ' H' O' sm Z' q=>n Γ' σ' H' O' sm Z' (w Γ' q),r,bk,ct⟩
theorem s_ifJ {c:Bool} {body orelse:List Stmt} (J:GEnv→Prop) (hc:T X Γ e c) (h1:c=true→S X Γ body { D with nx:=J }) (h2:c=false→S X Γ orelse { D with nx:=J }) (h:∀ Γ',J Γ'→S X Γ' rest D):S X Γ (.If e body orelse pos :: rest) D:=by
 with_unfolding_all
  exact s_if hc (fun z=>(h1 z).nxW h) (fun z=>(h2 z).nxW h)
def MgI (mg:Str→Option Value) (x:Str) (i:Int):Prop:=∃ t,mg x=some (.int i t)
theorem e_glI {x:Str} {i:Int} (hg:Gl X x) (hm:MgI X.mg x i) (hd:(x == ("__debug__":Str))=false:=by decide):E X Γ (.Name x pos) true i:=by
 with_unfolding_all
  obtain ⟨t,hm⟩:=hm
  exact pe_wk (pe_glob (v:=.int i) hg hm ⟨t,rfl⟩ hd) fun σ H Q ⟨H0,F,O,S,q⟩=>q _ H (Same.refl _) rfl
end
theorem atGetD {α:Type} {xs:List α} {k:Int} {d:α} (h0:0≤k) (h:k < (xs.length:Int)):atI xs k=some (xs.getD k.toNat d):=by
 have hk:k.toNat < xs.length:=by omega
 have e:k=((k.toNat:Nat):Int):=by omega
 have q:atI xs ((k.toNat:Nat):Int)=some xs[k.toNat]:=atI_nat (by rw [List.getElem?_eq_getElem hk])
 rw [← e] at q
 rw [q,List.getD_eq_getElem?_getD,List.getElem?_eq_getElem hk]; rfl
end L2.EP
namespace L2.EP
open PySem PySem.Spec PyProof.Rows
structure TupL (α:Type) where
 l:List α
def SqU (K:PySem.W.Frag) (H:Hp) (p:Addr) (xs:List V):Prop:=Rt H p xs∨∃ (o:Obj) (its:Array Value) (n:Nat),K.lookup p=some o∧o.cls=.type "tuple"∧o.data=.seq its n∧its.size≤sizeLine∧Vals xs its.toList
theorem SqU.t {K:PySem.W.Frag} {H:Hp} {p:Addr} {xs:List V} (h:SqU K H p xs):SqT K H p xs:=h.imp Rt.rd id
theorem sqT_tr {K:PySem.W.Frag} {H H':Hp} {p:Addr} {xs:List V} (t:∀ p xs,Rt H p xs→Rt H' p xs) (h:SqU K H p xs):SqU K H' p xs:=h.imp (t _ _) id
theorem sqT_same {K:PySem.W.Frag} {H H':Hp} {p:Addr} {xs:List V} (e:Same H H') (h:SqU K H p xs):SqU K H' p xs:=h.imp (fun z=>Same.rt e z) id
instance {α:Type} [Py α]:Py (TupL α) where
 rp K N H v a:=∃ p xs,v=.ref p∧SqU K H p xs∧Paired (fun x b=>Py.rp K N H x b) xs a.l
 tr l t h:=by
  obtain ⟨p,xs,e,s,r⟩:=h
  exact ⟨p,xs,e,sqT_tr t s,pr_imp (fun _ _ q=>Py.tr l t q) r⟩
instance {α β:Type} [Py α] [Py β]:Py (α ⊕ β) where
 rp K N H v a:=match a with | .inl x=>Py.rp K N H v x | .inr y=>Py.rp K N H v y
 tr {K N N' H H' v a} l t h:=by
  cases a with
  | inl x=>exact Py.tr (α:=α) l t h
  | inr y=>exact Py.tr (α:=β) l t h
theorem notNonI (K:PySem.W.Frag) (N:Nn) (H:Hp) (a:Int):¬ Py.rp K N H .non a:=fun h=>nomatch h
section
variable {X:Cx} {Γ:GEnv} {D:GD} {α β:Type} [Py α] [Py β] {e e1 e2 tg:Expr} {b b1 b2:Bool} {pos:Pos} {rest:List Stmt}
def MgT (K:PySem.W.Frag) (mg:Str→Option Value) (x:Str) (xs:List Int):Prop:=∃ (p:Addr) (o:Obj) (its:Array Value) (n:Nat),mg x=some (.ref p)∧K.lookup p=some o∧o.cls=.type "tuple"∧o.data=.seq its n∧its.size≤sizeLine∧Vals (xs.map V.int) its.toList
theorem MgI.mk {K:PySem.W.Frag} {h:Heap} {mg:Str→Option Value} {x:Str} {i:Int} {t:Tok} (Y:K.In h) (G:h.Ns mainGlobals mg) (a:PySem.W.nsIn K mainGlobals x=some (some (.int i t))):MgI mg x i:=⟨t,PySem.W.mg_of Y G a⟩
theorem MgT.mk {K:PySem.W.Frag} {h:Heap} {mg:Str→Option Value} {x:Str} {xs:List Int} {p:Addr} {od:Option Addr} {its:Array Value} {n:Nat} {osl:Array (Option Value)} (Y:K.In h) (G:h.Ns mainGlobals mg) (a:PySem.W.nsIn K mainGlobals x=some (some (.ref p)))
  (l:K.lookup p=some ⟨.type "tuple",od,.seq its n,osl⟩) (hz:its.size≤1000) (hv:Vals (xs.map V.int) its.toList):MgT K mg x xs:=⟨p,_,its,n,PySem.W.mg_of Y G a,l,rfl,rfl,Nat.le_of_lt (small1000 hz),hv⟩
theorem e_get {a:α} (h:E X Γ e b (some a)):E X Γ e b a:=by
 with_unfolding_all
  exact h
theorem e_some {a:α} (h:E X Γ e b a):E X Γ e b (some a):=by
 with_unfolding_all
  exact h
theorem e_getO {o:Option α} {a:α} (h:E X Γ e b o) (ho:o=some a):E X Γ e b a:=by
 with_unfolding_all
  subst ho; exact h
theorem t_nN {x:Option α} {j:Nat} {p:Pos} (ha:E X Γ e1 b1 x) (hx:∀ (K:PySem.W.Frag) (N:Nn) (H:Hp) (a:α),¬ Py.rp K N H .non a):T X Γ (.Compare e1 [.IsNot] [.Constant .none j p] pos) (!x.isNone):=by
 with_unfolding_all
  exact pt_wk (pt_cmp (pc_notN ha)) fun σ H Q ⟨H0,F,O,S,q⟩=>⟨H0,F,O,S,fun v H1 s1 r1=>by
    refine ⟨!decide (v=.non),rfl,?_⟩
    have e:decide (v=.non)=x.isNone:=by
     cases x with
     | none=>cases r1; rfl
     | some a =>
      have hv:v≠.non:=by rintro rfl; exact hx _ _ _ a r1
      rw [decide_eq_false hv]; rfl
    rw [e]; exact q H1 s1⟩
theorem op_isB:OpR X (compareOp .Is) (fun x y H Q=>∃ c d,x=.bl c∧y=.bl d∧Q (.bl (c == d)) H):=by
 intro pins s σ H x y v u Q I rx ry h
 obtain ⟨c,d,rfl,rfl,q⟩:=h
 cases rx
 cases ry
 exact is_bool ⟨.bl _,H,I,rfl,q⟩
theorem op_isnotB:OpR X (compareOp .IsNot) (fun x y H Q=>∃ c d,x=.bl c∧y=.bl d∧Q (.bl (c != d)) H):=by
 intro pins s σ H x y v u Q I rx ry h
 obtain ⟨c,d,rfl,rfl,q⟩:=h
 cases rx
 cases ry
 exact isnot_bool ⟨.bl _,H,I,rfl,q⟩
theorem cv_isB {c d:Bool}:CV X .Is c d (c == d):=⟨_,op_isB,fun N N' H u v Q h1 h2 q=>⟨c,d,h1,h2,q⟩⟩
theorem cv_isnotB {c d:Bool}:CV X .IsNot c d (c != d):=⟨_,op_isnotB,fun N N' H u v Q h1 h2 q=>⟨c,d,h1,h2,q⟩⟩
end
section
variable {X:Cx} {Γ:GEnv} {D:GD} {α β γ:Type} [Py α] [Py β] [Py γ] {e e1 e2 e3:Expr} {b b1 b2 b3:Bool} {pos:Pos} {rest:List Stmt}
theorem t_chain {op op':CmpOp} {x:α} {y:β} {z:γ} {c c':Bool} (h1:CV X op x y c) (h2:CV X op' y z c') (ha:E X Γ e1 b1 x) (hb:E X Γ e2 b2 y) (hc:E X Γ e3 b3 z) (hm:lastMarks [op,op'] [e2,e3]=false:=by with_unfolding_all rfl):T X Γ (.Compare e1 [op,op'] [e2,e3] pos) (c && c'):=by
 with_unfolding_all
  obtain ⟨r,ho,hr⟩:=h1
  obtain ⟨r',ho',hr'⟩:=h2
  exact pt_wk (pt_chain ho ho' ha hb hc hm) fun σ H Q ⟨H0,F,O,S,q⟩=>⟨H0,F,O,S,fun v H1 s1 r1=>⟨H0,F,O,S.go s1,fun w H2 s2 r2 =>
   hr _ _ H2 v w _ (rp_mono ((off_mono s2).trans (off_same _ _)) r1) (rp_mono (off_same _ _) r2) ⟨c,rfl,by
    cases c with
    | false=>exact ⟨false,rfl,q H2 (s1.trans s2)⟩
    | true=>exact ⟨H0,F,O,(S.go s1).go s2,fun u H3 s3 r3=>hr' _ _ H3 w u _ (rp_mono ((off_mono s3).trans (off_same _ _)) r2) (rp_mono (off_same _ _) r3) ⟨c',rfl,q H3 (s1.trans (s2.trans s3))⟩⟩⟩⟩⟩
end
def RTU:GD:={ nx:=fun _=>True,rt:=fun _=>False }
section
variable {P:Program} {w:World} {K:PySem.W.Frag} {mg:Str→Option Value} {base:Heap} {N ps:List Str} {x qual:Str} {st:Stmt} {f:Addr} {k:Nat} {fd:FuncData}
theorem body_runU {gs:List Bd} {vs:List V} {H:Hp} {O:Addr→Prop} {b:Bool} {Q:VK} {cdv:Value} {A:Around} {outer:List Env} {s:Shared} {E:XK} (B:Body P w K mg base N qual st f k gs RTU) (hr:Room k (A.deeper (envOfC qual (defScope st) s.heap.objs.size f cdv)))
  (ho:OwnL H O) (h:Args K (off H O) vs gs) (q:∀ r H',Same H H'→Py.rp K (Nf H b) (off H' O) r ()→Q r H') :
  ∃ t,PSs (cxOf CX0 P w K mg base N qual (defScope st) f cdv A outer s H E).nox (defBody st) t∧t { nx:=fun _ H'=>Q .non H',rt:=Q } (start N vs) H:=by
 with_unfolding_all
  refine ⟨_,B cdv A outer s H E hr,H,O,O,sta_start ho h,fun _ _ H' _ _ Z _=>q .non H' Z.same rfl,fun g v H' sm z e=>e.elim,fun _ _ _ _ _ _ z=>z.elim,fun _ _ _ _ _ _ z=>z.elim⟩
def unit1 {α:Type} (_:α):Unit:=()
theorem fn1U {α:Type} [Py α] {pre:α→Prop} {b:Bool} (F:Fun K x qual st f fd) (sc:FnScope N ps (defScope st)) (hl:ps.length=1) (B:∀ a,pre a→Body P w K mg base N qual st f k [.val false a] RTU) :
  FnOk P w K mg base CX0 (k + 1) f fd ps (sp1 K pre b (unit1 (α:=α))):=by
 with_unfolding_all
  refine F.ok sc (fun vs H Q E h=>?_) fun cdv A outer s H vs Q E hr h=>?_
  ·obtain ⟨O,v,a,_,rfl,_⟩:=h; rw [hl]; rfl
  ·obtain ⟨O,v,a,ho,rfl,r,hp,q⟩:=h
   exact body_runU (B a hp) hr ho (.cons r .nil) q
end
end L2.EP
namespace L2.EP
open PySem PySem.Spec PyProof.Rows
theorem rd_tup_off {H:Hp} {O:Addr→Prop} (ho:∀ p,O p→∃ xs:Mt,H p=some (mo xs)) (p:Addr) (xs:List V) (h:Rt H p xs):Rt (off H O) p xs:=by
 have hn:¬ O p:=fun z=>by
  obtain ⟨ys,e⟩:=ho p z
  rcases h with h | ⟨o,h⟩
  ·rw [e] at h; rcases ys with ys | ys | ys <;> cases h
  ·rw [e] at h; rcases ys with ys | ys | ys <;> cases h
 rcases h with h | ⟨o,h⟩
 ·exact .inl (by rw [off_get hn]; exact h)
 ·exact .inr ⟨o,by rw [off_get hn]; exact h⟩
theorem pr_cat {α β:Type} {F:α→β→Prop}:∀ {l₁ l₂:List α} {m₁ m₂:List β},Paired F l₁ m₁→Paired F l₂ m₂→Paired F (l₁ ++ l₂) (m₁ ++ m₂)
 | _,_,_,_,.nil,h=>h
 | _,_,_,_,.cons h r,h'=>.cons h (pr_cat r h')
section
variable {X:Cx} {Γ:GEnv} {D:GD} {α β γ:Type} [Py α] [Py β] [Py γ] {e e1 e2:Expr} {b b1 b2:Bool} {pos:Pos} {st rest:List Stmt}
theorem e_eq {a a':α} (h:E X Γ e b a) (ha:a=a'):E X Γ e b a':=by
 with_unfolding_all
  subst ha; exact h
theorem e_cat {xs ys:List α} (ha:E X Γ e1 true xs) (hb:E X Γ e2 true ys) (hl:xs.length + ys.length≤1000):E X Γ (.BinOp e1 .Add e2 pos) true (xs ++ ys):=by
 with_unfolding_all
  exact pe_wk (pe_op op_cat ha hb) fun σ H Q ⟨H0,F,O,S,q⟩=>⟨H0,F,O,S,fun v H1 s1 r1=>⟨H0,F,O,S.go s1,fun w H2 s2 r2=>by
    obtain ⟨p,vs,e1,sq1,n1,rr1⟩:=r1
    obtain ⟨p',vs',e2,sq2,n2,rr2⟩:=r2
    have h1:H2 p=some (.lst vs):=s2 _ _ ((off_same _ _) _ _ n1.2)
    have h2:H2 p'=some (.lst vs'):=(off_same _ _) _ _ n2.2
    refine ⟨p,p',vs,vs',e1,e2,h1,h2,by rw [pr_len rr1,pr_len rr2]; exact Nat.le_of_lt (small1000 hl),fun l hl'=>?_⟩
    obtain ⟨z1,z2⟩:=laid_lst (xs:=vs ++ vs') ((S.go s1).go s2) hl'
    exact q _ _ (s1.trans (s2.trans z1)) ⟨l,_,rfl,SqL.of z2,Nf.wk (b:=true) (((S.go s1).go s2).free0 hl') z2,pr_cat (pr_imp (fun _ _ z=>rp_mono ((off_mono s2).trans (off_mono z1)) z) rr1) (pr_imp (fun _ _ z=>rp_mono (off_mono z1) z) rr2)⟩⟩⟩
theorem en_lst [PyT α] {es:List Expr} {as:List α} (h:EA X Γ es b as) (hl:as.length≤1000):EN X Γ (.List es pos) as:=by
 with_unfolding_all
  exact pe_wk (pe_lst h) fun σ H Q ⟨H0,F,O,S,q⟩=>⟨H0,F,O,S,fun vs H1 s1 r1=>⟨by rw [pr_len r1]; exact Nat.le_of_lt (small1000 hl),fun p hp=>by
    obtain ⟨z1,z2⟩:=laid_lst (xs:=vs) (S.go s1) hp
    exact q _ _ (s1.trans z1) ⟨p,vs,rfl,SqL.of z2,⟨s1.free hp,z2⟩,pr_imp (fun _ _ r=>PyT.free (fun _ _ w=>w) (rp_mono (off_mono z1) r)) r1⟩⟩⟩
theorem en_if {c:Bool} {x y:α} (hc:T X Γ e c) (ha:c=true→EN X Γ e1 x) (hb:c=false→EN X Γ e2 y):EN X Γ (.IfExp e e1 e2 pos) (if c then x else y):=by
 with_unfolding_all
  cases c with
  | true=>exact pe_wk (pe_ifExp hc (ha rfl) pe_no) fun σ H Q ⟨H0,F,O,S,q⟩=>⟨H0,F,O,S,fun H1 s1=>iteT ⟨H0,F,O,S.go s1,fun w H2 s2 r2=>q w H2 (s1.trans s2) (new_less s1 r2)⟩⟩
  | false=>exact pe_wk (pe_ifExp hc pe_no (hb rfl)) fun σ H Q ⟨H0,F,O,S,q⟩=>⟨H0,F,O,S,fun H1 s1=>iteF ⟨H0,F,O,S.go s1,fun w H2 s2 r2=>q w H2 (s1.trans s2) (new_less s1 r2)⟩⟩
theorem s_d2o [PyT α] (i:Nat) (b:Bool) {as:List α} (hg:Γ[i]?=some (some (.dpo as))) (h:S X (Γ.set i (some (.own b as))) st D):S X Γ st D:=by
 with_unfolding_all
  exact pss_wk h fun De σ H ⟨H0,F,O,Z,n,r,bk,ct⟩=>by
   refine ⟨H0,F,O,⟨Z.same,Z.fo,Z.f0,Z.own,by rw [List.length_set]; exact Z.len,fun j g e no=>?_,?_⟩,n,r,bk,ct⟩
   ·by_cases hj:j=i
    ·subst hj
     have hl:j < Γ.length:=(List.getElem?_eq_some_iff.mp hg).1
     rw [get_set_eq hl] at e
     have e':Bd.own b as=g:=Option.some.inj (Option.some.inj e)
     exact absurd (e' ▸ (True.intro:(Bd.own b as).isOwn)) no
    ·rw [get_set_ne hj] at e
     exact Z.at_ j g e no
   ·obtain ⟨D',d1,d2,d3⟩:=Z.dis
    refine ⟨D',d1,d2,fun j g e o=>?_⟩
    by_cases hj:j=i
    ·subst hj
     have hl:j < Γ.length:=(List.getElem?_eq_some_iff.mp hg).1
     rw [get_set_eq hl] at e
     have e':Bd.own b as=g:=Option.some.inj (Option.some.inj e)
     subst e'
     obtain ⟨v,q1,p,xs,q2,q3,q4,q5⟩:=d3 j _ hg True.intro
     exact ⟨v,q1,p,xs,q2,q4.1,q4.2,pr_imp (fun _ _ z=>PyT.free (rd_tup_off Z.own) z) q5⟩
    ·rw [get_set_ne hj] at e
     exact d3 j g e o
end
end L2.EP
namespace L2
open PySem PySem.Spec PyProof.Rows
section
variable {X:Cx} {pos:Pos}
end
end L2
namespace L2.EP
open PySem PySem.Spec PyProof.Rows
section
variable {X:Cx} {Γ:GEnv} {D:GD} {α β γ:Type} [Py α] [Py β] [Py γ] {e e1 e2:Expr} {b b1 b2:Bool} {pos:Pos} {rest st:List Stmt}
theorem e_to {xs:List α} {k:Int} {p2:Pos} (ha:E X Γ e1 b xs) (hb:E X Γ e2 b2 k) (h0:0≤k):E X Γ (.Subscript e1 (.Slice none (some e2) none p2) pos) b (xs.take k.toNat):=by
 with_unfolding_all
  exact pe_wk (pe_slice sl_list ha po_none (po_some hb)) fun σ H Q ⟨H0,F,O,S,q⟩=>⟨H0,F,O,S,fun v H1 s1 r1=>⟨H0,F,O,S.go s1,fun w H2 s2 r2=>by
    obtain ⟨p,vs,e,sq,n,r⟩:=r1
    refine ⟨k,r2,p,vs,e,(off_same _ _).seq ((off_mono s2).seq sq),fun l hl=>?_⟩
    obtain ⟨z1,z2⟩:=laid_lst (xs:=cutV vs none (some k)) ((S.go s1).go s2) hl
    refine q _ _ (s1.trans (s2.trans z1)) ⟨l,_,rfl,SqL.of z2,Nf.wk (((S.go s1).go s2).free0 hl) z2,?_⟩
    have ec:cutV vs none (some k)=vs.take k.toNat:=by
     unfold cutV
     have hk:k=((k.toNat:Nat):Int):=by omega
     rw [hk,HT.sIx_nat,HT.sIx_none]
     simp only [Int.toNat_natCast,List.drop_zero,Nat.sub_zero]
     by_cases hkn:k.toNat≤vs.length
     ·rw [Nat.min_eq_left hkn]
     ·rw [Nat.min_eq_right (by omega),List.take_of_length_le (Nat.le_refl _),List.take_of_length_le (by omega)]
    have rr:=pr_imp (fun _ _ z=>rp_mono ((off_mono s2).trans (off_mono z1)) z) (pr_take k.toNat r)
    rw [← ec] at rr
    exact rr⟩⟩
theorem call_maxL (hc:X.calm=true):CallR X (.builtin "max") (fun xs H Q=>∃ p,∃ ns:List Int,xs=[.ref p]∧SqL X.K H p (ns.map V.int)∧0 < ns.length∧∀ M,M∈ns→(∀ a,a∈ns→a≤M)→Q (.int M) H):=by
 intro pins s σ H xs us Q I r h
 obtain ⟨p,ns,rfl,sq,hne,q⟩:=h
 obtain ⟨u,rfl,rx⟩:=vals1 r
 cases rx
 obtain ⟨its,rr,pl,_⟩:=I.list sq
 have hi:=intsAre_of rr
 obtain ⟨ys,hx⟩:=hi.allInts.items
 have hl':s.heap.IsList p (intItems ys):=hx ▸ pl.isList
 have e1:ns=ys.toList.map (·.1):=by
  rw [← nums_intItems,← hx]
  exact (show numsOf its.toArray.toList=ns from hi.numsOf).symm
 have hsz:0 < ys.size:=by rw [e1,List.length_map,Array.length_toList] at hne; exact hne
 refine max_intList (I.ok.hd hc) hl' hsz fun v h' tk hv hk=>?_
 obtain ⟨t,rfl⟩:=intItems_at hv
 obtain ⟨h1,h2⟩:=argBest_gt (numAt ys) (ys.size - 1)
 refine ⟨.int _,H,I.kept hk,⟨_,rfl⟩,q _ ?_ fun a ha=>?_⟩
 ·rw [e1,numAt_eq]; exact getD_mem (by rw [List.length_map,Array.length_toList]; omega)
 ·rw [e1] at ha
  obtain ⟨j,hj,rfl⟩:=mem_getD ha
  rw [List.length_map,Array.length_toList] at hj
  rw [← numAt_eq]; exact h2 j (by omega)
theorem e_maxL {ns:List Int} {m:Int} {p:Pos} (hc:X.calm=true) (hg:Gl X "max") (hm:X.mg "max"=none) (ha:E X Γ e b ns) (h0:0 < ns.length) (h1:m∈ns) (h2:∀ a,a∈ns→a≤m) (hs:starEach [e] X.env=(false,eval e X.env) :: starEach [] X.env:=by rfl):E X Γ (.Call (.Name "max" p) [e] [] pos) true m:=by
 with_unfolding_all
  exact pe_wk (pe_callB (call_maxL hc) hg hm boot_max (pa_cons ha pa_nil hs) (he:=hs)) fun σ H Q ⟨H0,F,O,S,q⟩=>⟨H0,F,O,S,fun v H1 s1 r1=>by
    obtain ⟨p,vs,e,sq,n,r⟩:=r1
    rw [pr_int r] at sq
    refine ⟨p,ns,by rw [e],(off_same _ _).seq sq,h0,fun M m1 m2=>q _ H1 s1 ?_⟩
    have:=h2 M m1
    have:=m2 m h1
    show V.int M=V.int m
    rw [show M=m by omega]⟩
end
end L2.EP
namespace L2.EP
open PySem PySem.Spec PyProof.Rows
theorem op_catS {X:Cx}:OpR X (binaryOp .Add) (fun x y H Q=>∃ l b xs zs,x=.ref l∧y=.ref b∧SqL X.K H l xs∧SqL X.K H b zs∧xs.length + zs.length≤sizeLine∧∀ p,H p=none→Q (.ref p) (upd H p (.lst (xs ++ zs)))):=by
 intro pins s σ H x y v u Q I rx ry h
 obtain ⟨l,b,xs,zs,rfl,rfl,hH,hB,hz,q⟩:=h
 cases rx
 cases ry
 obtain ⟨its,r,pl,_⟩:=I.list hH
 obtain ⟨its2,r2,pl2,_⟩:=I.list hB
 obtain ⟨⟨cls,dd,data,sl⟩,n,ho,hc,hdd,hd⟩:=pl
 obtain ⟨⟨cls2,dd2,data2,sl2⟩,n2,ho2,hc2,hdd2,hd2⟩:=pl2
 simp only at hc hdd hd hc2 hdd2 hd2
 subst hc hdd hd hc2 hdd2 hd2
 have l1:=r.length
 have l2:=r2.length
 have ea:its.toArray ++ its2.toArray=(its ++ its2).toArray:=by simp
 refine concat_meets ⟨_,ho,rfl⟩ ⟨_,ho2,rfl⟩ noFill_list_add seq_list_add PySem.F.slot_list_add PySem.F.entry_list_add (PySem.F.args_list_add_2 _ _) (list_addW l b its.toArray its2.toArray n n2 none none sl sl2 (by rw [List.size_toArray,List.size_toArray]; omega)) ⟨ho,ho2,?_⟩
 rw [ea]
 exact ⟨.ref _,_,I.lnew (t':=s.toks) (r.append r2) (by rw [List.length_append]; omega),rfl,q _ I.fresh⟩
section
variable {X:Cx} {Γ:GEnv} {D:GD} {α β γ:Type} [Py α] [Py β] [Py γ] {e e1 e2:Expr} {b b1 b2:Bool} {pos:Pos} {rest st:List Stmt}
end
end L2.EP
namespace L2.EP
open PySem PySem.Spec PyProof.Rows
end L2.EP
namespace L2
open PySem PySem.Spec PyProof.Rows
def Ite (K : PySem.W.Frag) (a : Addr) : It :=
  ⟨fun i H => ∃ xs x, SqL K H a xs ∧ xs[i]? = some x,
   fun i H v H' => ∃ T x, H T = none ∧ v = .ref T ∧ H' = upd H T (.tup [.int (i : Int), x]) ∧ ∀ xs, SqL K H a xs → xs[i]? = some x,
   fun i H => ∃ xs, SqL K H a xs ∧ xs.length ≤ i⟩
theorem turn_enum {P:Program} {w:World} {K:PySem.W.Frag} {elts:List Expr} {kk:Nat} {tp:Pos} (z it a:Addr):Turn P w K (.Tuple elts kk tp) (Ite K a) [z,it] z
  (fun i h=>(∃ old,IsEnum h z it ((i:Nat):Int) old)∧h.IsListIter it a i) where
 mem:=by simp
 obj:=fun i h st c hc=>by
  obtain ⟨⟨old,hz⟩,h1⟩:=st
  have hc':c=z∨c=it:=by simpa using hc
  rcases hc' with e | e
  ·subst e; exact ⟨_,hz,fun v q=>by cases q⟩
  ·subst e; obtain ⟨o,q1,q2,q3⟩:=h1; exact ⟨o,q1,fun v q=>by rw [q3] at q; cases q⟩
 keep:=fun i h h' st k=>by
  obtain ⟨⟨old,hz⟩,h1⟩:=st
  exact ⟨⟨old,k z (by simp) _ hz⟩,h1.at fun o e=>k it (by simp) o e⟩
 item:=by
  intro X hP hw hK hc i pins s σ H E I hf st hg
  subst hP hw hK
  obtain ⟨xs,x,sx,gx⟩:=hg
  obtain ⟨⟨old,hz⟩,h1⟩:=st
  obtain ⟨ix,rx,px,_⟩:=I.list sx
  have X':∀ {s t:String},s≠t→Value.type s≠Value.type t:=fun ne e=>ne (by injection e)
  have hne:z≠it:=by
   obtain ⟨o1,a1,b1,_⟩:=h1
   exact cls_ne hz a1 (by rw [b1]; exact X' (by decide))
  obtain ⟨u,ux,uxr⟩:=rx.get gx
  refine wpAny_pyNext_enum_item hz h1 px.isList (by simpa using ux) hne fun h' a1 a3 a5 a6 hk=>?_
  have hT0:H s.heap.objs.size=none:=I.hok.fresh (Nat.le_refl _)
  have I1:Inv X pins σ (upd H s.heap.objs.size (.tup [.int (i:Int),x])) { s with heap:=h',toks:=s.toks + 1 }:=by
   refine I.turnedT (ch:=[z,it]) (Nat.le_refl _) (fun c o hc' e=>hk c o (fun q=>hc' (by simp [q])) (fun q=>hc' (by simp [q])) e) (fun c o e=>?_) (fun c hc'=>hf c hc') ?_
   ·by_cases q1:c=z
    ·subst q1; exact ⟨_,a1⟩
    by_cases q3:c=it
    ·subst q3; obtain ⟨o',q,_⟩:=a3; exact ⟨o',q⟩
    exact ⟨o,hk c o q1 q3 e⟩
   ·exact ⟨by show 2≤sizeLine; decide,[.int i s.toks,u],.cons ⟨_,rfl⟩ (.cons uxr .nil),⟨_,a5,rfl,_,rfl⟩⟩
  refine ⟨_,rfl,?_⟩
  have fz:=hf z (by simp)
  refine wpAny_letOwnedTupleGo_enum a1 fun h2' hz' hs'=>?_
  have zT:z≠s.heap.objs.size:=Nat.ne_of_lt (Heap.lt_size hz)
  have I2:Inv X pins σ (upd H s.heap.objs.size (.tup [.int (i:Int),x])) { ({ s with heap:=h',toks:=s.toks + 1 }:Shared) with heap:=h2',toks:=s.toks + 1 }:=I1.turned (fun c o hc' e=>hs'.extBut c o hc' e) (by rw [upd_ne zT]; exact fz.1) fz.2.1 fz.2.2.2.1 fz.2.2.2.2.1 fz.2.2.2.2.2
  refine ⟨.ref s.heap.objs.size,upd H s.heap.objs.size (.tup [.int (i:Int),x]),I2,rfl,⟨s.heap.objs.size,x,hT0,rfl,rfl,fun xs' sx'=>?_⟩,⟨⟨_,hz'⟩,a3.extBut hs'.extBut (Ne.symm hne)⟩,fun c hc'=>?_⟩
  ·rw [I.list_inj sx' sx]; exact gx
  ·have hcl:c < s.heap.objs.size:=by
    have hc2:c=z∨c=it:=by simpa using hc'
    rcases hc2 with e | e
    ·subst e; exact Heap.lt_size hz
    ·subst e; obtain ⟨_,q,_⟩:=h1; exact Heap.lt_size q
   rw [upd_ne (Nat.ne_of_lt hcl)]; exact (hf c hc').1
 done:=by
  intro X hP hw hK hc i pins s σ H E I hf st hg
  subst hP hw hK
  obtain ⟨xs,sx,hend⟩:=hg
  obtain ⟨⟨old,hz⟩,h1⟩:=st
  obtain ⟨ix,rx,px,_⟩:=I.list sx
  refine wpAny_pyNext_enum_end (I.ok.hd hc) hz h1 px.isList ?_ fun h' hk=>⟨rfl,?_⟩
  ·have:=rx.length
   simp; omega
  ·have f1:=hf it (by simp)
   refine I.step (g':=s.gens) (d':=s.drawn) (t':=s.toks) (ch:=[it]) (fun b hb=>?_) (fun b o _ _ hc' e _=>hk b o (fun q=>hc' (by simp [q])) e) (fun b o _ _ hc' e _=>⟨o.slots,hk b o (fun q=>hc' (by simp [q])) e⟩) (fun _ _ _ _ n=>n)
    (fun b o hc' e=>⟨o,hk b o (fun q=>hc' (by simp [q])) e⟩) (fun _ _ e=>e) (fun _ _ _ e=>e) (fun b ps e=>⟨#[],by rw [e]; simp⟩) (fun m hm=>?_) (fun b u e=>?_) I.bare
   ·have q:=hf b (by simp at hb ⊢; simp [hb])
    exact ⟨q.2.2.2.1,q.2.1,q.2.2.2.2.1,q.2.2.2.2.2⟩
   ·obtain ⟨o,es,ep,ho,r⟩:=hm
    exact ⟨o,es,ep,hk _ o (Ne.symm f1.2.1) ho,r⟩
   ·have nn:∀ c v,H c=some v→c≠it:=fun c v e q=>by rw [q,f1.1] at e; cases e
    refine (I.hok b u e).stay (fun c v hc' q=>?_) (fun _ q=>q) fun _ _ q=>q
    rcases hc' with e' | e'
    ·subst e'; exact hk c v (nn c _ e) q
    ·exact hk c v (nn c _ e') q
 self:=fun _ _ _ _ _ st h=>by
  obtain ⟨⟨old,hz⟩,_⟩:=st
  exact wpAny_pyIter_enum hz h
section
variable {X:Cx} {elts:List Expr} {kk:Nat} {tp:Pos}
def iEnum (K:PySem.W.Frag) (ta:TA):TI:=fun σ H R=>ta σ H fun vs H1=>∃ a,vs=[.ref a]∧(∃ xs,SqL K H1 a xs)∧R (Ite K a) H1
theorem pi_enum {e1:Expr} {ta:TA} {p pos:Pos} (hg:Gl X "enumerate") (hm:X.mg "enumerate"=none) (ha:PA X [e1] ta) (he:starEach [e1] X.env=(false,eval e1 X.env) :: starEach [] X.env:=by rfl)
  (hpl:(backTo pos (starEach [] X.env)).any (·.1)=false:=by rfl):PI X (.Tuple elts kk tp) (.Call (.Name "enumerate" p) [e1] [] pos) (iEnum X.K ta):=by
 intro pins s σ H R I h
 refine Call_ (ld_blt I hg hm PyProof.Rows.boot_enumerate (PyProof.Rows.callWith_type1 (thn (ha pos pins s σ H _ I h) fun us s1 ⟨vs,H1,I1,r1,q1⟩=>?_) he hpl))
 obtain ⟨a,e,⟨xs,sx⟩,q⟩:=q1
 subst e
 obtain ⟨u,rfl,ra⟩:=vals1 r1
 cases ra
 obtain ⟨ix,rx,px,_⟩:=I1.list sx
 refine call_enumerate_list px.isList fun h' z1 z4 z6 hk=>?_
 have I2:Inv X pins σ H1 { s1 with heap:=h',toks:=s1.toks }:=I1.kept hk
 refine wpAny_pyIter_enum (s:={ s1 with heap:=h' }) z1 ?_
 refine ⟨s1.heap.objs.size + 1,[s1.heap.objs.size + 1,s1.heap.objs.size],_,Ite X.K a,H1,rfl,I2,turn_enum (s1.heap.objs.size + 1) s1.heap.objs.size a,⟨⟨_,z1⟩,z4⟩,fun c hc=>?_,q⟩
 have hge:s1.heap.objs.size≤c:=by
  simp at hc
  rcases hc with e | e <;> subst e <;> omega
 exact I1.fpOk hge (I1.hok.fresh hge)
end
end L2
namespace L2.EP
open PySem PySem.Spec PyProof.Rows
def enI {α:Type} (xs:List α):List (Int × α):=xs.mapIdx fun i x=>((i:Int),x)
theorem enI_get {α:Type} {xs:List α} {i:Nat} {u:Int × α} (h:(enI xs)[i]?=some u):xs[i]?=some u.2∧u.1=(i:Int):=by
 unfold enI at h
 rw [List.getElem?_mapIdx] at h
 cases e:xs[i]? with
 | none=>rw [e] at h; cases h
 | some x=>rw [e] at h; cases h; exact ⟨rfl,rfl⟩
theorem enI_len {α:Type} (xs:List α):(enI xs).length=xs.length:=by unfold enI; rw [List.length_mapIdx]
section
variable {X:Cx} {Γ:GEnv} {α β:Type} [Py α] [Py β] {e1 e2:Expr} {b1 b2:Bool} {elts:List Expr} {kk:Nat} {tp p ps:Pos}
theorem ei_enum {xs:List α} (hg:Gl X "enumerate") (hm:X.mg "enumerate"=none) (h1:E X Γ e1 b1 xs) (hs1:starEach [e1] X.env=(false,eval e1 X.env) :: starEach [] X.env:=by rfl)
  (hpl:(backTo ps (starEach [] X.env)).any (·.1)=false:=by rfl):EI X Γ (.Tuple elts kk tp) (.Call (.Name "enumerate" p) [e1] [] ps) b1 (enI xs):=by
 with_unfolding_all
  exact ⟨_,pi_enum hg hm (pa_cons h1 pa_nil hs1) hs1 hpl,fun σ H H0 F O R Z q=>⟨H0,F,O,Z,fun v H1 s1 r1=>by
    obtain ⟨a,va,ea,sa,na,ra⟩:=r1
    refine ⟨a,by rw [ea],⟨va,(off_same _ _).seq sa⟩,q _ H1 s1 fun H' O' hO' sm=>⟨fun i u hu=>?_,?_⟩⟩
    ·obtain ⟨hx,hi⟩:=enI_get hu
     obtain ⟨x,gx,rx⟩:=pr_get ra hx
     have sa':=(off_same _ _).seq (sm.seq sa)
     refine ⟨⟨va,x,sa',gx⟩,fun v' H'' hv=>?_⟩
     obtain ⟨T,x',hT,rfl,rfl,f1⟩:=hv
     have ex:=f1 va sa'
     rw [gx] at ex; cases ex
     have hTO:¬ O' T:=fun z=>by
      obtain ⟨zs,w⟩:=hO' T z
      rw [hT] at w; cases w
     refine ⟨same_upd hT _,T,.int (i:Int),x,rfl,.inl (by rw [off_get hTO]; exact upd_same),?_,?_⟩
     ·show V.int _=V.int _
      rw [hi]
     ·exact rp_mono (sm.trans (off_mono (same_upd hT _))) rx
    ·refine ⟨va,(off_same _ _).seq (sm.seq sa),?_⟩
     rw [pr_len ra,enI_len]
     omega⟩⟩
end
end L2.EP
namespace L2.EP
open PySem PySem.Spec PyProof.Rows
structure TbO (β:Type) where
 rows:List (List β)
instance {β:Type} [Py β]:Py (TbO β) where
 rp K N H v a:=∃ p xs,v=.ref p∧SqL K H p xs∧N.has H p (.inl xs)∧xs.Nodup∧Paired (fun x (r:List β)=>Py.rp K N H x r) xs a.rows
 tr l t h:=by
  obtain ⟨p,xs,e,s,n,nd,r⟩:=h
  obtain ⟨s',n'⟩:=l _ (.inl xs) s n
  exact ⟨p,xs,e,s',n',nd,pr_imp (fun _ _ q=>Py.tr l t q) r⟩
theorem tb_list {β:Type} [Py β] {K:PySem.W.Frag} {N:Nn} {H:Hp} {v:V} {rows:List (List β)} (h:Py.rp K N H v (TbO.mk rows)):Py.rp K N H v rows:=by
 obtain ⟨p,xs,e,s,n,_,r⟩:=h
 exact ⟨p,xs,e,s,n,r⟩
section
variable {X:Cx} {Γ:GEnv} {D:GD} {α β:Type} [Py α] [Py β] {elt target iter c:Expr} {b b':Bool} {pos:Pos} {scope:Scope} {tn:List Str} {js:List Nat} {g:TG} {tc:Nat→Prop} {put:Bool→α→GEnv→GEnv} {as:List α}
def teN (X:Cx) (tn:List Str) (js:List Nat) (scope:Scope) (elt:Expr) (β:Type) [Py β]:TE:=fun σ H Q=>∃ Γ',∃ v:β,(∀ C s H fp,EN (blk X (cN X tn js) scope C s H fp) Γ' elt v)∧tN X.K Γ' v σ H Q
theorem teN_ok {C:Addr} {s:Shared} {H:Hp} {fp:List Addr}:PE (blk X (cN X tn js) scope C s H fp) elt (teN X tn js scope elt β):=by
 with_unfolding_all
  exact fun pins s' σ H' Q I ⟨Γ',v,h,q⟩=>(show PE (blk X (cN X tn js) scope C s H fp) elt (tN X.K Γ' v) from h C s H fp) pins s' σ H' Q I q
theorem comp_wkT {f:α→List β} {wi:TI} (hw:∀ (σ:St) (H H0:Hp) (F O:Addr→Prop) (R:It→Hp→Prop),Sta X.K H0 F O Γ σ H→(∀ J H1,Same H H1→ITS X.K H0 O b as J H1→R J H1)→wi σ H R)
  (hgp:GP g α put tc X.K) (htc:∀ j,tc j→j < tn.length)
  (hb:∀ (i:Nat) (a:α),as[i]?=some a→∀ C s H fp,EN (blk X (cN X tn js) scope C s H fp) (put b a (cΓ Γ tn js)) elt (f a)) (hl:as.length≤1000)
  {σ:St} {H:Hp} {Q:VK} {H0:Hp} {F O:Addr→Prop} (Z:Sta X.K H0 F O Γ σ H) (q:∀ v H',Same H H'→Py.rp X.K (.new H) (off H' O) v (TbO.mk (as.map f))→Q v H') :
  tLC wi tn js g (ttC X tn js scope []) (teN X tn js scope elt (List β)) σ H Q:=by
 with_unfolding_all
  refine hw σ H H0 F O _ Z fun J H1 s1 its D hD=>?_
  have Z1:=Z.go s1
  refine ⟨fun i m H' xs=>m=as.length - i∧i≤as.length∧Same H1 H'∧H' D=some (.lst xs)∧xs.Nodup∧(∀ x∈xs,∃ q ys,x=.ref q∧H' q=some (.lst ys))∧Paired (fun x a=>Py.rp X.K (.new H) (off H' fun p=>O p∨p=D) x a) xs ((as.take i).map f),
   ⟨_,rfl,Nat.zero_le _,same_upd hD _,upd_same,List.nodup_nil,(fun x h=>by cases h),.nil⟩,?_⟩
  rintro i m H' xs ⟨rfl,hi,sm,hx,nd,hxs,rr⟩
  refine ⟨hx,?_⟩
  obtain ⟨Z',so⟩:=Z1.ownIn hD sm hx
  obtain ⟨t1,t2⟩:=its H' _ Z'.own so
  by_cases hlt:i < as.length
  ·have ha:as[i]?=some as[i]:=List.getElem?_eq_getElem hlt
   have htk:as.take (i + 1)=as.take i ++ [as[i]]:=by rw [List.take_succ,ha]; rfl
   obtain ⟨go,yl⟩:=t1 i _ ha
   refine .inr ⟨go,fun x H'' hy=>?_⟩
   obtain ⟨s2,rx⟩:=yl x H'' hy
   refine hgp b as[i] H0 F _ (cΓ Γ tn js) (cσ σ tn js) H'' x _ ((Z'.go s2).blk tn js) rx fun σ2 Z2 l2 k2=>?_
   refine ⟨⟨fun j v hj e=>?_,l2⟩,_,_,fun C s H fp=>ft_nil,H0,F,_,Z2,fun H3 s3=>?_⟩
   ·rw [k2 j fun z=>absurd (htc j z) (Nat.not_lt.mpr hj)]; exact e
   refine iteT ⟨_,_,hb i _ ha,H0,F,_,Z2.go s3,fun y H4 s4 ry=>?_⟩
   have hx4:H4 D=some (.lst xs):=s4 _ _ (s3 _ _ (s2 _ _ hx))
   have hOD:(fun p=>O p∨p=D) D:=.inr rfl
   have sH3:Same H H3:=s1.trans (sm.trans (s2.trans s3))
   have ry':=new_less sH3 ry
   obtain ⟨q0,ys0,e0,sq0,nn0,rr0⟩:=ry
   have h40:H4 q0=some (.lst ys0):=(off_same _ _) _ _ nn0.2
   have hq0D:q0≠D:=fun w=>by
    have h3:H3 D=some (.lst xs):=s3 _ _ (s2 _ _ hx)
    rw [← w,nn0.1] at h3; cases h3
   refine ⟨hx4,?_,as.length - (i + 1),by omega,rfl,hlt,?_,upd_same,?_,?_,?_⟩
   ·have:=pr_len rr
    rw [List.length_map] at this
    have h3:=List.length_take_le i as
    exact Nat.lt_of_le_of_lt (by omega) (small1000 hl)
   ·exact fun c o z=>by
     have hc:c≠D:=fun w=>by rw [w,hD] at z; cases z
     rw [upd_ne hc]; exact s4 _ _ (s3 _ _ (s2 _ _ (sm _ _ z)))
   ·rw [List.nodup_append]
    refine ⟨nd,by simp,fun a ha1 c hc1=>?_⟩
    rw [List.mem_singleton.mp hc1]
    obtain ⟨q1,ys1,e1,h1⟩:=hxs a ha1
    rw [e1,e0]
    intro w
    cases w
    have h3:H3 q0=some (.lst ys1):=s3 _ _ (s2 _ _ h1)
    rw [nn0.1] at h3; cases h3
   ·intro x' hx'
    rcases List.mem_append.mp hx' with z | z
    ·obtain ⟨q1,ys1,e1,h1⟩:=hxs x' z
     by_cases hqD:q1=D
     ·exact ⟨q1,xs ++ [y],e1,by rw [hqD]; exact upd_same⟩
     ·exact ⟨q1,ys1,e1,by rw [upd_ne hqD]; exact s4 _ _ (s3 _ _ (s2 _ _ h1))⟩
    ·rw [List.mem_singleton.mp z]
     exact ⟨q0,ys0,e0,by rw [upd_ne hq0D]; exact h40⟩
   ·rw [off_upd hOD,htk]
    simp only [List.map_append,List.map_cons,List.map_nil]
    exact pr_app (pr_imp (fun _ _ z=>rp_mono (off_mono (s2.trans (s3.trans s4))) z) rr) (.cons ry' .nil)
  ·have ei:i=as.length:=by omega
   subst ei
   rw [List.take_length] at rr
   have hxo:off H' O D=some (.lst xs):=by rw [off_get (Z1.notOwn hD)]; exact hx
   refine .inl ⟨t2,q _ H' (s1.trans sm) ⟨D,xs,rfl,SqL.of hxo,⟨s1.free hD,hxo⟩,nd,?_⟩⟩
   exact pr_imp (fun _ _ z=>rp_mono (off_less fun _ w=>.inl w) z) rr
theorem comp_wkN [PyT β] {f:α→β} {wi:TI} (hw:∀ (σ:St) (H H0:Hp) (F O:Addr→Prop) (R:It→Hp→Prop),Sta X.K H0 F O Γ σ H→(∀ J H1,Same H H1→ITS X.K H0 O b as J H1→R J H1)→wi σ H R)
  (hgp:GP g α put tc X.K) (htc:∀ j,tc j→j < tn.length)
  (hb:∀ (i:Nat) (a:α),as[i]?=some a→∀ C s H fp,E (blk X (cN X tn js) scope C s H fp) (put b a (cΓ Γ tn js)) elt b' (f a)) (hl:as.length≤1000)
  {σ:St} {H:Hp} {Q:VK} {H0:Hp} {F O:Addr→Prop} (Z:Sta X.K H0 F O Γ σ H) (q:∀ v H',Same H H'→Py.rp X.K (.new H) (off H' O) v (as.map f)→Q v H') :
  tLC wi tn js g (ttC X tn js scope []) (teC X tn js scope elt β b') σ H Q:=by
 with_unfolding_all
  refine hw σ H H0 F O _ Z fun J H1 s1 its D hD=>?_
  have Z1:=Z.go s1
  refine ⟨fun i m H' xs=>m=as.length - i∧i≤as.length∧Same H1 H'∧H' D=some (.lst xs)∧Paired (fun x a=>Py.rp X.K (.new H) (off H' fun p=>O p∨p=D) x a) xs ((as.take i).map f),
   ⟨_,rfl,Nat.zero_le _,same_upd hD _,upd_same,.nil⟩,?_⟩
  rintro i m H' xs ⟨rfl,hi,sm,hx,rr⟩
  refine ⟨hx,?_⟩
  obtain ⟨Z',so⟩:=Z1.ownIn hD sm hx
  obtain ⟨t1,t2⟩:=its H' _ Z'.own so
  by_cases hlt:i < as.length
  ·have ha:as[i]?=some as[i]:=List.getElem?_eq_getElem hlt
   have htk:as.take (i + 1)=as.take i ++ [as[i]]:=by rw [List.take_succ,ha]; rfl
   obtain ⟨go,yl⟩:=t1 i _ ha
   refine .inr ⟨go,fun x H'' hy=>?_⟩
   obtain ⟨s2,rx⟩:=yl x H'' hy
   refine hgp b as[i] H0 F _ (cΓ Γ tn js) (cσ σ tn js) H'' x _ ((Z'.go s2).blk tn js) rx fun σ2 Z2 l2 k2=>?_
   refine ⟨⟨fun j v hj e=>?_,l2⟩,_,_,fun C s H fp=>ft_nil,H0,F,_,Z2,fun H3 s3=>?_⟩
   ·rw [k2 j fun z=>absurd (htc j z) (Nat.not_lt.mpr hj)]; exact e
   refine iteT ⟨_,_,hb i _ ha,H0,F,_,Z2.go s3,fun y H4 s4 ry=>?_⟩
   have hx4:H4 D=some (.lst xs):=s4 _ _ (s3 _ _ (s2 _ _ hx))
   have hOD:(fun p=>O p∨p=D) D:=.inr rfl
   refine ⟨hx4,?_,as.length - (i + 1),by omega,rfl,hlt,?_,upd_same,?_⟩
   ·have:=pr_len rr
    rw [List.length_map] at this
    have h3:=List.length_take_le i as
    exact Nat.lt_of_le_of_lt (by omega) (small1000 hl)
   ·exact fun c o z=>by
     have hc:c≠D:=fun w=>by rw [w,hD] at z; cases z
     rw [upd_ne hc]; exact s4 _ _ (s3 _ _ (s2 _ _ (sm _ _ z)))
   ·rw [off_upd hOD,htk]
    simp only [List.map_append,List.map_cons,List.map_nil]
    exact pr_app (pr_imp (fun _ _ z=>rp_mono (off_mono (s2.trans (s3.trans s4))) z) rr) (.cons (PyT.free (fun _ _ w=>w) ry) .nil)
  ·have ei:i=as.length:=by omega
   subst ei
   rw [List.take_length] at rr
   have hxo:off H' O D=some (.lst xs):=by rw [off_get (Z1.notOwn hD)]; exact hx
   refine .inl ⟨t2,q _ H' (s1.trans sm) ⟨D,xs,rfl,SqL.of hxo,⟨s1.free hD,hxo⟩,?_⟩⟩
   exact pr_imp (fun _ _ z=>rp_mono (off_less fun _ w=>.inl w) z) rr
theorem en_compT [PyT β] {f:α→β} (tn:List Str) (js:List Nat) (S:CScope X scope tn js) (he:EI X Γ target iter b as) (hgp:GP g α put tc X.K) (hg:∀ C s H fp,PG (blk X (cN X tn js) scope C s H fp) target g) (htc:∀ j,tc j→j < tn.length)
  (hb:∀ (i:Nat) (a:α),as[i]?=some a→∀ C s H fp,E (blk X (cN X tn js) scope C s H fp) (put b a (cΓ Γ tn js)) elt b' (f a)) (hl:as.length≤1000) (hc:X.calm=true:=by rfl)
  (hs:∀ x,foldedSetIterable iter X.env x=pure x:=by intro _; rfl):EN X Γ (.ListComp elt [⟨target,iter,[],0⟩] scope pos) (as.map f):=by
 with_unfolding_all
  obtain ⟨wi,hi,hw⟩:=he
  exact pe_wk (pe_lc S hc hi (fun C s H fp=>⟨hg C s H fp,ttC_ok,teC_ok⟩) hs) fun σ H Q ⟨H0,F,O,Z,q⟩=>comp_wkN hw hgp htc hb hl Z q
end
section
variable {X:Cx} {Γ:GEnv} {D:GD} {α β γ:Type} [Py α] [Py β] [Py γ] {e e1 e2:Expr} {b b1 b2:Bool} {pos p:Pos} {rest st:List Stmt}
theorem s_thawT (i:Nat) {rows:List (List β)} (hg:Γ[i]?=some (some (.dpo (TbO.mk rows)))) (h:S X (Γ.set i (some (.val true rows))) st D):S X Γ st D:=by
 with_unfolding_all
  exact pss_frz (g':=Bd.val true rows) i hg True.intro (fun z=>z) (fun H0 H O Di O' v z1 z2 _ z4=>tb_list (ok_dpo (a:=TbO.mk rows) z1 z2 z4)) h
theorem rows_set [PyT β] {K:PySem.W.Frag} {D:Addr→Prop} {H:Hp} {q:Addr} {ys zs:List V} {r':List β} (hq:H q=some (.lst ys)) (hD:D q) (hz:Paired (fun x (c:β)=>Py.rp K .any (upd H q (.lst zs)) x c) zs r') :
  ∀ {vs:List V} {rows:List (List β)} {k:Nat},Paired (fun x r=>Py.rp K (.set D) H x r) vs rows→vs.Nodup→vs[k]?=some (.ref q)→Paired (fun x r=>Py.rp K (.set D) (upd H q (.lst zs)) x r) vs (rows.set k r'):=by
 have ht:∀ p xs,Rt H p xs→Rt (upd H q (.lst zs)) p xs:=fun p xs h=>by
  have hp:p≠q:=fun w=>by
   subst w
   rcases h with h | ⟨o,h⟩
   ·rw [hq] at h; cases h
   ·rw [hq] at h; cases h
  rcases h with h | ⟨o,h⟩
  ·exact .inl (by rw [upd_ne hp]; exact h)
  ·exact .inr ⟨o,by rw [upd_ne hp]; exact h⟩
 have other:∀ {x:V} {r:List β},Py.rp K (.set D) H x r→x≠.ref q→Py.rp K (.set D) (upd H q (.lst zs)) x r:=fun {x r} h hne=>by
  obtain ⟨p,xs,e,sq,nn,rr⟩:=h
  have hp:p≠q:=fun w=>hne (by rw [e,w])
  have e2:upd H q (.lst zs) p=some (.lst xs):=by rw [upd_ne hp]; exact nn.2
  exact ⟨p,xs,e,SqL.of e2,⟨nn.1,e2⟩,pr_imp (fun _ _ z=>PyT.free ht z) rr⟩
 have here:Py.rp K (.set D) (upd H q (.lst zs)) (.ref q) r':=⟨q,zs,rfl,SqL.of upd_same,⟨hD,upd_same⟩,pr_imp (fun _ _ z=>PyT.free (fun _ _ w=>w) z) hz⟩
 intro vs rows k h
 induction h generalizing k with
 | nil=>intro _ e; simp at e
 | @cons x r l1 l2 hx t ih =>
  intro nd e
  obtain ⟨n1,n2⟩:=List.nodup_cons.mp nd
  cases k with
  | zero =>
   have ex:x=.ref q:=by simpa using e
   subst ex
   refine .cons here ?_
   have:∀ {l1:List V} {l2:List (List β)},Paired (fun x r=>Py.rp K (.set D) H x r) l1 l2→(V.ref q) ∉ l1→Paired (fun x r=>Py.rp K (.set D) (upd H q (.lst zs)) x r) l1 l2:=fun {l1 l2} t=>by
    induction t with
    | nil=>intro _; exact .nil
    | cons h t ih=>intro hn; exact .cons (other h fun w=>hn (by rw [w]; exact List.mem_cons_self ..)) (ih fun w=>hn (List.mem_cons_of_mem _ w))
   exact this t n1
  | succ k =>
   have e':l1[k]?=some (.ref q):=by simpa using e
   refine .cons (other hx fun w=>n1 (by rw [w]; exact List.mem_of_getElem? e')) (ih n2 e')
theorem outer_neK [PyT β] {K:PySem.W.Frag} {D:Addr→Prop} {H:Hp} {p q:Addr} {xs ys:List V} {k:Nat} (hp:H p=some (.lst xs)) (hq:H q=some (.lst ys)) (h0:xs[k]?=some (.ref q)) (r0:List β) (hr:Paired (fun x (c:β)=>Py.rp K (.set D) H x c) ys r0):p≠q:=fun w=>by
 subst w
 rw [hp] at hq; cases hq
 obtain ⟨c,_,h2⟩:=pr_get' hr h0
 exact PyT.nl h2 hp
theorem s_setkl [PyT β] (i:Nat) {rows:List (List β)} {r0:List β} {c:β} {k l:Int} {x:Str} {p s1 s2:Pos} (hg:Γ[i]?=some (some (.dpo (TbO.mk rows)))) (hk:0≤k) (hr:rows[k.toNat]?=some r0) (hl0:0≤l) (hl:l.toNat < r0.length) (he:E X Γ e b c) (hek:E X Γ e1 b1 k) (hel:E X Γ e2 b2 l)
  (h:S X (Γ.set i (some (.dpo (TbO.mk (rows.set k.toNat (r0.set l.toNat c)))))) rest D) (hi:X.N[i]?=some x:=by rfl)
  (hv:Vis X.env.scope x:=by first | exact Or.inl rfl | exact Or.inr (Or.inl rfl) | exact Or.inr (Or.inr rfl)) (hd:(x == ("__debug__":Str))=false:=by decide) (hcd:(x == ("__classdict__":Str))=false:=by decide)
  (hp1:PlainIx e1:=by intro _ _; rfl)
  (ha:∀ v,assign (.Subscript (.Subscript (.Name x p) e1 s1) e2 s2) X.env v=(do
   let ov ← holding [v] (eval (.Subscript (.Name x p) e1 s1) X.env)
   let iv ← holding [v,ov] (eval e2 X.env)
   standAt s2
   holding [v,ov,iv] (setItem ov iv v)
   release [v,ov,iv] []):=by intro _; rfl)
  (hs:swapsWithSole [.Subscript (.Subscript (.Name x p) e1 s1) e2 s2] e pos.line X.env=pure false:=by rfl) (hw:swappedStores [.Subscript (.Subscript (.Name x p) e1 s1) e2 s2] e X.env=pure none:=by rfl)
  (h1:(assignEach [.Subscript (.Subscript (.Name x p) e1 s1) e2 s2] X.env).map (·.2)=[assign (.Subscript (.Subscript (.Name x p) e1 s1) e2 s2) X.env]:=by rfl) :
  S X Γ (.Assign [.Subscript (.Subscript (.Name x p) e1 s1) e2 s2] e pos :: rest) D:=by
 with_unfolding_all
  exact s_seq (ps_wk (ps_asg he (pg_sub (pe_ix ix_list (pv i hi hv hd hcd) hek hp1) hel set_list ha) hs hw h1) fun De σ H ⟨H0,F,O,Z,n,_⟩=>⟨H0,F,O,Z,fun u H1 z1 ru=>by
    obtain ⟨v,_,hv1,_,_,_⟩:=(Z.go z1).write hg True.intro
    refine ⟨v,hv1,H0,F,O,Z.go z1,fun ku H2 z2 rk=>?_⟩
    cases rk
    obtain ⟨v',Di2,hv2,⟨q2,xs2,ee2,sq2,nn2,nd2,rr2⟩,_,_⟩:=((Z.go z1).go z2).write hg True.intro
    have evv:v=v':=by rw [hv1] at hv2; exact Option.some.inj (Option.some.inj hv2)
    subst evv
    obtain ⟨v0,hx0,⟨q0,ys2,e0,s0,n0,rr0⟩⟩:=pr_get rr2 hr
    subst e0
    refine ⟨q2,xs2,k,.ref q0,ee2,rfl,sq2,?_,H0,F,O,(Z.go z1).go z2,fun lu H3 z3 rl=>?_⟩
    ·have hkk:k=((k.toNat:Nat):Int):=by omega
     rw [hkk]
     exact atI_nat hx0
    cases rl
    obtain ⟨v3,Di,hv3,⟨q,xs,e1',sq,nn,nd,rr⟩,hO,wr⟩:=(((Z.go z1).go z2).go z3).write hg True.intro
    have ev3:v=v3:=by rw [hv1] at hv3; exact Option.some.inj (Option.some.inj hv3)
    subst ev3
    have eq2:q2=q:=by rw [ee2] at e1'; cases e1'; rfl
    subst eq2
    have exs:xs2=xs:=by
     have a1:=z3 _ _ nn2.2
     rw [nn.2] at a1; cases a1; rfl
    subst exs
    obtain ⟨v0',hx0',⟨q0',ys,e0',s0',n0',rr0'⟩⟩:=pr_get rr hr
    have eq0:V.ref q0=v0':=by rw [hx0] at hx0'; exact Option.some.inj hx0'
    rw [e0'] at eq0
    cases eq0
    have hly:l.toNat < ys.length:=by rw [pr_len rr0']; exact hl
    have hix:ixN ys.length l=some l.toNat:=by unfold ixN; rw [if_pos hl0,if_pos (by omega)]
    refine ⟨q0,ys,l,l.toNat,rfl,rfl,n0'.2,hix,?_⟩
    have hne:=outer_neK nn.2 n0'.2 hx0 r0 rr0'
    have ht:∀ p xs,Rt H3 p xs→Rt (upd H3 q0 (.lst (ys.set l.toNat u))) p xs:=fun p xs h=>by
     have hp:p≠q0:=fun w=>by
      subst w
      rcases h with h | ⟨o,h⟩
      ·rw [n0'.2] at h; cases h
      ·rw [n0'.2] at h; cases h
     rcases h with h | ⟨o,h⟩
     ·exact .inl (by rw [upd_ne hp]; exact h)
     ·exact .inr ⟨o,by rw [upd_ne hp]; exact h⟩
    have pr':=rows_set (zs:=ys.set l.toNat u) (r':=r0.set l.toNat c) n0'.2 n0'.1 (pr_set (PyT.free (fun p xs w=>ht p xs (Same.rt (z2.trans z3) (Same.rt (off_same _ _) w))) ru) l.toNat (pr_imp (fun _ _ z=>PyT.free ht z) rr0')) rr nd hx0
    obtain ⟨Z',eo⟩:=wr q0 (ys.set l.toNat u) (some (.dpo (TbO.mk (rows.set k.toNat (r0.set l.toNat c))))) n0'.1 fun g'' e'=>by
     cases e'
     have e2:upd H3 q0 (.lst (ys.set l.toNat u)) q2=some (.lst xs2):=by rw [upd_ne hne]; exact nn.2
     exact ⟨True.intro,q2,xs2,ee2,SqL.of e2,⟨nn.1,e2⟩,nd,pr'⟩
    exact n _ _ _ _ (by rw [eo]; exact off_mono (z1.trans (z2.trans z3))) Z' h⟩)
end
end L2.EP
namespace EP
abbrev Vc:=Nat→Rat
def wd (r:Vc):(List Nat→Rat)→List Nat→Rat
 | _,[]=>0
 | φ,c :: cs=>r c * φ cs - wd r (fun l=>φ (c :: l)) cs
theorem wd_add (r:Vc):∀ (cs:List Nat) (φ ψ:List Nat→Rat),wd r (fun l=>φ l + ψ l) cs=wd r φ cs + wd r ψ cs
 | [],_,_=>by simp only [wd]; grind
 | c :: cs,φ,ψ=>by
  simp only [wd]
  rw [wd_add r cs]
  grind
theorem wd_mul (r:Vc) (a:Rat):∀ (cs:List Nat) (φ:List Nat→Rat),wd r (fun l=>a * φ l) cs=a * wd r φ cs
 | [],_=>by simp only [wd]; grind
 | c :: cs,φ=>by
  simp only [wd]
  rw [wd_mul r a cs]
  grind
theorem wd_sub (r:Vc) (cs:List Nat) (φ ψ:List Nat→Rat):wd r (fun l=>φ l - ψ l) cs=wd r φ cs - wd r ψ cs:=by
 have h:=wd_add r cs φ (fun l=>(-1) * ψ l)
 rw [wd_mul] at h
 have e:(fun l=>φ l - ψ l)=fun l=>φ l + (-1) * ψ l:=funext fun l=>by grind
 rw [e,h]
 grind
theorem wd_addR (r s:Vc):∀ (cs:List Nat) (φ:List Nat→Rat),wd (fun j=>r j + s j) φ cs=wd r φ cs + wd s φ cs
 | [],_=>by simp only [wd]; grind
 | c :: cs,φ=>by
  simp only [wd]
  rw [wd_addR r s cs]
  grind
theorem wd_mulR (a:Rat) (r:Vc):∀ (cs:List Nat) (φ:List Nat→Rat),wd (fun j=>a * r j) φ cs=a * wd r φ cs
 | [],_=>by simp only [wd]; grind
 | c :: cs,φ=>by
  simp only [wd]
  rw [wd_mulR a r cs]
  grind
theorem wd_congr {r:Vc} {φ ψ:List Nat→Rat} (h:∀ l,φ l=ψ l) (cs:List Nat):wd r φ cs=wd r ψ cs:=by
 rw [show φ=ψ from funext h]
theorem wd_zero (r:Vc) (cs:List Nat):wd r (fun _=>0) cs=0:=by
 have:=wd_mul r 0 cs (fun _=>0)
 have e:(fun _:List Nat=>(0:Rat) * 0)=fun _=>0:=funext fun _=>by grind
 rw [e] at this
 grind
theorem wd_sq (r:Vc):∀ (cs:List Nat) (φ:List Nat→Rat),wd r (fun l=>wd r φ l) cs=0
 | [],_=>rfl
 | c :: cs,φ=>by
  have e:(fun l=>wd r φ (c :: l))=fun l=>r c * φ l - wd r (fun l=>φ (c :: l)) l:=rfl
  show r c * wd r φ cs - wd r (fun l=>wd r φ (c :: l)) cs=0
  rw [e,wd_sub,wd_mul,wd_sq r cs]
  grind
theorem wd_anti (r s:Vc) (cs:List Nat) (φ:List Nat→Rat):wd r (fun l=>wd s φ l) cs=- wd s (fun l=>wd r φ l) cs:=by
 have h:=wd_sq (fun j=>r j + s j) cs φ
 rw [wd_addR] at h
 have e1:(fun l=>wd (fun j=>r j + s j) φ l)=fun l=>wd r φ l + wd s φ l:=funext fun l=>wd_addR r s l φ
 rw [e1,wd_add,wd_add,wd_sq,wd_sq] at h
 grind
theorem wd_on (r:Vc):∀ (cs:List Nat) (φ:List Nat→Rat),(∀ c∈cs,r c=0)→wd r φ cs=0
 | [],_,_=>rfl
 | c :: cs,φ,h=>by
  simp only [wd]
  rw [wd_on r cs _ fun d hd=>h d (List.mem_cons_of_mem _ hd),h c List.mem_cons_self]
  grind
def DD:List Vc→List Nat→Rat
 | [],[]=>1
 | [],_ :: _=>0
 | r :: rs,cs=>wd r (DD rs) cs
theorem DD_col (c:Nat):∀ (rs:List Vc) (l:List Nat),(∀ r∈rs,r c=0)→DD rs (c :: l)=0
 | [],_,_=>rfl
 | r :: rs,l,h=>by
  show r c * DD rs l - wd r (fun l=>DD rs (c :: l)) l=0
  rw [wd_congr (fun m=>DD_col c rs m fun q hq=>h q (List.mem_cons_of_mem _ hq)),wd_zero,h r List.mem_cons_self]
  grind
def ZB (B:Nat) (x:Rat):Prop:=∃ z:Int,x=(z:Rat)∧z.natAbs≤B
def VB (B:Nat) (r:Vc):Prop:=∀ j,ZB B (r j)
def fct:Nat→Nat
 | 0=>1
 | n + 1=>(n + 1) * fct n
theorem wd_ZB {B M:Nat} {r:Vc} (hr:VB B r):∀ (n:Nat) (cs:List Nat) (φ:List Nat→Rat),cs.length=n + 1→(∀ l,l.length=n→ZB M (φ l))→ZB ((n + 1) * (B * M)) (wd r φ cs)
 | n,[],_,h,_=>nomatch h
 | 0,c :: cs,φ,h,hf=>by
  have e:cs=[]:=List.eq_nil_of_length_eq_zero (Nat.succ.inj h)
  subst e
  obtain ⟨x,hx,bx⟩:=hr c
  obtain ⟨y,hy,by'⟩:=hf [] rfl
  refine ⟨x * y,?_,?_⟩
  ·simp only [wd]
   rw [hx,hy]
   push_cast
   grind
  ·rw [Int.natAbs_mul,Nat.one_mul]
   exact Nat.mul_le_mul bx by'
 | n + 1,c :: cs,φ,h,hf=>by
  obtain ⟨x,hx,bx⟩:=hr c
  obtain ⟨y,hy,by'⟩:=hf cs (Nat.succ.inj h)
  obtain ⟨z,hz,bz⟩:=wd_ZB hr n cs (fun l=>φ (c :: l)) (Nat.succ.inj h) fun l hl=>hf (c :: l) (by rw [List.length_cons,hl])
  refine ⟨x * y - z,?_,?_⟩
  ·simp only [wd]
   rw [hx,hy,hz]
   push_cast
   rfl
  ·have h1:(x * y).natAbs≤B * M:=by rw [Int.natAbs_mul]; exact Nat.mul_le_mul bx by'
   have h2:(n + 1 + 1) * (B * M)=B * M + (n + 1) * (B * M):=by rw [Nat.add_mul (n + 1) 1,Nat.one_mul,Nat.add_comm]
   omega
theorem DD_ZB {B:Nat}:∀ (rs:List Vc) (cs:List Nat),(∀ r∈rs,VB B r)→cs.length=rs.length→ZB (fct rs.length * B ^ rs.length) (DD rs cs)
 | [],cs,_,h=>by
  have e:cs=[]:=List.eq_nil_of_length_eq_zero h
  subst e
  exact ⟨1,by simp [DD],by simp [fct]⟩
 | r :: rs,cs,hr,h=>by
  have:=wd_ZB (M:=fct rs.length * B ^ rs.length) (hr r List.mem_cons_self) rs.length cs (DD rs) h fun l hl=>DD_ZB rs l (fun q hq=>hr q (List.mem_cons_of_mem _ hq)) hl
  have e:fct (r :: rs).length * B ^ (r :: rs).length=(rs.length + 1) * (B * (fct rs.length * B ^ rs.length)):=by
   show (rs.length + 1) * fct rs.length * B ^ (rs.length + 1)=_
   rw [Nat.pow_succ]
   grind
  rw [e]
  exact this
end EP
namespace EP
def dn:Nat→List Nat
 | 0=>[]
 | k + 1=>k :: dn k
theorem dn_len:∀ k,(dn k).length=k
 | 0=>rfl
 | k + 1=>by show (dn k).length + 1=k + 1; rw [dn_len k]
theorem dn_mem:∀ {k c:Nat},c∈dn k→c < k
 | k + 1,c,h=>by
  rcases List.mem_cons.mp h with e | h
  ·omega
  ·have:=dn_mem h; omega
def glr (g:Nat→Vc):Nat→List Vc
 | 0=>[]
 | k + 1=>g k :: glr g k
theorem glr_mem {g:Nat→Vc}:∀ {k:Nat} {r:Vc},r∈glr g k→∃ i,i < k∧r=g i
 | k + 1,r,h=>by
  rcases List.mem_cons.mp h with e | h
  ·exact ⟨k,by omega,e⟩
  ·obtain ⟨i,hi,e⟩:=glr_mem h; exact ⟨i,by omega,e⟩
def Un1 (g:Nat→Vc) (k m:Nat):Prop:=∀ i,i < k→∀ j,j < m→g i j=if i=j then 1 else 0
theorem DD_unit {g:Nat→Vc} {m:Nat}:∀ k,k≤m→Un1 g k m→DD (glr g k) (dn k)=1
 | 0,_,_=>rfl
 | k + 1,hm,hu=>by
  show g k k * DD (glr g k) (dn k) - wd (g k) (fun l=>DD (glr g k) (k :: l)) (dn k)=1
  rw [DD_unit k (by omega) fun i hi=>hu i (by omega),wd_on,hu k (by omega) k (by omega),if_pos rfl]
  ·grind
  ·intro c hc
   have:=dn_mem hc
   rw [hu k (by omega) c (by omega),if_neg (by omega)]
def dnR (i j:Nat):Nat→List Nat
 | 0=>[]
 | k + 1=>(if k=i then j else k) :: dnR i j k
theorem dnR_len (i j:Nat):∀ k,(dnR i j k).length=k
 | 0=>rfl
 | k + 1=>by show (dnR i j k).length + 1=k + 1; rw [dnR_len i j k]
theorem dnR_lt {i j:Nat}:∀ {k:Nat},k≤i→dnR i j k=dn k
 | 0,_=>rfl
 | k + 1,h=>by
  show (if k=i then j else k) :: dnR i j k=k :: dn k
  rw [if_neg (by omega),dnR_lt (by omega)]
theorem DD_unitR {g:Nat→Vc} {m i j:Nat}:∀ k,k≤m→i < k→Un1 g k m→DD (glr g k) (dnR i j k)=g i j
 | k + 1,hm,hi,hu=>by
  have hd:dnR i j (k + 1)=(if k=i then j else k) :: dnR i j k:=rfl
  rw [hd]
  by_cases e:k=i
  ·subst e
   rw [if_pos rfl,dnR_lt (Nat.le_refl _)]
   show g k j * DD (glr g k) (dn k) - wd (g k) (fun l=>DD (glr g k) (j :: l)) (dn k)=g k j
   rw [DD_unit k (by omega) fun i hi=>hu i (by omega),wd_on]
   ·grind
   ·intro c hc
    have:=dn_mem hc
    rw [hu k (by omega) c (by omega),if_neg (by omega)]
  ·rw [if_neg e]
   show g k k * DD (glr g k) (dnR i j k) - wd (g k) (fun l=>DD (glr g k) (k :: l)) (dnR i j k)=g i j
   rw [DD_unitR k (by omega) (by omega) fun i hi=>hu i (by omega),hu k (by omega) k (by omega),if_pos rfl,wd_congr (ψ:=fun _=>0) (fun l=>DD_col k (glr g k) l fun r hr=>?_),wd_zero]
   ·grind
   ·obtain ⟨a,ha,e2⟩:=glr_mem hr
    rw [e2,hu a (by omega) k (by omega),if_neg (by omega)]
structure El (n k B:Nat) (g:Nat→Vc) (d:Rat):Prop where
 kn:k≤n
 d0:d≠0
 un:Un1 g n k
 om:∃ rs:List Vc,rs.length=k∧(∀ r∈rs,VB B r)∧∀ cs,DD rs cs=d * DD (glr g k) cs
 bk:∀ i,k≤i→i < n→∃ ρ,VB B ρ∧∀ cs,wd ρ (DD (glr g k)) cs=wd (g i) (DD (glr g k)) cs
def bnd (B k:Nat):Nat:=fct k * B ^ k
theorem El.low {n k B:Nat} {g:Nat→Vc} {d:Rat} (h:El n k B g d) {i:Nat} (hi:i < k) (j:Nat):ZB (bnd B k) (d * g i j):=by
 obtain ⟨rs,hl,hB,e⟩:=h.om
 have:=DD_ZB rs (dnR i j k) hB (by rw [dnR_len,hl])
 rw [e,DD_unitR (m:=k) k (Nat.le_refl _) hi (fun a ha=>h.un a (by have:=h.kn; omega)),hl] at this
 exact this
theorem El.high {n k B:Nat} {g:Nat→Vc} {d:Rat} (h:El n k B g d) {i:Nat} (hk:k≤i) (hi:i < n) (j:Nat):ZB (bnd B (k + 1)) (d * g i j):=by
 obtain ⟨rs,hl,hB,e⟩:=h.om
 obtain ⟨ρ,hρ,e2⟩:=h.bk i hk hi
 have:=DD_ZB (ρ :: rs) (j :: dn k) (fun r hr=>by
  rcases List.mem_cons.mp hr with z | z
  ·rw [z]; exact hρ
  ·exact hB r z) (by rw [List.length_cons,List.length_cons,dn_len,hl])
 have e3:DD (ρ :: rs) (j :: dn k)=d * g i j:=by
  show wd ρ (DD rs) (j :: dn k)=_
  rw [wd_congr (ψ:=fun l=>d * DD (glr g k) l) e,wd_mul,e2]
  show d * (g i j * DD (glr g k) (dn k) - wd (g i) (fun l=>DD (glr g k) (j :: l)) (dn k))=_
  rw [DD_unit (m:=k) k (Nat.le_refl _) (fun a ha=>h.un a (by have:=h.kn; omega)),wd_on]
  ·grind
  ·intro c hc
   have:=dn_mem hc
   rw [h.un i hi c this,if_neg (by omega)]
 rw [e3,List.length_cons,hl] at this
 exact this
theorem bnd_mono {B k:Nat} (hB:1≤B):bnd B k≤bnd B (k + 1):=by
 unfold bnd
 show fct k * B ^ k≤(k + 1) * fct k * B ^ (k + 1)
 rw [Nat.pow_succ]
 have h1:fct k * B ^ k * 1≤fct k * B ^ k * ((k + 1) * B):=Nat.mul_le_mul_left _ (Nat.mul_pos (by omega) hB)
 have h2:fct k * B ^ k * ((k + 1) * B)=(k + 1) * fct k * (B ^ k * B):=by grind
 omega
theorem ZB.mono {B C:Nat} {x:Rat} (h:ZB B x) (hl:B≤C):ZB C x:=by
 obtain ⟨z,e,hz⟩:=h
 exact ⟨z,e,by omega⟩
theorem El.all {n k B:Nat} {g:Nat→Vc} {d:Rat} (hB:1≤B) (h:El n k B g d) {i:Nat} (hi:i < n) (j:Nat):ZB (bnd B (k + 1)) (d * g i j):=by
 by_cases z:i < k
 ·exact (h.low z j).mono (bnd_mono hB)
 ·exact h.high (by omega) hi j
def nxt (g:Nat→Vc) (k:Nat) (i:Nat):Vc:=if i=k then (fun j=>(g k k)⁻¹ * g k j) else fun j=>g i j - g i k * ((g k k)⁻¹ * g k j)
theorem wd_clear (s:Vc) (c:Nat→Rat) (g:Nat→Vc):∀ (k:Nat) (cs:List Nat),wd s (DD (glr (fun i j=>g i j - c i * s j) k)) cs=wd s (DD (glr g k)) cs
 | 0,cs=>rfl
 | k + 1,cs=>by
  have e1:∀ cs,wd s (DD (glr (fun i j=>g i j - c i * s j) (k + 1))) cs=- wd (fun j=>g k j - c k * s j) (fun l=>wd s (DD (glr g k)) l) cs:=fun cs=>by
   show wd s (fun l=>wd (fun j=>g k j - c k * s j) (DD (glr (fun i j=>g i j - c i * s j) k)) l) cs=_
   rw [wd_anti]
   congr 1
   exact wd_congr (fun l=>wd_clear s c g k l) cs
  rw [e1]
  have e2:wd s (DD (glr g (k + 1))) cs=- wd (g k) (fun l=>wd s (DD (glr g k)) l) cs:=by
   show wd s (fun l=>wd (g k) (DD (glr g k)) l) cs=_
   rw [wd_anti]
  rw [e2]
  congr 1
  have e3:(fun j=>g k j - c k * s j)=fun j=>g k j + (-(c k)) * s j:=funext fun j=>by grind
  rw [e3,wd_addR,wd_mulR,wd_sq]
  grind
theorem glr_congr {g g':Nat→Vc}:∀ k,(∀ i,i < k→g i=g' i)→glr g k=glr g' k
 | 0,_=>rfl
 | k + 1,h=>by
  show g k :: glr g k=g' k :: glr g' k
  rw [h k (by omega),glr_congr k fun i hi=>h i (by omega)]
theorem El.step {n k B:Nat} {g:Nat→Vc} {d:Rat} (h:El n k B g d) (hk:k < n) (hp:g k k≠0):El n (k + 1) B (nxt g k) (d * g k k):=by
 have hinv:(g k k)⁻¹ * g k k=1:=Rat.inv_mul_cancel _ hp
 obtain ⟨s,hs⟩:∃ s:Vc,s=fun j=>(g k k)⁻¹ * g k j:=⟨_,rfl⟩
 have hsk:∀ j,g k j=g k k * s j:=fun j=>by rw [hs]; dsimp only; grind
 have n1:nxt g k k=s:=by unfold nxt; rw [if_pos rfl,hs]
 have n2:∀ i,i≠k→nxt g k i=fun j=>g i j - g i k * s j:=fun i hi=>by unfold nxt; rw [if_neg hi,hs]
 have hg:glr (nxt g k) k=glr (fun i j=>g i j - g i k * s j) k:=glr_congr k fun i hi=>n2 i (by omega)
 have lam:∀ cs,DD (glr (nxt g k) (k + 1)) cs=wd s (DD (glr g k)) cs:=fun cs=>by
  show wd (nxt g k k) (DD (glr (nxt g k) k)) cs=_
  rw [n1,hg]
  exact wd_clear s (fun i=>g i k) g k cs
 have gk:∀ cs,wd (g k) (DD (glr g k)) cs=g k k * wd s (DD (glr g k)) cs:=fun cs=>by
  rw [← wd_mulR]
  rw [show g k=fun j=>g k k * s j from funext hsk]
  exact (by rw [show (fun j=>g k k * s j) k=g k k from (hsk k).symm])
 refine ⟨by omega,?_,fun i hi j hj=>?_,?_,fun i hi hin=>?_⟩
 ·intro z
  have h0:=h.d0
  rcases Rat.mul_eq_zero.mp z with y | y
  ·exact h0 y
  ·exact hp y
 ·have su:∀ j,j < k→s j=0:=fun j hj=>by
   have:=h.un k hk j hj
   rw [if_neg (by omega)] at this
   rw [hs]; dsimp only; rw [this]; grind
  have sk:s k=1:=by rw [hs]; exact hinv
  by_cases e:i=k
  ·subst e
   rw [n1]
   by_cases e2:j=i
   ·subst e2; rw [sk,if_pos rfl]
   ·rw [su j (by omega),if_neg (by omega)]
  ·rw [n2 i e]
   dsimp only
   by_cases e2:j=k
   ·subst e2; rw [sk,if_neg e]; grind
   ·rw [su j (by omega),h.un i hi j (by omega)]
    grind
 ·obtain ⟨rs,hl,hB,e⟩:=h.om
  obtain ⟨ρ,hρ,e2⟩:=h.bk k (Nat.le_refl _) hk
  refine ⟨ρ :: rs,by rw [List.length_cons,hl],fun r hr=>?_,fun cs=>?_⟩
  ·rcases List.mem_cons.mp hr with z | z
   ·rw [z]; exact hρ
   ·exact hB r z
  ·show wd ρ (DD rs) cs=_
   rw [wd_congr (ψ:=fun l=>d * DD (glr g k) l) e,wd_mul,e2,gk,lam]
   grind
 ·obtain ⟨ρ,hρ,e2⟩:=h.bk i (by omega) hin
  refine ⟨ρ,hρ,fun cs=>?_⟩
  have e1:∀ r:Vc,wd r (DD (glr (nxt g k) (k + 1))) cs=- wd s (fun l=>wd r (DD (glr g k)) l) cs:=fun r=>by
   rw [wd_congr (ψ:=fun l=>wd s (DD (glr g k)) l) lam,wd_anti]
  rw [e1,e1,wd_congr e2,n2 i (by omega)]
  congr 1
  have e3:∀ l,wd (fun j=>g i j - g i k * s j) (DD (glr g k)) l=wd (g i) (DD (glr g k)) l - g i k * wd s (DD (glr g k)) l:=fun l=>by
   have e4:(fun j=>g i j - g i k * s j)=fun j=>g i j + (-(g i k)) * s j:=funext fun j=>by grind
   rw [e4,wd_addR,wd_mulR]
   grind
  rw [wd_congr e3,wd_sub,wd_mul,wd_sq]
  grind
theorem El.start {n B:Nat} {g:Nat→Vc} (h:∀ i,i < n→VB B (g i)):El n 0 B g 1 :=
 ⟨Nat.zero_le _,by decide,fun i _ j hj=>absurd hj (Nat.not_lt_zero j),⟨[],rfl,(fun r hr=>by cases hr),fun cs=>by show DD [] cs=1 * DD [] cs; grind⟩,fun i _ hi=>⟨g i,h i hi,fun cs=>rfl⟩⟩
end EP
namespace EP
theorem sN_one (v:Rat) {k:Nat}:∀ n,k < n→sN (fun a=>if a=k then v else 0) n=v
 | n + 1,h=>by
  show sN _ n + (if n=k then v else 0)=v
  by_cases e:n=k
  ·subst e
   rw [if_pos rfl,sN_congr (g:=fun _=>0) n (fun i hi=>if_neg (by omega)),sN_zero]
   grind
  ·rw [if_neg e,sN_one v n (by omega)]
   grind
theorem sN_sub (f g:Nat→Rat) (n:Nat):sN (fun i=>f i - g i) n=sN f n - sN g n:=by
 have h:=sN_add f (fun i=>(-1) * g i) n
 rw [sN_mulL] at h
 rw [sN_congr (g:=fun i=>f i + (-1) * g i) n (fun i _=>by grind),h]
 grind
def Spn (g:Nat→Vc) (n:Nat) (ρ:Vc):Prop:=∃ c:Nat→Rat,∀ j,ρ j=sN (fun a=>c a * g a j) n
def Lft (g:Nat→Vc) (n:Nat) (T:Nat→Nat→Rat):Prop:=∀ i,i < n→∀ j,j < n→g i j=sN (fun m=>g i (n + m) * T m j) n
theorem Lft.step {g:Nat→Vc} {n k:Nat} {T:Nat→Nat→Rat} (h:Lft g n T) (hk:k < n):Lft (nxt g k) n T:=fun i hi j hj=>by
 unfold nxt
 by_cases z:i=k
 ·rw [if_pos z]
  try dsimp only
  rw [h k hk j hj,← sN_mulL]
  exact sN_congr n fun m _=>by grind
 ·rw [if_neg z]
  try dsimp only
  rw [h i hi j hj,h k hk j hj,← sN_mulL,← sN_mulL,← sN_sub]
  exact sN_congr n fun m _=>by grind
theorem Spn.step {g:Nat→Vc} {n k:Nat} {ρ:Vc} (h:Spn g n ρ) (hk:k < n) (hp:g k k≠0):Spn (nxt g k) n ρ:=by
 obtain ⟨c,e⟩:=h
 have hinv:(g k k)⁻¹ * g k k=1:=Rat.inv_mul_cancel _ hp
 refine ⟨fun a=>if a=k then sN (fun b=>c b * g b k) n else c a,fun j=>?_⟩
 have key:∀ a,(if a=k then sN (fun b=>c b * g b k) n else c a) * nxt g k a j=(c a * g a j - c a * g a k * ((g k k)⁻¹ * g k j)) + (if a=k then sN (fun b=>c b * g b k) n * ((g k k)⁻¹ * g k j) else 0):=fun a=>by
  unfold nxt
  by_cases z:a=k
  ·subst z
   rw [if_pos rfl,if_pos rfl,if_pos rfl]
   try dsimp only
   have:c a * g a a * ((g a a)⁻¹ * g a j)=c a * g a j * ((g a a)⁻¹ * g a a):=by grind
   rw [this,hinv]
   grind
  ·rw [if_neg z,if_neg z,if_neg z]
   try dsimp only
   grind
 rw [sN_congr n (fun a _=>key a),sN_add,sN_sub,sN_one _ n hk,sN_mulR,← e]
 grind
end EP
namespace EP
abbrev Rw:=List (List Int)
def ent2 (rows:Rw) (i j:Nat):Int:=(rows.getD i []).getD j 0
def crF (row taken:List Int) (k:Nat) (bf:Int):List Int:=(row.zip taken).map fun p=>(taken.getD k 0 * p.1 - row.getD k 0 * p.2).fdiv bf
def stF (rows:Rw) (k:Nat) (bf:Int):Rw:=(List.range rows.length).map fun i=>if i=k then rows.getD i [] else crF (rows.getD i []) (rows.getD k []) k bf
theorem stF_len (rows:Rw) (k:Nat) (bf:Int):(stF rows k bf).length=rows.length:=by unfold stF; rw [List.length_map,List.length_range]
theorem stF_get {rows:Rw} {k i:Nat} {bf:Int} (hi:i < rows.length):(stF rows k bf).getD i []=if i=k then rows.getD i [] else crF (rows.getD i []) (rows.getD k []) k bf:=by
 unfold stF
 rw [List.getD_eq_getElem?_getD,List.getElem?_map,List.getElem?_range hi]
 rfl
theorem crF_get {row taken:List Int} {k j:Nat} {bf:Int} (h:j < row.length) (h2:j < taken.length):(crF row taken k bf).getD j 0=(taken.getD k 0 * row.getD j 0 - row.getD k 0 * taken.getD j 0).fdiv bf:=by
 unfold crF
 rw [List.getD_eq_getElem?_getD,List.getElem?_map,(List.getElem?_zip_eq_some (z:=(row[j],taken[j]))).mpr ⟨List.getElem?_eq_getElem h,List.getElem?_eq_getElem h2⟩]
 show (_ - _:Int).fdiv bf=_
 rw [List.getD_eq_getElem?_getD (l:=row) (i:=j),List.getElem?_eq_getElem h,List.getD_eq_getElem?_getD (l:=taken) (i:=j),List.getElem?_eq_getElem h2]
 rfl
theorem crF_len {row taken:List Int} {k m:Nat} {bf:Int} (h:row.length=m) (h2:taken.length=m):(crF row taken k bf).length=m:=by
 unfold crF
 rw [List.length_map,List.length_zip,h,h2,Nat.min_self]
theorem getD_out {l:List Int} {j:Nat} (h:l.length≤j):l.getD j 0=0:=by rw [List.getD_eq_getElem?_getD,List.getElem?_eq_none h]; rfl
structure Gd (n m k B:Nat) (rows:Rw) (bf:Int) (g:Nat→Vc):Prop where
 len:rows.length=n
 rl:∀ i,i < n→(rows.getD i []).length=m
 el:El n k B g (bf:Rat)
 eq:∀ i,i < n→∀ j,((ent2 rows i j:Int):Rat)=(bf:Rat) * g i j
theorem cast_inj {a b:Int} (h:(a:Rat)=(b:Rat)):a=b:=Rat.intCast_inj.mp h
theorem Gd.bf0 {n m k B:Nat} {rows:Rw} {bf:Int} {g:Nat→Vc} (h:Gd n m k B rows bf g):bf≠0:=fun z=>h.el.d0 (by rw [z]; rfl)
theorem Gd.size {n m k B:Nat} {rows:Rw} {bf:Int} {g:Nat→Vc} (h:Gd n m k B rows bf g) (hB:1≤B) {i:Nat} (hi:i < n) (j:Nat):(ent2 rows i j).natAbs≤bnd B (k + 1):=by
 obtain ⟨z,e,hz⟩:=h.el.all hB hi j
 rw [← h.eq i hi j] at e
 rw [cast_inj e]; exact hz
theorem Gd.pivot {n m k B:Nat} {rows:Rw} {bf:Int} {g:Nat→Vc} (h:Gd n m k B rows bf g) (hk:k < n) (h0:ent2 rows k k≠0):g k k≠0:=fun z=>h0 (cast_inj (by rw [h.eq k hk k,z]; show (bf:Rat) * 0=0; grind))
theorem Gd.div {n m k B:Nat} {rows:Rw} {bf:Int} {g:Nat→Vc} (h:Gd n m k B rows bf g) (hB:1≤B) (hk:k < n) (h0:ent2 rows k k≠0) {i:Nat} (hi:i < n) (hik:i≠k) (j:Nat) :
  (((ent2 rows k k * ent2 rows i j - ent2 rows i k * ent2 rows k j).fdiv bf:Int):Rat)=(ent2 rows k k:Rat) * nxt g k i j:=by
 have hp:=h.pivot hk h0
 have el:=h.el.step hk hp
 obtain ⟨z,ez,_⟩:=el.all hB hi j
 have hinv:(g k k)⁻¹ * g k k=1:=Rat.inv_mul_cancel _ hp
 have key:((ent2 rows k k * ent2 rows i j - ent2 rows i k * ent2 rows k j:Int):Rat)=((bf * z:Int):Rat):=by
  push_cast
  rw [h.eq k hk k,h.eq i hi j,h.eq i hi k,h.eq k hk j,← ez]
  unfold nxt
  rw [if_neg hik]
  have:(bf:Rat) * (bf * g k k * (g i j - g i k * ((g k k)⁻¹ * g k j)))=bf * bf * (g k k * g i j - g i k * g k j * ((g k k)⁻¹ * g k k)):=by grind
  rw [this,hinv]
  grind
 rw [cast_inj key,Int.mul_fdiv_cancel_left _ h.bf0,← ez,h.eq k hk k]
theorem Gd.step {n m k B:Nat} {rows:Rw} {bf:Int} {g:Nat→Vc} (h:Gd n m k B rows bf g) (hB:1≤B) (hk:k < n) (h0:ent2 rows k k≠0):Gd n m (k + 1) B (stF rows k bf) (ent2 rows k k) (nxt g k):=by
 have l:=h.len
 have hp:=h.pivot hk h0
 have hinv:(g k k)⁻¹ * g k k=1:=Rat.inv_mul_cancel _ hp
 refine ⟨by rw [stF_len]; exact l,fun i hi=>?_,?_,fun i hi j=>?_⟩
 ·rw [stF_get (by omega)]
  by_cases e:i=k
  ·rw [if_pos e]; exact h.rl i hi
  ·rw [if_neg e]; exact crF_len (h.rl i hi) (h.rl k hk)
 ·rw [h.eq k hk k]; exact h.el.step hk hp
 ·have e0:ent2 (stF rows k bf) i j=(if i=k then rows.getD i [] else crF (rows.getD i []) (rows.getD k []) k bf).getD j 0:=by unfold ent2; rw [stF_get (by omega)]
  rw [e0]
  by_cases e:i=k
  ·subst e
   rw [if_pos rfl]
   show ((ent2 rows i j:Int):Rat)=_
   rw [h.eq i hi j,h.eq i hi i]
   unfold nxt
   rw [if_pos rfl]
   have:(bf:Rat) * g i i * ((g i i)⁻¹ * g i j)=bf * g i j * ((g i i)⁻¹ * g i i):=by grind
   rw [this,hinv]
   grind
  ·rw [if_neg e]
   by_cases hj:j < m
   ·rw [crF_get (by rw [h.rl i hi]; exact hj) (by rw [h.rl k hk]; exact hj)]
    exact h.div hB hk h0 hi e j
   ·rw [getD_out (by rw [crF_len (h.rl i hi) (h.rl k hk)]; omega)]
    have a1:ent2 rows i j=0:=getD_out (by rw [h.rl i hi]; omega)
    have a2:ent2 rows k j=0:=getD_out (by rw [h.rl k hk]; omega)
    have:=h.div hB hk h0 hi e j
    rw [a1,a2] at this
    simpa using this
theorem Gd.start {n m B:Nat} {rows:Rw} (hl:rows.length=n) (hr:∀ i,i < n→(rows.getD i []).length=m) (hb:∀ i,i < n→∀ j,(ent2 rows i j).natAbs≤B):Gd n m 0 B rows 1 (fun i j=>((ent2 rows i j:Int):Rat)) :=
 ⟨hl,hr,El.start fun i hi j=>⟨_,rfl,hb i hi j⟩,fun i hi j=>by show _=(1:Rat) * _; grind⟩
end EP
namespace EP
def Tf (T:Tb) (i j:Nat):Rat:=val ((T.getD i []).getD j (0,1))
structure Bk (n b:Nat) (T:Tb):Prop where
 sq:Sq n T
 mm:∀ r∈T,∃ M:Int,1≤M∧(∀ u∈r,u.2 ∣ M)∧M.natAbs≤2 ^ b∧∀ u∈r,(u.1 * (M / u.2)).natAbs≤2 ^ b
def Inv2 (n:Nat) (T X:Tb):Prop:=(∀ i,i < n→∀ j,j < n→sN (fun m=>Tf X i m * Tf T m j) n=if i=j then 1 else 0)∧∀ i,i < n→∀ j,j < n→sN (fun m=>Tf T i m * Tf X m j) n=if i=j then 1 else 0
theorem Inv2.symm {n:Nat} {T X:Tb} (h:Inv2 n T X):Inv2 n X T:=⟨h.2,h.1⟩
end EP
namespace EP
theorem Tf_prd {n:Nat} {A B:Tb} (hA:Sq n A) (hB:Sq n B) {i j:Nat} (hi:i < n) (hj:j < n):Tf (prd A B) i j=sN (fun m=>Tf A i m * Tf B m j) n:=by
 unfold Tf
 have c:=hB.col (j:=(j:Int)) (by omega) (by omega)
 rw [prd_get hA hB hi hj,dot_val' (hA.row _ (row_mem hA hi)) c.1 (hA.low _ (row_mem hA hi)) c.2]
 exact sN_congr n fun m hm=>by rw [colm_getD hB hm,Int.toNat_natCast]
theorem Tf_tov {n:Nat} {T:Tb} (h:Sq n T) {i j:Nat} (hi:i < n) (hj:j < n):Tf (tov T) i j=Tf T j i:=by
 unfold Tf; rw [tov_get h hi hj]
theorem tf_ext {n:Nat} {A B:Tb} (hA:Sq n A) (hB:Sq n B) (h:∀ i,i < n→∀ j,j < n→Tf A i j=Tf B i j):A=B :=
 tb_ext hA hB fun i j hi hj=>val_inj (low_getD (hA.low _ (row_mem hA hi)) j) (low_getD (hB.low _ (row_mem hB hi)) j) (h i hi j hj)
def ledF (F T:Tb):Tb:=prd (tov T) (prd F T)
theorem led_sq {n:Nat} {F T:Tb} (hF:Sq n F) (hT:Sq n T):Sq n (ledF F T):=hT.tov.prd (hF.prd hT)
def Ov (M:Int) (B:Nat) (u:Fr):Prop:=∃ P:Int,P.natAbs≤B∧val u * (M:Rat)=(P:Rat)
theorem Ov.mono {M:Int} {B B':Nat} {u:Fr} (h:Ov M B u) (l:B≤B'):Ov M B' u:=by
 obtain ⟨P,a,b⟩:=h
 exact ⟨P,Nat.le_trans a l,b⟩
theorem sN_ov {f:Nat→Rat} {M:Int} {B:Nat}:∀ n,(∀ i,i < n→∃ P:Int,P.natAbs≤B∧f i * (M:Rat)=(P:Rat))→∃ P:Int,P.natAbs≤n * B∧sN f n * (M:Rat)=(P:Rat)
 | 0,_=>⟨0,by simp,by show (0:Rat) * _=_; rw [Rat.zero_mul]; rfl⟩
 | n + 1,h=>by
  obtain ⟨P,a,b⟩:=sN_ov n fun i hi=>h i (by omega)
  obtain ⟨Q,c,d⟩:=h n (by omega)
  refine ⟨P + Q,?_,?_⟩
  ·rw [Nat.add_mul,Nat.one_mul]; omega
  ·show (sN f n + f n) * (M:Rat)=_
   push_cast
   rw [← b,← d]
   grind
theorem mul_ov {x y:Rat} {M N:Int} {B C:Nat} (h:∃ P:Int,P.natAbs≤B∧x * (M:Rat)=(P:Rat)) (h':∃ P:Int,P.natAbs≤C∧y * (N:Rat)=(P:Rat)):∃ P:Int,P.natAbs≤B * C∧(x * y) * ((M * N:Int):Rat)=(P:Rat):=by
 obtain ⟨P,a,b⟩:=h
 obtain ⟨Q,c,d⟩:=h'
 refine ⟨P * Q,by rw [Int.natAbs_mul]; exact Nat.mul_le_mul a c,?_⟩
 push_cast
 rw [← b,← d]
 grind
def Ot (M:Int) (B:Nat) (T:Tb):Prop:=∀ r∈T,∀ u∈r,Ov M B u
theorem Ot.at {n:Nat} {M:Int} {B:Nat} {T:Tb} (h:Ot M B T) (hT:Sq n T) {i j:Nat} (hi:i < n) (hj:j < n):∃ P:Int,P.natAbs≤B∧Tf T i j * (M:Rat)=(P:Rat) :=
 h _ (row_mem hT hi) _ (getD_mem (by rw [hT.row _ (row_mem hT hi)]; exact hj))
theorem Ot.of {n:Nat} {M:Int} {B:Nat} {T:Tb} (hT:Sq n T) (h:∀ i,i < n→∀ j,j < n→∃ P:Int,P.natAbs≤B∧Tf T i j * (M:Rat)=(P:Rat)):Ot M B T:=fun r hr u hu=>by
 obtain ⟨i,hi,e⟩:=List.mem_iff_getElem.mp hr
 obtain ⟨j,hj,e2⟩:=List.mem_iff_getElem.mp hu
 have:=h i (by rw [← hT.len]; exact hi) j (by rw [← hT.row r hr]; exact hj)
 unfold Tf at this
 rw [List.getD_eq_getElem?_getD (l:=T),List.getElem?_eq_getElem hi,e] at this
 dsimp only [Option.getD] at this
 rw [List.getD_eq_getElem?_getD,List.getElem?_eq_getElem hj,e2] at this
 exact this
theorem Ot.tov {n:Nat} {M:Int} {B:Nat} {T:Tb} (h:Ot M B T) (hT:Sq n T):Ot M B (tov T):=Ot.of hT.tov fun i hi j hj=>by
 rw [Tf_tov hT hi hj]; exact h.at hT hj hi
theorem Ot.prd {n:Nat} {M N:Int} {B C:Nat} {T U:Tb} (h:Ot M B T) (h':Ot N C U) (hT:Sq n T) (hU:Sq n U):Ot (M * N) (n * (B * C)) (prd T U):=Ot.of (hT.prd hU) fun i hi j hj=>by
 rw [Tf_prd hT hU hi hj]
 exact sN_ov n fun m hm=>mul_ov (h.at hT hi hm) (h'.at hU hm hj)
theorem Ot.led {n:Nat} {M N:Int} {B C:Nat} {F T:Tb} (h:Ot M B F) (h':Ot N C T) (hF:Sq n F) (hT:Sq n T):Ot (N * (M * N)) (n * (C * (n * (B * C)))) (ledF F T):=(h'.tov hT).prd (h.prd h' hF hT) hT.tov (hF.prd hT)
theorem sN_top {f:Nat→Rat} {i:Nat}:∀ n,i < n→(∀ j,j < n→j≠i→f j=0)→sN f n=f i
 | 0,h,_=>absurd h (Nat.not_lt_zero i)
 | n + 1,h,h0=>by
  show sN f n + f n=f i
  by_cases e:i=n
  ·subst e
   rw [sN_congr (g:=fun _=>0) i (fun j hj=>h0 j (by omega) (by omega)),sN_zero]; grind
  ·rw [sN_top n (by omega) (fun j hj hne=>h0 j (by omega) hne),h0 n (by omega) (fun z=>e z.symm)]; grind
end EP
namespace EP
def dgR (row:List Int):Tb:=fOf (row.map fun k=>(k,1))
theorem val1 (k:Int):val (k,1)=(k:Rat):=by
 unfold val
 rw [Rat.divInt_eq_div,Rat.div_def,show ((1:Int):Rat)=1 from rfl,show (1:Rat)⁻¹=1 by decide +kernel,Rat.mul_one]
theorem val_inv {t:Int} (h:t≠0):val (1,t)=(t:Rat)⁻¹:=by
 unfold val
 rw [Rat.divInt_eq_div,Rat.div_def,show ((1:Int):Rat)=1 from rfl,Rat.one_mul]
theorem low_1 (a:Int):Low (a,1):=⟨by show (1:Int)≤1; decide,by show Int.gcd a 1=1; exact Int.gcd_one_right _⟩
theorem dg_sq (row:List Int):Sq row.length (dgR row):=by
 have h:=fOf_all (us:=row.map fun k=>((k,1):Fr)) (Q:=Low) (low_1 0) fun u hu=>by
  obtain ⟨k,_,rfl⟩:=List.mem_map.mp hu
  exact low_1 k
 rw [List.length_map] at h
 exact ⟨h.len,h.row,h.all⟩
theorem Tf_dg {row:List Int} {i j:Nat} (hi:i < row.length) (hj:j < row.length):Tf (dgR row) i j=if i=j then (row.getD i 0:Rat) else 0:=by
 have e:(row.map fun k=>((k,1):Fr)).length=row.length:=List.length_map ..
 have:=fOf_ent (us:=row.map fun k=>((k,1):Fr)) (i:=i) (j:=j) (by omega) (by omega)
 show val (ent (fOf _) i j)=_
 rw [this]
 by_cases z:i=j
 ·rw [if_pos z,if_pos z,getD_map (e:=0) hi,val1]
 ·rw [if_neg z,if_neg z,val01]
theorem led_dg {row:List Int} {T:Tb} (hT:Sq row.length T) {i j:Nat} (hi:i < row.length) (hj:j < row.length):Tf (ledF (dgR row) T) i j=sN (fun k=>(row.getD k 0:Rat) * (Tf T k i * Tf T k j)) row.length:=by
 have sf:=dg_sq row
 unfold ledF
 rw [Tf_prd hT.tov (sf.prd hT) hi hj]
 refine sN_congr _ fun m hm=>?_
 rw [Tf_tov hT hi hm,Tf_prd sf hT hm hj,sN_top (i:=m) _ hm (fun l hl hne=>by rw [Tf_dg hm hl,if_neg (fun z=>hne z.symm),Rat.zero_mul]),Tf_dg hm hm,if_pos rfl]
 grind
theorem sN_two {f:Nat→Rat} {i j:Nat} (hij:i < j):∀ n,j < n→(∀ k,k < n→k≠i→k≠j→f k=0)→sN f n=f i + f j
 | 0,h,_=>by omega
 | n + 1,h,h0=>by
  show sN f n + f n=f i + f j
  by_cases z:j=n
  ·subst z
   rw [sN_top (i:=i) _ hij fun k hk hne=>h0 k (by omega) hne (by omega)]
  ·rw [sN_two hij n (by omega) fun k hk=>h0 k (by omega),h0 n (by omega) (by omega) (fun w=>z w.symm)]
   grind
structure Chg (n i j:Nat) (x y z w:Rat) (C:Tb):Prop where
 sq:Sq n C
 ij:i < j
 jn:j < n
 ii:Tf C i i=x
 ji:Tf C j i=y
 zj:Tf C i j=z
 jj:Tf C j j=w
 ci:∀ k,k < n→k≠i→k≠j→Tf C k i=0∧Tf C k j=0
 pl:∀ k q,k < n→q < n→q≠i→q≠j→Tf C k q=if k=q then 1 else 0
theorem getD_set {α:Type} {l:List α} {i k:Nat} {v d:α} (h:i < l.length):(l.set i v).getD k d=if k=i then v else l.getD k d:=by
 rw [List.getD_eq_getElem?_getD,List.getD_eq_getElem?_getD]
 by_cases z:k=i
 ·subst z; rw [if_pos rfl,List.getElem?_set_self h]; rfl
 ·rw [if_neg z,List.getElem?_set_ne (fun w=>z w.symm)]
theorem Chg.led {n i j:Nat} {x y:Rat} {C:Tb} {row:List Int} {a b c e t:Int} (hl:row.length=n) (h:Chg n i j x y (-(b:Rat) * (y * (t:Rat)⁻¹)) ((a:Rat) * (x * (t:Rat)⁻¹)) C) (ha:row.getD i 0=a) (hb:row.getD j 0=b) (t0:t≠0) (h1:(a:Rat) * x * x + b * y * y=c) (h2:a * b * c=e * t * t):ledF (dgR row) C=dgR ((row.set i c).set j e):=by
 subst hl
 have ij:=h.ij
 have jn:=h.jn
 have ln:((row.set i c).set j e).length=row.length:=by rw [List.length_set,List.length_set]
 have ts:(t:Rat) * (t:Rat)⁻¹=1:=Rat.mul_inv_cancel _ fun z=>t0 (Rat.intCast_inj.mp (by rw [z]; rfl))
 have h2':(a:Rat) * b * c=e * t * t:=by
  have:=congrArg (fun k:Int=>(k:Rat)) h2
  simp only [Rat.intCast_mul] at this
  exact this
 have gi:∀ k,((row.set i c).set j e).getD k 0=if k=j then e else if k=i then c else row.getD k 0:=fun k=>by
  rw [getD_set (by rw [List.length_set]; exact jn)]
  split
  ·rfl
  ·rw [getD_set (by omega)]
 have sq2:Sq row.length (dgR ((row.set i c).set j e)):=by have:=dg_sq ((row.set i c).set j e); rwa [ln] at this
 refine tf_ext (led_sq (dg_sq row) h.sq) sq2 fun p hp q hq=>?_
 rw [led_dg h.sq hp hq,Tf_dg (by rw [ln]; exact hp) (by rw [ln]; exact hq),gi]
 have two:∀ f:Nat→Rat,(∀ k,k < row.length→k≠i→k≠j→f k=0)→sN f row.length=f i + f j:=fun f hf=>sN_two ij _ jn hf
 by_cases pi:p=i
 ·subst pi
  by_cases qi:q=p
  ·subst qi
   rw [if_pos rfl,if_neg (by omega),if_pos rfl,two _ fun k hk k1 k2=>by rw [(h.ci k hk k1 k2).1]; grind]
   rw [h.ii,h.ji,ha,hb,← h1]
   grind
  ·rw [if_neg (fun z=>qi z.symm)]
   by_cases qj:q=j
   ·subst qj
    rw [two _ fun k hk k1 k2=>by rw [(h.ci k hk k1 k2).1]; grind]
    rw [h.ii,h.ji,h.zj,h.jj,ha,hb]
    grind
   ·rw [two _ fun k hk k1 k2=>by rw [(h.ci k hk k1 k2).1]; grind]
    rw [h.pl p q hp hq qi qj,h.pl j q jn hq qi qj,if_neg (fun z=>qi z.symm),if_neg (fun z=>qj z.symm)]
    grind
 ·by_cases pj:p=j
  ·subst pj
   by_cases qi:q=i
   ·subst qi
    rw [if_neg pi,two _ fun k hk k1 k2=>by rw [(h.ci k hk k1 k2).1]; grind]
    rw [h.ii,h.ji,h.zj,h.jj,ha,hb]
    grind
   ·by_cases qj:q=p
    ·subst qj
     rw [if_pos rfl,if_pos rfl,two _ fun k hk k1 k2=>by rw [(h.ci k hk k1 k2).2]; grind]
     rw [h.zj,h.jj,ha,hb]
     generalize (t:Rat)⁻¹=s at *
     have k1:(a:Rat) * (-(b:Rat) * (y * s) * (-(b:Rat) * (y * s))) + (b:Rat) * ((a:Rat) * (x * s) * ((a:Rat) * (x * s)))=(a:Rat) * b * ((a:Rat) * x * x + b * y * y) * (s * s):=by grind
     have k2:(e:Rat) * t * t * (s * s)=e * ((t * s) * (t * s)):=by grind
     rw [k1,h1,h2',k2,ts]
     grind
    ·rw [if_neg (fun z=>qj z.symm),two _ fun k hk k1 k2=>by rw [(h.ci k hk k1 k2).2]; grind]
     rw [h.pl i q (by omega) hq qi qj,h.pl p q hp hq qi qj,if_neg (fun z=>qi z.symm),if_neg (fun z=>qj z.symm)]
     grind
  ·rw [if_neg pj,if_neg pi,sN_top (i:=p) _ hp fun k hk hne=>by rw [h.pl k p hk hp pi pj,if_neg hne]; grind]
   rw [h.pl p p hp hp pi pj,if_pos rfl]
   by_cases qi:q=i
   ·subst qi
    rw [(h.ci p hp pi pj).1,if_neg pi]
    grind
   ·by_cases qj:q=j
    ·subst qj
     rw [(h.ci p hp pi pj).2,if_neg pj]
     grind
    ·rw [h.pl p q hp hq qi qj]
     split
     ·grind
     ·grind
def set2 (T:Tb) (p q:Nat) (u:Fr):Tb:=T.set p ((T.getD p []).set q u)
theorem row_len {n:Nat} {T:Tb} (h:Sq n T) {p:Nat} (hp:p < n):(T.getD p []).length=n:=h.row _ (getD_mem (by rw [h.len]; exact hp))
theorem set2_sq {n:Nat} {T:Tb} (h:Sq n T) {p q:Nat} {u:Fr} (hp:p < n) (hu:Low u):Sq n (set2 T p q u):=by
 refine ⟨by unfold set2; rw [List.length_set]; exact h.len,fun r hr=>?_,fun r hr v hv=>?_⟩
 ·rcases List.mem_or_eq_of_mem_set hr with z | z
  ·exact h.row r z
  ·rw [z,List.length_set]; exact row_len h hp
 ·rcases List.mem_or_eq_of_mem_set hr with z | z
  ·exact h.low r z v hv
  ·rw [z] at hv
   rcases List.mem_or_eq_of_mem_set hv with w | w
   ·exact h.low _ (getD_mem (by rw [h.len]; exact hp)) v w
   ·rw [w]; exact hu
theorem set2_tf {n:Nat} {T:Tb} (h:Sq n T) {p q a b:Nat} {u:Fr} (hp:p < n) (hq:q < n):Tf (set2 T p q u) a b=if a=p∧b=q then val u else Tf T a b:=by
 unfold Tf set2
 rw [getD_set (by rw [h.len]; exact hp)]
 by_cases z:a=p
 ·rw [if_pos z,getD_set (by rw [row_len h hp]; exact hq)]
  by_cases w:b=q
  ·rw [if_pos w,if_pos ⟨z,w⟩]
  ·rw [if_neg w,if_neg (fun k=>w k.2),z]
 ·rw [if_neg z,if_neg (fun k=>z k.1)]
theorem Tf_pl {n i j:Nat} (hi:i < n) (hj:j < n):Tf (plT n) i j=if i=j then 1 else 0:=by
 unfold Tf plT
 rw [getD_map (e:=0) (by rw [rng_len]; exact hi)]
 unfold plL
 rw [getD_map (e:=0) (by rw [rng_len]; exact hj)]
 have e:∀ k,k < n→(rng n).getD k 0=(k:Int):=fun k hk=>by
  unfold rng
  rw [List.getD_eq_getElem?_getD,List.getElem?_map,List.getElem?_range hk]
  rfl
 rw [e i hi,e j hj]
 by_cases z:i=j
 ·subst z
  rw [if_pos rfl]
  simp
  exact val1 1
 ·rw [if_neg z,if_neg (by omega)]
  exact val01
end EP
namespace EP
structure Exg (n m:Nat) (r:Rat) (C:Tb):Prop where
 mn:m < n
 sq:Sq n C
 at_:∀ k q,k < n→q < n→Tf C k q=if k=m then (if q=0 then r else 0) else if k=0 then (if q=m then 1 else 0) else if q=k then 1 else 0
theorem Exg.led {n m:Nat} {r:Rat} {C:Tb} {row:List Int} (hl:row.length=n) (h:Exg n m r C) {i j:Nat} (hi:i < n) (hj:j < n):Tf (ledF (dgR row) C) i j=if i=j then (if i=0 then (row.getD m 0:Rat) * (r * r) else if i=m then (row.getD 0 0:Rat) else (row.getD i 0:Rat)) else 0:=by
 subst hl
 have mn:=h.mn
 rw [led_dg h.sq hi hj]
 by_cases i0:i=0
 ·subst i0
  rw [sN_top (i:=m) _ mn fun k hk hne=>by
   rw [h.at_ k 0 hk hi,if_neg hne]
   by_cases k0:k=0
   ·rw [if_pos k0,if_neg (by omega)]; grind
   ·rw [if_neg k0,if_neg (by omega)]; grind]
  rw [h.at_ m 0 mn hi,h.at_ m j mn hj,if_pos rfl,if_pos rfl,if_pos rfl]
  by_cases j0:j=0
  ·rw [if_pos j0,if_pos j0.symm,if_pos rfl]
  ·rw [if_neg j0,if_neg (fun z=>j0 z.symm)]; grind
 ·by_cases im:i=m
  ·subst im
   rw [sN_top (i:=0) _ (by omega) fun k hk hne=>by
    rw [h.at_ k i hk hi]
    by_cases km:k=i
    ·rw [if_pos km,if_neg i0]; grind
    ·rw [if_neg km,if_neg hne,if_neg (fun z=>km z.symm)]; grind]
   rw [h.at_ 0 i (by omega) hi,h.at_ 0 j (by omega) hj,if_neg (fun z=>i0 z.symm),if_pos rfl,if_pos rfl,if_neg (fun z=>i0 z.symm),if_pos rfl]
   by_cases ij:j=i
   ·rw [if_pos ij,if_pos ij.symm,if_neg i0,if_pos rfl]; grind
   ·rw [if_neg ij,if_neg (fun z=>ij z.symm)]; grind
  ·rw [sN_top (i:=i) _ hi fun k hk hne=>by
    rw [h.at_ k i hk hi]
    by_cases km:k=m
    ·rw [if_pos km,if_neg i0]; grind
    ·rw [if_neg km]
     by_cases k0:k=0
     ·rw [if_pos k0,if_neg im]; grind
     ·rw [if_neg k0,if_neg (fun z=>hne z.symm)]; grind]
   rw [h.at_ i i hi hi,h.at_ i j hi hj,if_neg im,if_neg i0,if_pos rfl,if_neg im,if_neg i0]
   by_cases ij:j=i
   ·rw [if_pos ij,if_pos ij.symm,if_neg i0,if_neg im]; grind
   ·rw [if_neg ij,if_neg (fun z=>ij z.symm)]; grind
def exA (n m:Nat):Tb:=((plT n).set 0 ((plT n).getD m [])).set m ((plT n).getD 0 [])
def exT (n m:Nat) (r:Int):Tb:=set2 (exA n m) m 0 (1,r)
theorem exA_sq {n m:Nat} (h:m < n):Sq n (exA n m):=by
 have p:=plT_sq n
 have mem:∀ r∈exA n m,r∈plT n:=fun r hr=>by
  rcases List.mem_or_eq_of_mem_set hr with z | z
  ·rcases List.mem_or_eq_of_mem_set z with z | z
   ·exact z
   ·rw [z]; exact getD_mem (by rw [p.len]; exact h)
  ·rw [z]; exact getD_mem (by rw [p.len]; omega)
 exact ⟨by unfold exA; rw [List.length_set,List.length_set]; exact p.len,fun r hr=>p.row r (mem r hr),fun r hr=>p.low r (mem r hr)⟩
theorem exA_get {n m k:Nat} (h:m < n):(exA n m).getD k []=if k=m then (plT n).getD 0 [] else if k=0 then (plT n).getD m [] else (plT n).getD k []:=by
 have l:=(plT_sq n).len
 unfold exA
 rw [getD_set (by rw [List.length_set]; omega)]
 split
 ·rfl
 ·rw [getD_set (by omega)]
theorem exT_ok {n m:Nat} {r:Int} (h:m < n) (hr:1≤r):Exg n m (r:Rat)⁻¹ (exT n m r):=by
 have lo:Low ((1,r):Fr):=⟨hr,by show Int.gcd 1 r=1; exact Int.gcd_one_left r⟩
 have sA:=exA_sq h
 refine ⟨h,set2_sq sA h lo,fun k q hk hq=>?_⟩
 unfold exT
 rw [set2_tf sA h (by omega),val_inv (by omega)]
 have tA:Tf (exA n m) k q=if k=m then Tf (plT n) 0 q else if k=0 then Tf (plT n) m q else Tf (plT n) k q:=by
  unfold Tf
  rw [exA_get h]
  split
  ·rfl
  ·split <;> rfl
 rw [tA,Tf_pl (by omega) hq,Tf_pl h hq,Tf_pl hk hq]
 by_cases km:k=m
 ·by_cases q0:q=0
  ·rw [if_pos ⟨km,q0⟩,if_pos km,if_pos q0]
  ·rw [if_neg (fun z=>q0 z.2),if_pos km,if_pos km,if_neg q0,if_neg (fun z=>q0 z.symm)]
 ·rw [if_neg (fun z=>km z.1),if_neg km,if_neg km]
  by_cases k0:k=0
  ·rw [if_pos k0,if_pos k0]
   by_cases qm:q=m
   ·rw [if_pos qm,if_pos qm.symm]
   ·rw [if_neg qm,if_neg (fun z=>qm z.symm)]
  ·rw [if_neg k0,if_neg k0]
   by_cases qk:q=k
   ·rw [if_pos qk,if_pos qk.symm]
   ·rw [if_neg qk,if_neg (fun z=>qk z.symm)]
theorem ex_led {row:List Int} {m:Nat} {r:Int} (h:m < row.length) (hr:1≤r):ledF (dgR (row.set m (row.getD m 0 * r * r))) (exT row.length m r)=dgR ((row.set 0 (row.getD m 0)).set m (row.getD 0 0)):=by
 have ok:=exT_ok (n:=row.length) h hr
 have l1:(row.set m (row.getD m 0 * r * r)).length=row.length:=List.length_set ..
 have l2:((row.set 0 (row.getD m 0)).set m (row.getD 0 0)).length=row.length:=by rw [List.length_set,List.length_set]
 have s1:Sq row.length (dgR (row.set m (row.getD m 0 * r * r))):=by have:=dg_sq (row.set m (row.getD m 0 * r * r)); rwa [l1] at this
 have s2:Sq row.length (dgR ((row.set 0 (row.getD m 0)).set m (row.getD 0 0))):=by have:=dg_sq ((row.set 0 (row.getD m 0)).set m (row.getD 0 0)); rwa [l2] at this
 have rr:(r:Rat) * (r:Rat)⁻¹=1:=Rat.mul_inv_cancel _ fun z=>by
  have:r=0:=Rat.intCast_inj.mp (by rw [z]; rfl)
  omega
 refine tf_ext (led_sq s1 ok.sq) s2 fun i hi j hj=>?_
 rw [ok.led l1 hi hj,Tf_dg (by rw [l2]; exact hi) (by rw [l2]; exact hj)]
 by_cases ij:i=j
 ·rw [if_pos ij,if_pos ij,getD_set h,if_pos rfl,getD_set h,getD_set h,getD_set (by rw [List.length_set]; exact h),getD_set (by omega)]
  by_cases i0:i=0
  ·rw [if_pos i0]
   have e:((row.getD m 0 * r * r:Int):Rat) * ((r:Rat)⁻¹ * (r:Rat)⁻¹)=(row.getD m 0:Rat):=by
    rw [Rat.intCast_mul,Rat.intCast_mul]
    generalize (r:Rat)⁻¹=s at *
    generalize (row.getD m 0:Rat)=a
    have:a * r * r * (s * s)=a * ((r * s) * (r * s)):=by grind
    rw [this,rr]
    grind
   rw [e]
   by_cases im:i=m
   ·rw [if_pos im,← im,i0]
   ·rw [if_neg im,if_pos i0]
  ·rw [if_neg i0]
   by_cases im:i=m
   ·rw [if_pos im,if_pos im,if_neg (by omega)]
   ·rw [if_neg im,if_neg im,if_neg im,if_neg i0]
 ·rw [if_neg ij,if_neg ij]
theorem ex_no {b o:List Int} {n m:Nat} {r:Int} (hb:b.length=n) (ho:o.length=n) (h:m < n) (hr:1≤r) (e:ledF (dgR b) (exT n m r)=dgR o):b.getD m 0=o.getD 0 0 * r * r:=by
 have ok:=exT_ok (n:=n) h hr
 have z:=ok.led hb (i:=0) (j:=0) (by omega) (by omega)
 rw [e,Tf_dg (by omega) (by omega),if_pos rfl,if_pos rfl,if_pos rfl] at z
 have rr:(r:Rat) * (r:Rat)⁻¹=1:=Rat.mul_inv_cancel _ fun z=>by
  have:r=0:=Rat.intCast_inj.mp (by rw [z]; rfl)
  omega
 refine Rat.intCast_inj.mp ?_
 rw [Rat.intCast_mul,Rat.intCast_mul,z]
 generalize (r:Rat)⁻¹=s at *
 generalize (b.getD m 0:Rat)=a
 have:a * (s * s) * r * r=a * ((r * s) * (r * s)):=by grind
 rw [this,rr]
 grind
end EP
namespace L2.EP
open PySem PySem.Spec PyProof.Rows
section
variable {X:Cx} {Γ:GEnv} {D:GD} {α β γ:Type} [Py α] [Py β] [Py γ] {e e1 e2:Expr} {b b1 b2:Bool} {pos:Pos} {rest st:List Stmt}
theorem g_two (i j:Nat) {x y:Str} {p1 p2 p3:Pos} {k:Nat} (hN:X.N.Nodup) (hc:X.calm=true:=by rfl) (hi:X.N[i]?=some x:=by rfl) (hj:X.N[j]?=some y:=by rfl)
  (hx:Loc X.env.scope x:=by first | exact Or.inl rfl | exact Or.inr rfl) (hy:Loc X.env.scope y:=by first | exact Or.inl rfl | exact Or.inr rfl)
  (hf:X.fn x=true∨X.env.scope.names.lookup x=some .local:=by first | exact .inl rfl | exact .inr rfl) (hf2:X.fn y=true∨X.env.scope.names.lookup y=some .local:=by first | exact .inl rfl | exact .inr rfl)
  (hn:(assignEach [.Name x p1,.Name y p2] X.env).length=2:=by rfl)
  (hst:(assignEach [.Name x p1,.Name y p2] X.env).findIdx? (·.1)=none:=by rfl) (ha1:assignEach [.Name x p1,.Name y p2] X.env=(false,assign (.Name x p1) X.env) :: assignEach [.Name y p2] X.env:=by rfl) (ha2:assignEach [.Name y p2] X.env=(false,assign (.Name y p2) X.env) :: assignEach [] X.env:=by rfl) :
  G X (.Tuple [.Name x p1,.Name y p2] k p3) (gTup X.K 2 (gCons (gName i) (gCons (gName j) gNil))) (α × β) (fun b u Γ=>(Γ.set i (some (.val b u.1))).set j (some (.val b u.2))) (fun k=>k=i∨k=j):=by
 with_unfolding_all
  exact ⟨pg_tup hc (pgs_cons (pg_name hN hi hx hf) (pgs_cons (pg_name hN hj hy hf2) pgs_nil)),gp_two i j⟩
end
end L2.EP
namespace L2.EP
open PySem PySem.Spec PyProof.Rows
section
variable {X:Cx} {Γ:GEnv} {D:GD} {α β γ:Type} [Py α] [Py β] [Py γ] {e e1 e2 e3:Expr} {b b1 b2 b3:Bool} {pos:Pos} {rest st:List Stmt}
theorem e_ixTL {xs:List α} {i:Int} {a:α} (ha:E X Γ e1 b (TupL.mk xs)) (hb:E X Γ e2 b2 i) (h:atI xs i=some a) (hs:PlainIx e2:=by intro _ _; rfl):E X Γ (.Subscript e1 e2 pos) b a:=by
 with_unfolding_all
  exact pe_wk (pe_ix ix_tup ha hb hs) fun σ H Q ⟨H0,F,O,S,q⟩=>⟨H0,F,O,S,fun v H1 s1 r1=>⟨H0,F,O,S.go s1,fun w H2 s2 r2=>by
    obtain ⟨p,vs,e,sq,r⟩:=r1
    obtain ⟨j,h1,h2,h3,h4,h5⟩:=atI_get h
    obtain ⟨x,g1,g2⟩:=pr_get r h2
    refine ⟨p,vs,i,x,e,r2,(sqT_same (off_same _ _) (sqT_same (off_mono s2) sq)).t,?_,q x H2 (s1.trans s2) (rp_mono (off_mono s2) g2)⟩
    unfold atI at h ⊢
    rw [pr_len r]
    cases hx:ixN xs.length i with
    | none=>rw [hx] at h; cases h
    | some k =>
     have hk:=(ixN_seq hx).1
     rw [h1] at hk; cases hk
     exact g1⟩⟩
end
instance:PyD (Int ⊕ (Int × Int)) where
 dat a:=match a with | .inl i=>.int i | .inr u=>.tuple [.int u.1,.int u.2]
 dr {K N H v a} h:=by
  cases a with
  | inl i=>exact PyD.dr (α:=Int) (N:=N) h
  | inr u=>exact PyD.dr (α:=Int × Int) (N:=N) h
 lay a:=by
  cases a with
  | inl i=>exact PyD.lay (α:=Int) i
  | inr u=>exact PyD.lay (α:=Int × Int) u
 dep:=PyD.dep (Int × Int)
 depth a:=by
  cases a with
  | inl i=>exact Nat.le_trans (PyD.depth (α:=Int) i) (Nat.zero_le _)
  | inr u=>exact PyD.depth (α:=Int × Int) u
 eqv a b:=by
  cases a with
  | inl i=>cases b with
   | inl j=>exact (PyD.eqv (α:=Int) i j).trans ⟨fun h=>by rw [h],fun h=>by injection h⟩
   | inr u=>simp [PyData.eqv]
  | inr v=>cases b with
   | inl j=>simp [PyData.eqv]
   | inr u=>exact (PyD.eqv (α:=Int × Int) v u).trans ⟨fun h=>by rw [h],fun h=>by injection h⟩
end L2.EP
namespace L2.EP
open PySem PySem.Spec PyProof.Rows
section
variable {X:Cx} {Γ:GEnv} {D:GD} {α β γ:Type} [Py α] [Py β] [Py γ] {e e1 e2 ek:Expr} {b b1 b2:Bool} {pos:Pos} {rest st:List Stmt}
theorem s_setO (i:Nat) {as:List α} {a:α} {k:Int} {x:Str} {p p':Pos} (hg:Γ[i]?=some (some (.own b as))) (hk:E X Γ ek b2 k) (he:E X Γ e b a) (h0:0≤k) (hl:k < as.length) (h:S X (Γ.set i (some (.own b (as.set k.toNat a)))) rest D) (hi:X.N[i]?=some x:=by rfl)
  (hv:Vis X.env.scope x:=by first | exact Or.inl rfl | exact Or.inr (Or.inl rfl) | exact Or.inr (Or.inr rfl)) (hd:(x == ("__debug__":Str))=false:=by decide) (hcd:(x == ("__classdict__":Str))=false:=by decide)
  (ha:∀ v,assign (.Subscript (.Name x p) ek p') X.env v=(do
   let ov ← holding [v] (eval (.Name x p) X.env)
   let iv ← holding [v,ov] (eval ek X.env)
   standAt p'
   holding [v,ov,iv] (setItem ov iv v)
   release [v,ov,iv] []):=by intro _; rfl)
  (hs:swapsWithSole [.Subscript (.Name x p) ek p'] e pos.line X.env=pure false:=by rfl) (hw:swappedStores [.Subscript (.Name x p) ek p'] e X.env=pure none:=by rfl)
  (h1:(assignEach [.Subscript (.Name x p) ek p'] X.env).map (·.2)=[assign (.Subscript (.Name x p) ek p') X.env]:=by rfl):S X Γ (.Assign [.Subscript (.Name x p) ek p'] e pos :: rest) D:=by
 with_unfolding_all
  exact s_seq (ps_wk (ps_asg he (pg_sub (pv i hi hv hd hcd) hk set_list ha) hs hw h1) fun De σ H ⟨H0,F,O,Z,n,_⟩=>⟨H0,F,O,Z,fun u H1 z1 ru=>by
    obtain ⟨v,Di,hv1,_,_,_⟩:=(Z.go z1).write hg True.intro
    refine ⟨v,hv1,H0,F,O,Z.go z1,fun y H3 z3 ry=>?_⟩
    obtain ⟨v',Di,hv2,⟨q,ys,e1,w2,hq,rr⟩,hO,wr⟩:=(Z.go (z1.trans z3)).write hg True.intro
    rw [hv1] at hv2
    have ev:v=v':=Option.some.inj (Option.some.inj hv2)
    subst ev
    have ey:y=V.int k:=ry
    subst ey
    have hly:k < ys.length:=by rw [pr_len rr]; exact hl
    have hix:ixN ys.length k=some k.toNat:=by
     unfold ixN; rw [if_pos h0,if_pos (by omega)]
    refine ⟨q,ys,k,k.toNat,e1,rfl,hq,hix,?_⟩
    obtain ⟨Z',eo⟩:=wr q (ys.set k.toNat u) (some (.own b (as.set k.toNat a))) w2 fun g'' e'=>by
     cases e'
     refine ⟨True.intro,q,_,e1,w2,upd_same,?_⟩
     rw [off_upd (hO q w2).1]
     exact pr_set (rp_mono (off_mono z3) ru) k.toNat rr
    exact n _ _ _ _ (by rw [eo]; exact off_mono (z1.trans z3)) Z' h⟩)
end
end L2.EP
namespace L2.EP
open PySem PySem.Spec PyProof.Rows
section
variable {X:Cx} {Γ:GEnv} {D:GD} {α β:Type} [Py α] [Py β] {e elt target iter:Expr} {b b':Bool} {pos:Pos} {rest st:List Stmt} {scope:Scope} {tn:List Str} {js:List Nat} {g:TG} {tc:Nat→Prop} {put:Bool→α→GEnv→GEnv} {as:List α}
theorem e_compTT {f:α→List β} (tn:List Str) (js:List Nat) (S:CScope X scope tn js) (he:EI X Γ target iter b as) (hgp:GP g α put tc X.K) (hg:∀ C s H fp,PG (blk X (cN X tn js) scope C s H fp) target g) (htc:∀ j,tc j→j < tn.length)
  (hb:∀ (i:Nat) (a:α),as[i]?=some a→∀ C s H fp,EN (blk X (cN X tn js) scope C s H fp) (put b a (cΓ Γ tn js)) elt (f a)) (hl:as.length≤1000) (hc:X.calm=true:=by rfl)
  (hs:∀ x,foldedSetIterable iter X.env x=pure x:=by intro _; rfl):E X Γ (.ListComp elt [⟨target,iter,[],0⟩] scope pos) true (TbO.mk (as.map f)):=by
 with_unfolding_all
  obtain ⟨wi,hi,hw⟩:=he
  exact pe_wk (pe_lc S hc hi (fun C s H fp=>⟨hg C s H fp,ttC_ok,teN_ok⟩) hs) fun σ H Q ⟨H0,F,O,Z,q⟩=>comp_wkT hw hgp htc hb hl Z fun v H' s' r'=>q v H' s' (new_less Z.same r')
end
end L2.EP
namespace L2.EP
open PySem PySem.Spec PyProof.Rows
instance {α:Type} [Py α] [PyT α]:PyT (Option α) where
 free {K N N' H H' v b} t h:=by
  cases b with
  | none=>exact h
  | some b=>exact PyT.free (β:=α) t h
 nl {K N H q b xs} h e:=by
  cases b with
  | none=>exact nomatch h
  | some b=>exact PyT.nl (β:=α) h e
section
variable {X:Cx} {Γ:GEnv} {D:GD} {α β γ:Type} [Py α] [Py β] [Py γ] {e e1 e2:Expr} {b b1 b2:Bool} {pos:Pos} {rest st:List Stmt}
theorem e_ixO (o:Nat) {as:List α} {i:Int} {a:α} {x:Str} {p:Pos} (hg:Γ[o]?=some (some (.own b as))) (hk:E X Γ e2 b2 i) (h:atI as i=some a) (hi:X.N[o]?=some x:=by rfl)
  (hv:Vis X.env.scope x:=by first | exact Or.inl rfl | exact Or.inr (Or.inl rfl) | exact Or.inr (Or.inr rfl)) (hd:(x == ("__debug__":Str))=false:=by decide) (hcd:(x == ("__classdict__":Str))=false:=by decide)
  (hs:PlainIx e2:=by intro _ _; rfl):E X Γ (.Subscript (.Name x p) e2 pos) b a:=by
 with_unfolding_all
  exact pe_wk (pe_ix ix_list (pv o hi hv hd hcd) hk hs) fun σ H Q ⟨H0,F,O,Z,q⟩=>by
   obtain ⟨v,Di,hv1,_,_,_⟩:=Z.write hg True.intro
   refine ⟨v,hv1,H0,F,O,Z,fun w H2 s2 r2=>?_⟩
   obtain ⟨v',Di,hv2,⟨q',ys,e1,w2,hq,rr⟩,_,_⟩:=(Z.go s2).write hg True.intro
   rw [hv1] at hv2
   have ev:v=v':=Option.some.inj (Option.some.inj hv2)
   subst ev
   obtain ⟨j,h1,h2,h3,h4,h5⟩:=atI_get h
   obtain ⟨y,g1,g2⟩:=pr_get rr h2
   refine ⟨q',ys,i,y,e1,r2,SqL.of hq,?_,q y H2 s2 g2⟩
   unfold atI at h ⊢
   rw [pr_len rr]
   cases hx:ixN as.length i with
   | none=>rw [hx] at h; cases h
   | some k =>
    have hk:=(ixN_seq hx).1
    rw [h1] at hk; cases hk
    exact g1
end
section
variable {X:Cx} {Γ:GEnv} {D:GD} {α β γ:Type} [Py α] [Py β] [Py γ] {elt target iter c:Expr} {b b' b1:Bool} {pos:Pos} {scope:Scope} {tn:List Str} {js:List Nat} {g:TG} {tc:Nat→Prop} {put:Bool→α→GEnv→GEnv} {as:List α} {f:α→β} {p:α→Bool} {ifs:List Expr}
end
end L2.EP
namespace L2.EP
open PySem PySem.Spec PyProof.Rows
abbrev Xo (C:Addr) (vs:Array Value):Obj:={ cls:=.ref C,data:=.fields vs }
structure Chg (fs:List Addr) (ch:Addr→Prop) (h h':Heap):Prop where
 keep:∀ b o,h.get? b=some o→b ∉ fs→¬ ch b→h'.get? b=some o
 slot:∀ b o,h.get? b=some o→¬ ch b→∃ sl,h'.get? b=some { o with slots:=sl }
def Tr (h:Heap) (C e:Addr) (T:Option Addr):Prop:=∃ vs,h.get? e=some (Xo C vs)∧match T with
 | none=>vs[1]?=some .none
 | some t=>vs[1]?=some (.ref t)∧t≠e∧∃ oT ts,h.get? t=some oT∧oT.data=.fields ts∧ts[3]?=some .none
section
variable {M:Model} {A:Around} {E:Value→Shared→Prop} {s:Shared} {base:Heap} {env:Env} {outer:List Env} {L C e:Addr}
theorem entry_x {vs:Array Value} {head:Value} {had:Bool} {Q:Unit→Shared→Prop} (hfr:A.frames=some (env :: outer)) (hl:s.heap.FunFrames base (env :: outer)) (hf:env.frame=some L)
  (he:s.heap.get? e=some (Xo C vs)) (hz:1 < vs.size)
  (h:∀ h' T oT ts,Chg (frs (env :: outer)) (·=e) s.heap h'→h'.get? e=some (Xo C (vs.setIfInBounds 1 (.ref T)))→T≠e→s.heap.objs.size≤T→h'.get? T=some oT→oT.data=.fields ts→ts[3]?=some (rawInt L)→Q () { s with heap:=h' }) :
  wpAny M A (do let a ← frameOf env; let pl ← entryPlaceOf L had; let b ← EntryCells.newEntry head a .none (rawInt L) .none pl; setField (.ref e) 1 b) Q E s:=by
 have nf:e ∉ frs (env :: outer):=fun hm=>by
  obtain ⟨_,o,ho,nd⟩:=hl.mem hm
  rw [he] at ho; cases ho; exact nd _ rfl
 refine wpAny_bind (wpAny_frameOf_fun hfr hl hf fun g hg=>wpAny_bind (wpAny_entryPlaceOf fun pl hp=>?_))
 have he1:g.get? e=some (Xo C vs):=(hg.2.1 e nf).trans he
 delta EntryCells.newEntry newFields
 refine wpAny_bind (wpAny_newObj_type (dict:=none) ?_ (hp.sizeOk5 _ _ _ _ _))
 have ne:g.objs.size≠e:=Nat.ne_of_gt (Heap.lt_size he1)
 refine wpAny_setField (Heap.get?_push_of_some _ he1) rfl hz (h _ g.objs.size { cls:=.type "traceback",dict:=none,data:=.fields ([head,.ref L,.none,rawInt L,.none] ++ (if pl.isEmpty then List.replicate 6 Value.none else pl)).toArray } _ ⟨fun b o q nb nc=>?_,fun b o q nc=>?_⟩ ?_ ne (by rw [hg.1]; exact Nat.le_refl _) ?_ rfl ?_)
 ·rw [Heap.get?_update_other _ _ (Ne.symm nc)]
  exact Heap.get?_push_of_some _ ((hg.2.1 b nb).trans q)
 ·obtain ⟨sl,q'⟩:=hg.2.2 b o q
  refine ⟨sl,?_⟩
  rw [Heap.get?_update_other _ _ (Ne.symm nc)]
  exact Heap.get?_push_of_some _ q'
 ·exact Heap.get?_update_self _ (Heap.get?_push_of_some _ he1) rfl
 ·rw [Heap.get?_update_other _ _ (Ne.symm ne)]
  exact Heap.get?_push_size g rfl
 ·rcases hp with rfl | ⟨_,_,_,_,_,_,_,rfl⟩ <;> simp
theorem flight_x {T:Addr} {fl:Value} {vs:Array Value} {oT:Obj} {ts:Array Value} {Q:Unit→Shared→Prop} (he:s.heap.get? e=some (Xo C vs)) (hv:vs[1]?=some (.ref T)) (ne:T≠e) (ho:s.heap.get? T=some oT) (hd:oT.data=.fields ts) (h3:ts[3]?=some fl)
  (h:∀ h',Chg [] (·=T) s.heap h'→h'.get? e=some (Xo C vs)→Tr h' C e (some T)→Q () { s with heap:=h' }):wpAny M A (setFlight (.ref e) none) Q E s:=by
 have hz:3 < ts.size:=(Array.getElem?_eq_some_iff.mp h3).1
 unfold setFlight
 refine wpAny_bind (wpAny_field he rfl hv ?_)
 rw [if_pos (by simp)]
 have ee:=(Heap.get?_update_other s.heap (Obj.mapFields fun x=>x.setIfInBounds 3 ((none:Option Addr).elim Value.none fun f=>rawInt f)) ne).trans he
 refine wpAny_setField ho hd hz (h _ ⟨fun b o q _ nc=>?_,fun b o q nc=>⟨o.slots,?_⟩⟩ ee ⟨vs,ee,hv,ne,_,_,Heap.get?_update_self _ ho (Obj.isFreed_of_fields (Obj.data_mapFields hd _)),Obj.data_mapFields hd _,?_⟩)
 ·exact (Heap.get?_update_other _ _ (Ne.symm nc)).trans q
 ·exact (Heap.get?_update_other _ _ (Ne.symm nc)).trans q
 ·simp [hz]
theorem Chg.trans {fs:List Addr} {ch c1 c2:Addr→Prop} {h h1 h2:Heap} (a:Chg fs c1 h h1) (b:Chg fs c2 h1 h2) (w1:∀ b,c1 b→ch b) (w2:∀ b o,h.get? b=some o→c2 b→ch b):Chg fs ch h h2 :=
 ⟨fun x o q n nc=>b.keep x o (a.keep x o q n fun z=>nc (w1 x z)) n fun z=>nc (w2 x o q z),fun x o q nc=>by
  obtain ⟨sl,q1⟩:=a.slot x o q fun z=>nc (w1 x z)
  obtain ⟨sl2,q2⟩:=b.slot x _ q1 fun z=>nc (w2 x o q z)
  exact ⟨sl2,q2⟩⟩
theorem Chg.mono {fs fs':List Addr} {ch ch':Addr→Prop} {h h':Heap} (a:Chg fs ch h h') (w:∀ b,ch b→ch' b) (v:∀ b,b∈fs→b∈fs'):Chg fs' ch' h h' :=
 ⟨fun x o q n nc=>a.keep x o q (fun z=>n (v x z)) fun z=>nc (w x z),fun x o q nc=>a.slot x o q fun z=>nc (w x z)⟩
theorem note_x {T:Option Addr} {Q:Unit→Shared→Prop} (hfr:A.frames=some (env :: outer)) (hl:s.heap.FunFrames base (env :: outer)) (hf:env.frame=some L) (x:Tr s.heap C e T)
  (h:∀ h' t vs oT ts,Chg (frs (env :: outer)) (fun b=>b=e∨T=some b) s.heap h'→h'.get? e=some (Xo C vs)→vs[1]?=some (.ref t)→t≠e→s.heap.objs.size≤t→h'.get? t=some oT→oT.data=.fields ts→ts[3]?=some (rawInt L)→Q () { s with heap:=h' }) :
  wpAny M A (noteFrame (.ref e) env) Q E s:=by
 obtain ⟨vs,he,hT⟩:=x
 unfold noteFrame
 simp only [hf]
 cases T with
 | none =>
  have hT:vs[1]?=some .none:=hT
  have hz:1 < vs.size:=(Array.getElem?_eq_some_iff.mp hT).1
  refine wpAny_bind (wpAny_field he rfl hT ?_)
  rw [if_neg (by decide)]
  exact entry_x hfr hl hf he hz fun h' t oT ts c e1 n l o1 o2 o3=>h h' t _ oT ts (c.mono (fun b z=>.inl z) fun _ z=>z) e1 (by simp [hz]) n l o1 o2 o3
 | some t0 =>
  obtain ⟨hv,ne,oT,ts,ho,hd,h3⟩:vs[1]?=some (.ref t0)∧t0≠e∧∃ oT ts,s.heap.get? t0=some oT∧oT.data=.fields ts∧ts[3]?=some .none:=hT
  have hz:1 < vs.size:=(Array.getElem?_eq_some_iff.mp hv).1
  refine wpAny_bind (wpAny_field he rfl hv ?_)
  rw [if_pos (by simp)]
  refine wpAny_bind (wpAny_field ho hd h3 ?_)
  rw [if_neg (by simp [rawInt])]
  refine wpAny_bind (wpAny_setField ho hd (Array.getElem?_eq_some_iff.mp h3).1 ?_)
  have oth:∀ b,b≠t0→(s.heap.update t0 (Obj.mapFields fun x=>x.setIfInBounds 3 Value.none)).get? b=s.heap.get? b:=fun b nb=>Heap.get?_update_other _ _ (Ne.symm nb)
  have nfd:∀ b o,s.heap.get? b=some o→(∀ us,o.data≠.fields us)→b≠t0:=fun b o q nd z=>by
   rw [z,ho] at q; cases q; exact nd _ hd
  refine entry_x hfr (hl.of_keeps fun b o q nd=>⟨o,(oth b (nfd b o q nd)).trans q,rfl⟩) hf ((oth e (Ne.symm ne)).trans he) hz fun h' t oT' ts' c e1 n l o1 o2 o3=>?_
  refine h h' t _ oT' ts' (Chg.trans (c1:=fun b=>b=t0) (c2:=fun b=>b=e) ⟨fun b o q _ nc=>(oth b nc).trans q,fun b o q nc=>⟨o.slots,(oth b nc).trans q⟩⟩ c (fun b z=>.inr (by rw [z])) fun b _ _ z=>.inl z) e1 (by simp [hz]) n ?_ o1 o2 o3
  rw [Heap.size_after_update] at l
  exact l
theorem land_x {T:Option Addr} {Q:Unit→Shared→Prop} (hfr:A.frames=some (env :: outer)) (hl:s.heap.FunFrames base (env :: outer)) (hf:env.frame=some L) (x:Tr s.heap C e T)
  (h:∀ h' t,Chg (frs (env :: outer)) (fun b=>b=e∨T=some b) s.heap h'→Tr h' C e (some t)→s.heap.objs.size≤t→Q () { s with heap:=h' }) :
  wpAny M A (noteFrame (.ref e) env) (fun _ s2=>wpAny M A (setFlight (.ref e) none) Q E s2) E s:=by
 refine note_x hfr hl hf x fun h' t vs oT ts c e1 hv n l o1 o2 o3=>?_
 refine flight_x e1 hv n o1 o2 o3 fun h2 c2 _ tr=>h h2 t (Chg.trans c (c2.mono (ch':=fun b=>b=t) (fun _ z=>z) (fun _ z=>nomatch z)) (fun _ z=>z) fun b o q z=>?_) tr l
 exact absurd (Heap.lt_size q) (Nat.not_lt.mpr (by rw [z]; exact l))
theorem leave_x {T:Option Addr} {Q:Unit→Shared→Prop} (hfr:A.frames=some (env :: outer)) (hl:s.heap.FunFrames base (env :: outer)) (hf:env.frame=some L) (x:Tr s.heap C e T)
  (h:∀ h' t,Chg (frs (env :: outer)) (fun b=>b=e∨T=some b) s.heap h'→Tr h' C e (some t)→s.heap.objs.size≤t→Q () { s with heap:=h' }) :
  wpAny M A (leaving env (.ref e)) Q E s:=by
 unfold leaving
 exact wpAny_bind (land_x hfr hl hf x h)
end
end L2.EP
namespace L2.EP
open PySem PySem.Spec PyProof.Rows
def Nw (X:Cx) (pins:List (Addr × Obj)) (H:Hp) (a:Addr):Prop:=X.s₀.heap.get? a=none∧H a=none∧∀ p∈X.pn ++ pins,p.1≠a
def Fly (X:Cx) (pins:List (Addr × Obj)) (H:Hp) (h:Heap) (C e:Addr):Prop:=∃ T,Tr h C e T∧Nw X pins H e∧∀ t,T=some t→Nw X pins H t
theorem ObjOk.there {P:Program} {w:World} {H:Hp} {h:Heap} {a:Addr} {o:HO} (x:ObjOk P w H h a o):∃ ob,h.get? a=some ob:=by
 cases o with
 | lst xs=>obtain ⟨_,_,_,_,e⟩:=x; exact ⟨_,e⟩
 | tup xs=>obtain ⟨_,_,_,o,e,_⟩:=x; exact ⟨_,e⟩
 | dK kvs=>obtain ⟨_,_,_,_,o,_,_,e,_⟩:=x; exact ⟨_,e⟩
 | dT kvs=>obtain ⟨_,_,_,_,o,_,_,e,_⟩:=x; exact ⟨_,e⟩
 | dB kvs=>obtain ⟨_,_,_,_,o,_,_,e,_⟩:=x; exact ⟨_,e⟩
 | set S n=>obtain ⟨o,_,_,_,e,_⟩:=x; exact ⟨_,e⟩
 | ins C dx fs=>obtain ⟨_,_,_,e,_⟩:=x; exact ⟨_,e⟩
 | own y=>exact x
 | xd fs=>obtain ⟨_,⟨_,_,_,e,_⟩,_⟩:=x; exact ⟨_,e⟩
 | rng lo hi=>obtain ⟨_,_,_,e⟩:=x; exact ⟨_,e⟩
 | frz ob u=>obtain ⟨e,_⟩:=x; exact ⟨_,e⟩
 | tbl ps=>exact ⟨_,(show h.get? a=some _ from x)⟩
 | met f y=>exact ⟨_,(show h.get? a=some _ from x)⟩
 | ext φ=>exact x.2.1
section
variable {X:Cx} {pins:List (Addr × Obj)} {σ:St} {H H':Hp} {s:Shared} {h':Heap} {C e:Addr}
theorem nw_of (I:Inv X pins σ H s) (hex:X.ex=[]) {a:Addr} (h:s.heap.get? a=none):Nw X pins H a:=by
 refine ⟨?_,?_,fun p hp z=>?_⟩
 ·cases q:X.s₀.heap.get? a with
  | none=>rfl
  | some o =>
   obtain ⟨o',q'⟩:=I.base.there a o q (by rw [hex]; exact fun z=>nomatch z)
   rw [h] at q'; cases q'
 ·cases q:H a with
  | none=>rfl
  | some o =>
   obtain ⟨o',q'⟩:=ObjOk.there (I.hok a o q)
   rw [h] at q'; cases q'
 ·have:=(I.pin p hp).1
  rw [z,h] at this; cases this
theorem nw_size (I:Inv X pins σ H s) (hex:X.ex=[]) {a:Addr} (h:s.heap.objs.size≤a):Nw X pins H a:=nw_of I hex (Heap.get?_none_of_le h)
theorem inv_chg {ch:Addr→Prop} (I:Inv X pins σ H s) (c:Chg (frs X.stack) ch s.heap h') (hc:∀ b,ch b→Nw X pins H b∧∃ o vs,s.heap.get? b=some o∧o.data=.fields vs):Inv X pins σ H { s with heap:=h' }:=by
 have ns:∀ b o,X.s₀.heap.get? b=some o→¬ ch b:=fun b o q z=>by
  have:=(hc b z).1.1
  rw [q] at this; cases this
 have nL:∀ b o,X.s₀.heap.get? b=some o→b≠X.env.locals:=fun b o q=>Nat.ne_of_lt (Nat.lt_of_lt_of_le (Heap.lt_size q) I.ok.above)
 have nr:∀ b o,s.heap.get? b=some o→(∀ vs,o.data≠.fields vs)→¬ ch b:=fun b o q nd z=>by
  obtain ⟨_,o',vs,q',d⟩:=hc b z
  rw [q] at q'; cases q'; exact nd vs d
 have kp:∀ b o,s.heap.get? b=some o→b≠X.env.locals→b ∉ X.fs→¬ ch b→h'.get? b=some o:=fun b o q n1 n2 nc=>c.keep b o q (fun z=>(List.mem_cons.mp (I.stkSub b z)).elim n1 n2) nc
 have cl:∀ x k,X.env.cells.lookup x=some k→∀ v,s.heap.IsCell k v→h'.IsCell k v:=fun x k _ v ⟨o,ho,hd⟩=>by
  obtain ⟨sl,q⟩:=c.slot k o ho (nr k o ho fun vs z=>by rw [hd] at z; cases z)
  exact ⟨_,q,hd⟩
 refine ⟨I.ok,I.os,I.bare,⟨fun b o q n hb hx=>?_,fun b o q n hb hx=>?_,I.base.free,fun b o q hx=>?_,I.base.tups,I.base.frzs,I.base.tbls⟩,?_,fun x k q=>?_,I.free,I.freeC,fun p hp=>?_,fun b o q=>?_,I.len⟩
 ·exact kp b o (I.base.keep b o q n hb hx) (nL b o q) hb (ns b o q)
 ·obtain ⟨sl,q1⟩:=I.base.slot b o q n hb hx
  obtain ⟨sl2,q2⟩:=c.slot b _ q1 (ns b o q)
  exact ⟨sl2,q2⟩
 ·obtain ⟨o1,q1⟩:=I.base.there b o q hx
  obtain ⟨sl2,q2⟩:=c.slot b _ q1 (ns b o q)
  exact ⟨_,q2⟩
 ·obtain ⟨m,⟨o,es,ep,ho,hd,r⟩,hl⟩:=I.loc
  obtain ⟨sl,q⟩:=c.slot _ o ho (nr _ o ho fun vs z=>by rw [hd] at z; cases z)
  refine ⟨m,⟨_,es,ep,q,hd,r⟩,fun i x v e1 e2 e3=>?_⟩
  obtain ⟨u,ru,l⟩:=hl i x v e1 e2 e3
  refine ⟨u,ru,?_⟩
  rcases l with l | ⟨k,cc,q2,z⟩
  ·exact .inl l
  ·exact .inr ⟨k,cc,q2,cl x cc q2 _ z⟩
 ·obtain ⟨v,z⟩:=I.cell x k q
  exact ⟨v,cl x k q v z⟩
 ·obtain ⟨q,n,ne,nf,d⟩:=I.pin p hp
  exact ⟨kp p.1 p.2 q ne nf fun z=>(hc _ z).1.2.2 p hp rfl,n,ne,nf,d⟩
 ·refine (I.hok b o q).stay (fun b2 u hb r=>?_) (fun _ z=>z) fun _ _ z=>z
  have ht:∃ o2,H b2=some o2:=by
   rcases hb with rfl | hb
   ·exact ⟨_,q⟩
   ·exact ⟨_,hb⟩
  obtain ⟨o2,ht⟩:=ht
  refine c.keep b2 u r (fun z=>?_) fun z=>?_
  ·rw [I.stkFree b2 z] at ht; cases ht
  ·rw [(hc b2 z).1.2.1] at ht; cases ht
theorem Tr.recs {h:Heap} {T:Option Addr} (t:Tr h C e T):∀ b,(b=e∨T=some b)→∃ o vs,h.get? b=some o∧o.data=.fields vs:=by
 obtain ⟨vs,he,q⟩:=t
 rintro b (rfl | rfl)
 ·exact ⟨_,vs,he,rfl⟩
 ·obtain ⟨_,_,oT,ts,a,b,_⟩:=q
  exact ⟨oT,ts,a,b⟩
end
def CX1 (P:Program) (w:World):CXT:=fun outer H s E ev s'=>∃ e C t H',ev=.ref e∧s'.os=s.os∧AllBare s'.gens∧Un (frs outer) [] H H' s.heap s'.heap∧HOk P w H' s'.heap ∧
 s.heap.get? e=none∧H' e=none∧s.heap.get? t=none∧H' t=none∧Tr s'.heap C e (some t)∧E (.ref C) none H'
section
variable {X:Cx} {pins:List (Addr × Obj)} {σ:St} {H:Hp} {s s':Shared} {E:XK}
theorem pass1 {ev:Value} (I:Inv X pins σ H s) (hex:X.ex=[]) (h:CX1 X.prog X.w X.stack H s E ev s'):∃ e C H',ev=.ref e∧Inv X pins σ H' s'∧Fly X pins H' s'.heap C e∧E (.ref C) none H':=by
 obtain ⟨e,C,t,H',rfl,os,bare,un,hok,n1,n2,n3,n4,tr,q⟩:=h
 have I':Inv X pins σ H' s':=I.call' os un hok bare (fun b z=>absurd z (by simp))
 refine ⟨e,C,H',rfl,I',⟨some t,tr,⟨(nw_of I hex n1).1,n2,(nw_of I hex n1).2.2⟩,fun u z=>?_⟩,q⟩
 cases z
 exact ⟨(nw_of I hex n3).1,n4,(nw_of I hex n3).2.2⟩
end
abbrev cx1 (P:Program) (w:World) (K:PySem.W.Frag) (mg:Str→Option Value) (base:Heap) (N:List Str) (qual:Str) (st:Stmt) (f:Addr) (cdv:Value) (A:Around) (outer:List Env) (s:Shared) (H:Hp) (E:XK):Cx:=cxOf (CX1 P w) P w K mg base N qual (defScope st) f cdv A outer s H E
theorem acc_def {P:Program} {w:World} {K:PySem.W.Frag} {mg:Str→Option Value} {base:Heap} {N:List Str} {qual:Str} {st:Stmt} {f:Addr} {cdv:Value} {A:Around} {outer:List Env} {s s1:Shared} {H H1:Hp} {E:XK} {pins:List (Addr × Obj)} {σ:St} {C e:Addr}
  (I:Inv (cx1 P w K mg base N qual st f cdv A outer s H E) pins σ H1 s1) (fl:Fly (cx1 P w K mg base N qual st f cdv A outer s H E) pins H1 s1.heap C e) (q:E (.ref C) none H1):(cx1 P w K mg base N qual st f cdv A outer s H E).xe (.ref e) s1:=by
 obtain ⟨T,tr,ne,nt⟩:=fl
 refine leave_x (base:=base) (outer:=outer) I.ok.frames I.stack rfl tr fun h' t c tr' l=>?_
 have I2:=inv_chg I (h':=h') c fun b z=>⟨by rcases z with rfl | z; exact ne; exact nt b z,tr.recs b z⟩
 have n:=nw_size I rfl l
 exact ⟨e,C,t,H1,rfl,I.os,I.bare,I2.base,I2.hok,ne.1,ne.2.1,n.1,n.2.1,tr',q⟩
end L2.EP
namespace L2.EP
open PySem PySem.Spec PyProof.Rows
abbrev bmV:List Value:=[.type "ValueError",.type "Exception",.type "BaseException",.type "object"]
abbrev RzK (K:PySem.W.Frag) (C:Addr):Prop:=PySem.W.excIn K C bmV "ValueError.__new__"=true
theorem rz_obj {K:PySem.W.Frag} {h:Heap} {C:Addr} (X:K.In h) (q:RzK K C):∃ bm N nm qn bs hd sn sub ab col dd k0 k1 k2 k3 k5 mN,h.get? C=some (excClassObj nm qn C N bs bm hd sn sub ab col dd k0 k1 k2 k3 k5 "ValueError.__new__")∧h.Ns N mN∧mN "__init__"=none∧OwnTail h bmV bm:=by
 unfold RzK PySem.W.excIn at q
 split at q
 ·rename_i dd cd sl ho
  split at q
  ·rename_i C' bm k0 k1 k2 k3 n k5 e1 e2
   simp only [Bool.and_eq_true,beq_iff_eq,Bool.not_eq_true'] at q
   obtain ⟨⟨⟨⟨⟨rfl,rfl⟩,z1⟩,z2⟩,z3⟩,z4⟩:=q
   obtain ⟨nm,bs,mro,ns,qn,hd,sn,sub,ab,col,del⟩:=cd
   dsimp only at e1 z1 z3 z4
   subst e1 z1
   have e3:sl=#[k0,k1,k2,k3,some (.builtin "ValueError.__new__"),k5]:=by
    obtain ⟨l⟩:=sl
    have e4:l=[k0,k1,k2,k3,some (.builtin "ValueError.__new__"),k5]:=e2
    rw [e4]
   subst e3
   exact ⟨bm,ns,nm,qn,bs,hd,sn,sub,ab,col,dd,k0,k1,k2,k3,k5,_,X _ _ ho,.of_isNs (PySem.W.isNs_of_in X z3),PySem.W.nsMap_none_of_in X z3 z4,PySem.W.tail_of_in X z2⟩
  ·cases q
 ·cases q
section
variable {X:Cx} {cn:Str} {C:Addr} {np cpos pos cps:Pos} {msg:Str} {j:Nat}
theorem ps_raise {W:St→Hp→Prop} (hcm:X.calm=true) (hex:X.ex=[]) (hg:Gl X cn) (hm:X.mg cn=some (.ref C)) (hc:RzK X.K C)
  (hW:∀ pins σ H s e,Inv X pins σ H s→W σ H→Fly X pins H s.heap C e→X.xe (.ref e) s) (hd:(cn == ("__debug__":Str))=false:=by decide) :
  PS X (.Raise (some (.Call (.Name cn np) [.Constant (.str msg) j cps] [] cpos)) none pos) (fun _ σ H=>W σ H):=by
 intro pins s σ H D I h
 obtain ⟨bm,N,nm,qn,bs,hd',sn,sub,ab,col,dd,k0,k1,k2,k3,k5,mN,c1,c2,c3,c4⟩:=rz_obj I.ok.mod.kin hc
 have hA:PA X [.Constant (.str msg) j cps] _:=pa_cons pe_str pa_nil
 refine wpAny_Raise_call_subU (nm:=nm) (q:=qn) (N:=N) (bs:=bs) (bm:=bm) (hdct:=hd') (sn:=sn) (sub:=sub) (ab:=ab) (col:=col) (dd:=dd) (k0:=k0) (k1:=k1) (k2:=k2) (k3:=k3) (k5:=k5) PySem.F.excBase_ValueError (by decide) PySem.F.excBase_ValueError (c4.hasType (by decide)) (I.ok.hd hcm) rfl c3 (ld_glob I hg hm ⟨rfl,?_⟩ hd)
 have he:starEach [Expr.Constant (.str msg) j cps] X.env=(false,eval (.Constant (.str msg) j cps) X.env) :: starEach [] X.env:=rfl
 have hq:=hA cpos pins s σ H (fun vs H1=>vs=[.str msg]∧H1=H) I ⟨rfl,rfl⟩
 rw [he] at hq ⊢
 refine Calls.evalArgs_plain (wpAny_mono hq (fun us s2 ⟨vs,H1,I2,r,e1,e2⟩=>?_) fun _ _ z=>z)
 subst e1 e2
 refine ⟨rfl,?_,I2.bk _ _ c1,c2.keeps I2.bk,c4.keeps I2.bk,fun h' e hm'=>?_⟩
 ·rw [← r.length]; exact Nat.le_of_lt (small1000 (n:=1) (by decide))
 ·obtain ⟨t,h1,h2,h3⟩:=hm'.there
  have I3:=I2.kept (h':=h') (t':=s2.toks) hm'.keeps
  have nw:=nw_of I2 hex hm'.new
  exact hW pins σ _ _ e I3 h ⟨none,⟨_,h1,rfl⟩,nw,fun t z=>nomatch z⟩
end
end L2.EP
namespace L2.EP
open PySem PySem.Spec PyProof.Rows
abbrev Cx.hold (X:Cx) (Y:Value→Shared→Prop) (pn:List (Addr × Obj)):Cx:={ X with xe:=Y,pn:=pn }
abbrev Cx.caught (X:Cx) (e:Addr) (pn:List (Addr × Obj)):Cx:={ X with A:=X.A.mark (some (.ref e)),calm:=false,xe:=fun _ _=>False,pn:=pn }
section
variable {X:Cx} {pins pn:List (Addr × Obj)} {σ:St} {H:Hp} {s:Shared} {Y:Value→Shared→Prop} {C e:Addr}
theorem ok_hold (ok:X.Ok):(Cx.hold X Y pn).Ok:=⟨ok.mod,ok.kind,ok.glob,ok.blt,ok.above,ok.inj,ok.has,ok.cab,ok.hd,ok.frames,ok.stk,ok.exf,ok.bs,ok.bsz,ok.noex,ok.exfs,ok.funs,ok.frf⟩
theorem ok_caught (ok:X.Ok):(Cx.caught X e pn).Ok:=⟨ok.mod,ok.kind,ok.glob,ok.blt,ok.above,ok.inj,ok.has,ok.cab,fun z=>Bool.noConfusion z,ok.frames,ok.stk,ok.exf,ok.bs,ok.bsz,ok.noex,ok.exfs,ok.funs,ok.frf⟩
theorem inv_hold (I:Inv X pins σ H s):Inv (Cx.hold X Y (X.pn ++ pins)) [] σ H s:=⟨ok_hold I.ok,I.os,I.bare,I.base,I.loc,I.cell,I.free,I.freeC,fun p hp=>I.pin p (by simpa using hp),I.hok,I.len⟩
theorem inv_unhold {pins':List (Addr × Obj)} (ok:X.Ok) (I:Inv (Cx.hold X Y (X.pn ++ pins)) pins' σ H s):Inv X pins σ H s:=⟨ok,I.os,I.bare,I.base,I.loc,I.cell,I.free,I.freeC,fun p hp=>I.pin p (List.mem_append_left _ hp),I.hok,I.len⟩
theorem inv_caught {vs:Array Value} (I:Inv X pins σ H s) (he:s.heap.get? e=some (Xo C vs)) (n:Nw X pins H e) (nf:e ∉ X.fs):Inv (Cx.caught X e (X.pn ++ pins ++ [(e,Xo C vs)])) [] σ H s:=by
 refine ⟨ok_caught I.ok,I.os,I.bare,I.base,I.loc,I.cell,I.free,I.freeC,fun p hp=>?_,I.hok,I.len⟩
 rw [List.append_nil] at hp
 rcases List.mem_append.mp hp with hp | hp
 ·exact I.pin p hp
 ·have z:p=(e,Xo C vs):=by simpa using hp
  subst z
  refine ⟨he,n.2.1,fun z=>?_,nf,fun v z=>nomatch z⟩
  obtain ⟨m,⟨o,es,ep,ho,hd,_⟩,_⟩:=I.loc
  have z:e=X.env.locals:=z
  rw [← z,he] at ho; cases ho; cases hd
theorem inv_uncaught {pins':List (Addr × Obj)} {l:List (Addr × Obj)} (ok:X.Ok) (I:Inv (Cx.caught X e (X.pn ++ pins ++ l)) pins' σ H s):Inv X pins σ H s:=⟨ok,I.os,I.bare,I.base,I.loc,I.cell,I.free,I.freeC,fun p hp=>I.pin p (List.mem_append_left _ (List.mem_append_left _ hp)),I.hok,I.len⟩
end
end L2.EP
namespace L2.EP
open PySem PySem.Spec PyProof.Rows
section
variable {X:Cx} {pins:List (Addr × Obj)} {σ:St} {H:Hp} {s:Shared} {C D e:Addr} {i:Nat} {n dn:Str} {np hpos pos:Pos} {b₀:Stmt} {suite body:List Stmt} {rest:List ExceptHandler} {Q:Flow→Shared→Prop}
theorem nofs_x {vs:Array Value} (I:Inv X pins σ H s) (he:s.heap.get? e=some (Xo C vs)):e ∉ X.fs:=fun z=>by
 obtain ⟨_,o,ho,nd⟩:=I.funs.mem z
 rw [he] at ho; cases ho; exact nd _ rfl
theorem looks_x {M:Model} {h:Heap} {vs:Array Value} (he:h.get? e=some (Xo C vs)):PySem.W.Looks M h (typeOf (.ref e)) (.ref C):=(PySem.W.Looks.ld he).andThen .now
theorem caught_no (I:Inv X pins σ H s) (fl:Fly X pins H s.heap C e) (hst:X.stack=X.env :: X.outer) (hf:X.env.frame=some X.env.locals) (hex:X.ex=[]) (hgd:Gl X dn) (hmd:X.mg dn=some (.ref D)) (hxm:PySem.W.exmOne X.K (.ref C) (.ref D)=some true)
  (k:∀ s' vs,Inv (Cx.caught X e (X.pn ++ pins ++ [(e,Xo C vs)])) [] σ H s'→wpAny (model X.prog X.w) (X.A.mark (some (.ref e))) (execs (b₀ :: suite) X.env) Q (fun _ _=>False) s') (hdb:(dn == ("__debug__":Str))=false:=by decide) :
  wpAny (model X.prog X.w) X.A (noteFrame (.ref e) X.env) (fun _ s2=>wpAny (model X.prog X.w) X.A (setFlight (.ref e) none) (fun _ s3=>wpAny (model X.prog X.w) X.A (handleBy (.ref e) X.env (.ExceptHandler (some (.Name dn np)) none (b₀ :: suite) hpos :: rest)) Q X.xe s3) X.xe s2) X.xe s:=by
 obtain ⟨T,tr,ne,nt⟩:=fl
 refine land_x (base:=X.base) (by rw [I.ok.frames,hst]) (hst ▸ I.stack) hf tr fun h' t c tr' l=>?_
 have I2:=inv_chg I (h':=h') (by rw [hst]; exact c) fun b z=>⟨by rcases z with rfl | z; exact ne; exact nt b z,tr.recs b z⟩
 have ntt:=nw_size I hex l
 obtain ⟨vs,he,hv,nte,oT,ts,ho,hd,h3⟩:=tr'
 refine wpAny_handleBy_cons (codeAny_handlers_test ?_) (by intro q; cases q)
 refine ld_glob (X:=Cx.caught X e _) (inv_caught I2 he ne (nofs_x I2 he)) hgd hmd ?_ hdb
 refine (PySem.W.exm_one (K:=X.K) I2.kIn (looks_x he) hxm).here ?_
 refine codeAny_handlers_suite ?_
 refine flight_x he hv nte ho hd h3 fun h2 c2 he2 tr2=>?_
 have I3:=inv_chg I2 (h':=h2) (c2.mono (ch':=fun b=>b=t) (fun _ z=>z) (fun _ z=>nomatch z)) fun b z=>by
  subst z; exact ⟨ntt,oT,ts,ho,hd⟩
 exact wpAny_mono (k _ vs (inv_caught I3 he2 ne (nofs_x I3 he2))) (fun _ _ z=>z) fun _ _ z=>z.elim
theorem ps_try_no {W:St→Hp→Prop} {W0:St→Hp→Prop} {th:TS} (hst:X.stack=X.env :: X.outer) (hf:X.env.frame=some X.env.locals) (hex:X.ex=[]) (hgd:Gl X dn) (hmd:X.mg dn=some (.ref D)) (hxm:PySem.W.exmOne X.K (.ref C) (.ref D)=some true)
  (hb:∀ Y pn,(∀ pins σ H s e,Inv (Cx.hold X Y pn) pins σ H s→W σ H→Fly (Cx.hold X Y pn) pins H s.heap C e→Y (.ref e) s)→PSs (Cx.hold X Y pn) body (fun _ σ H=>W0 σ H))
  (hh:∀ e vs pn,(e,Xo C vs)∈pn→PSs (Cx.caught X e pn) (b₀ :: suite) th) (hdb:(dn == ("__debug__":Str))=false:=by decide) :
  PS X (.Try body [.ExceptHandler (some (.Name dn np)) none (b₀ :: suite) hpos] [] [] pos) (fun De σ H=>W0 σ H∧∀ σ' H',W σ' H'→th De σ' H'):=by
 intro pins s σ H De I ⟨h0,h1⟩
 refine wpAny_Try_except ?_
 have hB:=hb (fun e s₁=>wpAny (model X.prog X.w) X.A (noteFrame e X.env) (fun _ s₂=>wpAny (model X.prog X.w) X.A (setFlight e none) (fun _ s₃=>wpAny (model X.prog X.w) X.A (handleBy e X.env [.ExceptHandler (some (.Name dn np)) none (b₀ :: suite) hpos]) (SP X pins De) X.xe s₃) X.xe s₂) X.xe s₁) (X.pn ++ pins) (fun pins' σ' H' s' e I' w fl=>?_)
 ·exact wpAny_mono (hB [] s σ H { nx:=fun _ _=>False,rt:=fun _ _=>False } (inv_hold I) h0) (fun f s1 z=>by
   cases f with
   | next=>obtain ⟨_,_,_,z⟩:=z; exact z.elim
   | ret v=>obtain ⟨_,_,_,_,_,z⟩:=z; exact z.elim
   | brk=>obtain ⟨_,_,_,z⟩:=z; exact z.elim
   | cont=>obtain ⟨_,_,_,z⟩:=z; exact z.elim) fun _ _ z=>z
 ·have I2:Inv X pins σ' H' s':=inv_unhold I.ok I'
  obtain ⟨T,tr,n1,n2⟩:=fl
  have sub:∀ a,Nw (Cx.hold X (fun e s₁=>wpAny (model X.prog X.w) X.A (noteFrame e X.env) (fun _ s₂=>wpAny (model X.prog X.w) X.A (setFlight e none) (fun _ s₃=>wpAny (model X.prog X.w) X.A (handleBy e X.env [.ExceptHandler (some (.Name dn np)) none (b₀ :: suite) hpos]) (SP X pins De) X.xe s₃) X.xe s₂) X.xe s₁) (X.pn ++ pins)) pins' H' a→Nw X pins H' a:=fun a z=>⟨z.1,z.2.1,fun p hp=>z.2.2 p (List.mem_append_left _ hp)⟩
  refine caught_no I2 ⟨T,tr,sub _ n1,fun t z=>sub _ (n2 t z)⟩ hst hf hex hgd hmd hxm (fun s'' vs I3=>?_) hdb
  refine wpAny_mono (hh e vs _ (by simp) [] s'' _ _ De I3 (h1 σ' H' w)) (fun f s4 z=>?_) fun _ _ z=>z
  cases f with
  | next=>obtain ⟨σ2,H2,J,z⟩:=z; exact ⟨_,_,inv_uncaught I.ok J,z⟩
  | ret v=>obtain ⟨u,σ2,H2,J,r,z⟩:=z; exact ⟨u,_,_,inv_uncaught I.ok J,r,z⟩
  | brk=>obtain ⟨σ2,H2,J,z⟩:=z; exact ⟨_,_,inv_uncaught I.ok J,z⟩
  | cont=>obtain ⟨σ2,H2,J,z⟩:=z; exact ⟨_,_,inv_uncaught I.ok J,z⟩
theorem ps_try_ok {tb:TS} {h₀:ExceptHandler} (hb:PSs X.nox body tb):PS X (.Try body (h₀ :: rest) [] [] pos) tb:=by
 intro pins s σ H De I h
 refine wpAny_Try_except (wpAny_mono (hb pins s σ H De (I.wish _) h) (fun f s1 z=>?_) fun _ _ z=>z.elim)
 have z:=z.unwish
 cases f with
 | next=>exact wpAny_execs_nil z
 | ret v=>exact z
 | brk=>exact z
 | cont=>exact z
end
end L2.EP
namespace L2.EP
open PySem PySem.Spec PyProof.Rows
structure Xn where
 e:Addr
instance:Py Xn where
 rp _ _ _ v a:=v=.ref a.e
 tr _ _ h:=h
structure RB where
 B:Hp
 H0:Hp
 F:Addr→Prop
def Stb (K:PySem.W.Frag) (R:RB) (Γ:GEnv) (σ:St) (H:Hp):Prop:=∃ O,Same R.B (off H O)∧Sta K R.H0 R.F O Γ σ H
theorem Stb.go {K:PySem.W.Frag} {R:RB} {Γ:GEnv} {σ:St} {H H':Hp} (z:Stb K R Γ σ H) (s:Same H H'):Stb K R Γ σ H':=let ⟨O,m,Z⟩:=z; ⟨O,m.trans (off_mono s),Z.go s⟩
def Acc (X:Cx) (R:RB) (Γ:GEnv) (C:Addr):Prop:=∀ pins σ H s e,Inv X pins σ H s→Stb X.K R Γ σ H→Fly X pins H s.heap C e→X.xe (.ref e) s
@[irreducible] def ER (X:Cx) (R:RB) (Γ:GEnv) (e:Expr):Prop:=PE X e (fun σ H _=>Stb X.K R Γ σ H)
@[irreducible] def SR (X:Cx) (R:RB) (Γ:GEnv) (st:List Stmt):Prop:=PSs X st (fun _ σ H=>Stb X.K R Γ σ H)
section
variable {X:Cx} {R:RB} {Γ:GEnv} {D:GD} {α β γ:Type} [Py α] [Py β] [Py γ] {e e1 e2 e3:Expr} {b b1 b2 b3:Bool} {p pos np cpos cps:Pos} {st:Stmt} {rest body orelse:List Stmt} {C:Addr} {cn:Str}
theorem sr_raise {msg:Str} {j:Nat} (hA:Acc X R Γ C) (hg:Gl X cn) (hm:X.mg cn=some (.ref C)) (hc:RzK X.K C) (hcm:X.calm=true:=by rfl) (hex:X.ex=[]:=by rfl) (hd:(cn == ("__debug__":Str))=false:=by decide) :
  SR X R Γ (.Raise (some (.Call (.Name cn np) [.Constant (.str msg) j cps] [] cpos)) none pos :: rest):=by
 with_unfolding_all
  exact pss_cons (u:=tNever) (ps_raise (W:=fun σ H=>Stb X.K R Γ σ H) hcm hex hg hm hc (fun pins σ H s e I z fl=>hA pins σ H s e I z fl) hd) pss_never
theorem sr_ret (h:ER X R Γ e):SR X R Γ (.Return (some e) pos :: rest):=by
 with_unfolding_all
  exact pss_cons (u:=tNever) (ps_wk (ps_ret h) fun _ _ _ z=>z) pss_never
theorem sr_asgR (i:Nat) {x:Str} (hN:X.N.Nodup) (h:ER X R Γ e) (hi:X.N[i]?=some x:=by rfl) (hx:Loc X.env.scope x:=by first | exact Or.inl rfl | exact Or.inr rfl)
  (hs:swapsWith e (some (.Name x p)) pos.line X.env=pure false:=by rfl) (hf:X.fn x=true∨X.env.scope.names.lookup x=some .local:=by first | exact .inl rfl | exact .inr rfl):SR X R Γ (.Assign [.Name x p] e pos :: rest):=by
 with_unfolding_all
  exact pss_cons (u:=tNever) (ps_wk (ps_set hN hi hx h hs hf) fun _ _ _ z=>z) pss_never
theorem sr_asg (i:Nat) {x:Str} {a:α} (hN:X.N.Nodup) (he:E X Γ e b a) (h:SR X R (Γ.set i (some (.val b a))) rest) (hi:X.N[i]?=some x:=by rfl) (hx:Loc X.env.scope x:=by first | exact Or.inl rfl | exact Or.inr rfl)
  (hs:swapsWith e (some (.Name x p)) pos.line X.env=pure false:=by rfl) (hf:X.fn x=true∨X.env.scope.names.lookup x=some .local:=by first | exact .inl rfl | exact .inr rfl):SR X R Γ (.Assign [.Name x p] e pos :: rest):=by
 with_unfolding_all
  exact pss_wk (pss_cons (ps_set hN hi hx he hs hf) h) fun De σ H ⟨O,m,Z⟩=>⟨R.H0,R.F,O,Z,fun v H1 s1 r1=>⟨O,m.trans (off_mono s1),(Z.go s1).set r1⟩⟩
theorem sr_ifT (hc:T X Γ e true) (h:SR X R Γ body):SR X R Γ (.If e body orelse pos :: rest):=by
 with_unfolding_all
  exact pss_wk (pss_cons (u:=tNever) (ps_if hc h pss_never) pss_never) fun De σ H ⟨O,m,Z⟩=>⟨R.H0,R.F,O,Z,fun H1 s1=>iteT ⟨O,m.trans (off_mono s1),Z.go s1⟩⟩
theorem sr_ifF (hc:T X Γ e false) (h:SR X R Γ rest):SR X R Γ (.If e body [] pos :: rest):=by
 with_unfolding_all
  exact pss_wk (pss_cons (ps_if hc pss_never pss_nil) h) fun De σ H ⟨O,m,Z⟩=>⟨R.H0,R.F,O,Z,fun H1 s1=>iteF ⟨O,m.trans (off_mono s1),Z.go s1⟩⟩
end
structure CalR (P:Program) (w:World) (K:PySem.W.Frag) (mg:Str→Option Value) (base:Heap) (k:Nat) (name:Str) (ps:List Str) (sp:Sp):Prop where
 ex:∃ (f:Addr) (fd:FuncData),FnOk P w K mg base (CX1 P w) k f fd ps sp∧Binds K fd ps []∧PySem.W.keepIn K (.ref f)=true∧mg name=some (.ref f)
def spR2 {α β:Type} [Py α] [Py β] (K:PySem.W.Frag) (pre:α→β→Prop) (C:Addr):Sp:=fun vs H _ E=>∃ O v w a c,OwnL H O∧vs=[v,w]∧Py.rp K .any (off H O) v a∧Py.rp K .any (off H O) w c∧pre a c∧∀ H',Same H H'→E (.ref C) none H'
section
variable {X:Cx} {R:RB} {Γ:GEnv} {α β γ:Type} [Py α] [Py β] [Py γ] {e e1 e2 e3:Expr} {es:List Expr} {b b1 b2 b3:Bool} {p pos:Pos} {C f:Addr} {x name:Str} {k:Nat} {ps:List Str} {fd:FuncData} {t:TA} {sp:Sp}
theorem pe_callR {W:St→Hp→Prop} {E':St→Hp→XK} (G:FnOk X.prog X.w X.K X.mg X.base (CX1 X.prog X.w) k f fd ps sp) (hr:Room k X.A) (hg:Gl X x) (hm:X.mg x=some (.ref f)) (hk:PySem.W.keepIn X.K (.ref f)=true) (hb:Binds X.K fd ps []) (hex:X.ex=[])
  (hx:∀ pins σ H H' s e C,W σ H→Inv X pins σ H' s→Fly X pins H' s.heap C e→E' σ H (.ref C) none H'→X.xe (.ref e) s)
  (ha:PA X (e :: es) t) (hdb:(x == ("__debug__":Str))=false:=by decide) (he:starEach (e :: es) X.env=(false,eval e X.env) :: starEach es X.env:=by rfl) (hpl:(backTo pos (starEach es X.env)).any (·.1)=false:=by rfl) :
  PE X (.Call (.Name x p) (e :: es) [] pos) (fun σ H _=>t σ H fun vs H1=>W σ H1∧sp vs H1 (fun _ _=>False) (E' σ H1)):=by
 intro pins s σ H Q I h
 refine wpAny_Call_Name_kw (ld_glob I hg hm ?_ hdb)
 refine PySem.W.callWith_K (h₀:=X.base) I.ok.mod.kin hk (thn (ha pos pins s σ H _ I h) fun us s1 ⟨vs,H1,I1,r,w,q⟩=>⟨I1.kIn,?_⟩) he hpl
 have hl:us.length=ps.length:=by rw [← r.length]; exact G.len _ _ _ _ q
 have hbb:=hb s1 us I1.kIn (by rw [List.append_nil]; exact hl)
 rw [List.append_nil] at hbb
 refine wpAny_call (codeAny_mono (G.run X.A X.stack s1 H1 ⟨us,[]⟩ us vs _ _ hr I1.env0 hbb r q) fun r s' hq=>?_)
 cases r with
 | error ev =>
  obtain ⟨a,C,H',rfl,I',fl,z⟩:=pass1 I1 hex hq
  exact hx pins σ H1 H' s' a C w I' fl z
 | ok fl =>
  cases fl with
  | ret u=>obtain ⟨_,_,_,_,_,_,_,z⟩:=hq; exact z.elim
  | next=>exact False.elim hq
  | brk=>exact False.elim hq
  | cont=>exact False.elim hq
theorem acc_go {pins:List (Addr × Obj)} {σ:St} {H H':Hp} {s:Shared} {a C':Addr} (hA:Acc X R Γ C) (w:Stb X.K R Γ σ H) (I:Inv X pins σ H' s) (fl:Fly X pins H' s.heap C' a) (z:(.ref C':Value)=.ref C∧Same H H'):X.xe (.ref a) s:=by
 obtain ⟨z1,z2⟩:=z
 cases z1
 exact hA pins σ H' s a I (w.go z2) fl
theorem er_call2 {pre:α→β→Prop} {a:α} {c:β} (Cl:CalR X.prog X.w X.K X.mg X.base k name ps (spR2 X.K pre C)) (hA:Acc X R Γ C) (hr:Room k X.A) (hg:Gl X name) (h1:E X Γ e1 b1 a) (h2:E X Γ e2 b2 c) (hp:pre a c) (hex:X.ex=[]:=by rfl)
  (hs1:starEach [e1,e2] X.env=(false,eval e1 X.env) :: starEach [e2] X.env:=by rfl) (hs2:starEach [e2] X.env=(false,eval e2 X.env) :: starEach [] X.env:=by rfl) (hdb:(name == ("__debug__":Str))=false:=by decide) (hpl:(backTo pos (starEach [e2] X.env)).any (·.1)=false:=by rfl) :
  ER X R Γ (.Call (.Name name p) [e1,e2] [] pos):=by
 with_unfolding_all
  obtain ⟨fa,fd,G,B,kp,m⟩:=Cl.ex
  exact pe_wk (pe_callR (W:=fun σ H=>Stb X.K R Γ σ H) (E':=fun _ H cls _ H'=>cls=.ref C∧Same H H') G hr hg m kp B hex (fun pins σ H H' s a C' w I fl z=>acc_go hA w I fl z) (pa_cons h1 (pa_cons h2 pa_nil hs2) hs1) hdb hs1 hpl) fun σ H Q ⟨O,m,S⟩=>⟨R.H0,R.F,O,S,fun v1 H1 s1 r1=>⟨R.H0,R.F,O,S.go s1,fun v2 H2 s2 r2 =>
   ⟨⟨O,m.trans (off_mono (s1.trans s2)),S.go (s1.trans s2)⟩,O,v1,v2,a,c,(S.go (s1.trans s2)).own,rfl,rp_wid nf_true (rp_mono (off_mono s2) r1),rp_wid nf_true r2,hp,fun H' s'=>⟨rfl,s'⟩⟩⟩⟩
end
section
variable {P:Program} {w:World} {K:PySem.W.Frag} {mg:Str→Option Value} {base:Heap} {N ps:List Str} {k:Nat} {x qual:Str} {st:Stmt} {f:Addr} {fd:FuncData}
def BodyR (P:Program) (w:World) (K:PySem.W.Frag) (mg:Str→Option Value) (base:Heap) (N:List Str) (qual:Str) (st:Stmt) (f:Addr) (k:Nat) (gs:List Bd) (C:Addr):Prop :=
 ∀ (cdv:Value) (A:Around) (outer:List Env) (s:Shared) (H:Hp) (E:XK) (R:RB),Room k (A.deeper (envOfC qual (defScope st) s.heap.objs.size f cdv)) →
  (∀ Γ,Acc (cx1 P w K mg base N qual st f cdv A outer s H E) R Γ C)→SR (cx1 P w K mg base N qual st f cdv A outer s H E) R (gst N gs) (defBody st)
theorem fn_R {sp:Sp} {C:Addr} (G:Fun K x qual st f fd) (S:FnScope N ps (defScope st)) (len:∀ vs H Q E,sp vs H Q E→vs.length=ps.length)
  (hb:∀ (vs:List V) (H:Hp) (Q:VK) (E:XK),sp vs H Q E→∃ O gs,OwnL H O∧Args K (off H O) vs gs∧BodyR P w K mg base N qual st f k gs C∧∀ H',Same H H'→E (.ref C) none H'):FnOk P w K mg base (CX1 P w) (k + 1) f fd ps sp:=by
 with_unfolding_all
  obtain ⟨oc,od,kV,doc,pm,an,cdv,ct,osl,rfl,lk,hcd⟩:=G.ex
  refine fn_of lk hcd S len fun A outer s H vs Q E hr hsp=>?_
  obtain ⟨O,gs,ho,ha,B,q⟩:=hb vs H Q E hsp
  exact ⟨_,B cdv A outer s H E ⟨off H O,H,O⟩ hr (fun Γ pins σ H1 s1 e I ⟨O1,m,Z⟩ fl=>acc_def I fl (q H1 Z.same)),O,Same.refl _,sta_start ho ha⟩
theorem fnR2 {α β:Type} [Py α] [Py β] {pre:α→β→Prop} {C:Addr} (G:Fun K x qual st f fd) (sc:FnScope N ps (defScope st)) (hl:ps.length=2) (B:∀ a c,pre a c→BodyR P w K mg base N qual st f k [.val false a,.val false c] C):FnOk P w K mg base (CX1 P w) (k + 1) f fd ps (spR2 K pre C):=by
 refine fn_R (C:=C) G sc (fun vs H Q E h=>?_) fun vs H Q E h=>?_
 ·obtain ⟨O,v,v2,a,c,_,rfl,_⟩:=h; rw [hl]; rfl
 ·obtain ⟨O,v,v2,a,c,ho,rfl,r,r2,hp,q⟩:=h
  exact ⟨O,_,ho,.cons r (.cons r2 .nil),B a c hp,q⟩
theorem Df.calR {h:Heap} {sp:Sp} (D:Df K x st) (X:K.In h) (G:h.Ns mainGlobals mg) (hb:∀ (kV doc pm:Value) (an:Option Addr) (cdv ct:Value) (us:List Value),us.length=ps.length→bindArgs (PySem.W.fnOf x x (defArgs st) (defBody st) (defScope st) .none kV doc pm an cdv ct) ⟨us,[]⟩=pure (ps.zip us))
  (ok:∀ f fd,Fun K x x st f fd→FnOk P w K mg base (CX1 P w) k f fd ps sp):CalR P w K mg base k x ps sp:=by
 obtain ⟨f,fd,a,F⟩:=D
 exact ⟨f,fd,ok f fd F,F.binds hb,F.kp,PySem.W.mg_of X G a⟩
end
end L2.EP
namespace L2.EP
open PySem PySem.Spec PyProof.Rows
section
variable {X:Cx} {Γ:GEnv} {D:GD} {α β γ:Type} [Py α] [Py β] [Py γ] {e e1 e2 e3:Expr} {b b1 b2 b3:Bool} {p p2 pos np hpos:Pos} {b₀:Stmt} {rest body suite:List Stmt} {C Cd:Addr} {n dn:Str}
theorem s_try_no (hgd:Gl X dn) (hmd:X.mg dn=some (.ref Cd)) (hxm:PySem.W.exmOne X.K (.ref C) (.ref Cd)=some true)
  (hb:∀ Y pn R,Acc (Cx.hold X Y pn) R Γ C→SR (Cx.hold X Y pn) R Γ body)
  (hh:∀ a pn,S (Cx.caught X a pn) Γ (b₀ :: suite) { D with nx:=fun Γ'=>S X Γ' rest D })
  (hst:X.stack=X.env :: X.outer:=by rfl) (hf:X.env.frame=some X.env.locals:=by rfl) (hex:X.ex=[]:=by rfl) (hdb:(dn == ("__debug__":Str))=false:=by decide) :
  S X Γ (.Try body [.ExceptHandler (some (.Name dn np)) none (b₀ :: suite) hpos] [] [] pos :: rest) D:=by
 with_unfolding_all
  refine s_seq fun pins s σ H De I ⟨H0,F,O,Z,nx,rt,bk,ct⟩=>?_
  refine ps_try_no (W:=fun σ' H'=>Stb X.K ⟨off H O,H0,F⟩ Γ σ' H') (W0:=fun σ' H'=>Stb X.K ⟨off H O,H0,F⟩ Γ σ' H') (th:=tG X.K Γ { D with nx:=fun Γ'=>S X Γ' rest D })
   hst hf hex hgd hmd hxm (fun Y pn hY=>hb Y pn ⟨off H O,H0,F⟩ fun pins' σ' H' s' a I' Z' fl=>hY pins' σ' H' s' a I' Z' fl) (fun a vs pn hm=>hh a pn) hdb pins s σ H De I ⟨⟨O,Same.refl _,Z⟩,fun σ' H' ⟨O',m,Z'⟩=>?_⟩
  exact ⟨H0,F,O',Z',fun Γ2 σ2 H2 O2 m2 Z2 q=>nx _ _ H2 O2 (Same.trans m m2) Z2 q,rt,fun Γ2 σ2 H2 O2 m2 Z2 q=>bk _ _ H2 O2 (Same.trans m m2) Z2 q,fun Γ2 σ2 H2 O2 m2 Z2 q=>ct _ _ H2 O2 (Same.trans m m2) Z2 q⟩
theorem s_try_ok {h₀:ExceptHandler} {hs:List ExceptHandler} (hb:S X.nox Γ body { D with nx:=fun Γ'=>S X Γ' rest D }):S X Γ (.Try body (h₀ :: hs) [] [] pos :: rest) D:=by
 with_unfolding_all
  exact s_seq (ps_try_ok hb)
end
section
variable {prog:Program} {w:World} {A:Around} {E:Value→Shared→Prop} {s:Shared} {K:PySem.W.Frag} {a C:Addr} {ox:Obj}
end
section
variable {X:Cx} {Γ:GEnv} {e:Expr} {b c:Bool} {p p2 pos:Pos} {a C Cd:Addr} {T:Str}
end
structure RoomH (k:Nat) (A:Around):Prop where
 dp:A.depth + 3 * k + 5 < recursionLimit
 un:A.units + 16 * k + 200 < cLine
structure CalH (P:Program) (w:World) (K:PySem.W.Frag) (mg:Str→Option Value) (base:Heap) (k:Nat) (name:Str) (C:Addr) (c:Bool):Prop where
 ex:∃ f:Addr,PySem.W.keepIn K (.ref f)=true∧mg name=some (.ref f)∧∀ (A:Around) (outer:List Env) (s:Shared) (H:Hp) (a:Addr) (vs:Array Value),RoomH k A→Env0 P w K mg base A outer s H→s.heap.get? a=some (Xo C vs)→H a=none→a ∉ frs outer →
  codeAny (model P w) A (.call (.ref f) ⟨[.ref a],[]⟩) (CR CX0 outer P w H s (fun v H'=>v=.bl c∧Same H H') E0) s
section
variable {P:Program} {w:World} {K:PySem.W.Frag} {mg:Str→Option Value} {base h:Heap} {N:List Str} {k:Nat} {x y:Str} {st:Stmt} {C:Addr} {c:Bool}
end
end L2.EP
namespace L2.EP
open PySem PySem.Spec PyProof.Rows
mutual
inductive DN (K:PySem.W.Frag) (N:Nn) (H:Hp):V→PyData→Prop
 | non:DN K N H .non .none
 | bl (b:Bool):DN K N H (.bl b) (.bool b)
 | int (i:Int):DN K N H (.int i) (.int i)
 | str (x:Str):DN K N H (.str x) (.str x)
 | lst {a:Addr} {xs:List V} {ds:List PyData}:SqL K H a xs→N.has H a (.inl xs)→DNs K N H xs ds→DN K N H (.ref a) (.list ds)
 | tup {a:Addr} {xs:List V} {ds:List PyData}:Rt H a xs→DNs K N H xs ds→DN K N H (.ref a) (.tuple ds)
inductive DNs (K:PySem.W.Frag) (N:Nn) (H:Hp):List V→List PyData→Prop
 | nil:DNs K N H [] []
 | cons {x:V} {xs:List V} {d:PyData} {ds:List PyData}:DN K N H x d→DNs K N H xs ds→DNs K N H (x :: xs) (d :: ds)
end
mutual
theorem DN.tr {K:PySem.W.Frag} {N N':Nn} {H H':Hp} (l:∀ p (o:Mt),Mo K H p o→N.has H p o→Mo K H' p o∧N'.has H' p o) (t:∀ p xs,Rt H p xs→Rt H' p xs):∀ {v:V} {d:PyData},DN K N H v d→DN K N' H' v d
 | _,_,.non=>.non
 | _,_,.bl b=>.bl b
 | _,_,.int i=>.int i
 | _,_,.str x=>.str x
 | _,_,.lst (xs:=xs) s n r=>.lst (l _ (.inl xs) s n).1 (l _ (.inl xs) s n).2 (DNs.tr l t r)
 | _,_,.tup s r=>.tup (t _ _ s) (DNs.tr l t r)
theorem DNs.tr {K:PySem.W.Frag} {N N':Nn} {H H':Hp} (l:∀ p (o:Mt),Mo K H p o→N.has H p o→Mo K H' p o∧N'.has H' p o) (t:∀ p xs,Rt H p xs→Rt H' p xs):∀ {v:List V} {d:List PyData},DNs K N H v d→DNs K N' H' v d
 | _,_,.nil=>.nil
 | _,_,.cons h r=>.cons (DN.tr l t h) (DNs.tr l t r)
end
structure Dt where
 d:PyData
instance:Py Dt where
 rp K N H v a:=DN K N H v a.d
 tr l t h:=DN.tr l t h
mutual
theorem DN.dr {K:PySem.W.Frag} {N:Nn} {H:Hp}:∀ {v:V} {d:PyData},DN K N H v d→DR K H v d
 | _,_,.non=>.non
 | _,_,.bl b=>.bl b
 | _,_,.int i=>.int i
 | _,_,.str x=>.str x
 | _,_,.lst s _ r=>.lst s (DNs.dr r)
 | _,_,.tup s r=>.tup (SqU.t (.inl s)) (DNs.dr r)
theorem DNs.dr {K:PySem.W.Frag} {N:Nn} {H:Hp}:∀ {v:List V} {d:List PyData},DNs K N H v d→DRs K H v d
 | _,_,.nil=>.nil
 | _,_,.cons h r=>.cons (DN.dr h) (DNs.dr r)
end
theorem dns_pr {K:PySem.W.Frag} {N:Nn} {H:Hp}:∀ {xs:List V} {ds:List PyData},DNs K N H xs ds→Paired (fun x (b:Dt)=>Py.rp K N H x b) xs (ds.map Dt.mk)
 | _,_,.nil=>.nil
 | _,_,.cons h r=>.cons h (dns_pr r)
theorem pr_dns {K:PySem.W.Frag} {N:Nn} {H:Hp}:∀ {xs:List V} {ds:List Dt},Paired (fun x (b:Dt)=>Py.rp K N H x b) xs ds→DNs K N H xs (ds.map Dt.d)
 | _,_,.nil=>.nil
 | _,_,.cons h r=>.cons h (pr_dns r)
theorem dns_ints {K:PySem.W.Frag} {N:Nn} {H:Hp}:∀ {xs:List V} {ks:List Int},DNs K N H xs (ks.map PyData.int)→Paired (fun x (b:Int)=>Py.rp K N H x b) xs ks
 | _,[],.nil=>.nil
 | _,k :: ks,.cons h r=>by
  cases h
  exact .cons rfl (dns_ints r)
theorem ints_dns {K:PySem.W.Frag} {N:Nn} {H:Hp}:∀ {xs:List V} {ks:List Int},Paired (fun x (b:Int)=>Py.rp K N H x b) xs ks→DNs K N H xs (ks.map PyData.int)
 | _,_,.nil=>.nil
 | _,_,.cons h r=>by
  have h':_=V.int _:=h
  rw [h']
  exact .cons (.int _) (ints_dns r)
section
variable {X:Cx} {Γ:GEnv} {α β:Type} [Py α] [Py β] {e e1 e2:Expr} {b b1 b2:Bool} {p p2 pos:Pos}
theorem e_rp {a:α} {c:β} (h:E X Γ e b a) (w:∀ N H v,Py.rp X.K N H v a→Py.rp X.K N H v c):E X Γ e b c:=by
 with_unfolding_all
  exact pe_wk h fun σ H Q ⟨H0,F,O,S,q⟩=>⟨H0,F,O,S,fun v H1 s1 r1=>q v H1 s1 (w _ _ _ r1)⟩
theorem e_dI {k:Int} (h:E X Γ e b k):E X Γ e b (Dt.mk (.int k)):=e_rp h fun N H v r=>by cases r; exact DN.int k
theorem e_dB {k:Bool} (h:E X Γ e b k):E X Γ e b (Dt.mk (.bool k)):=e_rp h fun N H v r=>by cases r; exact DN.bl k
theorem e_dN (h:E X Γ e b (none:Option Int)):E X Γ e b (Dt.mk .none):=e_rp h fun N H v r=>by cases r; exact DN.non
theorem e_dS {x:Str} (h:E X Γ e b x):E X Γ e b (Dt.mk (.str x)):=e_rp h fun N H v r=>by cases r; exact DN.str x
theorem e_ofdI {k:Int} (h:E X Γ e b (Dt.mk (.int k))):E X Γ e b k:=e_rp h fun N H v r=>by
 have r':DN X.K N H v (.int k):=r
 cases r'; rfl
theorem e_dLI {ks:List Int} (h:E X Γ e b ks):E X Γ e b (Dt.mk (.list (ks.map .int))):=e_rp h fun N H v ⟨p,xs,ev,sq,n,r⟩=>by
 subst ev; exact DN.lst sq n (ints_dns r)
theorem e_ofdLI {ks:List Int} (h:E X Γ e b (Dt.mk (.list (ks.map .int)))):E X Γ e b ks:=e_rp h fun N H v r=>by
 have r':DN X.K N H v (.list (ks.map .int)):=r
 cases r' with
 | lst sq n q=>exact ⟨_,_,rfl,sq,n,dns_ints q⟩
theorem e_dL {ds:List Dt} (h:E X Γ e b ds):E X Γ e b (Dt.mk (.list (ds.map Dt.d))):=e_rp h fun N H v ⟨p,xs,ev,sq,n,r⟩=>by
 subst ev; exact DN.lst sq n (pr_dns r)
theorem e_ofdL {ds:List PyData} (h:E X Γ e b (Dt.mk (.list ds))):E X Γ e b (ds.map Dt.mk):=e_rp h fun N H v r=>by
 have r':DN X.K N H v (.list ds):=r
 cases r' with
 | lst sq n q=>exact ⟨_,_,rfl,sq,n,dns_pr q⟩
theorem e_ofdT {ds:List PyData} (h:E X Γ e b (Dt.mk (.tuple ds))):E X Γ e b (TupL.mk (ds.map Dt.mk)):=e_rp h fun N H v r=>by
 have r':DN X.K N H v (.tuple ds):=r
 cases r' with
 | tup sq q=>exact ⟨_,_,rfl,.inl sq,dns_pr q⟩
def isL:PyData→Bool
 | .list _=>true
 | _=>false
def isTu:PyData→Bool
 | .tuple _=>true
 | _=>false
def isIn:PyData→Bool
 | .int _=>true
 | .bool _=>true
 | _=>false
def isBo:PyData→Bool
 | .bool _=>true
 | _=>false
theorem tup_at {pins:List (Addr × Obj)} {s:Shared} {σ:St} {H:Hp} {a:Addr} {xs:List V} (I:Inv X pins σ H s) (h:SqU X.K H a xs):∃ o,s.heap.get? a=some o∧o.cls=.type "tuple":=by
 obtain ⟨its,rr,pl,_⟩:=I.tuple h.t
 obtain ⟨o,h1,h2,_⟩:=pl
 exact ⟨o,h1,h2⟩
theorem e_isDL {d:PyData} (hg:Gl X "isinstance") (hm:X.mg "isinstance"=none) (hg2:Gl X "list") (hm2:X.mg "list"=none) (ha:E X Γ e b (Dt.mk d))
  (hs:starEach [e,.Name "list" p2] X.env=(false,eval e X.env) :: starEach [.Name "list" p2] X.env:=by rfl):E X Γ (.Call (.Name "isinstance" p) [e,.Name "list" p2] [] pos) true (isL d):=by
 with_unfolding_all
  exact e_isi hg hm hg2 hm2 PyProof.Rows.boot_list ha (fun pins s σ H N v u Q I rv r q=>by
    have rv':DN X.K N H v d:=rv
    cases rv' with
    | non=>cases r; exact IsiPair.NoneType_list (q _)
    | bl x=>cases r; exact IsiPair.bool_list (q _)
    | int x=>obtain ⟨t,rfl⟩:=r; exact IsiPair.int_list (q _)
    | str x=>obtain ⟨t,rfl⟩:=r; exact IsiPair.str_list (q _)
    | lst sq n z =>
     cases r
     obtain ⟨its,rr,pl,_⟩:=I.list sq
     obtain ⟨o,h1,h2,_⟩:=pl.isList
     exact IsiPair.list_list h1 h2 (q s.toks)
    | tup sq z =>
     cases r
     obtain ⟨o,h1,h2⟩:=tup_at I (.inl sq)
     exact IsiPair.tuple_list h1 h2 (q _)) hs
theorem e_isDT {d:PyData} (hg:Gl X "isinstance") (hm:X.mg "isinstance"=none) (hg2:Gl X "tuple") (hm2:X.mg "tuple"=none) (ha:E X Γ e b (Dt.mk d))
  (hs:starEach [e,.Name "tuple" p2] X.env=(false,eval e X.env) :: starEach [.Name "tuple" p2] X.env:=by rfl):E X Γ (.Call (.Name "isinstance" p) [e,.Name "tuple" p2] [] pos) true (isTu d):=by
 with_unfolding_all
  exact e_isi hg hm hg2 hm2 PyProof.Rows.boot_tuple ha (fun pins s σ H N v u Q I rv r q=>by
    have rv':DN X.K N H v d:=rv
    cases rv' with
    | non=>cases r; exact IsiPair.NoneType_tuple (q _)
    | bl x=>cases r; exact IsiPair.bool_tuple (q _)
    | int x=>obtain ⟨t,rfl⟩:=r; exact IsiPair.int_tuple (q _)
    | str x=>obtain ⟨t,rfl⟩:=r; exact IsiPair.str_tuple (q _)
    | lst sq n z =>
     cases r
     obtain ⟨its,rr,pl,_⟩:=I.list sq
     obtain ⟨o,h1,h2,_⟩:=pl.isList
     exact IsiPair.list_tuple h1 h2 (q _)
    | tup sq z =>
     cases r
     obtain ⟨o,h1,h2⟩:=tup_at I (.inl sq)
     exact IsiPair.tuple_tuple h1 h2 (q s.toks)) hs
theorem e_isDI {d:PyData} (hg:Gl X "isinstance") (hm:X.mg "isinstance"=none) (hg2:Gl X "int") (hm2:X.mg "int"=none) (ha:E X Γ e b (Dt.mk d))
  (hs:starEach [e,.Name "int" p2] X.env=(false,eval e X.env) :: starEach [.Name "int" p2] X.env:=by rfl):E X Γ (.Call (.Name "isinstance" p) [e,.Name "int" p2] [] pos) true (isIn d):=by
 with_unfolding_all
  exact e_isi hg hm hg2 hm2 PyProof.Rows.boot_int ha (fun pins s σ H N v u Q I rv r q=>by
    have rv':DN X.K N H v d:=rv
    cases rv' with
    | non=>cases r; exact IsiPair.NoneType_int (q _)
    | bl x=>cases r; exact IsiPair.bool_int (q s.toks)
    | int x=>obtain ⟨t,rfl⟩:=r; exact IsiPair.int_int (q s.toks)
    | str x=>obtain ⟨t,rfl⟩:=r; exact IsiPair.str_int (q _)
    | lst sq n z =>
     cases r
     obtain ⟨its,rr,pl,_⟩:=I.list sq
     obtain ⟨o,h1,h2,_⟩:=pl.isList
     exact IsiPair.list_int h1 h2 (q _)
    | tup sq z =>
     cases r
     obtain ⟨o,h1,h2⟩:=tup_at I (.inl sq)
     exact IsiPair.tuple_int h1 h2 (q _)) hs
theorem e_isDB {d:PyData} (hg:Gl X "isinstance") (hm:X.mg "isinstance"=none) (hg2:Gl X "bool") (hm2:X.mg "bool"=none) (ha:E X Γ e b (Dt.mk d))
  (hs:starEach [e,.Name "bool" p2] X.env=(false,eval e X.env) :: starEach [.Name "bool" p2] X.env:=by rfl):E X Γ (.Call (.Name "isinstance" p) [e,.Name "bool" p2] [] pos) true (isBo d):=by
 with_unfolding_all
  exact e_isi hg hm hg2 hm2 PyProof.Rows.boot_bool ha (fun pins s σ H N v u Q I rv r q=>by
    have rv':DN X.K N H v d:=rv
    cases rv' with
    | non=>cases r; exact IsiPair.NoneType_bool (q _)
    | bl x=>cases r; exact IsiPair.bool_bool (q s.toks)
    | int x=>obtain ⟨t,rfl⟩:=r; exact IsiPair.int_bool (q _)
    | str x=>obtain ⟨t,rfl⟩:=r; exact IsiPair.str_bool (q _)
    | lst sq n z =>
     cases r
     obtain ⟨its,rr,pl,_⟩:=I.list sq
     obtain ⟨o,h1,h2,_⟩:=pl.isList
     exact IsiPair.list_bool h1 h2 (q _)
    | tup sq z =>
     cases r
     obtain ⟨o,h1,h2⟩:=tup_at I (.inl sq)
     exact IsiPair.tuple_bool h1 h2 (q _)) hs
theorem cv_eqD {d c:PyData} (hu:X.A.units + 60 < cLine) (l1:d.canLay0=true) (l2:c.canLay0=true) (hd:d.depth≤60):CV X .Eq (Dt.mk d) (Dt.mk c) (PyData.eqv d c):=⟨_,op_eqD hu,fun N N' H u v Q h1 h2 q=>⟨d,c,DN.dr h1,DN.dr h2,l1,l2,hd,q⟩⟩
theorem cv_neD {d c:PyData} (hu:X.A.units + 60 < cLine) (l1:d.canLay0=true) (l2:c.canLay0=true) (hd:d.depth≤60):CV X .NotEq (Dt.mk d) (Dt.mk c) (!PyData.eqv d c):=⟨_,op_neD hu,fun N N' H u v Q h1 h2 q=>⟨d,c,DN.dr h1,DN.dr h2,l1,l2,hd,q⟩⟩
theorem e_fromN [PyT α] {xs:List α} {k:Int} (ha:E X Γ e1 b xs) (hb:E X Γ e2 b2 k) (h0:0≤k):E X Γ (.Subscript e1 (.Slice (some e2) none none p2) pos) true (xs.drop k.toNat):=by
 with_unfolding_all
  exact pe_wk (pe_slice sl_list ha (po_some hb) po_none) fun σ H Q ⟨H0,F,O,S,q⟩=>⟨H0,F,O,S,fun v H1 s1 r1=>⟨H0,F,O,S.go s1,fun w H2 s2 r2=>by
    obtain ⟨p,vs,e,sq,n,r⟩:=r1
    refine ⟨k,r2,p,vs,e,(off_same _ _).seq ((off_mono s2).seq sq),fun l hl=>?_⟩
    obtain ⟨z1,z2⟩:=laid_lst (xs:=cutV vs (some k) none) ((S.go s1).go s2) hl
    refine q _ _ (s1.trans (s2.trans z1)) ⟨l,_,rfl,SqL.of z2,Nf.wk (b:=true) (((S.go s1).go s2).free0 hl) z2,?_⟩
    have ec:cutV vs (some k) none=vs.drop k.toNat:=by
     unfold cutV
     have hk:k=((k.toNat:Nat):Int):=by omega
     rw [hk,HT.sIx_nat,HT.sIx_none]
     simp only [Int.toNat_natCast]
     by_cases hkn:k.toNat≤vs.length
     ·rw [Nat.min_eq_left hkn,List.take_of_length_le (by rw [List.length_drop]; exact Nat.le_refl _)]
     ·rw [Nat.min_eq_right (by omega),List.drop_eq_nil_of_le (Nat.le_refl _),List.drop_eq_nil_of_le (by omega)]; simp
    have rr:=pr_imp (fun _ _ z=>PyT.free (N':=Nf H0 true) (fun _ _ t=>Same.rt ((off_mono s2).trans (off_mono z1)) t) z) (pr_drop k.toNat r)
    rw [← ec] at rr
    exact rr⟩⟩
theorem e_lenU {ds:List α} {p:Pos} (hg:Gl X "len") (hm:X.mg "len"=none) (ha:E X Γ e b (TupL.mk ds)) (hs:starEach [e] X.env=(false,eval e X.env) :: starEach [] X.env:=by rfl):E X Γ (.Call (.Name "len" p) [e] [] pos) true (ds.length:Int):=by
 with_unfolding_all
  exact pe_wk (pe_callB call_len_seq hg hm PySem.boot_len (pa_cons ha pa_nil hs) (he:=hs)) fun σ H Q ⟨H0,F,O,S,q⟩=>⟨H0,F,O,S,fun v H1 s1 r1=>by
    obtain ⟨p,vs,e,sq,r⟩:=r1
    refine ⟨p,vs,by rw [e],.inr (sqT_same (off_same _ _) sq).t,q _ H1 s1 ?_⟩
    show V.int _=V.int _
    rw [pr_len r]⟩
theorem e_tupD {es:List Expr} {ds:List Dt} {k:Nat} (h:EA X Γ es b ds) (hl:ds.length≤1000):E X Γ (.Tuple es k pos) b (Dt.mk (.tuple (ds.map Dt.d))):=by
 with_unfolding_all
  exact pe_wk (pe_tup h) fun σ H Q ⟨H0,F,O,S,q⟩=>⟨H0,F,O,S,fun vs H1 s1 r1=>⟨by rw [pr_len r1]; exact Nat.le_of_lt (small1000 hl),fun p hp=>by
    obtain ⟨z1,z2⟩:=laid_tup (xs:=vs) (S.go s1) hp
    exact q _ _ (s1.trans z1) (DN.tup z2 (pr_dns (pr_imp (fun _ _ r=>rp_mono (off_mono z1) r) r1)))⟩⟩
def frD (u:Int × Int):PyData:=.tuple [.int u.1,.int u.2]
theorem fr_dn {K:PySem.W.Frag} {N:Nn} {H:Hp} {v:V} {u:Int × Int} (h:Py.rp K N H v u):DN K N H v (frD u):=by
 obtain ⟨p,x,y,ev,sq,r1,r2⟩:=h
 have r1':x=V.int _:=r1
 have r2':y=V.int _:=r2
 subst ev r1' r2'
 exact DN.tup sq (.cons (.int _) (.cons (.int _) .nil))
theorem dn_fr {K:PySem.W.Frag} {N:Nn} {H:Hp} {v:V} {u:Int × Int} (h:DN K N H v (frD u)):Py.rp K N H v u:=by
 unfold frD at h
 cases h with
 | tup sq q =>
  cases q with
  | cons h1 q =>
   cases h1
   cases q with
   | cons h2 q =>
    cases h2
    cases q
    exact ⟨_,_,_,rfl,sq,rfl,rfl⟩
theorem frs_dn {K:PySem.W.Frag} {N:Nn} {H:Hp}:∀ {xs:List V} {us:List (Int × Int)},Paired (fun x (b:Int × Int)=>Py.rp K N H x b) xs us→DNs K N H xs (us.map frD)
 | _,_,.nil=>.nil
 | _,_,.cons h t=>.cons (fr_dn h) (frs_dn t)
theorem dn_frs {K:PySem.W.Frag} {N:Nn} {H:Hp}:∀ {xs:List V} {us:List (Int × Int)},DNs K N H xs (us.map frD)→Paired (fun x (b:Int × Int)=>Py.rp K N H x b) xs us
 | _,[],.nil=>.nil
 | _,u :: us,.cons h t=>.cons (dn_fr h) (dn_frs t)
theorem e_dFr {u:Int × Int} (h:E X Γ e b u):E X Γ e b (Dt.mk (frD u)):=e_rp h fun N H v r=>fr_dn r
theorem e_ofdFr {u:Int × Int} (h:E X Γ e b (Dt.mk (frD u))):E X Γ e b u:=e_rp h fun N H v r=>dn_fr r
end
section
variable {X:Cx} {Γ:GEnv} {D:GD} {α β γ:Type} [Py α] [Py β] [Py γ] {e e1 e2:Expr} {b b1 b2:Bool} {pos:Pos} {rest st:List Stmt}
theorem s_ownL (i:Nat) {es:List Expr} {as:List α} {x:Str} {p p1:Pos} (hN:X.N.Nodup) (ha:EA X Γ es b as) (hl:as.length≤1000) (h:S X (Γ.set i (some (.own b as))) rest D) (hi:X.N[i]?=some x:=by rfl) (hx:Loc X.env.scope x:=by first | exact Or.inl rfl | exact Or.inr rfl)
  (hs2:swapsWith (.List es p) (some (.Name x p1)) pos.line X.env=pure false:=by rfl) (hf:X.fn x=true∨X.env.scope.names.lookup x=some .local:=by first | exact .inl rfl | exact .inr rfl):S X Γ (.Assign [.Name x p1] (.List es p) pos :: rest) D:=by
 with_unfolding_all
  exact s_seq (ps_wk (ps_set hN hi hx (pe_lst ha) hs2 hf) fun De σ H ⟨H0,F,O,Z,n,_⟩=>⟨H0,F,O,Z,fun vs H1 s1 r=>⟨by rw [pr_len r]; exact Nat.le_of_lt (small1000 hl),fun q hq=>by
    have zz:=same_upd hq (.lst vs)
    have hq0:H q=none:=s1.free hq
    have kp:Same (off H1 O) (off (upd H1 q (.lst vs)) fun p=>O p∨p=q):=fun a o w=>by
     obtain ⟨w1,w2⟩:=off_some w
     have haq:a≠q:=ne_of_none w2 hq
     rw [off_get (by rintro (z | z); exact w1 z; exact haq z),upd_ne haq]
     exact w2
    obtain ⟨Z',so⟩:=Z.putOwn (i:=i) (v:=.ref q) (s1.trans zz) (·=q) (fun r e=>by subst e; exact ⟨hq0,.inl vs,upd_same⟩) (Bd.own b as) True.intro ⟨q,vs,rfl,rfl,upd_same,pr_imp (fun _ _ z=>rp_mono kp z) r⟩
    exact n _ _ _ _ so Z' h⟩⟩)
end
end L2.EP
namespace L2.EP
open PySem PySem.Spec PyProof.Rows
section
variable {X:Cx} {Γ:GEnv} {D:GD} {α β γ:Type} [Py α] [Py β] [Py γ] {e e1 e2:Expr} {b b1 b2:Bool} {pos:Pos} {rest st:List Stmt}
theorem s_ownlistT [PyT α] (i:Nat) {as:List α} {x:Str} {p pl p1:Pos} (hN:X.N.Nodup) (hg:Gl X "list") (hm:X.mg "list"=none) (ha:E X Γ e b as) (h:S X (Γ.set i (some (.own true as))) rest D) (hs0:starEach [e] X.env=(false,eval e X.env) :: starEach [] X.env:=by rfl) (hi:X.N[i]?=some x:=by rfl) (hx:Loc X.env.scope x:=by first | exact Or.inl rfl | exact Or.inr rfl)
  (hs2:swapsWith (.Call (.Name "list" pl) [e] [] p) (some (.Name x p1)) pos.line X.env=pure false:=by rfl) (hf:X.fn x=true∨X.env.scope.names.lookup x=some .local:=by first | exact .inl rfl | exact .inr rfl):S X Γ (.Assign [.Name x p1] (.Call (.Name "list" pl) [e] [] p) pos :: rest) D:=by
 with_unfolding_all
  exact s_seq (ps_wk (ps_set hN hi hx (pe_callTy call_list_of hg hm PyProof.Rows.boot_list (pa_cons ha pa_nil hs0) (he:=hs0)) hs2 hf) fun De σ H ⟨H0,F,O,Z,n,_⟩=>⟨H0,F,O,Z,fun v H1 s1 r1=>by
    obtain ⟨q0,vs,ev,sq,nn,r⟩:=r1
    refine ⟨q0,vs,by rw [ev],.inl ((off_same _ _).seq sq),fun q hq=>?_⟩
    have zz:=same_upd hq (.lst vs)
    have hq0:H q=none:=s1.free hq
    have kp:Same (off H1 O) (off (upd H1 q (.lst vs)) fun p=>O p∨p=q):=fun a o w=>by
     obtain ⟨w1,w2⟩:=off_some w
     have haq:a≠q:=ne_of_none w2 hq
     rw [off_get (by rintro (z | z); exact w1 z; exact haq z),upd_ne haq]
     exact w2
    obtain ⟨Z',so⟩:=Z.putOwn (i:=i) (v:=.ref q) (s1.trans zz) (·=q) (fun r e=>by subst e; exact ⟨hq0,.inl vs,upd_same⟩) (Bd.own true as) True.intro ⟨q,vs,rfl,rfl,upd_same,pr_imp (fun _ _ z=>PyT.free (fun _ _ t=>Same.rt kp t) z) r⟩
    exact n _ _ _ _ so Z' h⟩)
end
structure CalS (P:Program) (w:World) (K:PySem.W.Frag) (mg:Str→Option Value) (base:Heap) (k:Nat) (name:Str) (C:Addr) (c:Str):Prop where
 ex:∃ f:Addr,PySem.W.keepIn K (.ref f)=true∧mg name=some (.ref f)∧∀ (A:Around) (outer:List Env) (s:Shared) (H:Hp) (a:Addr) (vs:Array Value),RoomH k A→Env0 P w K mg base A outer s H→s.heap.get? a=some (Xo C vs)→H a=none→a ∉ frs outer →
  codeAny (model P w) A (.call (.ref f) ⟨[.ref a],[]⟩) (CR CX0 outer P w H s (fun v H'=>v=.str c∧Same H H') E0) s
section
variable {P:Program} {w:World} {K:PySem.W.Frag} {mg:Str→Option Value} {base h:Heap} {N:List Str} {k:Nat} {x y:Str} {st:Stmt} {C:Addr} {c:Str}
end
end L2.EP
namespace L2.EP
open PySem PySem.Spec PyProof.Rows
structure Stp where
 i:Int
 j:Int
 x:Int × Int
 y:Int × Int
def stD (s:Stp):PyData:=.tuple [.int s.i,.int s.j,frD s.x,frD s.y]
section
variable {X:Cx} {R:RB} {Γ:GEnv} {D:GD} {α β γ δ:Type} [Py α] [Py β] [Py γ] [Py δ] {e e1 e2 e3:Expr} {b b1 b2 b3:Bool} {p pos:Pos} {rest st:List Stmt} {C:Addr} {name:Str} {k:Nat} {ps:List Str}
theorem e_st0 {s:Stp} (h:E X Γ e b (Dt.mk (stD s))) (h2:E X Γ e2 b2 (0:Int)) (hs:PlainIx e2:=by intro _ _; rfl):E X Γ (.Subscript e e2 pos) b s.i:=e_ofdI (e_ixTL (a:=Dt.mk (.int s.i)) (e_ofdT (ds:=[.int s.i,.int s.j,frD s.x,frD s.y]) h) h2 rfl hs)
theorem e_st1 {s:Stp} (h:E X Γ e b (Dt.mk (stD s))) (h2:E X Γ e2 b2 (1:Int)) (hs:PlainIx e2:=by intro _ _; rfl):E X Γ (.Subscript e e2 pos) b s.j:=e_ofdI (e_ixTL (a:=Dt.mk (.int s.j)) (e_ofdT (ds:=[.int s.i,.int s.j,frD s.x,frD s.y]) h) h2 rfl hs)
theorem e_st2 {s:Stp} (h:E X Γ e b (Dt.mk (stD s))) (h2:E X Γ e2 b2 (2:Int)) (hs:PlainIx e2:=by intro _ _; rfl):E X Γ (.Subscript e e2 pos) b s.x:=e_ofdFr (e_ixTL (a:=Dt.mk (frD s.x)) (e_ofdT (ds:=[.int s.i,.int s.j,frD s.x,frD s.y]) h) h2 rfl hs)
theorem e_st3 {s:Stp} (h:E X Γ e b (Dt.mk (stD s))) (h2:E X Γ e2 b2 (3:Int)) (hs:PlainIx e2:=by intro _ _; rfl):E X Γ (.Subscript e e2 pos) b s.y:=e_ofdFr (e_ixTL (a:=Dt.mk (frD s.y)) (e_ofdT (ds:=[.int s.i,.int s.j,frD s.x,frD s.y]) h) h2 rfl hs)
theorem dn_stp {K:PySem.W.Frag} {N:Nn} {H:Hp} {v:V} {s:Stp} (h:DN K N H v (stD s)):∃ q v1 v2 v3 v4,v=.ref q∧Rt H q [v1,v2,v3,v4]∧v1=.int s.i∧v2=.int s.j∧Py.rp K N H v3 s.x∧Py.rp K N H v4 s.y:=by
 unfold stD at h
 cases h with
 | tup sq q =>
  cases q with
  | cons h1 q =>
   cases q with
   | cons h2 q =>
    cases q with
    | cons h3 q =>
     cases q with
     | cons h4 q =>
      cases q
      cases h1
      cases h2
      exact ⟨_,_,_,_,_,rfl,sq,rfl,rfl,dn_fr h3,dn_fr h4⟩
theorem s_asg4 (i j l m:Nat) {x y z w:Str} {u:Stp} {p1 p2 p3 p4 p5:Pos} {k:Nat} (hN:X.N.Nodup) (he:E X Γ e b (Dt.mk (stD u))) (h:S X ((((Γ.set i (some (.val b u.i))).set j (some (.val b u.j))).set l (some (.val b u.x))).set m (some (.val b u.y))) rest D) (hc:X.calm=true:=by rfl) (hi:X.N[i]?=some x:=by rfl) (hj:X.N[j]?=some y:=by rfl) (hl:X.N[l]?=some z:=by rfl) (hm:X.N[m]?=some w:=by rfl)
  (hx:Loc X.env.scope x:=by first | exact Or.inl rfl | exact Or.inr rfl) (hy:Loc X.env.scope y:=by first | exact Or.inl rfl | exact Or.inr rfl) (hz:Loc X.env.scope z:=by first | exact Or.inl rfl | exact Or.inr rfl) (hw':Loc X.env.scope w:=by first | exact Or.inl rfl | exact Or.inr rfl)
  (hf:X.fn x=true∨X.env.scope.names.lookup x=some .local:=by first | exact .inl rfl | exact .inr rfl) (hf2:X.fn y=true∨X.env.scope.names.lookup y=some .local:=by first | exact .inl rfl | exact .inr rfl) (hf3:X.fn z=true∨X.env.scope.names.lookup z=some .local:=by first | exact .inl rfl | exact .inr rfl) (hf4:X.fn w=true∨X.env.scope.names.lookup w=some .local:=by first | exact .inl rfl | exact .inr rfl)
  (hs:swapsWithSole [.Tuple [.Name x p1,.Name y p2,.Name z p3,.Name w p4] k p5] e pos.line X.env=pure false:=by rfl) (hw:swappedStores [.Tuple [.Name x p1,.Name y p2,.Name z p3,.Name w p4] k p5] e X.env=pure none:=by rfl)
  (h1:(assignEach [.Tuple [.Name x p1,.Name y p2,.Name z p3,.Name w p4] k p5] X.env).map (·.2)=[assign (.Tuple [.Name x p1,.Name y p2,.Name z p3,.Name w p4] k p5) X.env]:=by rfl) (hn:(assignEach [.Name x p1,.Name y p2,.Name z p3,.Name w p4] X.env).length=4:=by rfl)
  (hst:(assignEach [.Name x p1,.Name y p2,.Name z p3,.Name w p4] X.env).findIdx? (·.1)=none:=by rfl) (ha1:assignEach [.Name x p1,.Name y p2,.Name z p3,.Name w p4] X.env=(false,assign (.Name x p1) X.env) :: assignEach [.Name y p2,.Name z p3,.Name w p4] X.env:=by rfl) (ha2:assignEach [.Name y p2,.Name z p3,.Name w p4] X.env=(false,assign (.Name y p2) X.env) :: assignEach [.Name z p3,.Name w p4] X.env:=by rfl)
  (ha3:assignEach [.Name z p3,.Name w p4] X.env=(false,assign (.Name z p3) X.env) :: assignEach [.Name w p4] X.env:=by rfl) (ha4:assignEach [.Name w p4] X.env=(false,assign (.Name w p4) X.env) :: assignEach [] X.env:=by rfl) :
  S X Γ (.Assign [.Tuple [.Name x p1,.Name y p2,.Name z p3,.Name w p4] k p5] e pos :: rest) D:=by
 with_unfolding_all
  exact s_seq (ps_wk (ps_asg he (pg_tup hc (pgs_cons (pg_name hN hi hx hf) (pgs_cons (pg_name hN hj hy hf2) (pgs_cons (pg_name hN hl hz hf3) (pgs_cons (pg_name hN hm hw' hf4) pgs_nil))))) hs hw h1) fun De σ H ⟨H0,F,O,Z,n,_⟩=>⟨H0,F,O,Z,fun v H1 s1 r1=>by
    obtain ⟨q,v1,v2,v3,v4,e',sq,g1,g2,g3,g4⟩:=dn_stp r1
    refine ⟨q,_,e',sqT_rd (off_same _ _) sq,rfl,v1,[v2,v3,v4],rfl,v2,[v3,v4],rfl,v3,[v4],rfl,v4,[],rfl,rfl,?_⟩
    exact n _ _ H1 O (off_mono s1) (((((Z.go s1).set (α:=Int) g1).set (α:=Int) g2).set g3).set g4) h⟩)
theorem er_arg3 {pre:α→β→γ→Prop} {f:α→β→γ→δ} {a:α} {c:β} (Cl:Cal X.prog X.w X.K X.mg X.base k name ps (sp3 X.K pre b f)) (hr:Room k X.A) (hg:Gl X name) (h1:E X Γ e1 b1 a) (h2:E X Γ e2 b2 c) (h3:ER X R Γ e3)
  (hs1:starEach [e1,e2,e3] X.env=(false,eval e1 X.env) :: starEach [e2,e3] X.env:=by rfl) (hs2:starEach [e2,e3] X.env=(false,eval e2 X.env) :: starEach [e3] X.env:=by rfl) (hs3:starEach [e3] X.env=(false,eval e3 X.env) :: starEach [] X.env:=by rfl)
  (hdb:(name == ("__debug__":Str))=false:=by decide) (hpl:(backTo pos (starEach [e2,e3] X.env)).any (·.1)=false:=by rfl) :
  ER X R Γ (.Call (.Name name p) [e1,e2,e3] [] pos):=by
 with_unfolding_all
  obtain ⟨fa,fd,F,B,kp,m⟩:=Cl.ex
  exact pe_wk (pe_call F hr hg m kp B .nil pass0 (pa_cons h1 (pa_cons h2 (pa_cons h3 pa_nil hs3) hs2) hs1) hdb hs1 hpl) fun σ H Q ⟨O,m,S⟩=>⟨R.H0,R.F,O,S,fun v1 H1 s1 r1=>⟨R.H0,R.F,O,S.go s1,fun v2 H2 s2 r2 =>
   ⟨O,m.trans (off_mono (s1.trans s2)),S.go (s1.trans s2)⟩⟩⟩
end
def tChain3 (r r' r'':R2) (ta tb tc td:TE):TE:=fun σ H Q=>ta σ H fun x H1=>tb σ H1 fun y H2=>r x y H2 fun z H3=>∃ k,z=.bl k ∧
 (if k=true then tc σ H3 fun w H4=>r' y w H4 fun z' H5=>∃ k',z'=.bl k'∧(if k'=true then td σ H5 fun u H6=>r'' w u H6 Q else Q (.bl false) H5) else Q (.bl false) H3)
theorem pt_chain3 {X:Cx} {a b c d:Expr} {ta tb tc td:TE} {pos:Pos} {op op' op'':CmpOp} {r r' r'':R2} (ho:OpR X (compareOp op) r) (ho':OpR X (compareOp op') r') (ho'':OpR X (compareOp op'') r'') (ha:PE X a ta) (hb:PE X b tb) (hc:PE X c tc) (hd:PE X d td)
  (hm:lastMarks [op,op',op''] [b,c,d]=false:=by with_unfolding_all rfl):PT X (.Compare a [op,op',op''] [b,c,d] pos) (tTest (tChain3 r r' r'' ta tb tc td)):=by
 intro pins s σ H Q I h
 refine isTrue_chain (thn (ha pins s σ H _ I h) fun v s1 ⟨x,H1,I1,r1,q1⟩=>test_link (thn (hb pins s1 σ H1 _ I1 q1) fun u s2 ⟨y,H2,I2,r2,q2⟩ =>
  thn (ho pins s2 σ H2 x y v u _ I2 r1 r2 q2) fun d s3 ⟨z,H3,I3,r3,k,e,q3⟩=>?_)) hm
 subst e
 cases r3
 refine wpAny_truthy_bool ?_
 cases k with
 | false =>
  obtain ⟨k',e',q'⟩:=q3
  cases e'
  exact ite_ff ⟨H3,I3,q'⟩
 | true =>
  refine ite_tt (test_link (thn (hc pins s3 σ H3 _ I3 q3) fun w' s4 ⟨z',H4,I4,r4,q4⟩=>thn (ho' pins s4 σ H4 y z' u w' _ I4 r2 r4 q4) fun d' s5 ⟨z2,H5,I5,r5,k2,e2,q5⟩=>?_))
  subst e2
  cases r5
  refine wpAny_truthy_bool ?_
  cases k2 with
  | false =>
   obtain ⟨k',e',q'⟩:=q5
   cases e'
   exact ite_ff ⟨H5,I5,q'⟩
  | true =>
   refine ite_tt (test_last (thn (hd pins s5 σ H5 _ I5 q5) fun w3 s6 ⟨z3,H6,I6,r6,q6⟩=>thn (ho'' pins s6 σ H6 z' z3 w' w3 _ I6 r4 r6 q6) fun d3 s7 ⟨z4,H7,I7,r7,k3,e3,q7⟩=>?_))
   subst e3
   cases r7
   exact wpAny_truthy_bool ⟨H7,I7,q7⟩
section
variable {X:Cx} {Γ:GEnv} {α β γ δ:Type} [Py α] [Py β] [Py γ] [Py δ] {e1 e2 e3 e4:Expr} {b1 b2 b3 b4:Bool} {pos:Pos}
theorem t_chain3 {op op' op'':CmpOp} {x:α} {y:β} {z:γ} {t:δ} {c c' c'':Bool} (h1:CV X op x y c) (h2:CV X op' y z c') (h3:CV X op'' z t c'') (ha:E X Γ e1 b1 x) (hb:E X Γ e2 b2 y) (hc:E X Γ e3 b3 z) (hd:E X Γ e4 b4 t) (hm:lastMarks [op,op',op''] [e2,e3,e4]=false:=by with_unfolding_all rfl):T X Γ (.Compare e1 [op,op',op''] [e2,e3,e4] pos) (c && (c' && c'')):=by
 with_unfolding_all
  obtain ⟨r,ho,hr⟩:=h1
  obtain ⟨r',ho',hr'⟩:=h2
  obtain ⟨r'',ho'',hr''⟩:=h3
  exact pt_wk (pt_chain3 ho ho' ho'' ha hb hc hd hm) fun σ H Q ⟨H0,F,O,S,q⟩=>⟨H0,F,O,S,fun v H1 s1 r1=>⟨H0,F,O,S.go s1,fun w H2 s2 r2 =>
   hr _ _ H2 v w _ (rp_mono ((off_mono s2).trans (off_same _ _)) r1) (rp_mono (off_same _ _) r2) ⟨c,rfl,by
    cases c with
    | false=>exact ⟨false,rfl,q H2 (s1.trans s2)⟩
    | true=>exact ⟨H0,F,O,(S.go s1).go s2,fun u H3 s3 r3=>hr' _ _ H3 w u _ (rp_mono ((off_mono s3).trans (off_same _ _)) r2) (rp_mono (off_same _ _) r3) ⟨c',rfl,by
      cases c' with
      | false=>exact ⟨false,rfl,q H3 (s1.trans (s2.trans s3))⟩
      | true=>exact ⟨H0,F,O,((S.go s1).go s2).go s3,fun u4 H4 s4 r4=>hr'' _ _ H4 u u4 _ (rp_mono ((off_mono s4).trans (off_same _ _)) r3) (rp_mono (off_same _ _) r4) ⟨c'',rfl,q H4 (s1.trans (s2.trans (s3.trans s4)))⟩⟩⟩⟩⟩⟩⟩
end
section
variable {X:Cx} {Γ:GEnv} {D:GD} {e:Expr} {pos ip px py:Pos} {rest body:List Stmt}
end
end L2.EP
namespace L2.EP
open PySem PySem.Spec PyProof.Rows
@[irreducible] def EX {α:Type} [Py α] (X:Cx) (Γ:GEnv) (e:Expr) (b:Bool) (post:α→Prop):Prop:=PE X e fun σ H Q=>∃ H0 F O,Sta X.K H0 F O Γ σ H∧∀ a v H',post a→Same H H'→Py.rp X.K (Nf H0 b) (off H' O) v a→Q v H'
def RTE {α:Type} [Py α] (b:Bool) (post:α→Prop):GD:={ nx:=fun _=>False,rt:=fun g=>∃ a,post a∧g=.val b a }
def spE1 {α β:Type} [Py α] [Py β] (K:PySem.W.Frag) (pre:α→Prop) (b:Bool) (post:α→β→Prop):Sp:=fun vs H Q _=>∃ O v a,OwnL H O∧vs=[v]∧Py.rp K .any (off H O) v a∧pre a∧∀ z r H',post a z→Same H H'→Py.rp K (Nf H b) (off H' O) r z→Q r H'
def spE2 {α β γ:Type} [Py α] [Py β] [Py γ] (K:PySem.W.Frag) (pre:α→β→Prop) (b:Bool) (post:α→β→γ→Prop):Sp:=fun vs H Q _=>∃ O v w a c,OwnL H O∧vs=[v,w]∧Py.rp K .any (off H O) v a∧Py.rp K .any (off H O) w c∧pre a c∧∀ z r H',post a c z→Same H H'→Py.rp K (Nf H b) (off H' O) r z→Q r H'
section
variable {X:Cx} {Γ:GEnv} {D:GD} {α β γ δ:Type} [Py α] [Py β] [Py γ] [Py δ] {e e1 e2 e3:Expr} {b b1 b2 b3:Bool} {p pos:Pos} {rest:List Stmt} {k:Nat} {name:Str} {ps:List Str}
theorem ex_call1 {pre:α→Prop} {post:α→β→Prop} {a:α} (C:Cal X.prog X.w X.K X.mg X.base k name ps (spE1 X.K pre b post)) (hr:Room k X.A) (hg:Gl X name) (h1:E X Γ e1 b1 a) (hp:pre a)
  (hs1:starEach [e1] X.env=(false,eval e1 X.env) :: starEach [] X.env:=by rfl) (hdb:(name == ("__debug__":Str))=false:=by decide) (hpl:(backTo pos (starEach [] X.env)).any (·.1)=false:=by rfl) :
  EX X Γ (.Call (.Name name p) [e1] [] pos) b (post a):=by
 with_unfolding_all
  obtain ⟨fa,fd,F,B,kp,m⟩:=C.ex
  exact pe_wk (pe_call F hr hg m kp B .nil pass0 (pa_cons h1 pa_nil hs1) hdb hs1 hpl) fun σ H Q ⟨H0,F,O,S,q⟩=>⟨H0,F,O,S,fun v1 H1 s1 r1 =>
   ⟨O,v1,a,(S.go s1).own,rfl,rp_wid nf_true r1,hp,fun z r H' hz s' rz=>q z r H' hz (s1.trans s') ((S.go s1).back rz)⟩⟩
theorem ex_call2 {pre:α→β→Prop} {post:α→β→γ→Prop} {a:α} {c:β} (C:Cal X.prog X.w X.K X.mg X.base k name ps (spE2 X.K pre b post)) (hr:Room k X.A) (hg:Gl X name) (h1:E X Γ e1 b1 a) (h2:E X Γ e2 b2 c) (hp:pre a c)
  (hs1:starEach [e1,e2] X.env=(false,eval e1 X.env) :: starEach [e2] X.env:=by rfl) (hs2:starEach [e2] X.env=(false,eval e2 X.env) :: starEach [] X.env:=by rfl) (hdb:(name == ("__debug__":Str))=false:=by decide) (hpl:(backTo pos (starEach [e2] X.env)).any (·.1)=false:=by rfl) :
  EX X Γ (.Call (.Name name p) [e1,e2] [] pos) b (post a c):=by
 with_unfolding_all
  obtain ⟨fa,fd,F,B,kp,m⟩:=C.ex
  exact pe_wk (pe_call F hr hg m kp B .nil pass0 (pa_cons h1 (pa_cons h2 pa_nil hs2) hs1) hdb hs1 hpl) fun σ H Q ⟨H0,F,O,S,q⟩=>⟨H0,F,O,S,fun v1 H1 s1 r1=>⟨H0,F,O,S.go s1,fun v2 H2 s2 r2 =>
   ⟨O,v1,v2,a,c,(S.go (s1.trans s2)).own,rfl,rp_wid nf_true (rp_mono (off_mono s2) r1),rp_wid nf_true r2,hp,fun z r H' hz s' rz=>q z r H' hz (s1.trans (s2.trans s')) ((S.go (s1.trans s2)).back rz)⟩⟩⟩
theorem s_asgX (i:Nat) {x:Str} {post:α→Prop} {p:Pos} (hN:X.N.Nodup) (he:EX X Γ e b post) (h:∀ a,post a→S X (Γ.set i (some (.val b a))) rest D) (hi:X.N[i]?=some x:=by rfl) (hx:Loc X.env.scope x:=by first | exact Or.inl rfl | exact Or.inr rfl)
  (hs:swapsWith e (some (.Name x p)) pos.line X.env=pure false:=by rfl) (hf:X.fn x=true∨X.env.scope.names.lookup x=some .local:=by first | exact .inl rfl | exact .inr rfl):S X Γ (.Assign [.Name x p] e pos :: rest) D:=by
 with_unfolding_all
  exact s_seq (ps_wk (ps_set hN hi hx he hs hf) fun De σ H ⟨H0,F,O,Z,n,_⟩=>⟨H0,F,O,Z,fun a v H1 hz s1 r1=>n _ _ H1 O (off_mono s1) ((Z.go s1).set r1) (h a hz)⟩)
theorem s_asg2X (i j:Nat) {x y:Str} {post:α × β→Prop} {p1 p2 p3:Pos} {k:Nat} (hN:X.N.Nodup) (he:EX X Γ e b post) (h:∀ u,post u→S X ((Γ.set i (some (.val b u.1))).set j (some (.val b u.2))) rest D) (hc:X.calm=true:=by rfl) (hi:X.N[i]?=some x:=by rfl) (hj:X.N[j]?=some y:=by rfl)
  (hx:Loc X.env.scope x:=by first | exact Or.inl rfl | exact Or.inr rfl) (hy:Loc X.env.scope y:=by first | exact Or.inl rfl | exact Or.inr rfl)
  (hf:X.fn x=true∨X.env.scope.names.lookup x=some .local:=by first | exact .inl rfl | exact .inr rfl) (hf2:X.fn y=true∨X.env.scope.names.lookup y=some .local:=by first | exact .inl rfl | exact .inr rfl)
  (hs:swapsWithSole [.Tuple [.Name x p1,.Name y p2] k p3] e pos.line X.env=pure false:=by rfl) (hw:swappedStores [.Tuple [.Name x p1,.Name y p2] k p3] e X.env=pure none:=by rfl)
  (h1:(assignEach [.Tuple [.Name x p1,.Name y p2] k p3] X.env).map (·.2)=[assign (.Tuple [.Name x p1,.Name y p2] k p3) X.env]:=by rfl) (hn:(assignEach [.Name x p1,.Name y p2] X.env).length=2:=by rfl)
  (hst:(assignEach [.Name x p1,.Name y p2] X.env).findIdx? (·.1)=none:=by rfl) (ha1:assignEach [.Name x p1,.Name y p2] X.env=(false,assign (.Name x p1) X.env) :: assignEach [.Name y p2] X.env:=by rfl) (ha2:assignEach [.Name y p2] X.env=(false,assign (.Name y p2) X.env) :: assignEach [] X.env:=by rfl) :
  S X Γ (.Assign [.Tuple [.Name x p1,.Name y p2] k p3] e pos :: rest) D:=by
 with_unfolding_all
  exact s_seq (ps_wk (ps_asg he (pg_tup hc (pgs_cons (pg_name hN hi hx hf) (pgs_cons (pg_name hN hj hy hf2) pgs_nil))) hs hw h1) fun De σ H ⟨H0,F,O,Z,n,_⟩=>⟨H0,F,O,Z,fun u v H1 hz s1 r1=>by
    obtain ⟨q,v1,v2,e',sq,g1,g2⟩:=r1
    refine ⟨q,_,e',sqT_rd (off_same _ _) sq,rfl,v1,[v2],rfl,v2,[],rfl,rfl,?_⟩
    exact n _ _ H1 O (off_mono s1) (((Z.go s1).set g1).set g2) (h u hz)⟩)
end
section
variable {P:Program} {w:World} {K:PySem.W.Frag} {mg:Str→Option Value} {base:Heap} {N ps:List Str} {k:Nat} {x qual:Str} {st:Stmt} {f:Addr} {fd:FuncData}
theorem body_runE {gs:List Bd} {vs:List V} {H:Hp} {O:Addr→Prop} {α:Type} [Py α] {b:Bool} {post:α→Prop} {Q:VK} {cdv:Value} {A:Around} {outer:List Env} {s:Shared} {E:XK} (B:Body P w K mg base N qual st f k gs (RTE b post)) (hr:Room k (A.deeper (envOfC qual (defScope st) s.heap.objs.size f cdv)))
  (ho:OwnL H O) (h:Args K (off H O) vs gs) (q:∀ a r H',post a→Same H H'→Py.rp K (Nf H b) (off H' O) r a→Q r H') :
  ∃ t,PSs (cxOf CX0 P w K mg base N qual (defScope st) f cdv A outer s H E).nox (defBody st) t∧t { nx:=fun _ H'=>Q .non H',rt:=Q } (start N vs) H:=by
 with_unfolding_all
  refine ⟨_,B cdv A outer s H E hr,H,O,O,sta_start ho h,fun _ _ _ _ _ _ z=>z.elim,fun g v H' sm z e=>?_,fun _ _ _ _ _ _ z=>z.elim,fun _ _ _ _ _ _ z=>z.elim⟩
  obtain ⟨a,ha,e'⟩:=e
  subst e'
  exact q a v H' ha sm z
theorem fnE1 {α β:Type} [Py α] [Py β] {pre:α→Prop} {b:Bool} {post:α→β→Prop} (F:Fun K x qual st f fd) (sc:FnScope N ps (defScope st)) (hl:ps.length=1) (B:∀ a,pre a→Body P w K mg base N qual st f k [.val false a] (RTE b (post a))) :
  FnOk P w K mg base CX0 (k + 1) f fd ps (spE1 K pre b post):=by
 with_unfolding_all
  refine F.ok sc (fun vs H Q E h=>?_) fun cdv A outer s H vs Q E hr h=>?_
  ·obtain ⟨O,v,a,_,rfl,_⟩:=h; rw [hl]; rfl
  ·obtain ⟨O,v,a,ho,rfl,r,hp,q⟩:=h
   exact body_runE (B a hp) hr ho (.cons r .nil) q
theorem fnE2 {α β γ:Type} [Py α] [Py β] [Py γ] {pre:α→β→Prop} {b:Bool} {post:α→β→γ→Prop} (F:Fun K x qual st f fd) (sc:FnScope N ps (defScope st)) (hl:ps.length=2) (B:∀ a c,pre a c→Body P w K mg base N qual st f k [.val false a,.val false c] (RTE b (post a c))) :
  FnOk P w K mg base CX0 (k + 1) f fd ps (spE2 K pre b post):=by
 with_unfolding_all
  refine F.ok sc (fun vs H Q E h=>?_) fun cdv A outer s H vs Q E hr h=>?_
  ·obtain ⟨O,v,v2,a,c,_,rfl,_⟩:=h; rw [hl]; rfl
  ·obtain ⟨O,v,v2,a,c,ho,rfl,r,r2,hp,q⟩:=h
   exact body_runE (B a c hp) hr ho (.cons r (.cons r2 .nil)) q
end
end L2.EP
namespace L2.EP
open PySem PySem.Spec PyProof.Rows
structure PinT (β:Type) where
 rows:List (List β)
 y:V
 r:List β
instance {β:Type} [Py β]:Py (PinT β) where
 rp K N H v a:=∃ p xs,v=.ref p∧SqL K H p xs∧N.has H p (.inl xs)∧Paired (fun x (r:List β)=>Py.rp K N H x r) xs a.rows∧Py.rp K N H a.y a.r
 tr l t h:=by
  obtain ⟨p,xs,e,s,n,r,r2⟩:=h
  obtain ⟨s',n'⟩:=l _ (.inl xs) s n
  exact ⟨p,xs,e,s',n',pr_imp (fun _ _ q=>Py.tr l t q) r,Py.tr l t r2⟩
section
variable {X:Cx} {Γ:GEnv} {D:GD} {α β γ:Type} [Py α] [Py β] [Py γ] {e e1 e2 e3 ek el:Expr} {b b1 b2 b3:Bool} {pos:Pos} {rest:List Stmt}
theorem s_set2 [PyT α] (i:Nat) {as:List α} {u:α × α} {k l:Int} {x:Str} {p p' r r' p3:Pos} {m:Nat} (hg:Γ[i]?=some (some (.own b as))) (hk:E X Γ ek b2 k) (hel:E X (Γ.set i (some (.own b (as.set k.toNat u.1)))) el b3 l) (he:E X Γ e b1 u) (h0:0≤k) (hl:k < as.length) (h2:0≤l) (h3:l < as.length) (h:S X (Γ.set i (some (.own b ((as.set k.toNat u.1).set l.toNat u.2)))) rest D) (hi:X.N[i]?=some x:=by rfl)
  (hv:Vis X.env.scope x:=by first | exact Or.inl rfl | exact Or.inr (Or.inl rfl) | exact Or.inr (Or.inr rfl)) (hd:(x == ("__debug__":Str))=false:=by decide) (hcd:(x == ("__classdict__":Str))=false:=by decide) (hc:X.calm=true:=by rfl)
  (ha:∀ v,assign (.Subscript (.Name x p) ek p') X.env v=(do
   let ov ← holding [v] (eval (.Name x p) X.env)
   let iv ← holding [v,ov] (eval ek X.env)
   standAt p'
   holding [v,ov,iv] (setItem ov iv v)
   release [v,ov,iv] []):=by intro _; rfl)
  (ha2:∀ v,assign (.Subscript (.Name x r) el r') X.env v=(do
   let ov ← holding [v] (eval (.Name x r) X.env)
   let iv ← holding [v,ov] (eval el X.env)
   standAt r'
   holding [v,ov,iv] (setItem ov iv v)
   release [v,ov,iv] []):=by intro _; rfl)
  (hs:swapsWithSole [.Tuple [.Subscript (.Name x p) ek p',.Subscript (.Name x r) el r'] m p3] e pos.line X.env=pure false:=by rfl) (hw:swappedStores [.Tuple [.Subscript (.Name x p) ek p',.Subscript (.Name x r) el r'] m p3] e X.env=pure none:=by rfl)
  (h1:(assignEach [.Tuple [.Subscript (.Name x p) ek p',.Subscript (.Name x r) el r'] m p3] X.env).map (·.2)=[assign (.Tuple [.Subscript (.Name x p) ek p',.Subscript (.Name x r) el r'] m p3) X.env]:=by rfl)
  (hn:(assignEach [.Subscript (.Name x p) ek p',.Subscript (.Name x r) el r'] X.env).length=2:=by rfl) (hst:(assignEach [.Subscript (.Name x p) ek p',.Subscript (.Name x r) el r'] X.env).findIdx? (·.1)=none:=by rfl)
  (hq1:(assignEach [.Subscript (.Name x p) ek p',.Subscript (.Name x r) el r'] X.env).map (·.2)=assign (.Subscript (.Name x p) ek p') X.env :: (assignEach [.Subscript (.Name x r) el r'] X.env).map (·.2):=by rfl) (hq2:(assignEach [.Subscript (.Name x r) el r'] X.env).map (·.2)=assign (.Subscript (.Name x r) el r') X.env :: (assignEach [] X.env).map (·.2):=by rfl) :
  S X Γ (.Assign [.Tuple [.Subscript (.Name x p) ek p',.Subscript (.Name x r) el r'] m p3] e pos :: rest) D:=by
 with_unfolding_all
  exact s_seq (ps_wk (ps_asg he (pg_tup hc (pgs_cons (pg_sub (pv i hi hv hd hcd) hk set_list ha) (pgs_cons (pg_sub (pv i hi hv hd hcd) hel set_list ha2) pgs_nil hq2) hq1) hn hst) hs hw h1) fun De σ H ⟨H0,F,O,Z,n,_⟩=>⟨H0,F,O,Z,fun w H1 z1 ru=>by
    obtain ⟨pt,w1,w2,ew,sqw,g1,g2⟩:=ru
    refine ⟨pt,_,ew,sqT_rd (off_same _ _) sqw,rfl,w1,[w2],rfl,?_⟩
    obtain ⟨v,Di,hv1,_,_,_⟩:=(Z.go z1).write hg True.intro
    refine ⟨v,hv1,H0,F,O,Z.go z1,fun y H3 z3 ry=>?_⟩
    obtain ⟨v',Di,hv2,⟨q,ys,e1,wq,hq,rr⟩,hO,wr⟩:=(Z.go (z1.trans z3)).write hg True.intro
    rw [hv1] at hv2
    have ev:v=v':=Option.some.inj (Option.some.inj hv2)
    subst ev
    have ey:y=V.int k:=ry
    subst ey
    have hly:k < ys.length:=by rw [pr_len rr]; exact hl
    have hix:ixN ys.length k=some k.toNat:=by
     unfold ixN; rw [if_pos h0,if_pos (by omega)]
    refine ⟨q,ys,k,k.toNat,e1,rfl,hq,hix,?_⟩
    have g2':Py.rp X.K Nn.any (off H3 O) w2 u.2:=PyT.free (fun p xs z=>Same.rt (off_mono z3) z) g2
    obtain ⟨Z',eo⟩:=wr q (ys.set k.toNat w1) (some (.own b (as.set k.toNat u.1))) wq fun g'' e'=>by
     cases e'
     refine ⟨True.intro,q,_,e1,wq,upd_same,?_⟩
     rw [off_upd (hO q wq).1]
     exact pr_set (PyT.free (fun p xs z=>Same.rt (off_mono z3) z) g1) k.toNat rr
    refine ⟨w2,[],rfl,?_⟩
    have hgi:(Γ.set i (some (.own b (as.set k.toNat u.1))))[i]?=some (some (.own b (as.set k.toNat u.1))):=by
     rw [List.getElem?_set_self]
     exact (List.getElem?_eq_some_iff.mp hg).1
    obtain ⟨v,Di2,hv1,_,_,_⟩:=Z'.write hgi True.intro
    refine ⟨v,hv1,H0,F,O,Z',fun y H4 z4 ry=>?_⟩
    obtain ⟨v',Di2,hv2,⟨q2,ys2,e12,wq2,hq2',rr2⟩,hO2,wr2⟩:=(Z'.go z4).write hgi True.intro
    rw [hv1] at hv2
    have ev:v=v':=Option.some.inj (Option.some.inj hv2)
    subst ev
    have ey:y=V.int l:=ry
    subst ey
    have hly2:l < ys2.length:=by rw [pr_len rr2,List.length_set]; exact h3
    have hix2:ixN ys2.length l=some l.toNat:=by
     unfold ixN; rw [if_pos h2,if_pos (by omega)]
    refine ⟨q2,ys2,l,l.toNat,e12,rfl,hq2',hix2,rfl,?_⟩
    obtain ⟨Z'',eo2⟩:=wr2 q2 (ys2.set l.toNat w2) (some (.own b ((as.set k.toNat u.1).set l.toNat u.2))) wq2 fun g'' e'=>by
     cases e'
     refine ⟨True.intro,q2,_,e12,wq2,upd_same,?_⟩
     rw [off_upd (hO2 q2 wq2).1]
     refine pr_set (PyT.free (fun p xs z=>?_) g2') l.toNat rr2
     have z':=Same.rt (off_mono (z4:Same _ _)) (by rw [eo]; exact z)
     exact z'
    rw [List.set_set] at Z''
    exact n _ _ _ _ (by
     have a1:=off_mono (O:=O) z1
     have a2:=off_mono (O:=O) z3
     have a3:=off_mono (O:=O) z4
     rw [eo] at a3
     rw [eo2]
     exact a1.trans (a2.trans a3)) Z'' h⟩)
theorem row_out [PyT β] {K:PySem.W.Frag} {Dd:Addr→Prop} {H:Hp} {q:Addr} {ys zs:List V} (hq:H q=some (.lst ys)) {x:V} {r:List β} (h:Py.rp K (.set Dd) H x r) (hne:x≠.ref q):Py.rp K (.set Dd) (upd H q (.lst zs)) x r:=by
 have ht:∀ p xs,Rt H p xs→Rt (upd H q (.lst zs)) p xs:=fun p xs h=>by
  have hp:p≠q:=fun w=>by
   subst w
   rcases h with h | ⟨o,h⟩
   ·rw [hq] at h; cases h
   ·rw [hq] at h; cases h
  rcases h with h | ⟨o,h⟩
  ·exact .inl (by rw [upd_ne hp]; exact h)
  ·exact .inr ⟨o,by rw [upd_ne hp]; exact h⟩
 obtain ⟨p,xs,e,sq,nn,rr⟩:=h
 have hp:p≠q:=fun w=>hne (by rw [e,w])
 have e2:upd H q (.lst zs) p=some (.lst xs):=by rw [upd_ne hp]; exact nn.2
 exact ⟨p,xs,e,SqL.of e2,⟨nn.1,e2⟩,pr_imp (fun _ _ z=>PyT.free ht z) rr⟩
theorem pr_mem {α β:Type} {F G:α→β→Prop}:∀ {l₁:List α} {l₂:List β},Paired F l₁ l₂→(∀ a b,a∈l₁→F a b→G a b)→Paired G l₁ l₂
 | _,_,.nil,_=>.nil
 | _,_,.cons h t,f=>.cons (f _ _ (List.mem_cons_self ..) h) (pr_mem t fun a b m=>f a b (List.mem_cons_of_mem _ m))
theorem pe_all {ι:Type} {t:ι→TE} (h:∀ y,PE X e (t y)):PE X e (fun σ H Q=>∃ y,t y σ H Q):=fun pins s σ H Q I ⟨y,q⟩=>h y pins s σ H Q I q
theorem e_tupleD {ds:List Dt} {p:Pos} (hg:Gl X "tuple") (hm:X.mg "tuple"=none) (ha:E X Γ e b ds) (hs:starEach [e] X.env=(false,eval e X.env) :: starEach [] X.env:=by rfl):E X Γ (.Call (.Name "tuple" p) [e] [] pos) b (Dt.mk (.tuple (ds.map Dt.d))):=by
 with_unfolding_all
  exact pe_wk (pe_callTy call_tuple_of hg hm PyProof.Rows.boot_tuple (pa_cons ha pa_nil hs) (he:=hs)) fun σ H Q ⟨H0,F,O,S,q⟩=>⟨H0,F,O,S,fun w H1 s1 r1=>by
    obtain ⟨p,vs,e,sq,n,r⟩:=r1
    refine ⟨p,_,by rw [e],.inl ⟨(off_same _ _).seq sq,fun l hl=>?_⟩⟩
    obtain ⟨z1,z2⟩:=laid_tup (xs:=vs) (S.go s1) hl
    exact q _ _ (s1.trans z1) (DN.tup z2 (pr_dns (pr_imp (fun _ _ z=>rp_mono (off_mono z1) z) r)))⟩
end
end L2.EP
namespace L2.EP
open PySem PySem.Spec PyProof.Rows
section
variable {X:Cx} {R:RB} {Γ:GEnv} {α:Type} [Py α] {tg e:Expr} {b:Bool} {pos:Pos} {rest body:List Stmt} {g:TG} {tc:Nat→Prop}
def bodyTR (X:Cx) (R:RB) (body:List Stmt):TS:=fun De σ H=>bodyT X body De σ H∨∃ Γ',SR X R Γ' body∧Stb X.K R Γ' σ H
theorem bodyTR_ok:PSs X body (bodyTR X R body):=by
 with_unfolding_all
  exact fun pins s σ H De I h=>h.elim (fun h=>bodyT_ok pins s σ H De I h) fun ⟨Γ',t,q⟩=>(show PSs X body (fun _ σ H=>Stb X.K R Γ' σ H) from t) pins s σ H De I q
theorem sr_forL {put:Bool→α→GEnv→GEnv} {xs:List α} (n:Nat) (J:Nat→GEnv→Prop) (hp:PassesOwn (model X.prog X.w) X.A X.env X.xe) (hG:G X tg g α put tc) (he:E X Γ e b xs) (hn:n < xs.length) (h0:J 0 Γ)
  (ht:∀ (i:Nat) (a:α) Γ',xs[i]?=some a→i < n→J i Γ'→S X (put b a Γ') body { nx:=J (i + 1),rt:=fun _=>False }) (hr:∀ (a:α) Γ',xs[n]?=some a→J n Γ'→SR X R (put b a Γ') body)
  (hc:X.calm=true:=by rfl) (hfs:∀ x,foldedSetIterable e X.env x=pure x:=by intro _; rfl):SR X R Γ (.For tg e body [] pos :: rest):=by
 with_unfolding_all
  suffices key:PS X (.For tg e body [] pos) (fun _ σ H=>Stb X.K R Γ σ H) from pss_cons (u:=tNever) (ps_wk key fun _ _ _ z=>z) pss_never
  refine ps_wk (ps_for hp hc (pi_list he) hG.1 (tb:=bodyTR X R body) bodyTR_ok hfs) fun De σ H z=>?_
  obtain ⟨O,m,Z⟩:=z
  refine ⟨R.H0,R.F,O,Z,fun v H1 s1 r1=>?_⟩
  obtain ⟨p,vs,e,sq,nn,rr⟩:=r1
  refine ⟨p,e,⟨vs,(off_same _ _).seq sq⟩,for_list (K:=X.K) (a:=p) (xs:=vs) (g:=g) (tb:=bodyTR X R body) (fun i σ' H'=>i≤n∧∃ Γ' O',Same (off H1 O) (off H' O')∧Sta X.K R.H0 R.F O' Γ' σ' H'∧J i Γ') ⟨Nat.zero_le _,Γ,O,Same.refl _,Z.go s1,h0⟩ ?_ ?_ ?_⟩
  ·rintro i σ' H' hi ⟨_,Γ',O',sm,Z',j⟩
   exact (off_same _ _).seq (sm.seq sq)
  ·rintro i x σ' H' hi ⟨hin,Γ',O',sm,Z',j⟩
   obtain ⟨a,h1,h2⟩:=pr_get' rr hi
   refine hG.2 b a R.H0 R.F O' Γ' σ' H' _ _ Z' (rp_mono sm h2) fun σ2 Z2 _ _=>?_
   by_cases z:i < n
   ·refine .inl ⟨_,_,ht i a Γ' h1 z j,R.H0,R.F,O',Z2,?_,fun _ _ _ _ _ z=>z.elim,fun _ _ _ _ _ _ z=>z.elim,fun _ _ _ _ _ _ z=>z.elim⟩
    exact fun Γ2 σ2 H2 O2 sm2 Z2 q=>⟨z,Γ2,O2,sm.trans sm2,Z2,q⟩
   ·have ei:i=n:=by omega
    subst ei
    exact .inr ⟨_,hr a Γ' h1 j,O',m.trans ((off_mono s1).trans sm),Z2⟩
  ·rintro σ' H' ⟨hin,_⟩
   have:=pr_len rr
   omega
end
end L2.EP
namespace L2.EP
open PySem PySem.Spec PyProof.Rows
section
variable {X:Cx} {Γ:GEnv} {D:GD} {α β:Type} [Py α] [Py β] {e1 e2:Expr} {b1 b2:Bool} {pos:Pos} {rest:List Stmt}
end
end L2.EP
namespace L2.EP
open PySem PySem.Spec PyProof.Rows
section
variable {X:Cx} {Γ:GEnv} {α:Type} [Py α] {e1 e2:Expr} {b1 b2:Bool} {pos:Pos}
theorem e_catF {xs ys:List α} (ha:E X Γ e1 b1 xs) (hb:E X Γ e2 b2 ys) (hl:xs.length + ys.length≤1000):E X Γ (.BinOp e1 .Add e2 pos) false (xs ++ ys):=by
 with_unfolding_all
  exact pe_wk (pe_op op_catS ha hb) fun σ H Q ⟨H0,F,O,S,q⟩=>⟨H0,F,O,S,fun v H1 s1 r1=>⟨H0,F,O,S.go s1,fun w H2 s2 r2=>by
    obtain ⟨p,vs,e1,sq1,n1,rr1⟩:=r1
    obtain ⟨p',vs',e2,sq2,n2,rr2⟩:=r2
    refine ⟨p,p',vs,vs',e1,e2,(off_same _ _).seq ((off_mono s2).seq sq1),(off_same _ _).seq sq2,by rw [pr_len rr1,pr_len rr2]; exact Nat.le_of_lt (small1000 hl),fun l hl'=>?_⟩
    obtain ⟨z1,z2⟩:=laid_lst (xs:=vs ++ vs') ((S.go s1).go s2) hl'
    refine q _ _ (s1.trans (s2.trans z1)) ⟨l,_,rfl,SqL.of z2,Nf.wk (b:=false) (((S.go s1).go s2).free0 hl') z2,pr_cat ?_ ?_⟩
    ·exact pr_imp (fun _ _ z=>rp_wid nf_true (rp_mono ((off_mono s2).trans (off_mono z1)) z)) rr1
    ·exact pr_imp (fun _ _ z=>rp_wid nf_true (rp_mono (off_mono z1) z)) rr2⟩⟩
end
end L2.EP
namespace L2.EP
open PySem PySem.Spec PyProof.Rows
def xzRow (K:PySem.W.Frag) (S:Addr):Bool:=PySem.W.excIn K S bmV "ValueError.__new__" && PySem.W.exmOne K (.ref S) (.ref S) == some true
structure Xz (K:PySem.W.Frag) (mg:Str→Option Value) (S:Addr):Prop where
 mS:mg "NoStep"=some (.ref S)
 rz:RzK K S
 xT:PySem.W.exmOne K (.ref S) (.ref S)=some true
theorem xz_mk {K:PySem.W.Frag} {h:Heap} {mg:Str→Option Value} {S:Addr} (X:K.In h) (G:h.Ns mainGlobals mg) (z:PySem.W.nsIn K mainGlobals "NoStep"=some (some (.ref S))) (y:xzRow K S=true):Xz K mg S:=by
 simp only [xzRow,Bool.and_eq_true,beq_iff_eq] at y
 exact ⟨PySem.W.mg_of X G z,y.1,y.2⟩
end L2.EP
namespace L2.EP
open PySem PySem.Spec PyProof.Rows
section
variable {X:Cx} {R:RB} {Γ:GEnv} {D:GD} {α β γ δ:Type} [Py α] [Py β] [Py γ] [Py δ] {e e1 e2 e3:Expr} {b b1 b2 b3:Bool} {p pos:Pos} {rest st:List Stmt} {C:Addr} {name:Str} {k:Nat} {ps:List Str}
theorem dn_four {K:PySem.W.Frag} {N:Nn} {H:Hp} {v:V} {a b c d:PyData} (h:DN K N H v (.tuple [a,b,c,d])):∃ q v1 v2 v3 v4,v=.ref q∧Rt H q [v1,v2,v3,v4]∧DN K N H v1 a∧DN K N H v2 b∧DN K N H v3 c∧DN K N H v4 d:=by
 cases h with
 | tup sq q =>
  cases q with
  | cons h1 q =>
   cases q with
   | cons h2 q =>
    cases q with
    | cons h3 q =>
     cases q with
     | cons h4 q =>
      cases q
      exact ⟨_,_,_,_,_,rfl,sq,h1,h2,h3,h4⟩
theorem s_asg4D (i j l m:Nat) {x y z w:Str} {u1 u2 u3 u4:PyData} {p1 p2 p3 p4 p5:Pos} {k:Nat} (hN:X.N.Nodup) (he:E X Γ e b (Dt.mk (.tuple [u1,u2,u3,u4]))) (h:S X ((((Γ.set i (some (.val b (Dt.mk u1)))).set j (some (.val b (Dt.mk u2)))).set l (some (.val b (Dt.mk u3)))).set m (some (.val b (Dt.mk u4)))) rest D) (hc:X.calm=true:=by rfl) (hi:X.N[i]?=some x:=by rfl) (hj:X.N[j]?=some y:=by rfl) (hl:X.N[l]?=some z:=by rfl) (hm:X.N[m]?=some w:=by rfl)
  (hx:Loc X.env.scope x:=by first | exact Or.inl rfl | exact Or.inr rfl) (hy:Loc X.env.scope y:=by first | exact Or.inl rfl | exact Or.inr rfl) (hz:Loc X.env.scope z:=by first | exact Or.inl rfl | exact Or.inr rfl) (hw':Loc X.env.scope w:=by first | exact Or.inl rfl | exact Or.inr rfl)
  (hf:X.fn x=true∨X.env.scope.names.lookup x=some .local:=by first | exact .inl rfl | exact .inr rfl) (hf2:X.fn y=true∨X.env.scope.names.lookup y=some .local:=by first | exact .inl rfl | exact .inr rfl) (hf3:X.fn z=true∨X.env.scope.names.lookup z=some .local:=by first | exact .inl rfl | exact .inr rfl) (hf4:X.fn w=true∨X.env.scope.names.lookup w=some .local:=by first | exact .inl rfl | exact .inr rfl)
  (hs:swapsWithSole [.Tuple [.Name x p1,.Name y p2,.Name z p3,.Name w p4] k p5] e pos.line X.env=pure false:=by rfl) (hw:swappedStores [.Tuple [.Name x p1,.Name y p2,.Name z p3,.Name w p4] k p5] e X.env=pure none:=by rfl)
  (h1:(assignEach [.Tuple [.Name x p1,.Name y p2,.Name z p3,.Name w p4] k p5] X.env).map (·.2)=[assign (.Tuple [.Name x p1,.Name y p2,.Name z p3,.Name w p4] k p5) X.env]:=by rfl) (hn:(assignEach [.Name x p1,.Name y p2,.Name z p3,.Name w p4] X.env).length=4:=by rfl)
  (hst:(assignEach [.Name x p1,.Name y p2,.Name z p3,.Name w p4] X.env).findIdx? (·.1)=none:=by rfl) (ha1:assignEach [.Name x p1,.Name y p2,.Name z p3,.Name w p4] X.env=(false,assign (.Name x p1) X.env) :: assignEach [.Name y p2,.Name z p3,.Name w p4] X.env:=by rfl) (ha2:assignEach [.Name y p2,.Name z p3,.Name w p4] X.env=(false,assign (.Name y p2) X.env) :: assignEach [.Name z p3,.Name w p4] X.env:=by rfl)
  (ha3:assignEach [.Name z p3,.Name w p4] X.env=(false,assign (.Name z p3) X.env) :: assignEach [.Name w p4] X.env:=by rfl) (ha4:assignEach [.Name w p4] X.env=(false,assign (.Name w p4) X.env) :: assignEach [] X.env:=by rfl) :
  S X Γ (.Assign [.Tuple [.Name x p1,.Name y p2,.Name z p3,.Name w p4] k p5] e pos :: rest) D:=by
 with_unfolding_all
  exact s_seq (ps_wk (ps_asg he (pg_tup hc (pgs_cons (pg_name hN hi hx hf) (pgs_cons (pg_name hN hj hy hf2) (pgs_cons (pg_name hN hl hz hf3) (pgs_cons (pg_name hN hm hw' hf4) pgs_nil))))) hs hw h1) fun De σ H ⟨H0,F,O,Z,n,_⟩=>⟨H0,F,O,Z,fun v H1 s1 r1=>by
    obtain ⟨q,v1,v2,v3,v4,e',sq,g1,g2,g3,g4⟩:=dn_four r1
    refine ⟨q,_,e',sqT_rd (off_same _ _) sq,rfl,v1,[v2,v3,v4],rfl,v2,[v3,v4],rfl,v3,[v4],rfl,v4,[],rfl,rfl,?_⟩
    exact n _ _ H1 O (off_mono s1) (((((Z.go s1).set (α:=Dt) g1).set (α:=Dt) g2).set (α:=Dt) g3).set (α:=Dt) g4) h⟩)
theorem e_dOn {β:Type} [Py β] (h:E X Γ e b (none:Option β)):E X Γ e b (Dt.mk .none):=e_rp h fun N H v r=>by cases r; exact DN.non
theorem Sta.reval {K:PySem.W.Frag} {H0 H:Hp} {F O:Addr→Prop} {Γ:GEnv} {σ:St} {i:Nat} {g g':Bd} (Z:Sta K H0 F O Γ σ H) (hg:Γ[i]?=some (some g)) (hn:¬ g.isOwn) (hn':¬ g'.isOwn) (ho:∀ v,g.ok K H0 O H v→g'.ok K H0 O H v):Sta K H0 F O (Γ.set i (some g')) σ H:=by
 have hi:i < Γ.length:=by
  rcases Nat.lt_or_ge i Γ.length with h | h
  ·exact h
  ·rw [List.getElem?_eq_none h] at hg; cases hg
 have at_:∀ (j:Nat) (g0:Bd),(Γ.set i (some g'))[j]?=some (some g0)→(j=i∧g0=g')∨(j≠i∧Γ[j]?=some (some g0)):=fun j g0 hj=>by
  by_cases z:j=i
  ·subst z
   rw [List.getElem?_set_self hi] at hj
   cases hj
   exact .inl ⟨rfl,rfl⟩
  ·rw [List.getElem?_set_ne (Ne.symm z)] at hj
   exact .inr ⟨z,hj⟩
 obtain ⟨D,d1,d2,d3⟩:=Z.dis
 refine ⟨Z.same,Z.fo,Z.f0,Z.own,by rw [List.length_set]; exact Z.len,fun j g0 hj hno=>?_,D,d1,d2,fun j g0 hj how=>?_⟩
 ·rcases at_ j g0 hj with ⟨rfl,rfl⟩ | ⟨_,h⟩
  ·obtain ⟨v,h1,h2⟩:=Z.at_ j g hg hn
   exact ⟨v,h1,ho v h2⟩
  ·exact Z.at_ j g0 h hno
 ·rcases at_ j g0 hj with ⟨rfl,rfl⟩ | ⟨_,h⟩
  ·exact absurd how hn'
  ·exact d3 j g0 h how
theorem s_unopt {β:Type} [Py β] (i:Nat) {a:β} {st:List Stmt} (hg:Γ[i]?=some (some (.val b (some a)))) (h:S X (Γ.set i (some (.val b a))) st D):S X Γ st D:=by
 with_unfolding_all
  exact pss_wk h fun De σ H ⟨H0,F,O,Z,n,r,bk,ct⟩=>⟨H0,F,O,Z.reval hg (fun z=>z) (fun z=>z) fun v q=>q,n,r,bk,ct⟩
end
end L2.EP
namespace L2.EP
open PySem PySem.Spec PyProof.Rows
section
variable {X:Cx} {Γ:GEnv} {D:GD} {α β γ:Type} [Py α] [Py β] [Py γ] {e e1 e2 e3 ek el:Expr} {b b1 b2 b3:Bool} {pos:Pos} {rest:List Stmt}
theorem s_swapA [PyT β] (i:Nat) {rows:List (List β)} {rk rl:List β} {k l:Int} {x:Str} {p p' r r' p3 p4 p5 p6 p7 p8:Pos} {m m':Nat} (hg:Γ[i]?=some (some (.dpo (TbO.mk rows)))) (hk:E X Γ ek b2 k) (hk2:E X Γ e2 b2 k) (hl:E X Γ e1 b3 l) (hl':∀ y,E X (Γ.set i (some (.dpo (PinT.mk (rows.set k.toNat rl) y rk)))) el b3 l) (h0:0≤k) (h2:0≤l) (hrk:rows[k.toNat]?=some rk) (hrl:rows[l.toNat]?=some rl) (h:S X (Γ.set i (some (.dpo (TbO.mk ((rows.set k.toNat rl).set l.toNat rk))))) rest D) (hi:X.N[i]?=some x:=by rfl)
  (hv:Vis X.env.scope x:=by first | exact Or.inl rfl | exact Or.inr (Or.inl rfl) | exact Or.inr (Or.inr rfl)) (hd:(x == ("__debug__":Str))=false:=by decide) (hcd:(x == ("__classdict__":Str))=false:=by decide) (hc:X.calm=true:=by rfl)
  (hp1:PlainIx e2:=by intro _ _; rfl) (hp2:PlainIx e1:=by intro _ _; rfl)
  (ha:∀ v,assign (.Subscript (.Name x p) ek p') X.env v=(do
   let ov ← holding [v] (eval (.Name x p) X.env)
   let iv ← holding [v,ov] (eval ek X.env)
   standAt p'
   holding [v,ov,iv] (setItem ov iv v)
   release [v,ov,iv] []):=by intro _; rfl)
  (ha2:∀ v,assign (.Subscript (.Name x r) el r') X.env v=(do
   let ov ← holding [v] (eval (.Name x r) X.env)
   let iv ← holding [v,ov] (eval el X.env)
   standAt r'
   holding [v,ov,iv] (setItem ov iv v)
   release [v,ov,iv] []):=by intro _; rfl)
  (hs:swapsWithSole [.Tuple [.Subscript (.Name x p) ek p',.Subscript (.Name x r) el r'] m p3] (.Tuple [.Subscript (.Name x p4) e1 p5,.Subscript (.Name x p6) e2 p7] m' p8) pos.line X.env=pure false:=by rfl) (hw:swappedStores [.Tuple [.Subscript (.Name x p) ek p',.Subscript (.Name x r) el r'] m p3] (.Tuple [.Subscript (.Name x p4) e1 p5,.Subscript (.Name x p6) e2 p7] m' p8) X.env=pure none:=by rfl)
  (h1:(assignEach [.Tuple [.Subscript (.Name x p) ek p',.Subscript (.Name x r) el r'] m p3] X.env).map (·.2)=[assign (.Tuple [.Subscript (.Name x p) ek p',.Subscript (.Name x r) el r'] m p3) X.env]:=by rfl)
  (hn:(assignEach [.Subscript (.Name x p) ek p',.Subscript (.Name x r) el r'] X.env).length=2:=by rfl) (hst:(assignEach [.Subscript (.Name x p) ek p',.Subscript (.Name x r) el r'] X.env).findIdx? (·.1)=none:=by rfl)
  (hq1:(assignEach [.Subscript (.Name x p) ek p',.Subscript (.Name x r) el r'] X.env).map (·.2)=assign (.Subscript (.Name x p) ek p') X.env :: (assignEach [.Subscript (.Name x r) el r'] X.env).map (·.2):=by rfl) (hq2:(assignEach [.Subscript (.Name x r) el r'] X.env).map (·.2)=assign (.Subscript (.Name x r) el r') X.env :: (assignEach [] X.env).map (·.2):=by rfl)
  (he1:starEach [.Subscript (.Name x p4) e1 p5,.Subscript (.Name x p6) e2 p7] X.env=(false,eval (.Subscript (.Name x p4) e1 p5) X.env) :: starEach [.Subscript (.Name x p6) e2 p7] X.env:=by rfl) (he2:starEach [.Subscript (.Name x p6) e2 p7] X.env=(false,eval (.Subscript (.Name x p6) e2 p7) X.env) :: starEach [] X.env:=by rfl) :
  S X Γ (.Assign [.Tuple [.Subscript (.Name x p) ek p',.Subscript (.Name x r) el r'] m p3] (.Tuple [.Subscript (.Name x p4) e1 p5,.Subscript (.Name x p6) e2 p7] m' p8) pos :: rest) D:=by
 with_unfolding_all
  exact s_seq (ps_wk (ps_asg (pe_tup (pa_cons (pe_ix ix_list (pv i hi hv hd hcd) hl hp2) (pa_cons (pe_ix ix_list (pv i hi hv hd hcd) hk2 hp1) pa_nil he2) he1)) (pg_tup hc (pgs_cons (pg_sub (pv i hi hv hd hcd) hk set_list ha) (pgs_cons (pg_sub (pv i hi hv hd hcd) (pe_all hl') set_list ha2) pgs_nil hq2) hq1) hn hst) hs hw h1) fun De σ H ⟨H0,F,O,Z,n,_⟩=>by
    have ek':k=((k.toNat:Nat):Int):=by omega
    have el':l=((l.toNat:Nat):Int):=by omega
    obtain ⟨v,_,hv1,_,_,_⟩:=Z.write hg True.intro
    refine ⟨v,hv1,H0,F,O,Z,fun lu H1 z1 rl1=>?_⟩
    cases rl1
    obtain ⟨v',D1,hv2,⟨q1,xs,ee1,sq1,nn1,nd1,rr1⟩,_,_⟩:=(Z.go z1).write hg True.intro
    have evv:v=v':=by rw [hv1] at hv2; exact Option.some.inj (Option.some.inj hv2)
    subst evv
    obtain ⟨vl,hxl,_⟩:=pr_get rr1 hrl
    obtain ⟨vk,hxk,_⟩:=pr_get rr1 hrk
    refine ⟨q1,xs,l,vl,ee1,rfl,sq1,by rw [el']; exact atI_nat hxl,?_⟩
    refine ⟨v,hv1,H0,F,O,Z.go z1,fun ku H2 z2 rk1=>?_⟩
    cases rk1
    refine ⟨q1,xs,k,vk,ee1,rfl,z2.seq sq1,by rw [ek']; exact atI_nat hxk,?_⟩
    refine ⟨by show 2≤sizeLine; decide,fun pt hpt=>?_⟩
    obtain ⟨z3,zt⟩:=laid_tup (xs:=[vl,vk]) ((Z.go z1).go z2) hpt
    refine ⟨pt,[vl,vk],rfl,sqT_rd (off_same _ _) zt,rfl,vl,[vk],rfl,?_⟩
    have Z3:=((Z.go z1).go z2).go z3
    refine ⟨v,hv1,H0,F,O,Z3,fun ku H4 z4 rk2=>?_⟩
    cases rk2
    obtain ⟨v',Di,hv2,⟨q,xs',e1,sq,nn,nd,rr⟩,hO,wr⟩:=(Z3.go z4).write hg True.intro
    have evv:v=v':=by rw [hv1] at hv2; exact Option.some.inj (Option.some.inj hv2)
    subst evv
    have eqq:q1=q:=by rw [ee1] at e1; cases e1; rfl
    subst eqq
    have exs:xs=xs':=by
     have a1:=z4 _ _ (z3 _ _ (z2 _ _ nn1.2))
     rw [nn.2] at a1; cases a1; rfl
    subst exs
    have lx:=pr_len rr
    have hlk:k.toNat < xs.length:=(List.getElem?_eq_some_iff.mp hxk).1
    have hll:l.toNat < xs.length:=(List.getElem?_eq_some_iff.mp hxl).1
    have hix:ixN xs.length k=some k.toNat:=by unfold ixN; rw [if_pos h0,if_pos (by omega)]
    have hix2:ixN (xs.set k.toNat vl).length l=some l.toNat:=by rw [List.length_set]; unfold ixN; rw [if_pos h2,if_pos (by omega)]
    have out:∀ x∈xs,x≠.ref q1:=fun x hx w=>by
     obtain ⟨j,hj⟩:=List.mem_iff_getElem?.mp hx
     obtain ⟨rj,h1,hp⟩:=pr_get' rr hj
     obtain ⟨qj,ys,eqj,_,nnj,rrj⟩:=hp
     exact outer_neK nn.2 nnj.2 (by rw [hj,eqj]) _ rrj (by rw [w] at eqj; cases eqj; rfl)
    have rr':∀ zs:List V,Paired (fun x r=>Py.rp X.K (.set Di) (upd H4 q1 (.lst zs)) x r) xs rows:=fun zs=>pr_mem rr fun a c ma hc=>row_out nn.2 hc (out a ma)
    refine ⟨q1,xs,k,k.toNat,ee1,rfl,nn.2,hix,?_⟩
    have hrl':∀ zs:List V,Py.rp X.K (.set Di) (upd H4 q1 (.lst zs)) vl rl:=fun zs=>by
     obtain ⟨a,ha,hp⟩:=pr_get (rr' zs) hrl
     rw [hxl] at ha; cases ha; exact hp
    have hrk':∀ zs:List V,Py.rp X.K (.set Di) (upd H4 q1 (.lst zs)) vk rk:=fun zs=>by
     obtain ⟨a,ha,hp⟩:=pr_get (rr' zs) hrk
     rw [hxk] at ha; cases ha; exact hp
    obtain ⟨Z',eo⟩:=wr q1 (xs.set k.toNat vl) (some (.dpo (PinT.mk (rows.set k.toNat rl) vk rk))) nn.1 fun g'' e'=>by
     cases e'
     exact ⟨True.intro,q1,_,ee1,SqL.of upd_same,⟨nn.1,upd_same⟩,pr_set (hrl' _) k.toNat (rr' _),hrk' _⟩
    refine ⟨vk,[],rfl,?_⟩
    have hgi:(Γ.set i (some (.dpo (PinT.mk (rows.set k.toNat rl) vk rk))))[i]?=some (some (.dpo (PinT.mk (rows.set k.toNat rl) vk rk))):=by
     rw [List.getElem?_set_self]
     exact (List.getElem?_eq_some_iff.mp hg).1
    refine ⟨v,hv1,vk,H0,F,O,Z',fun y H5 z5 ry=>?_⟩
    obtain ⟨v',D2,hv2,⟨q2,xs2,e2,sq2,nn2,rr2,rk2⟩,hO2,wr2⟩:=(Z'.go z5).write hgi True.intro
    have evv:v=v':=by rw [hv1] at hv2; exact Option.some.inj (Option.some.inj hv2)
    subst evv
    have eqq:q1=q2:=by rw [ee1] at e2; cases e2; rfl
    subst eqq
    cases ry
    have exs:xs2=xs.set k.toNat vl:=by
     have a1:=z5 _ _ (upd_same (H:=H4) (a:=q1))
     rw [nn2.2] at a1; cases a1; rfl
    subst exs
    refine ⟨q1,xs.set k.toNat vl,l,l.toNat,ee1,rfl,nn2.2,hix2,rfl,?_⟩
    have out2:∀ x∈xs.set k.toNat vl,x≠.ref q1:=fun x hx=>by
     rcases List.mem_or_eq_of_mem_set hx with w | w
     ·exact out x w
     ·rw [w]; exact out vl (List.mem_of_getElem? hxl)
    have rr2':∀ zs:List V,Paired (fun x r=>Py.rp X.K (.set D2) (upd H5 q1 (.lst zs)) x r) (xs.set k.toNat vl) (rows.set k.toNat rl):=fun zs=>pr_mem rr2 fun a c ma hc=>row_out nn2.2 hc (out2 a ma)
    have rk2':∀ zs:List V,Py.rp X.K (.set D2) (upd H5 q1 (.lst zs)) vk rk:=fun zs=>row_out nn2.2 rk2 (out vk (List.mem_of_getElem? hxk))
    have ndp:((xs.set k.toNat vl).set l.toNat vk).Nodup:=by
     have e1:xs[l.toNat]=vl:=by rw [List.getElem?_eq_getElem hll] at hxl; exact Option.some.inj hxl
     have e2:xs[k.toNat]=vk:=by rw [List.getElem?_eq_getElem hlk] at hxk; exact Option.some.inj hxk
     have:=List.set_set_perm (as:=xs) hlk hll
     rw [e1,e2] at this
     exact this.nodup_iff.mpr nd
    obtain ⟨Z'',eo2⟩:=wr2 q1 ((xs.set k.toNat vl).set l.toNat vk) (some (.dpo (TbO.mk ((rows.set k.toNat rl).set l.toNat rk)))) nn2.1 fun g'' e'=>by
     cases e'
     exact ⟨True.intro,q1,_,ee1,SqL.of upd_same,⟨nn2.1,upd_same⟩,ndp,pr_set (rk2' _) l.toNat (rr2' _)⟩
    rw [List.set_set] at Z''
    exact n _ _ _ _ (by
     have a1:=off_mono (O:=O) (z1.trans (z2.trans (z3.trans z4)))
     have a3:=off_mono (O:=O) z5
     rw [eo] at a3
     rw [eo2]
     exact a1.trans a3) Z'' h)
end
end L2.EP
namespace L2.EP.K
open PySem PySem.Spec PyProof.Rows
open _root_.EP (fr fd)
def top (i:Nat):Stmt:=PySem.Challenge.pw_everyplace_k71_papers_of_steps_and_pairs.main.body.getD i (.Pass ⟨0,0,0,0⟩)
abbrev s_is_whole:Stmt:=top 6
abbrev N_is_whole:List Str:=["k"]
theorem sc_is_whole:FnScope N_is_whole ["k"] (defScope s_is_whole):=⟨rfl,rfl,rfl,by decide +kernel,rfl,by decide +kernel,by decide +kernel⟩
abbrev s_power:Stmt:=top 7
abbrev N_power:List Str:=["base","exponent","answer","step"]
theorem sc_power:FnScope N_power ["base","exponent"] (defScope s_power):=⟨rfl,rfl,rfl,by decide +kernel,rfl,by decide +kernel,by decide +kernel⟩
abbrev s_taken_out:Stmt:=top 9
abbrev N_taken_out:List Str:=["k","divisor","often","left"]
theorem sc_taken_out:FnScope N_taken_out ["k","divisor"] (defScope s_taken_out):=⟨rfl,rfl,rfl,by decide +kernel,rfl,by decide +kernel,by decide +kernel⟩
abbrev s_square_root:Stmt:=top 10
abbrev N_square_root:List Str:=["k","root"]
theorem sc_square_root:FnScope N_square_root ["k"] (defScope s_square_root):=⟨rfl,rfl,rfl,by decide +kernel,rfl,by decide +kernel,by decide +kernel⟩
abbrev s_square_root_or_none:Stmt:=top 11
abbrev N_square_root_or_none:List Str:=["k","root"]
theorem sc_square_root_or_none:FnScope N_square_root_or_none ["k"] (defScope s_square_root_or_none):=⟨rfl,rfl,rfl,by decide +kernel,rfl,by decide +kernel,by decide +kernel⟩
abbrev s_common_divisor:Stmt:=top 14
abbrev N_common_divisor:List Str:=["a","b","rest"]
theorem sc_common_divisor:FnScope N_common_divisor ["a","b"] (defScope s_common_divisor):=⟨rfl,rfl,rfl,by decide +kernel,rfl,by decide +kernel,by decide +kernel⟩
abbrev s_is_fraction:Stmt:=top 15
abbrev N_is_fraction:List Str:=["thing"]
theorem sc_is_fraction:FnScope N_is_fraction ["thing"] (defScope s_is_fraction):=⟨rfl,rfl,rfl,by decide +kernel,rfl,by decide +kernel,by decide +kernel⟩
abbrev s_fraction:Stmt:=top 16
abbrev N_fraction:List Str:=["top","bottom","divisor"]
theorem sc_fraction:FnScope N_fraction ["top","bottom"] (defScope s_fraction):=⟨rfl,rfl,rfl,by decide +kernel,rfl,by decide +kernel,by decide +kernel⟩
abbrev s_is_vector:Stmt:=top 18
abbrev N_is_vector:List Str:=["thing","n"]
theorem sc_is_vector:FnScope N_is_vector ["thing","n"] (defScope s_is_vector):=⟨rfl,rfl,rfl,by decide +kernel,rfl,by decide +kernel,by decide +kernel⟩
abbrev s_is_table:Stmt:=top 19
abbrev N_is_table:List Str:=["thing","n"]
theorem sc_is_table:FnScope N_is_table ["thing","n"] (defScope s_is_table):=⟨rfl,rfl,rfl,by decide +kernel,rfl,by decide +kernel,by decide +kernel⟩
abbrev s_column:Stmt:=top 20
abbrev N_column:List Str:=["T","j"]
theorem sc_column:FnScope N_column ["T","j"] (defScope s_column):=⟨rfl,rfl,rfl,by decide +kernel,rfl,by decide +kernel,by decide +kernel⟩
abbrev s_turned_over:Stmt:=top 21
abbrev N_turned_over:List Str:=["T"]
theorem sc_turned_over:FnScope N_turned_over ["T"] (defScope s_turned_over):=⟨rfl,rfl,rfl,by decide +kernel,rfl,by decide +kernel,by decide +kernel⟩
abbrev s_common_bottom:Stmt:=top 22
abbrev N_common_bottom:List Str:=["numbers","bottom","u"]
theorem sc_common_bottom:FnScope N_common_bottom ["numbers"] (defScope s_common_bottom):=⟨rfl,rfl,rfl,by decide +kernel,rfl,by decide +kernel,by decide +kernel⟩
abbrev s_over_one_bottom:Stmt:=top 23
abbrev N_over_one_bottom:List Str:=["numbers","bottom"]
theorem sc_over_one_bottom:FnScope N_over_one_bottom ["numbers"] (defScope s_over_one_bottom):=⟨rfl,rfl,rfl,by decide +kernel,rfl,by decide +kernel,by decide +kernel⟩
abbrev s_sum_of_products:Stmt:=top 24
abbrev N_sum_of_products:List Str:=["one","other","total"]
theorem sc_sum_of_products:FnScope N_sum_of_products ["one","other"] (defScope s_sum_of_products):=⟨rfl,rfl,rfl,by decide +kernel,rfl,by decide +kernel,by decide +kernel⟩
abbrev s_sums_with:Stmt:=top 25
abbrev N_sums_with:List Str:=["one","others"]
theorem sc_sums_with:FnScope N_sums_with ["one","others"] (defScope s_sums_with):=⟨rfl,rfl,rfl,by decide +kernel,rfl,by decide +kernel,by decide +kernel⟩
abbrev s_at:Stmt:=top 26
abbrev N_at:List Str:=["T","x","rows"]
theorem sc_at:FnScope N_at ["T","x"] (defScope s_at):=⟨rfl,rfl,rfl,by decide +kernel,rfl,by decide +kernel,by decide +kernel⟩
abbrev s_product:Stmt:=top 27
abbrev N_product:List Str:=["one","other","columns"]
theorem sc_product:FnScope N_product ["one","other"] (defScope s_product):=⟨rfl,rfl,rfl,by decide +kernel,rfl,by decide +kernel,by decide +kernel⟩
abbrev s_led:Stmt:=top 30
abbrev N_led:List Str:=["F","T"]
theorem sc_led:FnScope N_led ["F","T"] (defScope s_led):=⟨rfl,rfl,rfl,by decide +kernel,rfl,by decide +kernel,by decide +kernel⟩
abbrev s_with_number:Stmt:=top 31
abbrev N_with_number:List Str:=["n","place","number"]
theorem sc_with_number:FnScope N_with_number ["n","place","number"] (defScope s_with_number):=⟨rfl,rfl,rfl,by decide +kernel,rfl,by decide +kernel,by decide +kernel⟩
abbrev s_form_of:Stmt:=top 32
abbrev N_form_of:List Str:=["numbers"]
theorem sc_form_of:FnScope N_form_of ["numbers"] (defScope s_form_of):=⟨rfl,rfl,rfl,by decide +kernel,rfl,by decide +kernel,by decide +kernel⟩
abbrev s_form_of_row:Stmt:=top 33
abbrev N_form_of_row:List Str:=["row"]
theorem sc_form_of_row:FnScope N_form_of_row ["row"] (defScope s_form_of_row):=⟨rfl,rfl,rfl,by decide +kernel,rfl,by decide +kernel,by decide +kernel⟩
abbrev s_next_divisor:Stmt:=top 37
abbrev N_next_divisor:List Str:=["k","begin","end","divisor"]
theorem sc_next_divisor:FnScope N_next_divisor ["k","begin","end"] (defScope s_next_divisor):=⟨rfl,rfl,rfl,by decide +kernel,rfl,by decide +kernel,by decide +kernel⟩
abbrev s_divided:Stmt:=top 39
abbrev N_divided:List Str:=["k","end","out","found","left","divisor"]
theorem sc_divided:FnScope N_divided ["k","end"] (defScope s_divided):=⟨rfl,rfl,rfl,by decide +kernel,rfl,by decide +kernel,by decide +kernel⟩
abbrev s_tame_parts:Stmt:=top 40
abbrev N_tame_parts:List Str:=["k","known","root"]
theorem sc_tame_parts:FnScope N_tame_parts ["k"] (defScope s_tame_parts):=⟨rfl,rfl,rfl,by decide +kernel,rfl,by decide +kernel,by decide +kernel⟩
abbrev s_freed:Stmt:=top 41
abbrev N_freed:List Str:=["u","known","number","root","part"]
theorem sc_freed:FnScope N_freed ["u"] (defScope s_freed):=⟨rfl,rfl,rfl,by decide +kernel,rfl,by decide +kernel,by decide +kernel⟩
abbrev s_free_of:Stmt:=top 42
abbrev N_free_of:List Str:=["k"]
theorem sc_free_of:FnScope N_free_of ["k"] (defScope s_free_of):=⟨rfl,rfl,rfl,by decide +kernel,rfl,by decide +kernel,by decide +kernel⟩
abbrev s_is_row_number:Stmt:=top 68
abbrev N_is_row_number:List Str:=["k"]
theorem sc_is_row_number:FnScope N_is_row_number ["k"] (defScope s_is_row_number):=⟨rfl,rfl,rfl,by decide +kernel,rfl,by decide +kernel,by decide +kernel⟩
abbrev s_is_row:Stmt:=top 69
abbrev N_is_row:List Str:=["row"]
theorem sc_is_row:FnScope N_is_row ["row"] (defScope s_is_row):=⟨rfl,rfl,rfl,by decide +kernel,rfl,by decide +kernel,by decide +kernel⟩
abbrev s_refuse_no_row:Stmt:=top 70
abbrev N_refuse_no_row:List Str:=["row"]
theorem sc_refuse_no_row:FnScope N_refuse_no_row ["row"] (defScope s_refuse_no_row):=⟨rfl,rfl,rfl,by decide +kernel,rfl,by decide +kernel,by decide +kernel⟩
abbrev s_joined:Stmt:=top 71
abbrev N_joined:List Str:=["a","b","divisor"]
theorem sc_joined:FnScope N_joined ["a","b"] (defScope s_joined):=⟨rfl,rfl,rfl,by decide +kernel,rfl,by decide +kernel,by decide +kernel⟩
abbrev s_free_product:Stmt:=top 72
abbrev N_free_product:List Str:=["row","number","k"]
theorem sc_free_product:FnScope N_free_product ["row"] (defScope s_free_product):=⟨rfl,rfl,rfl,by decide +kernel,rfl,by decide +kernel,by decide +kernel⟩
abbrev s_is_like_step:Stmt:=top 78
abbrev N_is_like_step:List Str:=["thing"]
theorem sc_is_like_step:FnScope N_is_like_step ["thing"] (defScope s_is_like_step):=⟨rfl,rfl,rfl,by decide +kernel,rfl,by decide +kernel,by decide +kernel⟩
abbrev s_made_of_two:Stmt:=top 79
abbrev N_made_of_two:List Str:=["a","b","x","y","top"]
theorem sc_made_of_two:FnScope N_made_of_two ["a","b","x","y"] (defScope s_made_of_two):=⟨rfl,rfl,rfl,by decide +kernel,rfl,by decide +kernel,by decide +kernel⟩
abbrev s_is_free:Stmt:=top 80
abbrev N_is_free:List Str:=["k"]
theorem sc_is_free:FnScope N_is_free ["k"] (defScope s_is_free):=⟨rfl,rfl,rfl,by decide +kernel,rfl,by decide +kernel,by decide +kernel⟩
abbrev s_numbers_behind:Stmt:=top 81
abbrev N_numbers_behind:List Str:=["row","step","i","j","made","other"]
theorem sc_numbers_behind:FnScope N_numbers_behind ["row","step"] (defScope s_numbers_behind):=⟨rfl,rfl,rfl,by decide +kernel,rfl,by decide +kernel,by decide +kernel⟩
abbrev s_row_with:Stmt:=top 82
abbrev N_row_with:List Str:=["row","step","numbers","answer"]
theorem sc_row_with:FnScope N_row_with ["row","step","numbers"] (defScope s_row_with):=⟨rfl,rfl,rfl,by decide +kernel,rfl,by decide +kernel,by decide +kernel⟩
abbrev s_row_behind:Stmt:=top 83
abbrev N_row_behind:List Str:=["row","steps","answer","step"]
theorem sc_row_behind:FnScope N_row_behind ["row","steps"] (defScope s_row_behind):=⟨rfl,rfl,rfl,by decide +kernel,rfl,by decide +kernel,by decide +kernel⟩
abbrev s_is_led:Stmt:=top 88
abbrev N_is_led:List Str:=["row","other","T"]
theorem sc_is_led:FnScope N_is_led ["row","other","T"] (defScope s_is_led):=⟨rfl,rfl,rfl,by decide +kernel,rfl,by decide +kernel,by decide +kernel⟩
abbrev s_is_led_by_steps:Stmt:=top 89
abbrev N_is_led_by_steps:List Str:=["row","other","steps"]
theorem sc_is_led_by_steps:FnScope N_is_led_by_steps ["row","other","steps"] (defScope s_is_led_by_steps):=⟨rfl,rfl,rfl,by decide +kernel,rfl,by decide +kernel,by decide +kernel⟩
abbrev s_has_pairs_ahead:Stmt:=top 90
abbrev N_has_pairs_ahead:List Str:=["row","k"]
theorem sc_has_pairs_ahead:FnScope N_has_pairs_ahead ["row","k"] (defScope s_has_pairs_ahead):=⟨rfl,rfl,rfl,by decide +kernel,rfl,by decide +kernel,by decide +kernel⟩
abbrev s_lets_three_by:Stmt:=top 92
abbrev N_lets_three_by:List Str:=["row","kind","thing","last"]
theorem sc_lets_three_by:FnScope N_lets_three_by ["row","kind","thing","last"] (defScope s_lets_three_by):=⟨rfl,rfl,rfl,by decide +kernel,rfl,by decide +kernel,by decide +kernel⟩
abbrev s_lets_by:Stmt:=top 93
abbrev N_lets_by:List Str:=["row","paper"]
theorem sc_lets_by:FnScope N_lets_by ["row","paper"] (defScope s_lets_by):=⟨rfl,rfl,rfl,by decide +kernel,rfl,by decide +kernel,by decide +kernel⟩
abbrev s_law_deep:Stmt:=top 95
abbrev N_law_deep:List Str:=["_law_script","_law_k","_law_cell","_law_deep_here","_law_j","_law_here"]
theorem sc_law_deep:FnScope N_law_deep ["_law_script","_law_k"] (defScope s_law_deep):=⟨rfl,rfl,rfl,by decide +kernel,rfl,by decide +kernel,by decide +kernel⟩
abbrev s_law_whole:Stmt:=top 96
abbrev N_law_whole:List Str:=["_law_found"]
theorem sc_law_whole:FnScope N_law_whole ["_law_found"] (defScope s_law_whole):=⟨rfl,rfl,rfl,by decide +kernel,rfl,by decide +kernel,by decide +kernel⟩
abbrev s_law_common:Stmt:=top 97
abbrev N_law_common:List Str:=["_law_one","_law_other","_law_rest"]
theorem sc_law_common:FnScope N_law_common ["_law_one","_law_other"] (defScope s_law_common):=⟨rfl,rfl,rfl,by decide +kernel,rfl,by decide +kernel,by decide +kernel⟩
abbrev s_law_fraction:Stmt:=top 98
abbrev N_law_fraction:List Str:=["_law_top","_law_bottom","_law_part"]
theorem sc_law_fraction:FnScope N_law_fraction ["_law_top","_law_bottom"] (defScope s_law_fraction):=⟨rfl,rfl,rfl,by decide +kernel,rfl,by decide +kernel,by decide +kernel⟩
abbrev s_law_plus:Stmt:=top 99
abbrev N_law_plus:List Str:=["_law_u","_law_v"]
theorem sc_law_plus:FnScope N_law_plus ["_law_u","_law_v"] (defScope s_law_plus):=⟨rfl,rfl,rfl,by decide +kernel,rfl,by decide +kernel,by decide +kernel⟩
abbrev s_law_times:Stmt:=top 100
abbrev N_law_times:List Str:=["_law_u","_law_v"]
theorem sc_law_times:FnScope N_law_times ["_law_u","_law_v"] (defScope s_law_times):=⟨rfl,rfl,rfl,by decide +kernel,rfl,by decide +kernel,by decide +kernel⟩
abbrev s_law_plain:Stmt:=top 101
abbrev N_law_plain:List Str:=["_law_many"]
theorem sc_law_plain:FnScope N_law_plain ["_law_many"] (defScope s_law_plain):=⟨rfl,rfl,rfl,by decide +kernel,rfl,by decide +kernel,by decide +kernel⟩
abbrev s_law_free:Stmt:=top 102
abbrev N_law_free:List Str:=["_law_number","_law_left","_law_free_here","_law_d","_law_often"]
theorem sc_law_free:FnScope N_law_free ["_law_number"] (defScope s_law_free):=⟨rfl,rfl,rfl,by decide +kernel,rfl,by decide +kernel,by decide +kernel⟩
abbrev s_law_lets:Stmt:=top 103
abbrev N_law_lets:List Str:=["_law_row_here","_law_paper","_law_told"]
theorem sc_law_lets:FnScope N_law_lets ["_law_row_here","_law_paper"] (defScope s_law_lets):=⟨rfl,rfl,rfl,by decide +kernel,rfl,by decide +kernel,by decide +kernel⟩
abbrev s_law_row:Stmt:=top 104
abbrev N_law_row:List Str:=["_law_cell","_law_size","_law_row_here","_law_k","_law_number","_law_prime"]
theorem sc_law_row:FnScope N_law_row ["_law_cell","_law_size"] (defScope s_law_row):=⟨rfl,rfl,rfl,by decide +kernel,rfl,by decide +kernel,by decide +kernel⟩
abbrev s_law_is_fraction:Stmt:=top 105
abbrev N_law_is_fraction:List Str:=["_law_thing"]
theorem sc_law_is_fraction:FnScope N_law_is_fraction ["_law_thing"] (defScope s_law_is_fraction):=⟨rfl,rfl,rfl,by decide +kernel,rfl,by decide +kernel,by decide +kernel⟩
abbrev s_law_stepped:Stmt:=top 106
abbrev N_law_stepped:List Str:=["_law_row_here","_law_step","_law_i","_law_j","_law_x","_law_y","_law_made","_law_under","_law_both","_law_part","_law_new"]
theorem sc_law_stepped:FnScope N_law_stepped ["_law_row_here","_law_step"] (defScope s_law_stepped):=⟨rfl,rfl,rfl,by decide +kernel,rfl,by decide +kernel,by decide +kernel⟩
abbrev s_law_root_of:Stmt:=top 107
abbrev N_law_root_of:List Str:=["_law_number","_law_root","_law_k"]
theorem sc_law_root_of:FnScope N_law_root_of ["_law_number"] (defScope s_law_root_of):=⟨rfl,rfl,rfl,by decide +kernel,rfl,by decide +kernel,by decide +kernel⟩
abbrev s_law_steps:Stmt:=top 108
abbrev N_law_steps:List Str:=["_law_row_here","_law_cell","_law_steps_here","_law_new","_law_k","_law_i","_law_j","_law_x","_law_y","_law_root","_law_step","_law_made"]
theorem sc_law_steps:FnScope N_law_steps ["_law_row_here","_law_cell"] (defScope s_law_steps):=⟨rfl,rfl,rfl,by decide +kernel,rfl,by decide +kernel,by decide +kernel⟩
abbrev s_law_all:Stmt:=top 109
abbrev N_law_all:List Str:=["_law_row_here","_law_steps_here","_law_step"]
theorem sc_law_all:FnScope N_law_all ["_law_row_here","_law_steps_here"] (defScope s_law_all):=⟨rfl,rfl,rfl,by decide +kernel,rfl,by decide +kernel,by decide +kernel⟩
abbrev s_law_spoilt:Stmt:=top 110
abbrev N_law_spoilt:List Str:=["_law_steps_here","_law_cell","_law_branch","_law_here","_law_i","_law_j","_law_x","_law_y","_law_odd"]
theorem sc_law_spoilt:FnScope N_law_spoilt ["_law_steps_here","_law_cell"] (defScope s_law_spoilt):=⟨rfl,rfl,rfl,by decide +kernel,rfl,by decide +kernel,by decide +kernel⟩
abbrev s_law_pairs:Stmt:=top 111
abbrev N_law_pairs:List Str:=["_law_row_here","_law_cell","_law_many","_law_here","_law_table","_law_new","_law_root","_law_begin","_law_told","_law_due","_law_wrong"]
theorem sc_law_pairs:FnScope N_law_pairs ["_law_row_here","_law_cell"] (defScope s_law_pairs):=⟨rfl,rfl,rfl,by decide +kernel,rfl,by decide +kernel,by decide +kernel⟩
abbrev s_law:Stmt:=top 112
abbrev N_law:List Str:=["_law_script","_law_k","_law_cell","_law_row_here","_law_steps_here","_law_new","_law_third","_law_odd","_law_more","_law_asked","_law_other","_law_some","_law_handed","_law_due","_law_pairs_here","_law_j"]
theorem sc_law:FnScope N_law ["_law_script"] (defScope s_law):=⟨rfl,rfl,rfl,by decide +kernel,rfl,by decide +kernel,by decide +kernel⟩
section
variable {P:Program} {w:World} {K:PySem.W.Frag} {mg:Str→Option Value} {base:Heap} {f:Addr} {k:Nat} (B:Bu mg)
theorem tko_go {k d l n:Int} (h0:0≤n) (he:k=l * d ^ n.toNat) (hd:2≤d) (hl:l.fmod d=0) (hz:l≠0):0≤n + 1∧k=l.fdiv d * d ^ (n + 1).toNat∧l.fdiv d≠0∧(l.fdiv d).natAbs < l.natAbs:=by
 obtain ⟨a,b,c⟩:=_root_.EP.tko_step hd (_root_.EP.dvd_fmod.mp hl) hz
 refine ⟨by omega,?_,b,c⟩
 rw [show (n + 1).toNat=n.toNat + 1 by omega,Int.pow_succ,he]
 generalize d ^ n.toNat=t
 generalize l.fdiv d=q at *
 rw [← a]
 grind
theorem b_taken_out (x d:Int) (h0:x≠0) (hd:2≤d) (hs:Sm 9000 d):Body P w K mg base N_taken_out "taken_out" s_taken_out f kk [.val false x,.val false d] (RT true (_root_.EP.tko x d)):=by
 intro cdv A outer s H E hr
 refine s_asg 2 sc_taken_out.nd e_int ?_
 refine s_asg 3 sc_taken_out.nd (e_var 0) ?_
 refine s_while (ι:=Bool × Int × Int) (fun i Γ=>Γ=[some (.val false x),some (.val false d),some (.val true i.2.1),some (.val i.1 i.2.2)]∧0≤i.2.1∧x=i.2.2 * d ^ i.2.1.toNat∧i.2.2≠0) (fun i=>i.2.2.natAbs) (false,0,x) ⟨rfl,Int.le_refl 0,by dsimp only; rw [show (0:Int).toNat=0 from rfl,Int.pow_zero,Int.mul_one],h0⟩ ?_
 rintro ⟨bb,n,l⟩ Γ' ⟨rfl,hn,he,hl⟩
 dsimp only at *
 refine ⟨_,t_cmp cv_eqI (e_mod (e_var 3) (e_var 1) (by omega)) e_int,fun hc=>?_,fun hc=>?_⟩
 ·have hc':l.fmod d=0:=by simpa using hc
  refine s_asg 3 sc_taken_out.nd (e_fdiv (e_var 3) (e_var 1) (hs.div (by omega))) ?_
  refine s_asg 2 sc_taken_out.nd (e_add (e_var 2) e_int) ?_
  obtain ⟨a1,a2,a3,a4⟩:=tko_go hn he hd hc' hl
  exact s_nil ⟨(true,n + 1,l.fdiv d),⟨rfl,a1,a2,a3⟩,a4⟩
 ·have hc':¬ l.fmod d=0:=by simpa using hc
  refine s_ret (e_tup2 (e_var 2) (e_up (b':=true) (e_var 3))) ?_
  show Bd.val _ _=Bd.val _ _
  rw [_root_.EP.tko_eq hd (r:=(n,l)) ⟨hn,he,fun z=>hc' (_root_.EP.dvd_fmod.mpr z)⟩]
  rfl
theorem bits_sq {k:Int} (h0:0≤k):k < (2:Int) ^ ((Builtin.Int.intBits k + 1) / 2) * 2 ^ ((Builtin.Int.intBits k + 1) / 2):=by
 have hb:k.natAbs < 2 ^ Builtin.Int.intBits k:=by
  unfold Builtin.Int.intBits
  by_cases hz:k=0
  ·subst hz; decide
  ·rw [if_neg (by simpa using hz)]
   exact Nat.lt_log2_self
 have h2:Builtin.Int.intBits k≤(Builtin.Int.intBits k + 1) / 2 + (Builtin.Int.intBits k + 1) / 2:=by omega
 have h3:(2:Nat) ^ Builtin.Int.intBits k≤2 ^ ((Builtin.Int.intBits k + 1) / 2 + (Builtin.Int.intBits k + 1) / 2):=Nat.pow_le_pow_right (by decide) h2
 rw [← Int.pow_add]
 have h4:((2 ^ ((Builtin.Int.intBits k + 1) / 2 + (Builtin.Int.intBits k + 1) / 2):Nat):Int)=(2:Int) ^ ((Builtin.Int.intBits k + 1) / 2 + (Builtin.Int.intBits k + 1) / 2):=by rw [Int.natCast_pow]; rfl
 rw [← h4]
 omega
theorem b_square_root (x:Int) (h0:0≤x) (hs:Sm 8000 x):Body P w K mg base N_square_root "square_root" s_square_root f k [.val false x] (RT true (_root_.EP.rt x)):=by
 intro cdv A outer s H E hr
 have hb:Builtin.Int.intBits x≤8000:=hs.bits
 have hj:((Builtin.Int.intBits x:Int) + 1).fdiv 2=(((Builtin.Int.intBits x + 1) / 2:Nat):Int):=by
  rw [Int.fdiv_eq_ediv_of_nonneg _ (by decide)]; omega
 refine s_asg 1 sc_square_root.nd (e_shl e_int (e_fdiv (e_add (e_bits (e_var 0)) e_int) e_int cdK) ⟨by rw [hj]; omega,by rw [hj]; omega,by decide⟩) ?_
 rw [hj,Int.one_mul,Int.toNat_natCast]
 have hR:=bits_sq h0
 have hS:Sm 8001 ((2:Int) ^ ((Builtin.Int.intBits x + 1) / 2)):=by
  unfold Sm
  rw [Int.natAbs_pow]
  exact Nat.pow_lt_pow_right (by decide) (by omega)
 have hp:(0:Int) < 2 ^ ((Builtin.Int.intBits x + 1) / 2):=Int.pow_pos (by decide)
 generalize (2:Int) ^ ((Builtin.Int.intBits x + 1) / 2)=R at *
 refine s_while (ι:=Int) (fun r Γ=>Γ=[some (.val false x),some (.val true r)]∧0≤r∧r≤R∧x < (r + 1) * (r + 1)) (fun r=>r.toNat) R ⟨rfl,by omega,by omega,by
  have:R * R≤(R + 1) * (R + 1):=_root_.EP.sq_le (by omega) (by omega)
  omega⟩ ?_
 rintro r Γ' ⟨rfl,r0,r1,r2⟩
 have hSr:Sm 8001 r:=Sm.of_le (by omega) hS
 refine ⟨_,t_cmp cv_gt (e_mul (e_var 1) (e_var 1) (hSr.ok hSr)) (e_var 0),fun hc=>?_,fun hc=>?_⟩
 ·have hc':x < r * r:=by simpa using hc
  have hpos:0 < r:=by
   rcases Int.lt_or_eq_of_le r0 with z | z
   ·exact z
   ·rw [← z] at hc'; simp at hc'; omega
  refine s_asg 1 sc_square_root.nd (e_fdiv (e_add (e_var 1) (e_fdiv (e_var 0) (e_var 1) (hSr.div (by omega)))) e_int cdK) ?_
  obtain ⟨n0,n1,n2⟩:=_root_.EP.newton h0 hpos hc'
  exact s_nil ⟨_,⟨rfl,n0,by omega,n2⟩,by omega⟩
 ·have hc':r * r≤x:=by simpa using hc
  refine s_ret (e_var 1) ?_
  show Bd.val _ _=Bd.val _ _
  rw [_root_.EP.rt_unique r0 hc' r2]
def rtO (k:Int):Option Int:=if k < 0 then none else if _root_.EP.rt k * _root_.EP.rt k=k then some (_root_.EP.rt k) else none
theorem rt_sm {k:Int} {n:Nat} (h0:0≤k) (hs:Sm n k):Sm n (_root_.EP.rt k):=by
 have h1:=_root_.EP.rt_le h0
 have h2:=_root_.EP.rt_nonneg k
 refine Sm.of_le ?_ hs
 have:_root_.EP.rt k≤k:=by
  rcases Int.lt_or_le (_root_.EP.rt k) 1 with z | z
  ·omega
  ·have:_root_.EP.rt k * 1≤_root_.EP.rt k * _root_.EP.rt k:=Int.mul_le_mul_of_nonneg_left z h2
   omega
 omega
theorem b_square_root_or_none (c_square_root:Cal P w K mg base 1 "square_root" ["k"] (sp1 K (fun k=>0≤k∧Sm 8000 k) true _root_.EP.rt)) (x:Int) (hs:Sm 8000 x):Body P w K mg base N_square_root_or_none "square_root_or_none" s_square_root_or_none f 1 [.val false x] (RT true (rtO x)):=by
 intro cdv A outer s H E hr
 refine s_if1 (t_cmp cv_lt (e_var 0) e_int) (fun hc=>?_) (fun hc=>?_)
 ·have e:rtO x=none:=if_pos (by simpa using hc)
  rw [e]
  exact s_ret (e_non (α:=Int)) rfl
 have h0:¬ x < 0:=by simpa using hc
 refine s_asg 1 sc_square_root_or_none.nd (e_call1 c_square_root (hr.mono (by decide)) rfl (e_var 0) ⟨by omega,hs⟩) ?_
 have hS:=rt_sm (by omega) hs
 refine s_ret (e_if (t_cmp cv_eqI (e_mul (e_var 1) (e_var 1) (hS.ok hS)) (e_var 0)) (fun _=>(e_var 1).some) fun _=>e_non (α:=Int)) ?_
 show Bd.val _ _=Bd.val _ _
 congr 1
 unfold rtO
 rw [if_neg h0]
 by_cases z:_root_.EP.rt x * _root_.EP.rt x=x
 ·rw [if_pos z,if_pos (by simpa using z)]
 ·rw [if_neg z,if_neg (by simpa using z)]
include B in
theorem b_common_divisor (a b:Int):Body P w K mg base N_common_divisor "common_divisor" s_common_divisor f k [.val false a,.val false b] (RT true ((Int.gcd a b:Nat):Int)):=by
 intro cdv A outer s H E hr
 refine s_while (ι:=Bool × Bool × Int × Int) (fun i Γ=>∃ r,Γ=[some (.val i.1 i.2.2.1),some (.val i.2.1 i.2.2.2),r]∧Int.gcd i.2.2.1 i.2.2.2=Int.gcd a b) (fun i=>i.2.2.2.natAbs) (false,false,a,b) ⟨none,rfl,rfl⟩ ?_
 rintro ⟨b1,b2,x,y⟩ Γ' ⟨r,rfl,hg⟩
 refine ⟨_,t_cmp cv_neI (e_var 1) e_int,fun hc=>?_,fun hc=>?_⟩
 ·have hy:y≠0:=by simpa using hc
  refine s_asg 2 sc_common_divisor.nd (e_mod (e_var 0) (e_var 1) hy) ?_
  refine s_asg 0 sc_common_divisor.nd (e_var 1) ?_
  refine s_asg 1 sc_common_divisor.nd (e_var 2) ?_
  exact s_nil ⟨(b2,true,y,x.fmod y),⟨_,rfl,(_root_.EP.gcd_fmod x y).trans hg⟩,_root_.EP.fmod_lt x y hy⟩
 ·have hy:y=0:=by simpa using hc
  refine s_ret (e_abs rfl B.abs (e_var 0)) ?_
  dsimp only at hg ⊢
  rw [hy,Int.gcd_zero_right] at hg
  rw [← hg]
  show Bd.val _ _=Bd.val _ _
  congr 1
  split <;> omega
def PFr (_ b:Int):Prop:=b≠0∧Sm 9000 b
theorem b_fraction (c_common_divisor:Cal P w K mg base 1 "common_divisor" ["a","b"] (sp2 K (fun _ _=>True) true fun a b=>((Int.gcd a b:Nat):Int))) (t b:Int) (hb:b≠0) (hs:Sm 9000 b) :
  Body P w K mg base N_fraction "fraction" s_fraction f 1 [.val false t,.val false b] (RT true (fr t b)):=by
 intro cdv A outer s H E hr
 have hn:=_root_.EP.fd_ne (t:=t) hb
 have hz:Sm 9000 (fd t b):=Sm.of_le (_root_.EP.fd_le hb) hs
 refine s_asg 2 sc_fraction.nd (e_call2 c_common_divisor hr rfl (e_var 0) (e_var 1) True.intro) ?_
 have last:∀ d:Int,d=fd t b→S (cx P w K mg base N_fraction "fraction" s_fraction f cdv A outer s H E) [some (.val false t),some (.val false b),some (.val true d)] [(defBody s_fraction).getD 2 (.Pass ⟨0,0,0,0⟩)] (RT true (fr t b)):=by
  rintro d rfl
  exact s_ret (e_tup2 (e_fdiv (e_var 0) (e_var 2) (hz.div hn)) (e_fdiv (e_var 1) (e_var 2) (hz.div hn))) rfl
 refine s_if1 (t_cmp cv_lt (e_var 1) e_int) (fun hc=>?_) (fun hc=>?_)
 ·refine s_asg 2 sc_fraction.nd (e_neg (e_var 2)) (s_nil ?_)
  exact last _ (by unfold fd; rw [if_pos (by simpa using hc)])
 ·exact last _ (by unfold fd; rw [if_neg (by simpa using hc)])
theorem rs_2 {b m:Int} {i:Nat}:i < (Builtin.Range.rangeSize b m 2).toNat↔b + (i:Int) * 2 < m:=by
 unfold Builtin.Range.rangeSize
 simp
 split <;> omega
include B in
theorem b_next_divisor (c_square_root:Cal P w K mg base 1 "square_root" ["k"] (sp1 K (fun k=>0≤k∧Sm 8000 k) true _root_.EP.rt)) (x b e:Int) (hp:1≤x∧Sm 8000 x∧1≤b∧b < 2 ^ 62∧-(2 ^ 62)≤e∧e < 2 ^ 62) :
  Body P w K mg base N_next_divisor "next_divisor" s_next_divisor f 1 [.val false x,.val false b,.val false e] (RT true (_root_.EP.ndv x b e)):=by
 intro cdv A outer s H E hr
 obtain ⟨h1,h2,h3,h4,h5,h6⟩:=hp
 have hrt:=_root_.EP.rt_nonneg x
 have hm:-(2 ^ 62)≤(if _root_.EP.rt x + 1 < e then _root_.EP.rt x + 1 else e)∧(if _root_.EP.rt x + 1 < e then _root_.EP.rt x + 1 else e) < 2 ^ 62:=by split <;> omega
 have hv:_root_.EP.ndv x b e=_root_.EP.ndM x b (if _root_.EP.rt x + 1 < e then _root_.EP.rt x + 1 else e):=rfl
 refine s_forRange3 (fun i Γ=>∃ r,Γ=[some (.val false x),some (.val false b),some (.val false e),r]∧∀ j:Nat,j < i→¬ (b + (j:Int) * 2) ∣ x) rfl B.range (g_name 3 sc_next_divisor.nd) (e_var 1) (e_min rfl rfl B.min (e_var 2) (e_add (e_call1 c_square_root (hr.mono (by decide)) rfl (e_var 0) ⟨by omega,h2⟩) e_int)) e_int ⟨by omega,h4,hm.1,hm.2⟩ (by decide) ⟨none,rfl,fun j hj=>absurd hj (Nat.not_lt_zero _)⟩ ?_ ?_
 ·rintro i Γ' hi ⟨r,rfl,hj⟩
  have hi':=rs_2.mp hi
  refine s_if1 (t_cmp cv_eqI (e_mod (e_var 0) (e_var 3) (by omega)) e_int) (fun hc=>?_) (fun hc=>?_)
  ·have hd:(b + (i:Int) * 2) ∣ x:=_root_.EP.dvd_fmod.mp (by simpa using hc)
   refine s_ret (e_var 3).some ?_
   show Bd.val _ _=Bd.val _ _
   rw [hv,← _root_.EP.ndM_eq (r:=some (b + (i:Int) * 2)) ⟨by omega,hi',by omega,hd,fun d' q1 q2 q3=>?_⟩]
   have:=hj ((d' - b) / 2).toNat (by omega)
   rwa [show b + ((((d' - b) / 2).toNat:Nat):Int) * 2=d' by omega] at this
  ·have hd:¬ (b + (i:Int) * 2) ∣ x:=fun z=>by
    have:=_root_.EP.dvd_fmod.mpr z
    simp [this] at hc
   refine s_nil ⟨_,rfl,fun j hji=>?_⟩
   rcases Nat.lt_succ_iff_lt_or_eq.mp hji with z | z
   ·exact hj j z
   ·rw [z]; exact hd
 ·rintro Γ' ⟨r,rfl,hj⟩
  refine s_ret (e_non (α:=Int)) ?_
  show Bd.val _ _=Bd.val _ _
  rw [hv,← _root_.EP.ndM_eq (r:=none) fun d' q1 q2 q3=>?_]
  have:=hj ((d' - b) / 2).toNat (rs_2.mpr (by omega))
  rwa [show b + ((((d' - b) / 2).toNat:Nat):Int) * 2=d' by omega] at this
def PDv (k e:Int):Prop:=1≤k∧Sm 900 k∧0≤e∧e < 2 ^ 61
theorem pp_len:∀ {us:List (Int × Int)} {a b:Int},1≤a→_root_.EP.Rise a us b→(2:Int) ^ us.length≤_root_.EP.pp us
 | [],_,_,_,_=>by show (2:Int) ^ 0≤1; decide
 | u :: us,a,b,ha,h=>by
  have h1:=pp_len (show 1≤u.1 by have:=h.1; omega) h.2.2.2
  have hu:(2:Int)≤u.1 ^ u.2.toNat:=by
   have e:u.2.toNat=(u.2.toNat - 1) + 1:=by have:=h.2.2.1; omega
   rw [e,Int.pow_succ]
   have:(0:Int) < u.1 ^ (u.2.toNat - 1):=Int.pow_pos (by have:=h.1; omega)
   have:=h.1
   have:1 * 2≤u.1 ^ (u.2.toNat - 1) * u.1:=Int.mul_le_mul (by omega) (by omega) (by decide) (by omega)
   omega
  show (2:Int) ^ (us.length + 1)≤u.1 ^ u.2.toNat * _root_.EP.pp us
  rw [Int.pow_succ,Int.mul_comm]
  have h0:(0:Int) < 2 ^ us.length:=Int.pow_pos (by decide)
  exact Int.mul_le_mul hu h1 (by omega) (by omega)
theorem dv_le {k:Int} {fs:List (Int × Int)} {l b:Int} (I:_root_.EP.DvI k fs l b):l≤k∧(2:Int) ^ fs.length≤k:=by
 have h1:=I.prod
 have h2:=_root_.EP.pp_pos (by decide) I.rise
 have h3:=I.pos
 have h4:=pp_len (Int.le_refl 1) I.rise
 have h5:1 * l≤_root_.EP.pp fs * l:=Int.mul_le_mul_of_nonneg_right (by omega) (by omega)
 have h6:_root_.EP.pp fs * 1≤_root_.EP.pp fs * l:=Int.mul_le_mul_of_nonneg_left (by omega) (by omega)
 omega
theorem len_sm {m:Nat} {k:Int} (h:(2:Int) ^ m≤k) (hs:Sm 900 k):m≤900:=by
 apply Classical.byContradiction
 intro hn
 unfold Sm at hs
 have h1:(2:Nat) ^ 900≤2 ^ m:=Nat.pow_le_pow_right (by decide) (by omega)
 have h2:((2 ^ m:Nat):Int)=(2:Int) ^ m:=by rw [Int.natCast_pow]; rfl
 omega
set_option maxHeartbeats 0 in
theorem b_divided (c_taken_out:Cal P w K mg base 1 "taken_out" ["k","divisor"] (sp2 K (fun k d=>k≠0∧2≤d∧Sm 9000 d) true _root_.EP.tko)) (c_next_divisor:Cal P w K mg base 2 "next_divisor" ["k","begin","end"] (sp3 K (fun k b e=>1≤k∧Sm 8000 k∧1≤b∧b < 2 ^ 62∧-(2 ^ 62)≤e∧e < 2 ^ 62) true _root_.EP.ndv)) (x e:Int) (hp:PDv x e) :
  Body P w K mg base N_divided "divided" s_divided f 2 [.val false x,.val false e] (RT true (_root_.EP.dvdF x e)):=by
 intro cdv A outer s H E hr
 obtain ⟨h1,h2,h3,h4⟩:=hp
 obtain ⟨I0,hle0⟩:=_root_.EP.dvd_start h1
 have two:Sm 9000 (2:Int):=Sm.le (m:=2) (by unfold Sm; decide) (by decide)
 refine s_asg 2 sc_divided.nd (e_call2 c_taken_out (hr.mono (by decide)) rfl (e_var 0) e_int ⟨by omega,by decide,two⟩) ?_
 refine s_deep 3 sc_divided.nd (en_if (t_cmp cv_gt (e_fst (e_var 2)) e_int) (fun _=>en_lst (α:=Int × Int) (ea_cons (e_tup2 e_int (e_fst (e_var 2))) ea_nil) (Nat.le_of_ble_eq_true rfl)) fun _=>en_lst (α:=Int × Int) (b:=true) ea_nil (Nat.le_of_ble_eq_true rfl)) ?_
 have e0:(if decide (0 < (_root_.EP.tko x 2).1)=true then [((2:Int),(_root_.EP.tko x 2).1)] else [])=_root_.EP.dvd0 x:=by
  unfold _root_.EP.dvd0
  by_cases z:0 < (_root_.EP.tko x 2).1
  ·rw [if_pos z,if_pos (by simpa using z)]
  ·rw [if_neg z,if_neg (by simpa using z)]
 rw [e0]
 refine s_d2o (α:=Int × Int) 3 true rfl ?_
 refine s_asg 4 sc_divided.nd (e_snd (e_var 2)) ?_
 have sm8:∀ l:Int,0 < l→l≤x→Sm 8000 l:=fun l a b=>Sm.le (Sm.of_le (by omega) h2) (by decide)
 have hp0:=I0.pos
 refine s_asg 5 sc_divided.nd (e_call3 c_next_divisor (hr.mono (by decide)) rfl (e_var 4) e_int (e_var 1) ⟨by omega,sm8 _ hp0 hle0,by decide,by decide,by omega,by omega⟩) ?_
 refine s_while (ι:=Nat × List (Int × Int) × Int × Int) (fun i Γ=>∃ r,Γ=[some (.val false x),some (.val false e),r,some (.own true i.2.1),some (.val true i.2.2.1),some (.val true (_root_.EP.ndv i.2.2.1 i.2.2.2 e))]∧_root_.EP.DvI x i.2.1 i.2.2.1 i.2.2.2∧i.2.2.1≤(i.1:Int)∧_root_.EP.dvF e i.1 i.2.1 i.2.2.1 i.2.2.2=_root_.EP.dvdF x e) (fun i=>i.1) (x.toNat,_root_.EP.dvd0 x,(_root_.EP.tko x 2).2,3) ⟨_,rfl,I0,by dsimp only; omega,rfl⟩ ?_
 rintro ⟨n,fs,l,b⟩ Γ' ⟨r,rfl,I,hn,hd⟩
 dsimp only at *
 have hl0:=I.pos
 have hb3:=I.b3
 obtain ⟨hlx,hlen⟩:=dv_le I
 cases n with
 | zero=>omega
 | succ n =>
 refine ⟨_,t_nN (α:=Int) (e_var 5) notNonI,fun hc=>?_,fun hc=>?_⟩
 ·cases hnd:_root_.EP.ndv l b e with
  | none=>rw [hnd] at hc; cases hc
  | some d =>
   obtain ⟨d1,d2,d3,d4,d5,d6⟩:=_root_.EP.ndv_some (by omega) (by omega) hnd
   obtain ⟨t1,t2,t3,t4⟩:=_root_.EP.tko_lt (show 2≤d by omega) hl0 d5
   refine s_asg 2 sc_divided.nd (e_call2 c_taken_out (hr.mono (by decide)) rfl (e_var 4) (e_get (α:=Int) (a:=d) (e_var 5)) ⟨by omega,by omega,Sm.le (m:=62) (by unfold Sm; omega) (by decide)⟩) ?_
   refine s_append 3 rfl (e_up (b':=true) (e_tup2 (e_get (α:=Int) (a:=d) (e_var 5)) (e_fst (e_var 2)))) (by have:=len_sm hlen h2; omega) ?_
   refine s_asg 4 sc_divided.nd (e_snd (e_var 2)) ?_
   refine s_asg 5 sc_divided.nd (e_call3 c_next_divisor (hr.mono (by decide)) rfl (e_var 4) (e_add (e_get (α:=Int) (a:=d) (e_var 5)) e_int) (e_var 1) ⟨by omega,sm8 _ t1 (by omega),by omega,by omega,by omega,by omega⟩) ?_
   refine s_nil ⟨(n,fs ++ [(d,(_root_.EP.tko l d).1)],(_root_.EP.tko l d).2,d + 2),⟨_,rfl,I.step hnd,by dsimp only; omega,?_⟩,by dsimp only; omega⟩
   rw [← hd]
   show _=_root_.EP.dvF e (n + 1) fs l b
   rw [_root_.EP.dvF,hnd]
 ·have hnd:_root_.EP.ndv l b e=none:=by
   cases hz:_root_.EP.ndv l b e with
   | none=>rfl
   | some d=>rw [hz] at hc; cases hc
  refine s_freeze 3 rfl ?_
  have e2:_root_.EP.dvF e (n + 1) fs l b=(fs,l):=by rw [_root_.EP.dvF,hnd]
  rw [← hd,e2]
  refine s_ret (e_tup2 (e_var 3) (e_var 4)) ?_
  rfl
theorem fmodE {a m:Int} (h:1≤m):a.fmod m=a % m:=Int.fmod_eq_emod_of_nonneg a (by omega)
noncomputable def tpF (k:Int):Option (List (Int × Int) × Int) :=
 if 1 < (_root_.EP.dvdF k 32768).2∧(_root_.EP.dvdF k 32768).2 < 1073741824 then some ((_root_.EP.dvdF k 32768).1 ++ [((_root_.EP.dvdF k 32768).2,1)],1) else (rtO (_root_.EP.dvdF k 32768).2).map fun q=>((_root_.EP.dvdF k 32768).1,q)
theorem b_tame_parts (g_GREAT_PRIMES_FROM:MgI mg "GREAT_PRIMES_FROM" 32768) (g_GREAT_FROM:MgI mg "GREAT_FROM" 1073741824) (c_divided:Cal P w K mg base 3 "divided" ["k","end"] (sp2 K PDv true _root_.EP.dvdF)) (c_square_root_or_none:Cal P w K mg base 2 "square_root_or_none" ["k"] (sp1 K (fun k=>Sm 8000 k) true rtO)) (x:Int) (hp:1≤x∧Sm 900 x) :
  Body P w K mg base N_tame_parts "tame_parts" s_tame_parts f 3 [.val false x] (RT true (tpF x)):=by
 intro cdv A outer s H E hr
 refine s_asg 1 sc_tame_parts.nd (e_call2 c_divided (hr.mono (by decide)) rfl (e_var 0) (e_glI rfl g_GREAT_PRIMES_FROM) ⟨hp.1,hp.2,by decide,by decide⟩) ?_
 obtain ⟨b,I,_⟩:=_root_.EP.dvdF_ok (e:=32768) hp.1
 obtain ⟨hle,hlen⟩:=dv_le I
 have hl:=len_sm hlen hp.2
 have hpos:=I.pos
 refine s_if1 (t_chain cv_lt cv_lt e_int (e_snd (e_var 1)) (e_glI rfl g_GREAT_FROM)) (fun hc=>?_) (fun hc=>?_)
 ·have e:tpF x=some ((_root_.EP.dvdF x 32768).1 ++ [((_root_.EP.dvdF x 32768).2,1)],1):=if_pos (by simpa using hc)
  rw [e]
  exact s_ret (e_some (e_tup2 (e_cat (e_fst (e_var 1)) (e_lst (α:=Int × Int) (b:=true) (ea_cons (e_up (b':=true) (e_tup2 (e_snd (e_var 1)) e_int)) ea_nil) (Nat.le_of_ble_eq_true rfl)) (by show _ + 1≤1000; omega)) e_int)) rfl
 have e:tpF x=(rtO (_root_.EP.dvdF x 32768).2).map fun q=>((_root_.EP.dvdF x 32768).1,q):=if_neg (by simpa using hc)
 rw [e]
 refine s_asg 2 sc_tame_parts.nd (e_call1 c_square_root_or_none (hr.mono (by decide)) rfl (e_snd (e_var 1)) (Sm.le (Sm.of_le (by omega) hp.2) (by decide))) ?_
 cases ho:rtO (_root_.EP.dvdF x 32768).2 with
 | none=>exact s_ret (e_if (α:=Option (List (Int × Int) × Int)) (x:=none) (y:=none) (t_isN (α:=Int) (x:=none) (e_var 2) notNonI) (fun _=>e_non (α:=List (Int × Int) × Int)) fun h=>absurd h (by decide)) rfl
 | some r =>
  refine s_ret (e_if (α:=Option (List (Int × Int) × Int)) (x:=none) (y:=some ((_root_.EP.dvdF x 32768).1,r)) (t_isN (α:=Int) (x:=some r) (e_var 2) notNonI) (fun h=>absurd h Bool.false_ne_true) fun _=>e_some (e_tup2 (e_fst (e_var 1)) (e_get (α:=Int) (a:=r) (e_var 2)))) ?_
  rfl
def pwF (b e:Int):Int:=b ^ e.toNat
def PPw (b e:Int):Prop:=1≤b∧0≤e∧e < 2 ^ 62∧Sm 1000 (b ^ e.toNat)∧Sm 1000 b
theorem pow_mono {b:Int} (hb:1≤b) {m n:Nat} (h:m≤n):b ^ m≤b ^ n:=by
 obtain ⟨d,rfl⟩:∃ d,n=m + d:=⟨n - m,by omega⟩
 rw [Int.pow_add]
 exact _root_.EP.mul_ge (Int.pow_pos (by omega)) (by have:=Int.pow_pos (n:=b) (m:=d) (by omega); omega)
include B in
theorem b_power (b e:Int) (hp:PPw b e):Body P w K mg base N_power "power" s_power f kk [.val false b,.val false e] (RT true (pwF b e)):=by
 intro cdv A outer s H E hr
 obtain ⟨h1,h2,h3,h4,h5⟩:=hp
 refine s_asg 2 sc_power.nd e_int ?_
 refine s_forRange (n:=e) (fun i Γ=>∃ r,Γ=[some (.val false b),some (.val false e),some (.val true (b ^ i)),r]) rfl B.range (g_name 3 sc_power.nd) (e_var 1) (by omega) h3 ⟨none,by rw [Int.pow_zero]; rfl⟩ ?_ ?_
 ·rintro i Γ' hi ⟨r,rfl⟩
  have hm:Sm 1000 (b ^ i):=by
   have:=pow_mono h1 (Nat.le_of_lt hi)
   have:=Int.pow_pos (n:=b) (m:=i) (by omega)
   exact Sm.of_le (by omega) h4
  refine s_asg 2 sc_power.nd (e_mul (e_var 2) (e_var 0) (hm.ok h5)) ?_
  exact s_nil ⟨_,by rw [Int.pow_succ]; rfl⟩
 ·rintro Γ' ⟨r,rfl⟩
  exact s_ret (e_var 2) rfl
theorem notNonP {α β:Type} [Py α] [Py β] (K:PySem.W.Frag) (N:Nn) (H:Hp) (a:α × β):¬ Py.rp K N H .non a:=fun ⟨_,_,_,e,_⟩=>nomatch e
theorem abN (i:Int):(if i < 0 then -i else i)=(i.natAbs:Int):=by split <;> omega
def PFd (u:Int × Int):Prop:=u.1≠0∧1≤u.2∧Sm 400 u.1∧Sm 400 u.2∧_root_.EP.Tame (u.1.natAbs * u.2)
theorem tpF_tame {k:Int} (hk:1≤k) (ht:_root_.EP.Tame k):tpF k=some (_root_.EP.tpM k):=by
 obtain ⟨h1,_,_,_⟩:=_root_.EP.tpM_ok hk ht
 obtain ⟨b,I,_⟩:=_root_.EP.dvdF_ok (k:=k) (e:=32768) hk
 have hp:=I.pos
 unfold tpF _root_.EP.tpM
 by_cases z:1 < (_root_.EP.dvdF k 32768).2∧(_root_.EP.dvdF k 32768).2 < 1073741824
 ·rw [if_pos z,if_pos z]
 ·rw [if_neg z,if_neg z]
  have h2:_root_.EP.rt (_root_.EP.dvdF k 32768).2 * _root_.EP.rt (_root_.EP.dvdF k 32768).2=(_root_.EP.dvdF k 32768).2:=by
   rcases h1 with h1 | h1
   ·exact absurd h1 z
   ·exact h1
  unfold rtO
  rw [if_neg (by omega),if_pos h2]
  rfl
set_option maxHeartbeats 1000000 in
include B in
theorem b_freed (c_power:Cal P w K mg base 1 "power" ["base","exponent"] (sp2 K PPw true pwF)) (c_fraction:Cal P w K mg base 2 "fraction" ["top","bottom"] (sp2 K PFr true fr)) (c_tame_parts:Cal P w K mg base 4 "tame_parts" ["k"] (sp1 K (fun k=>1≤k∧Sm 900 k) true tpF)) (u:Int × Int) (hp:PFd u) :
  Body P w K mg base N_freed "freed" s_freed f 4 [.val false u] (RT true (_root_.EP.frd u)):=by
 intro cdv A outer s H E hr
 obtain ⟨h0,h1,s0,s1,ht⟩:=hp
 have s0':Sm 400 (u.1.natAbs:Int):=Sm.of_le (by omega) s0
 have hk:1≤(u.1.natAbs:Int) * u.2:=by
  have:0 < (u.1.natAbs:Int) * u.2:=Int.mul_pos (by omega) (by omega)
  omega
 have sk:Sm 800 ((u.1.natAbs:Int) * u.2):=s0'.mul s1
 refine s_asg 1 sc_freed.nd (e_call1 c_tame_parts (hr.mono (by decide)) rfl (e_eq (e_mul (e_abs rfl B.abs (e_fst (e_var 0))) (e_snd (e_var 0)) (by rw [abN]; exact s0'.ok s1)) (by rw [abN])) ⟨hk,Sm.le sk (by decide)⟩) ?_
 rw [tpF_tame hk ht]
 obtain ⟨_,⟨b,hri⟩,hR,hprod⟩:=_root_.EP.tpM_ok hk ht
 have hfr:_root_.EP.frd u=(((_root_.EP.tpM (u.1.natAbs * u.2)).1.foldl _root_.EP.frS (if 0 < u.1 then 1 else -1,(_root_.EP.tpM (u.1.natAbs * u.2)).2)).1,fr ((_root_.EP.tpM (u.1.natAbs * u.2)).1.foldl _root_.EP.frS (if 0 < u.1 then 1 else -1,(_root_.EP.tpM (u.1.natAbs * u.2)).2)).2 u.2):=rfl
 rw [hfr]
 generalize (u.1.natAbs:Int) * u.2=k at *
 generalize hT:_root_.EP.tpM k=T at *
 refine s_if1 (t_isN (α:=List (Int × Int) × Int) (x:=some T) (e_var 1) notNonP) (fun hc=>absurd hc (by simp)) (fun hc=>?_)
 refine s_asg 2 sc_freed.nd (e_if (t_cmp cv_gt (e_fst (e_var 0)) e_int) (fun _=>e_int) fun _=>(e_neg e_int)) ?_
 have hsg:(if decide (0 < u.1)=true then (1:Int) else -1)=(if 0 < u.1 then 1 else -1):=by
  by_cases z:0 < u.1
  ·rw [if_pos (by simpa using z),if_pos z]
  ·rw [if_neg (by simpa using z),if_neg z]
 rw [hsg]
 have hsg':(if 0 < u.1 then (1:Int) else -1)=1∨(if 0 < u.1 then (1:Int) else -1)=-1:=by split <;> simp
 generalize (if 0 < u.1 then (1:Int) else -1)=sg at *
 refine s_asg 3 sc_freed.nd (e_snd (e_get (α:=List (Int × Int) × Int) (a:=T) (e_var 1))) ?_
 have bd:=fun i=>_root_.EP.fold_bd hri hR hsg' i
 rw [hprod] at bd
 have hTk:_root_.EP.pp T.1≤k:=by
  rw [← hprod]
  exact _root_.EP.mul_ge (_root_.EP.pp_pos (by decide) hri) (by have:=Int.mul_pos hR hR; omega)
 refine s_for (fun i Γ=>∃ r,Γ=[some (.val false u),some (.val true (some T)),some (.val true ((T.1.take i).foldl _root_.EP.frS (sg,T.2)).1),some (.val true ((T.1.take i).foldl _root_.EP.frS (sg,T.2)).2),r]) (g_name 4 sc_freed.nd) (ei_list (e_fst (e_get (α:=List (Int × Int) × Int) (a:=T) (e_var 1)))) ⟨none,rfl⟩ ?_ ?_
 ·rintro i v Γ' hv ⟨r,rfl⟩
  obtain ⟨b1,b2,b3⟩:=bd i
  obtain ⟨v1,v2,v3,v4,v5⟩:=_root_.EP.part_bd hri hv
  have et:(T.1.take (i + 1)).foldl _root_.EP.frS (sg,T.2)=_root_.EP.frS ((T.1.take i).foldl _root_.EP.frS (sg,T.2)) v:=take_fold hv
  rw [et]
  generalize (T.1.take i).foldl _root_.EP.frS (sg,T.2)=c at *
  have sn:Sm 800 c.1:=Sm.of_le b1 sk
  have sr:Sm 800 c.2:=Sm.of_le (by omega) sk
  have sv:Sm 800 v.1:=Sm.of_le (by omega) sk
  have sp:Sm 800 (v.1 ^ (v.2 / 2).toNat):=Sm.of_le (by have:=Int.pow_pos (n:=v.1) (m:=(v.2 / 2).toNat) (by omega); omega) sk
  have ed:v.2.fdiv 2=v.2 / 2:=Int.fdiv_eq_ediv_of_nonneg _ (by decide)
  have v2b:v.2 < 2 ^ 62:=by
   apply Classical.byContradiction
   intro hn
   have g1:(2:Int) ^ 900≤v.1 ^ (v.2 / 2).toNat:=by
    have a1:(2:Int) ^ 900≤2 ^ (v.2 / 2).toNat:=pow_mono (by decide) (by omega)
    have a2:∀ n:Nat,(2:Int) ^ n≤v.1 ^ n:=fun n=>by
     induction n with
     | zero=>rw [Int.pow_zero,Int.pow_zero]; decide
     | succ n ih =>
      rw [Int.pow_succ,Int.pow_succ]
      exact Int.mul_le_mul ih v1 (by decide) (Int.le_of_lt (Int.pow_pos (by omega)))
    have:=a2 (v.2 / 2).toNat
    omega
   have g2:(v.1 ^ (v.2 / 2).toNat).natAbs < 2 ^ 800:=sp
   have g3:((2:Int) ^ 800) < 2 ^ 900:=by decide +kernel
   have g4:((2 ^ 800:Nat):Int)=(2:Int) ^ 800:=by decide +kernel
   omega
  refine s_ifJ (fun Γ=>Γ=[some (.val false u),some (.val true (some T)),some (.val true (if v.2 % 2=1 then c.1 * v.1 else c.1)),some (.val true c.2),some (.val true v)]) (t_cmp cv_eqI (e_mod (e_snd (e_var 4)) e_int (by decide)) e_int) (fun hc=>?_) (fun hc=>?_) ?_
  ·have hc':v.2 % 2=1:=by simpa [fmodE] using hc
   rw [if_pos hc']
   exact s_asg 2 sc_freed.nd (e_mul (e_var 2) (e_fst (e_var 4)) (sn.ok sv)) (s_nil rfl)
  ·have hc':¬ v.2 % 2=1:=by simpa [fmodE] using hc
   rw [if_neg hc']
   exact s_nil rfl
  rintro Γ' rfl
  refine s_asg 3 sc_freed.nd (e_mul (e_var 3) (e_call2 c_power (hr.mono (by decide)) rfl (e_fst (e_var 4)) (e_fdiv (e_snd (e_var 4)) e_int cdK) ⟨by omega,by rw [ed]; omega,by rw [ed]; omega,by rw [ed]; exact Sm.le sp (by decide),Sm.le sv (by decide)⟩) (by show IntMulOk c.2 (v.1 ^ (v.2.fdiv 2).toNat); rw [ed]; exact sr.ok sp)) ?_
  refine s_nil ⟨some (.val true v),?_⟩
  unfold _root_.EP.frS pwF
  rw [ed]
  rfl
 ·rintro Γ' ⟨r,rfl⟩
  rw [List.take_length]
  refine s_ret (e_tup2 (e_var 2) (e_call2 c_fraction (hr.mono (by decide)) rfl (e_var 3) (e_snd (e_var 0)) ⟨by omega,Sm.le s1 (by decide)⟩)) ?_
  rfl
noncomputable def foF (k:Int):Int:=(_root_.EP.frd (k,1)).1
def PFo (k:Int):Prop:=k≠0∧Sm 400 k∧_root_.EP.Tame k.natAbs
theorem b_free_of (c_freed:Cal P w K mg base 5 "freed" ["u"] (sp1 K PFd true _root_.EP.frd)) (k:Int) (hp:PFo k):Body P w K mg base N_free_of "free_of" s_free_of f 5 [.val false k] (RT true (foF k)):=by
 intro cdv A outer s H E hr
 exact s_ret (e_fst (e_call1 c_freed (hr.mono (by decide)) rfl (e_up (b':=true) (e_tup2 (e_var 0) e_int)) ⟨hp.1,(by show (1:Int)≤1; decide),hp.2.1,Sm.le (m:=2) (by show (1:Int).natAbs < 2 ^ 2; decide) (by decide),by rw [show ((k,(1:Int)).1.natAbs:Int) * (k,(1:Int)).2=(k.natAbs:Int) from Int.mul_one _]; exact hp.2.2⟩)) rfl
open _root_.EP (Sqf isP)
theorem foF_eq {k f s:Int} (hk:k≠0) (hl:k.natAbs < 1073741824) (hf:Sqf f) (hs:0 < s) (e:k=f * (s * s)):foF k=f:=by
 have t:_root_.EP.Tame (k.natAbs * 1):=by rw [Int.mul_one]; exact _root_.EP.tame_lt (by omega) (by omega)
 show (_root_.EP.frN k 1).1=f
 rw [_root_.EP.frN_ok hk (by decide) t hf hs (by rw [Int.mul_one]; exact e)]
theorem foF_ex {k:Int} (hk:k≠0) (hl:k.natAbs < 1073741824):∃ s,Sqf (foF k)∧0 < s∧k=foF k * (s * s):=by
 obtain ⟨f,s,h1,h2,h3⟩:=_root_.EP.free_ex _ k hk (Nat.le_refl _)
 have e:=foF_eq hk hl h1 h2 h3
 rw [e]
 exact ⟨s,h1,h2,h3⟩
theorem foF_le {k:Int} (hk:k≠0) (hl:k.natAbs < 1073741824):foF k≠0∧(foF k).natAbs≤k.natAbs:=by
 obtain ⟨s,h1,h2,h3⟩:=foF_ex hk hl
 exact ⟨h1.1,_root_.EP.free_le h2 h3⟩
theorem sqf_of_primes {n:Int} (h0:n≠0) (h:∀ q,isP q=true→¬ q * q ∣ n):Sqf n:=⟨h0,fun d hd z=>by
 obtain ⟨q,h1,h2⟩:=_root_.EP.has_prime hd
 exact h q h1 (Int.dvd_trans (Int.mul_dvd_mul h2 h2) z)⟩
include B in
theorem b_is_whole (x:Int):Body P w K mg base N_is_whole "is_whole" s_is_whole f kk [.val false x] (RT true true):=by
 intro cdv A outer s H E hr
 exact s_ret (e_and (e_isII rfl B.isinstance rfl B.int (e_var 0)) fun _=>(e_one (e_not (e_isIB rfl B.isinstance rfl B.bool (e_var 0))))) rfl
def irn (k:Int):Bool:=decide (k≠0∧k.natAbs < 1073741824)
include B in
theorem b_is_row_number (g_GREAT_FROM:MgI mg "GREAT_FROM" 1073741824) (c_is_whole:Cal P w K mg base 1 "is_whole" ["k"] (sp1 K (fun (_:Int)=>True) true (fun _=>true))) (x:Int):Body P w K mg base N_is_row_number "is_row_number" s_is_row_number f 1 [.val false x] (RT true (irn x)):=by
 intro cdv A outer s H E hr
 refine s_ret (e_and (e_call1 c_is_whole (hr.mono (by decide)) rfl (e_var 0) True.intro) fun _=>(e_and (e_cmp cv_neI (e_var 0) e_int) fun _=>(e_one (e_cmp cv_lt (e_abs rfl B.abs (e_var 0)) (e_glI rfl g_GREAT_FROM))))) ?_
 show Bd.val _ _=Bd.val _ _
 congr 1
 unfold irn
 rw [Bool.eq_iff_iff,decide_eq_true_iff]
 simp
 intro _
 split <;> omega
def isRow (xs:List Int):Bool:=decide (1≤xs.length∧xs.length≤8) && xs.all irn
theorem isRow_len {xs:List Int} (h:isRow xs=true):1≤xs.length∧xs.length≤8:=by
 unfold isRow at h
 have:=(Bool.and_eq_true_iff.mp h).1
 simpa using this
theorem isRow_mem {xs:List Int} (h:isRow xs=true) {x:Int} (hx:x∈xs):x≠0∧x.natAbs < 1073741824:=by
 unfold isRow at h
 have:=List.all_eq_true.mp (Bool.and_eq_true_iff.mp h).2 x hx
 unfold irn at this
 simpa using this
include B in
theorem b_is_row (g_LONGEST:MgI mg "LONGEST" 8) (c_is_row_number:Cal P w K mg base 2 "is_row_number" ["k"] (sp1 K (fun (_:Int)=>True) true irn)) (xs:List Int) (hl:xs.length≤1000):Body P w K mg base N_is_row "is_row" s_is_row f 2 [.val false xs] (RT true (isRow xs)):=by
 intro cdv A outer s H E hr
 refine s_if1 (TW.t (tw_or (t_not (t_val (e_isLL rfl B.isinstance rfl B.list (e_var 0)))) fun _=>(tw_or1 (t_not (t_chain cv_le cv_le e_int (e_lenL rfl B.len (e_var 0)) (e_glI rfl g_LONGEST)))))) (fun hc=>?_) (fun hc=>?_)
 ·have hc':¬ (1≤xs.length∧xs.length≤8):=by
   simp at hc
   omega
  have e:isRow xs=false:=by unfold isRow; rw [decide_eq_false hc']; rfl
  rw [e]
  exact s_ret e_bl rfl
 ·have hc':1≤xs.length∧xs.length≤8:=by
   simp at hc
   omega
  refine s_ret (e_all rfl rfl B.all (e_comp (f:=irn) ["k"] [] (cscope (defScope s_is_row) N_is_row rfl rfl (by decide +kernel)) (ei_list (e_var 0)) (gp_name 0) (fun C s H fp=>pg_cn 0 ["k"]) lt_of_eq (fun i u hu C s H fp=>e_call1 c_is_row_number (hr.mono (by decide)) rfl (e_var 0) True.intro) hl)) ?_
  show Bd.val _ _=Bd.val _ _
  congr 1
  unfold isRow
  rw [decide_eq_true hc',Bool.true_and,List.all_map]
  rfl
theorem b_refuse_no_row (c_is_row:Cal P w K mg base 3 "is_row" ["row"] (sp1 K (fun (xs:List Int)=>xs.length≤1000) true isRow)) (xs:List Int) (hx:isRow xs=true):Body P w K mg base N_refuse_no_row "refuse_no_row" s_refuse_no_row f 3 [.val false xs] RTU:=by
 intro cdv A outer s H E hr
 have:=isRow_len hx
 refine s_if1 (t_not (t_val (e_call1 c_is_row (hr.mono (by decide)) rfl (e_var 0) (by omega)))) (fun hc=>?_) (fun hc=>?_)
 ·rw [hx] at hc; cases hc
 ·exact s_nil True.intro
open _root_.EP (Fr Tb Low Sq rng plL plT colm tov lcmB oob dotI sop dotF prd lsum lprd fadd fmul)
theorem seq_rng (n:Nat):seqI 0 1 n=rng n:=by
 unfold seqI rng
 exact List.map_congr_left fun i _=>by omega
structure PRow (us:List Fr):Prop where
 len:us.length≤8
 low:∀ u∈us,Low u
 s1:∀ u∈us,Sm 2000 u.1
 s2:∀ u∈us,Sm 500 u.2
structure POb (o:List Int × Int):Prop where
 len:o.1.length≤8
 sm:∀ x∈o.1,Sm 6001 x
 pos:1≤o.2
 s2:Sm 4001 o.2
def swi (a:List Int × Int) (bs:List (List Int × Int)):List Fr:=bs.map (sop a)
def plTz (n:Int):Tb:=plT n.toNat
theorem mem_at {α:Type} {l:List α} {i:Nat} {a:α} (h:l[i]?=some a):a∈l:=List.mem_of_getElem? h
theorem lcm_sm {us:List Fr} (h:PRow us) (i:Nat) (hi:i≤us.length):1≤lcmB (us.take i)∧Sm (1 + 500 * i) (lcmB (us.take i)):=by
 induction i with
 | zero=>exact ⟨by show (1:Int)≤1; decide,by show (1:Int).natAbs < 2 ^ 1; decide⟩
 | succ i ih =>
  obtain ⟨h1,h2⟩:=ih (by omega)
  have hg:us[i]?=some us[i]:=List.getElem?_eq_getElem (by omega)
  have hm:=mem_at hg
  have e:lcmB (us.take (i + 1))=(lcmB (us.take i) * us[i].2).fdiv (Int.gcd (lcmB (us.take i)) us[i].2:Nat):=take_fold hg
  have z:=_root_.EP.lcm_step h1 (h.low _ hm).1
  rw [← e] at z
  refine ⟨z.1,?_⟩
  have s:=h2.mul (h.s2 _ hm)
  have l:=z.2.2.2
  have:Sm (1 + 500 * i + 500) (lcmB (us.take (i + 1))):=Sm.of_le (by omega) s
  exact this.le (by omega)
theorem lcm_all {us:List Fr} (h:PRow us):1≤lcmB us∧Sm 4001 (lcmB us):=by
 have z:=lcm_sm h us.length (Nat.le_refl _)
 rw [List.take_length] at z
 exact ⟨z.1,z.2.le (by have:=h.len; omega)⟩
theorem gcd_sm {n:Nat} {a b:Int} (hb:1≤b) (h:Sm n b):((Int.gcd a b:Nat):Int)≠0∧Sm n ((Int.gcd a b:Nat):Int):=by
 have h1:Int.gcd a b≠0:=fun z=>by rw [Int.gcd_eq_zero_iff] at z; omega
 refine ⟨by omega,Sm.of_le ?_ h⟩
 have:(Int.gcd a b)≤b.natAbs:=Nat.le_of_dvd (by omega) (Int.gcd_dvd_natAbs_right a b)
 omega
theorem ediv_sm {n:Nat} {a b:Int} (ha:1≤a) (hb:1≤b) (h:Sm n a):Sm n (a.fdiv b):=by
 refine Sm.of_le ?_ h
 rw [Int.fdiv_eq_ediv_of_nonneg a (by omega)]
 have h1:0≤a / b:=Int.ediv_nonneg (by omega) (by omega)
 have h2:a / b≤a:=Int.ediv_le_self b (by omega)
 omega
theorem oob_ok {us:List Fr} (h:PRow us):POb (oob us):=by
 obtain ⟨h1,h2⟩:=lcm_all h
 refine ⟨by show (us.map _).length≤8; rw [List.length_map]; exact h.len,fun x hx=>?_,h1,h2⟩
 obtain ⟨u,hu,rfl⟩:=List.mem_map.mp hx
 exact (h.s1 u hu).mul (ediv_sm h1 (h.low u hu).1 h2)
structure PTb (n:Nat) (T:Tb):Prop where
 sq:Sq n T
 n8:n≤8
 s1:∀ r∈T,∀ u∈r,Sm 2000 u.1
 s2:∀ r∈T,∀ u∈r,Sm 500 u.2
theorem PTb.row {n:Nat} {T:Tb} (h:PTb n T) {r:List Fr} (hr:r∈T):PRow r:=⟨by rw [h.sq.row r hr]; exact h.n8,h.sq.low r hr,h.s1 r hr,h.s2 r hr⟩
theorem PTb.len {n:Nat} {T:Tb} (h:PTb n T):T.length≤8:=by rw [h.sq.len]; exact h.n8
theorem PTb.tov {n:Nat} {T:Tb} (h:PTb n T):PTb n (tov T):=by
 have key:∀ r∈_root_.EP.tov T,∀ u∈r,∃ r'∈T,u∈r':=fun r hr u hu=>by
  obtain ⟨j,hj,rfl⟩:=List.mem_map.mp hr
  obtain ⟨r',hr',rfl⟩:=List.mem_map.mp hu
  have:=_root_.EP.mem_rng hj
  rw [h.sq.len] at this
  exact ⟨r',hr',_root_.EP.getD_mem (by rw [h.sq.row r' hr']; omega)⟩
 exact ⟨h.sq.tov,h.n8,fun r hr u hu=>by obtain ⟨r',a,b⟩:=key r hr u hu; exact h.s1 r' a u b,fun r hr u hu=>by obtain ⟨r',a,b⟩:=key r hr u hu; exact h.s2 r' a u b⟩
theorem at_getD' {α:Type} {d:α} {xs:List α} {k:Int} (h0:0≤k) (h:k < (xs.length:Int)):atI xs k=some (xs.getD k.toNat d):=by
 have hk:k.toNat < xs.length:=by omega
 have e:k=((k.toNat:Nat):Int):=by omega
 have q:atI xs ((k.toNat:Nat):Int)=some xs[k.toNat]:=atI_nat (by rw [List.getElem?_eq_getElem hk])
 rw [← e] at q
 rw [q,List.getD_eq_getElem?_getD,List.getElem?_eq_getElem hk]; rfl
def LAdd (u v:Fr):Prop:=(u.2≠0∧v.2≠0)∧Sm 4000 u.1∧Sm 4000 u.2∧Sm 4000 v.1∧Sm 4000 v.2
structure STb (n:Nat) (T:Tb):Prop where
 sq:Sq n T
 n8:n≤8
 s1:∀ r∈T,∀ u∈r,Sm 20 u.1
 s2:∀ r∈T,∀ u∈r,Sm 10 u.2
theorem b_column (T:Tb) (j:Int) (h0:T.length≤8) (h1:0≤j) (h2:∀ r∈T,j < (r.length:Int)):Body P w K mg base N_column "column" s_column f k [.val false T,.val false j] (RT true (colm T j)):=by
 intro cdv A outer s H E hr
 exact s_ret (e_comp (f:=fun r:List Fr=>r.getD j.toNat (0,1)) ["numbers"] [1] (cscope (defScope s_column) N_column rfl rfl (by decide +kernel)) (ei_list (e_var 0)) (gp_name 0) (fun C s H fp=>pg_cn 0 ["numbers","j"]) lt_of_eq (fun k r hr C s H fp=>e_up (e_ixL (e_var 0) (e_var 1) (at_getD' h1 (h2 r (mem_at hr))))) (by omega)) rfl
include B in
theorem b_turned_over (c_column:Cal P w K mg base 1 "column" ["T","j"] (sp2 K (fun (T:Tb) (j:Int)=>T.length≤8∧0≤j∧∀ r∈T,j < (r.length:Int)) true colm)) (n:Nat) (T:Tb) (h:PTb n T):Body P w K mg base N_turned_over "turned_over" s_turned_over f 1 [.val false T] (RT true (tov T)):=by
 intro cdv A outer s H E hr
 have hl:=h.len
 refine s_ret (e_comp (f:=fun j=>colm T j) ["j"] [0] (cscope (defScope s_turned_over) N_turned_over rfl rfl (by decide +kernel)) (ei_range rfl B.range (e_lenL rfl B.len (e_var 0)) (by omega) (by omega)) (gp_name 0) (fun C s H fp=>pg_cn 0 ["j","T"]) lt_of_eq (fun k j hj C s H fp=>e_call2 c_column (hr.mono (by decide)) rfl (e_var 1) (e_var 0) ⟨hl,?_,fun r hr=>?_⟩) (by rw [seqI_len]; omega)) ?_
 ·have:=(seqI_get hj).2; omega
 ·have:=(seqI_get hj)
  have e1:=h.sq.len
  have e2:=h.sq.row r hr
  omega
 ·rw [seq_rng]; rfl
theorem b_common_bottom (c_common_divisor:Cal P w K mg base 1 "common_divisor" ["a","b"] (sp2 K (fun _ _=>True) true fun a b=>((Int.gcd a b:Nat):Int))) (us:List Fr) (h:PRow us):Body P w K mg base N_common_bottom "common_bottom" s_common_bottom f 1 [.val false us] (RT true (lcmB us)):=by
 intro cdv A outer s H E hr
 refine s_asg 1 sc_common_bottom.nd e_int ?_
 refine s_forL (fun i Γ=>∃ r,Γ=[some (.val false us),some (.val true (lcmB (us.take i))),r]) (g_name 2 sc_common_bottom.nd) (e_var 0) ⟨none,rfl⟩ ?_ ?_
 ·rintro i u Γ' hu ⟨r,rfl⟩
  have hm:=mem_at hu
  have hi:i < us.length:=(List.getElem?_eq_some_iff.mp hu).1
  obtain ⟨z1,z2⟩:=lcm_sm h i (by omega)
  have z3:Sm 4001 (lcmB (us.take i)):=z2.le (by have:=h.len; omega)
  have g:=gcd_sm (a:=lcmB (us.take i)) (h.low u hm).1 (h.s2 u hm)
  refine s_asg 1 sc_common_bottom.nd (e_fdiv (e_mul (e_var 1) (e_snd (e_var 2)) (z3.ok (h.s2 u hm))) (e_call2 c_common_divisor (hr.mono (by decide)) rfl (e_var 1) (e_snd (e_var 2)) True.intro) (g.2.div g.1)) ?_
  refine s_nil ⟨some (.val false u),?_⟩
  unfold lcmB
  rw [take_fold hu]
  rfl
 ·rintro Γ' ⟨r,rfl⟩
  rw [List.take_length]
  exact s_ret (e_var 1) rfl
theorem b_over_one_bottom (c_common_bottom:Cal P w K mg base 2 "common_bottom" ["numbers"] (sp1 K PRow true lcmB)) (us:List Fr) (h:PRow us):Body P w K mg base N_over_one_bottom "over_one_bottom" s_over_one_bottom f 2 [.val false us] (RT true (oob us)):=by
 intro cdv A outer s H E hr
 obtain ⟨z1,z2⟩:=lcm_all h
 refine s_asg 1 sc_over_one_bottom.nd (e_call1 c_common_bottom (hr.mono (by decide)) rfl (e_var 0) h) ?_
 exact s_ret (e_tup2 (e_comp (f:=fun u:Fr=>u.1 * (lcmB us).fdiv u.2) ["u"] [1] (cscope (defScope s_over_one_bottom) N_over_one_bottom rfl rfl (by decide +kernel)) (ei_list (e_var 0)) (gp_name 0) (fun C s H fp=>pg_cn 0 ["u","bottom"]) lt_of_eq (fun k u hu C s H fp=>e_mul (e_fst (e_var 0)) (e_fdiv (e_var 1) (e_snd (e_var 0)) ((h.s2 u (mem_at hu)).div (h.low u (mem_at hu)).ne)) ((h.s1 u (mem_at hu)).ok (ediv_sm z1 (h.low u (mem_at hu)).1 z2))) (by have:=h.len; omega)) (e_var 1)) rfl
include B in
theorem b_sum_of_products (c_fraction:Cal P w K mg base 2 "fraction" ["top","bottom"] (sp2 K PFr true fr)) (a b:List Int × Int) (ha:POb a) (hb:POb b):Body P w K mg base N_sum_of_products "sum_of_products" s_sum_of_products f 2 [.val false a,.val false b] (RT true (sop a b)):=by
 intro cdv A outer s H E hr
 refine s_asg 2 sc_sum_of_products.nd (e_sum rfl rfl B.sum (e_comp (f:=fun p:Int × Int=>p.1 * p.2) ["a","b"] [] (cscope (defScope s_sum_of_products) N_sum_of_products rfl rfl (by decide +kernel)) (ei_zip rfl B.zip (e_fst (e_var 0)) (e_fst (e_var 1))) (gp_two 0 1) (fun C s H fp=>pg_cn2 0 1 ["a","b"]) lt_of_eq2 (fun k p hp C s H fp=>e_mul (e_var 0) (e_var 1) ((ha.sm _ (_root_.EP.mem_zip_l (mem_at hp)).1).ok (hb.sm _ (_root_.EP.mem_zip_l (mem_at hp)).2))) (by rw [List.length_zip]; have:=ha.len; omega))) ?_
 exact s_ret (e_call2 c_fraction (hr.mono (by decide)) rfl (e_var 2) (e_mul (e_snd (e_var 0)) (e_snd (e_var 1)) (ha.s2.ok hb.s2)) ⟨Int.mul_ne_zero (by have:=ha.pos; omega) (by have:=hb.pos; omega),(ha.s2.mul hb.s2).le (by decide)⟩) rfl
theorem b_sums_with (c_sum_of_products:Cal P w K mg base 3 "sum_of_products" ["one","other"] (sp2 K (fun a b=>POb a∧POb b) true sop)) (a:List Int × Int) (bs:List (List Int × Int)) (ha:POb a) (hl:bs.length≤8) (hb:∀ b∈bs,POb b):Body P w K mg base N_sums_with "sums_with" s_sums_with f 3 [.val false a,.val false bs] (RT true (swi a bs)):=by
 intro cdv A outer s H E hr
 exact s_ret (e_comp (f:=fun b=>sop a b) ["other"] [0] (cscope (defScope s_sums_with) N_sums_with rfl rfl (by decide +kernel)) (ei_list (e_var 1)) (gp_name 0) (fun C s H fp=>pg_cn 0 ["other","one"]) lt_of_eq (fun k b hp C s H fp=>e_call2 c_sum_of_products (hr.mono (by decide)) rfl (e_var 1) (e_var 0) ⟨ha,hb b (mem_at hp)⟩) (by omega)) rfl
open _root_.EP (atv latv vsum)
theorem b_at (c_over_one_bottom:Cal P w K mg base 3 "over_one_bottom" ["numbers"] (sp1 K PRow true oob)) (c_sums_with:Cal P w K mg base 4 "sums_with" ["one","others"] (sp2 K (fun (a:List Int × Int) (bs:List (List Int × Int))=>POb a∧bs.length≤8∧∀ b∈bs,POb b) true swi))
  (T:Tb) (x:List Fr) (hl:T.length≤8) (hT:∀ r∈T,PRow r) (hx:PRow x):Body P w K mg base N_at "at" s_at f 4 [.val false T,.val false x] (RT true (atv T x)):=by
 intro cdv A outer s H E hr
 refine s_comp 2 sc_at.nd (f:=fun r=>oob r) ["numbers"] [] (cscope (defScope s_at) N_at rfl rfl (by decide +kernel)) (ei_list (e_var 0)) (gp_name 0) (fun C s H fp=>pg_cn 0 ["numbers"]) lt_of_eq (fun k r hr' C s H fp=>e_call1 c_over_one_bottom (hr.mono (by decide)) rfl (e_var 0) (hT r (mem_at hr'))) (by omega) ?_
 refine s_ret (e_call2 c_sums_with (hr.mono (by decide)) rfl (e_call1 c_over_one_bottom (hr.mono (by decide)) rfl (e_var 1) hx) (e_var 2) ⟨oob_ok hx,by rw [List.length_map]; exact hl,fun b hb'=>?_⟩) rfl
 obtain ⟨r',z,rfl⟩:=List.mem_map.mp hb'
 exact oob_ok (hT r' z)
theorem b_product (c_turned_over:Cal P w K mg base 2 "turned_over" ["T"] (sp1 K (fun (T:Tb)=>∃ n,PTb n T) true tov)) (c_over_one_bottom:Cal P w K mg base 3 "over_one_bottom" ["numbers"] (sp1 K PRow true oob)) (c_sums_with:Cal P w K mg base 4 "sums_with" ["one","others"] (sp2 K (fun (a:List Int × Int) (bs:List (List Int × Int))=>POb a∧bs.length≤8∧∀ b∈bs,POb b) true swi))
  (n:Nat) (T U:Tb) (ha:PTb n T) (hb:PTb n U):Body P w K mg base N_product "product" s_product f 4 [.val false T,.val false U] (RT true (prd T U)):=by
 intro cdv A outer s H E hr
 have hv:=hb.tov
 refine s_asg 2 sc_product.nd (e_comp (f:=fun r=>oob r) ["numbers"] [] (cscope (defScope s_product) N_product rfl rfl (by decide +kernel)) (ei_list (e_call1 c_turned_over (hr.mono (by decide)) rfl (e_var 1) ⟨n,hb⟩)) (gp_name 0) (fun C s H fp=>pg_cn 0 ["numbers"]) lt_of_eq (fun k r hr' C s H fp=>e_call1 c_over_one_bottom (hr.mono (by decide)) rfl (e_var 0) (hv.row (mem_at hr'))) (by have:=hv.len; omega)) ?_
 refine s_ret (e_comp (f:=fun r=>swi (oob r) ((tov U).map oob)) ["numbers"] [2] (cscope (defScope s_product) N_product rfl rfl (by decide +kernel)) (ei_list (e_var 0)) (gp_name 0) (fun C s H fp=>pg_cn 0 ["numbers","columns"]) lt_of_eq (fun k r hr' C s H fp=>e_call2 c_sums_with (hr.mono (by decide)) rfl (e_call1 c_over_one_bottom (hr.mono (by decide)) rfl (e_var 0) (ha.row (mem_at hr'))) (e_var 1) ⟨oob_ok (ha.row (mem_at hr')),?_,fun b hb'=>?_⟩) (by have:=ha.len; omega)) ?_
 ·rw [List.length_map]; exact hv.len
 ·obtain ⟨r',z,rfl⟩:=List.mem_map.mp hb'
  exact oob_ok (hv.row z)
 ·rfl
structure PLd (F T:Tb):Prop where
 ex:∃ n,PTb n F∧PTb n T∧PTb n (prd F T)
theorem b_led (c_turned_over:Cal P w K mg base 2 "turned_over" ["T"] (sp1 K (fun (T:Tb)=>∃ n,PTb n T) true tov)) (c_product:Cal P w K mg base 5 "product" ["one","other"] (sp2 K (fun (A B:Tb)=>∃ n,PTb n A∧PTb n B) true prd)) (F T:Tb) (hp:PLd F T):Body P w K mg base N_led "led" s_led f 5 [.val false F,.val false T] (RT true (_root_.EP.ledF F T)):=by
 intro cdv A outer s H E hr
 obtain ⟨n,h1,h2,h3⟩:=hp.ex
 exact s_ret (e_call2 c_product (hr.mono (by decide)) rfl (e_call1 c_turned_over (hr.mono (by decide)) rfl (e_var 1) ⟨n,h2⟩) (e_call2 c_product (hr.mono (by decide)) rfl (e_var 0) (e_var 1) ⟨n,h1,h2⟩) ⟨n,h2.tov,h3⟩) rfl
theorem Sm.fr1 {n:Nat} {t b:Int} (hb:b≠0) (h:Sm n t):Sm n (fr t b).1:=Sm.of_le (_root_.EP.fr_abs1 hb) h
theorem Sm.fr2 {n:Nat} {t b:Int} (hb:b≠0) (h:Sm n b):Sm n (fr t b).2:=Sm.of_le (_root_.EP.fr_abs2 hb) h
structure SRow (us:List Fr):Prop where
 len:us.length≤8
 low:∀ u∈us,Low u
 s1:∀ u∈us,Sm 20 u.1
 s2:∀ u∈us,Sm 10 u.2
theorem STb.row {n:Nat} {T:Tb} (h:STb n T) {r:List Fr} (hr:r∈T):SRow r:=⟨by rw [h.sq.row r hr]; exact h.n8,h.sq.low r hr,h.s1 r hr,h.s2 r hr⟩
theorem lcm_smg {m:Nat} {us:List Fr} (hlow:∀ u∈us,Low u) (hs:∀ u∈us,Sm m u.2) (i:Nat) (hi:i≤us.length):1≤lcmB (us.take i)∧Sm (1 + m * i) (lcmB (us.take i)):=by
 induction i with
 | zero=>exact ⟨by show (1:Int)≤1; decide,by show (1:Int).natAbs < 2 ^ (1 + m * 0); rw [Nat.mul_zero]; decide⟩
 | succ i ih =>
  obtain ⟨h1,h2⟩:=ih (by omega)
  have hg:us[i]?=some us[i]:=List.getElem?_eq_getElem (by omega)
  have hm:=mem_at hg
  have e:lcmB (us.take (i + 1))=(lcmB (us.take i) * us[i].2).fdiv (Int.gcd (lcmB (us.take i)) us[i].2:Nat):=take_fold hg
  have z:=_root_.EP.lcm_step h1 (hlow _ hm).1
  rw [← e] at z
  refine ⟨z.1,?_⟩
  have s:=h2.mul (hs _ hm)
  have l:=z.2.2.2
  have:Sm (1 + m * i + m) (lcmB (us.take (i + 1))):=Sm.of_le (by omega) s
  exact this.le (by rw [Nat.mul_add]; omega)
theorem SRow.lcm {us:List Fr} (h:SRow us):1≤lcmB us∧Sm 81 (lcmB us):=by
 have z:=lcm_smg h.low h.s2 us.length (Nat.le_refl _)
 rw [List.take_length] at z
 exact ⟨z.1,z.2.le (by have:=h.len; omega)⟩
theorem SRow.oob {us:List Fr} (h:SRow us):∀ x∈(oob us).1,Sm 101 x:=fun x hx=>by
 obtain ⟨u,hu,rfl⟩:=List.mem_map.mp hx
 obtain ⟨h1,h2⟩:=h.lcm
 exact (h.s1 u hu).mul (ediv_sm h1 (h.low u hu).1 h2)
theorem sum_sm {m:Nat}:∀ (l:List Int) (k:Nat),l.length≤k→(∀ x∈l,Sm m x)→Sm (m + k) l.sum
 | [],k,_,_=>by show (0:Int).natAbs < _; exact Nat.two_pow_pos _
 | x :: l,0,h,_=>by simp at h
 | x :: l,k + 1,h,hs=>by
  have h1:=hs x (List.mem_cons_self ..)
  have h2:=sum_sm l k (by simpa using h) fun y hy=>hs y (List.mem_cons_of_mem _ hy)
  rw [List.sum_cons]
  exact (h1.add h2).le (by omega)
theorem STb.tov {n:Nat} {T:Tb} (h:STb n T):STb n (tov T):=by
 have key:∀ r∈_root_.EP.tov T,∀ u∈r,∃ r'∈T,u∈r':=fun r hr u hu=>by
  obtain ⟨j,hj,rfl⟩:=List.mem_map.mp hr
  obtain ⟨r',hr',rfl⟩:=List.mem_map.mp hu
  have:=_root_.EP.mem_rng hj
  rw [h.sq.len] at this
  exact ⟨r',hr',_root_.EP.getD_mem (by rw [h.sq.row r' hr']; omega)⟩
 exact ⟨h.sq.tov,h.n8,fun r hr u hu=>by obtain ⟨r',a,b⟩:=key r hr u hu; exact h.s1 r' a u b,fun r hr u hu=>by obtain ⟨r',a,b⟩:=key r hr u hu; exact h.s2 r' a u b⟩
structure GRow (a b:Nat) (us:List Fr):Prop where
 len:us.length≤8
 low:∀ u∈us,Low u
 s1:∀ u∈us,Sm a u.1
 s2:∀ u∈us,Sm b u.2
theorem SRow.g {us:List Fr} (h:SRow us):GRow 20 10 us:=⟨h.len,h.low,h.s1,h.s2⟩
theorem GRow.lcm {a b:Nat} {us:List Fr} (h:GRow a b us):1≤lcmB us∧Sm (1 + b * 8) (lcmB us):=by
 have z:=lcm_smg h.low h.s2 us.length (Nat.le_refl _)
 rw [List.take_length] at z
 exact ⟨z.1,z.2.le (by have:=Nat.mul_le_mul_left b h.len; omega)⟩
theorem GRow.oob {a b:Nat} {us:List Fr} (h:GRow a b us):∀ x∈(oob us).1,Sm (a + (1 + b * 8)) x:=fun x hx=>by
 obtain ⟨u,hu,rfl⟩:=List.mem_map.mp hx
 obtain ⟨h1,h2⟩:=h.lcm
 exact (h.s1 u hu).mul (ediv_sm h1 (h.low u hu).1 h2)
theorem sop_g {a b a' b':Nat} {r c:List Fr} (hr:GRow a b r) (hc:GRow a' b' c):Low (sop (oob r) (oob c))∧Sm (a + (1 + b * 8) + (a' + (1 + b' * 8)) + 8) (sop (oob r) (oob c)).1∧Sm (1 + b * 8 + (1 + b' * 8)) (sop (oob r) (oob c)).2:=by
 obtain ⟨a1,a2⟩:=hr.lcm
 obtain ⟨b1,b2⟩:=hc.lcm
 have ne:(oob r).2 * (oob c).2≠0:=Int.mul_ne_zero (show lcmB r≠0 by omega) (show lcmB c≠0 by omega)
 refine ⟨_root_.EP.fr_lowP ne,Sm.fr1 ne ?_,Sm.fr2 ne (a2.mul b2)⟩
 unfold dotI
 refine sum_sm _ 8 ?_ fun x hx=>?_
 ·rw [List.length_map,List.length_zip]
  have:(oob r).1.length≤8:=by show (r.map _).length≤8; rw [List.length_map]; exact hr.len
  omega
 ·obtain ⟨p,hp,rfl⟩:=List.mem_map.mp hx
  have q:=_root_.EP.mem_zip_l hp
  exact (hr.oob _ q.1).mul (hc.oob _ q.2)
open _root_.EP (wNum fOf bsd ent)
def wNumZ (n p:Int) (u:Fr):List Fr:=wNum n.toNat p u
include B in
theorem b_with_number (n p:Int) (u:Fr) (h0:0≤n) (h1:n≤8):Body P w K mg base N_with_number "with_number" s_with_number f k [.val false n,.val false p,.val false u] (RT true (wNumZ n p u)):=by
 intro cdv A outer s H E hr
 refine s_ret (e_comp (f:=fun j=>if decide (j=p) then u else (0,1)) (b':=true) ["j"] [1,2] (cscope (defScope s_with_number) N_with_number rfl rfl (by decide +kernel)) (ei_range rfl B.range (e_var 0) (by omega) (by omega)) (gp_name 0) (fun C s H fp=>pg_cn 0 ["j","place","number"]) lt_of_eq (fun k j hj C s H fp=>e_if (t_cmp cv_eqI (e_var 0) (e_var 1)) (fun _=>e_up (b':=true) (e_var 2)) fun _=>e_tup2 e_int e_int) (by rw [seqI_len]; omega)) ?_
 rw [seq_rng]
 show Bd.val _ _=Bd.val _ _
 congr 1
 unfold wNumZ wNum
 exact List.map_congr_left fun j _=>by by_cases z:j=p <;> simp [z]
theorem fOf_en (us:List Fr):(enI us).map (fun u=>wNum us.length u.1 u.2)=fOf us:=by
 unfold enI fOf
 refine List.ext_getElem? fun i=>?_
 rw [List.getElem?_map,List.getElem?_mapIdx,List.getElem?_mapIdx]
 cases us[i]? <;> rfl
include B in
theorem b_form_of (c_with_number:Cal P w K mg base 1 "with_number" ["n","place","number"] (sp3 K (fun (n _:Int) (_:Fr)=>0≤n∧n≤8) true wNumZ)) (us:List Fr) (h:us.length≤8):Body P w K mg base N_form_of "form_of" s_form_of f 1 [.val false us] (RT true (fOf us)):=by
 intro cdv A outer s H E hr
 refine s_ret (e_comp (f:=fun u:Int × Fr=>wNumZ (us.length:Int) u.1 u.2) (b':=true) ["i","number"] [0] (cscope (defScope s_form_of) N_form_of rfl rfl (by decide +kernel)) (ei_enum rfl B.enumerate (e_var 0)) (gp_two 0 1) (fun C s H fp=>pg_cn2 0 1 ["i","number","numbers"]) lt_of_eq2 (fun k j hj C s H fp=>e_call3 c_with_number (hr.mono (by decide)) rfl (e_lenL rfl B.len (e_var 2)) (e_var 0) (e_var 1) ⟨by omega,by omega⟩) (by rw [enI_len]; omega)) ?_
 have e:(fun u:Int × Fr=>wNumZ (us.length:Int) u.1 u.2)=fun u=>wNum us.length u.1 u.2:=by
  funext u; unfold wNumZ; rw [Int.toNat_natCast]
 rw [e,fOf_en]
 rfl
open _root_.EP (Fr Low fadd fmul)
theorem t_to {X:Cx} {Γ:GEnv} {e:Expr} {c c':Bool} (h:T X Γ e c) (z:c=c'):T X Γ e c':=z ▸ h
def jnF (a b:Int):Int:=a.fdiv ((Int.gcd a b:Nat):Int) * b.fdiv ((Int.gcd a b:Nat):Int)
def PJn (a b:Int):Prop:=a≠0∧b≠0∧Sm 400 a∧Sm 400 b
theorem fdiv_g {a g:Int} (h:g ∣ a) (ha:a≠0):g≠0∧a.fdiv g≠0∧(a.fdiv g).natAbs≤a.natAbs:=by
 obtain ⟨c,rfl⟩:=h
 have hg:g≠0:=fun z=>ha (by rw [z,Int.zero_mul])
 have hc:c≠0:=fun z=>ha (by rw [z,Int.mul_zero])
 rw [Int.mul_fdiv_cancel_left c hg]
 refine ⟨hg,hc,?_⟩
 rw [Int.natAbs_mul]
 exact Nat.le_mul_of_pos_left _ (by omega)
theorem jn_parts {a b:Int} (ha:a≠0) (hb:b≠0):((Int.gcd a b:Nat):Int)≠0∧a.fdiv ((Int.gcd a b:Nat):Int)≠0∧(a.fdiv ((Int.gcd a b:Nat):Int)).natAbs≤a.natAbs∧b.fdiv ((Int.gcd a b:Nat):Int)≠0∧(b.fdiv ((Int.gcd a b:Nat):Int)).natAbs≤b.natAbs:=by
 obtain ⟨x1,x2,x3⟩:=fdiv_g (Int.gcd_dvd_left a b) ha
 obtain ⟨_,y2,y3⟩:=fdiv_g (Int.gcd_dvd_right a b) hb
 exact ⟨x1,x2,x3,y2,y3⟩
theorem jn_ok {m n:Nat} {a b:Int} (ha:a≠0) (hb:b≠0) (sa:Sm m a) (sb:Sm n b):jnF a b≠0∧Sm (m + n) (jnF a b):=by
 obtain ⟨_,x2,x3,y2,y3⟩:=jn_parts ha hb
 exact ⟨Int.mul_ne_zero x2 y2,(Sm.of_le x3 sa).mul (Sm.of_le y3 sb)⟩
theorem jn_one (b:Int):jnF 1 b=b:=by
 unfold jnF
 have:Int.gcd 1 b=1:=Int.gcd_one_left b
 rw [this]
 show (1:Int).fdiv 1 * b.fdiv 1=b
 rw [Int.fdiv_one,Int.fdiv_one,Int.one_mul]
theorem gcd_smS {n:Nat} {a b:Int} (ha:a≠0) (sa:Sm n a):Sm n ((Int.gcd a b:Nat):Int):=by
 have:Int.gcd a b≤a.natAbs:=Nat.le_of_dvd (by omega) (Int.natAbs_dvd_natAbs.mpr (Int.gcd_dvd_left a b))
 unfold Sm at *
 omega
theorem b_joined (c_common_divisor:Cal P w K mg base 1 "common_divisor" ["a","b"] (sp2 K (fun _ _=>True) true fun a b=>((Int.gcd a b:Nat):Int))) (a b:Int) (hp:PJn a b):Body P w K mg base N_joined "joined" s_joined f 1 [.val false a,.val false b] (RT true (jnF a b)):=by
 intro cdv A outer s H E hr
 obtain ⟨ha,hb,sa,sb⟩:=hp
 obtain ⟨g0,x2,x3,y2,y3⟩:=jn_parts ha hb
 have sg:=gcd_smS (b:=b) ha sa
 refine s_asg 2 sc_joined.nd (e_call2 c_common_divisor (hr.mono (by decide)) rfl (e_var 0) (e_var 1) True.intro) ?_
 exact s_ret (e_mul (e_fdiv (e_var 0) (e_var 2) (sg.div g0)) (e_fdiv (e_var 1) (e_var 2) (sg.div g0)) ((Sm.of_le x3 sa).ok (Sm.of_le y3 sb))) rfl
noncomputable def fpF (row:List Int):Int:=row.foldl (fun n k=>jnF n (foF k)) 1
def PFp (row:List Int):Prop:=row.length≤8∧∀ k∈row,k≠0∧k.natAbs < 1073741824
theorem fp_ok {row:List Int} (h:PFp row):∀ i,i≤row.length→(row.take i).foldl (fun n k=>jnF n (foF k)) 1≠0∧Sm (1 + 30 * i) ((row.take i).foldl (fun n k=>jnF n (foF k)) 1)
 | 0,_=>⟨by show (1:Int)≠0; decide,by show (1:Int).natAbs < 2 ^ 1; decide⟩
 | i + 1,hi=>by
  obtain ⟨a,b⟩:=fp_ok h i (by omega)
  have hg:row[i]?=some row[i]:=List.getElem?_eq_getElem (by omega)
  have e:(row.take (i + 1)).foldl (fun n k=>jnF n (foF k)) 1=jnF ((row.take i).foldl (fun n k=>jnF n (foF k)) 1) (foF row[i]):=take_fold hg
  have hk:=h.2 _ (List.mem_of_getElem? hg)
  obtain ⟨f1,f2⟩:=foF_le hk.1 hk.2
  obtain ⟨j1,j2⟩:=jn_ok a f1 b (show Sm 30 (foF row[i]) by unfold Sm; omega)
  rw [e]
  exact ⟨j1,j2.le (by omega)⟩
theorem pfo_of {k:Int} (h1:k≠0) (h2:k.natAbs < 1073741824):PFo k:=⟨h1,(show Sm 30 k by unfold Sm; omega).le (by decide),_root_.EP.tame_lt (by omega) (by omega)⟩
theorem b_free_product (c_joined:Cal P w K mg base 2 "joined" ["a","b"] (sp2 K PJn true jnF)) (c_free_of:Cal P w K mg base 6 "free_of" ["k"] (sp1 K PFo true foF)) (row:List Int) (h:PFp row):Body P w K mg base N_free_product "free_product" s_free_product f 6 [.val false row] (RT true (fpF row)):=by
 intro cdv A outer s H E hr
 have h8:=h.1
 refine s_asg 1 sc_free_product.nd e_int ?_
 refine s_forL (b:=false) (fun i Γ=>i≤row.length∧∃ r,Γ=[some (.val false row),some (.val true ((row.take i).foldl (fun n k=>jnF n (foF k)) 1)),r]) (g_name 2 sc_free_product.nd) (e_var 0) ⟨Nat.zero_le _,none,rfl⟩ ?_ ?_
 ·rintro i k Γ' hk ⟨hi,r,rfl⟩
  have hi':i < row.length:=(List.getElem?_eq_some_iff.mp hk).1
  obtain ⟨a,b⟩:=fp_ok h i hi
  have hk':=h.2 _ (List.mem_of_getElem? hk)
  obtain ⟨f1,f2⟩:=foF_le hk'.1 hk'.2
  have e:(row.take (i + 1)).foldl (fun n k=>jnF n (foF k)) 1=jnF ((row.take i).foldl (fun n k=>jnF n (foF k)) 1) (foF k):=take_fold hk
  refine s_asg 1 sc_free_product.nd (e_call2 c_joined (hr.mono (by decide)) rfl (e_var 1) (e_call1 c_free_of (hr.mono (by decide)) rfl (e_var 2) (pfo_of hk'.1 hk'.2)) ⟨a,f1,b.le (by omega),(show Sm 30 (foF k) by unfold Sm; omega).le (by decide)⟩) ?_
  rw [e]
  exact s_nil ⟨hi',_,rfl⟩
 ·rintro Γ' ⟨hi,r,rfl⟩
  rw [List.take_length]
  exact s_ret (e_var 1) rfl
def mdF (a b:Int) (x y:Fr):Fr:=fr (a * x.1 * x.1 * y.2 * y.2 + b * y.1 * y.1 * x.2 * x.2) (x.2 * x.2 * y.2 * y.2)
def PFx (x:Fr):Prop:=Low x∧Sm 20 x.1∧Sm 20 x.2
def PMd (a b:Int) (x y:Fr):Prop:=Sm 30 a∧Sm 30 b∧PFx x∧PFx y
theorem b_made_of_two (c_fraction:Cal P w K mg base 2 "fraction" ["top","bottom"] (sp2 K PFr true fr)) (a b:Int) (x y:Fr) (h:PMd a b x y):Body P w K mg base N_made_of_two "made_of_two" s_made_of_two f 2 [.val false a,.val false b,.val false x,.val false y] (RT true (mdF a b x y)):=by
 intro cdv A outer s H E hr
 obtain ⟨sa,sb,⟨lx,x1,x2⟩,⟨ly,y1,y2⟩⟩:=h
 have p1:=sa.mul x1
 have p2:=p1.mul x1
 have p3:=p2.mul y2
 have q1:=sb.mul y1
 have q2:=q1.mul y1
 have q3:=q2.mul x2
 have z1:=x2.mul x2
 have z2:=z1.mul y2
 refine s_asg 4 sc_made_of_two.nd (e_add (e_mul (e_mul (e_mul (e_mul (e_var 0) (e_fst (e_var 2)) (sa.ok x1)) (e_fst (e_var 2)) (p1.ok x1)) (e_snd (e_var 3)) (p2.ok y2)) (e_snd (e_var 3)) (p3.ok y2)) (e_mul (e_mul (e_mul (e_mul (e_var 1) (e_fst (e_var 3)) (sb.ok y1)) (e_fst (e_var 3)) (q1.ok y1)) (e_snd (e_var 2)) (q2.ok x2)) (e_snd (e_var 2)) (q3.ok x2))) ?_
 exact s_ret (e_call2 c_fraction (hr.mono (by decide)) rfl (e_var 4) (e_mul (e_mul (e_mul (e_snd (e_var 2)) (e_snd (e_var 2)) (x2.ok x2)) (e_snd (e_var 3)) (z1.ok y2)) (e_snd (e_var 3)) (z2.ok y2)) ⟨Int.mul_ne_zero (Int.mul_ne_zero (Int.mul_ne_zero lx.ne lx.ne) ly.ne) ly.ne,(z2.mul y2).le (by decide)⟩) rfl
noncomputable def ifF (k:Int):Bool:=irn k && decide (foF k=k)
theorem b_is_free (c_is_row_number:Cal P w K mg base 2 "is_row_number" ["k"] (sp1 K (fun (_:Int)=>True) true irn)) (c_free_of:Cal P w K mg base 6 "free_of" ["k"] (sp1 K PFo true foF)) (k:Int):Body P w K mg base N_is_free "is_free" s_is_free f 6 [.val false k] (RT true (ifF k)):=by
 intro cdv A outer s H E hr
 cases q:irn k with
 | false =>
  have e:ifF k=false:=by unfold ifF; rw [q]; rfl
  rw [e]
  refine s_ret (e_and (c':=false) (b2:=true) (e_call1 c_is_row_number (hr.mono (by decide)) rfl (e_var 0) True.intro) fun z=>absurd z (by rw [q]; decide)) ?_
  rw [q]; rfl
 | true =>
  have hk:k≠0∧k.natAbs < 1073741824:=by unfold irn at q; simpa using q
  exact s_ret (e_and (e_call1 c_is_row_number (hr.mono (by decide)) rfl (e_var 0) True.intro) fun _=>(e_one (e_cmp cv_eqI (e_call1 c_free_of (hr.mono (by decide)) rfl (e_var 0) (pfo_of hk.1 hk.2)) (e_var 0)))) rfl
def nb1 (row:List Int) (s:Stp):Prop:=0≤s.i∧s.i < s.j∧s.j < row.length
instance (row:List Int) (s:Stp):Decidable (nb1 row s):=by unfold nb1; infer_instance
def nbM (row:List Int) (s:Stp):Fr:=mdF (row.getD s.i.toNat 0) (row.getD s.j.toNat 0) s.x s.y
noncomputable def nbO (row:List Int) (s:Stp):Int:=jnF (fpF [row.getD s.i.toNat 0,row.getD s.j.toNat 0]) (nbM row s).1
def nbOk (row:List Int) (s:Stp):Prop:=nb1 row s∧((nbM row s).2=1∧ifF (nbM row s).1=true)∧(nbO row s).natAbs < 1073741824
def PNb (row:List Int) (s:Stp):Prop:=isRow row=true∧PFx s.x∧PFx s.y
noncomputable def nbF (row:List Int) (s:Stp):Fr:=((nbM row s).1,nbO row s)
noncomputable def stE (d:PyData):Stp:=match d with
 | .tuple [.int i,.int j,.tuple [.int a,.int b],.tuple [.int c,.int e]]=>⟨i,j,(a,b),(c,e)⟩
 | _=>⟨0,0,(0,1),(0,1)⟩
theorem stE_eq (s:Stp):stE (stD s)=s:=rfl
noncomputable def nbD (row:List Int) (d:Dt):Fr:=nbF row (stE d.d)
theorem row_at {row:List Int} {s:Stp} (hR:isRow row=true) (h1:nb1 row s):(row.getD s.i.toNat 0≠0∧(row.getD s.i.toNat 0).natAbs < 1073741824)∧(row.getD s.j.toNat 0≠0∧(row.getD s.j.toNat 0).natAbs < 1073741824):=by
 obtain ⟨a,b,c⟩:=h1
 exact ⟨isRow_mem hR (_root_.EP.getD_mem (by omega)),isRow_mem hR (_root_.EP.getD_mem (by omega))⟩
theorem atGetA {α:Type} {l:List α} {i:Int} {d:α} {n:Nat} (h0:0≤i) (h1:i < n) (hl:l.length=n):atI l i=some (l.getD i.toNat d):=by
 unfold atI ixN
 rw [if_pos h0,if_pos (by omega)]
 show l[i.toNat]?=_
 rw [List.getD_eq_getElem?_getD,List.getElem?_eq_getElem (by omega)]
 rfl
theorem pmd_of {row:List Int} {s:Stp} (h:PNb row s) (h1:nb1 row s):PMd (row.getD s.i.toNat 0) (row.getD s.j.toNat 0) s.x s.y:=by
 obtain ⟨a,b⟩:=row_at h.1 h1
 exact ⟨by unfold Sm; omega,by unfold Sm; omega,h.2.1,h.2.2⟩
theorem nb_mid {row:List Int} {s:Stp} (h:PNb row s) (h1:nb1 row s) (h2:ifF (nbM row s).1=true):PFp [row.getD s.i.toNat 0,row.getD s.j.toNat 0]∧PJn (fpF [row.getD s.i.toNat 0,row.getD s.j.toNat 0]) (nbM row s).1:=by
 obtain ⟨a,b⟩:=row_at h.1 h1
 have pf:PFp [row.getD s.i.toNat 0,row.getD s.j.toNat 0]:=⟨by show 2≤8; decide,fun k hk=>by
  simp only [List.mem_cons,List.not_mem_nil,or_false] at hk
  rcases hk with rfl | rfl
  ·exact a
  ·exact b⟩
 obtain ⟨q1,q2⟩:=fp_ok pf 2 (Nat.le_refl _)
 have hm:(nbM row s).1≠0∧(nbM row s).1.natAbs < 1073741824:=by
  unfold ifF at h2
  have:=(Bool.and_eq_true_iff.mp h2).1
  unfold irn at this
  simpa using this
 exact ⟨pf,q1,hm.1,q2.le (by decide),(show Sm 30 _ by unfold Sm; omega).le (by decide)⟩
theorem ck {row:List Int} {s:Stp}:(!(decide ((0:Int)≤s.i) && (decide (s.i < s.j) && decide (s.j < (row.length:Int)))))=!decide (nb1 row s):=by
 congr 1
 rw [Bool.eq_iff_iff,decide_eq_true_iff]
 unfold nb1
 simp
section
variable (g_GREAT_FROM:MgI mg "GREAT_FROM" 1073741824) (c_joined:Cal P w K mg base 2 "joined" ["a","b"] (sp2 K PJn true jnF)) (c_free_product:Cal P w K mg base 7 "free_product" ["row"] (sp1 K PFp true fpF)) (c_made_of_two:Cal P w K mg base 3 "made_of_two" ["a","b","x","y"] (sp4 K PMd true mdF)) (c_is_free:Cal P w K mg base 7 "is_free" ["k"] (sp1 K (fun (_:Int)=>True) true ifF))
include B g_GREAT_FROM
set_option maxHeartbeats 1000000 in
include c_joined c_free_product c_made_of_two c_is_free in
theorem b_numbers_behind (row:List Int) (d:Dt) (s:Stp) (e:d.d=stD s) (h:PNb row s) (ok:nbOk row s):Body P w K mg base N_numbers_behind "numbers_behind" s_numbers_behind f 7 [.val false row,.val false d] (RT true (nbD row d)):=by
 intro cdv A outer sh H E hr
 obtain ⟨d⟩:=d
 have e':d=stD s:=e
 subst e'
 obtain ⟨h1,⟨h2,h3⟩,h4⟩:=ok
 have h1':=h1
 obtain ⟨a,b,c⟩:=h1'
 obtain ⟨pf,pj⟩:=nb_mid h h1 h3
 have ab:∀ i:Int,(if i < 0 then -i else i)=(i.natAbs:Int):=fun i=>by split <;> omega
 show S _ _ _ (RT true (nbF row s))
 refine s_asg 2 sc_numbers_behind.nd (e_st0 (s:=s) (e_var 1) e_int) ?_
 refine s_asg 3 sc_numbers_behind.nd (e_st1 (s:=s) (e_var 1) e_int) ?_
 refine s_if1 (t_to (c':=false) (t_not (t_chain3 cv_le cv_lt cv_lt e_int (e_var 2) (e_var 3) (e_lenL rfl B.len (e_var 0)))) (by rw [ck,decide_eq_true h1]; rfl)) (fun hc=>nomatch hc) (fun _=>?_)
 refine s_asg 4 sc_numbers_behind.nd (e_call4 c_made_of_two (hr.mono (by decide)) rfl (e_ixL (e_var 0) (e_var 2) (atGetA (d:=0) a (by omega) rfl)) (e_ixL (e_var 0) (e_var 3) (atGetA (d:=0) (by omega) c rfl)) (e_st2 (s:=s) (e_var 1) e_int) (e_st3 (s:=s) (e_var 1) e_int) (pmd_of h h1)) ?_
 show S _ [some (.val false row),some (.val false (Dt.mk (stD s))),some (.val false s.i),some (.val false s.j),some (.val true (nbM row s)),none] _ _
 refine s_if1 (TW.t (tw_or (t_cmp cv_neI (e_snd (e_var 4)) e_int) fun _=>(tw_or1 (t_not (t_val (e_call1 c_is_free (hr.mono (by decide)) rfl (e_fst (e_var 4)) True.intro)))))) (fun hc=>?_) (fun _=>?_)
 ·rw [h2,h3] at hc; cases hc
 refine s_asg 5 sc_numbers_behind.nd (e_call2 c_joined (hr.mono (by decide)) rfl (e_call1 c_free_product (hr.mono (by decide)) rfl (e_lst (b:=true) (ea_cons (e_up (e_ixL (e_var 0) (e_var 2) (atGetA (d:=0) a (by omega) rfl))) (ea_cons (e_up (e_ixL (e_var 0) (e_var 3) (atGetA (d:=0) (by omega) c rfl))) ea_nil)) (Nat.le_of_ble_eq_true rfl)) pf) (e_fst (e_var 4)) pj) ?_
 show S _ [some (.val false row),some (.val false (Dt.mk (stD s))),some (.val false s.i),some (.val false s.j),some (.val true (nbM row s)),some (.val true (nbO row s))] _ _
 refine s_if1 (t_cmp cv_ge (e_abs rfl B.abs (e_var 5)) (e_glI rfl g_GREAT_FROM)) (fun hc=>?_) (fun _=>?_)
 ·rw [ab] at hc
  have:(1073741824:Int)≤((nbO row s).natAbs:Int):=by simpa using hc
  omega
 refine s_ret (e_tup2 (e_fst (e_var 4)) (e_var 5)) ?_
 rfl
variable {cS:Addr} (xs:Xz K mg cS)
set_option maxHeartbeats 1000000 in
include xs c_joined c_free_product c_made_of_two c_is_free in
theorem b_numbers_behindR (row:List Int) (d:Dt) (s:Stp) (e:d.d=stD s) (h:PNb row s) (ok:¬ nbOk row s):BodyR P w K mg base N_numbers_behind "numbers_behind" s_numbers_behind f 7 [.val false row,.val false d] cS:=by
 intro cdv A outer sh H E R hr hA
 obtain ⟨d⟩:=d
 have e':d=stD s:=e
 subst e'
 have ab:∀ i:Int,(if i < 0 then -i else i)=(i.natAbs:Int):=fun i=>by split <;> omega
 refine sr_asg 2 sc_numbers_behind.nd (e_st0 (s:=s) (e_var 1) e_int) ?_
 refine sr_asg 3 sc_numbers_behind.nd (e_st1 (s:=s) (e_var 1) e_int) ?_
 by_cases h1:nb1 row s
 ·have h1':=h1
  obtain ⟨a,b,c⟩:=h1'
  refine sr_ifF (t_to (t_not (t_chain3 cv_le cv_lt cv_lt e_int (e_var 2) (e_var 3) (e_lenL rfl B.len (e_var 0)))) (by rw [ck,decide_eq_true h1]; rfl)) ?_
  refine sr_asg 4 sc_numbers_behind.nd (e_call4 c_made_of_two (hr.mono (by decide)) rfl (e_ixL (e_var 0) (e_var 2) (atGetA (d:=0) a (by omega) rfl)) (e_ixL (e_var 0) (e_var 3) (atGetA (d:=0) (by omega) c rfl)) (e_st2 (s:=s) (e_var 1) e_int) (e_st3 (s:=s) (e_var 1) e_int) (pmd_of h h1)) ?_
  show SR _ _ [some (.val false row),some (.val false (Dt.mk (stD s))),some (.val false s.i),some (.val false s.j),some (.val true (nbM row s)),none] _
  by_cases h2:(nbM row s).2=1
  ·cases h3:ifF (nbM row s).1 with
   | true =>
    obtain ⟨pf,pj⟩:=nb_mid h h1 h3
    have h4:¬ (nbO row s).natAbs < 1073741824:=fun w=>ok ⟨h1,⟨h2,h3⟩,w⟩
    refine sr_ifF (t_to (TW.t (tw_or (t_cmp cv_neI (e_snd (e_var 4)) e_int) fun _=>(tw_or1 (t_not (t_val (e_call1 c_is_free (hr.mono (by decide)) rfl (e_fst (e_var 4)) True.intro)))))) (by rw [h2,h3]; rfl)) ?_
    refine sr_asg 5 sc_numbers_behind.nd (e_call2 c_joined (hr.mono (by decide)) rfl (e_call1 c_free_product (hr.mono (by decide)) rfl (e_lst (b:=true) (ea_cons (e_up (e_ixL (e_var 0) (e_var 2) (atGetA (d:=0) a (by omega) rfl))) (ea_cons (e_up (e_ixL (e_var 0) (e_var 3) (atGetA (d:=0) (by omega) c rfl))) ea_nil)) (Nat.le_of_ble_eq_true rfl)) pf) (e_fst (e_var 4)) pj) ?_
    show SR _ _ [some (.val false row),some (.val false (Dt.mk (stD s))),some (.val false s.i),some (.val false s.j),some (.val true (nbM row s)),some (.val true (nbO row s))] _
    exact sr_ifT (t_to (t_cmp cv_ge (e_abs rfl B.abs (e_var 5)) (e_glI rfl g_GREAT_FROM)) (by rw [ab]; simp; omega)) (sr_raise (hA _) rfl xs.mS xs.rz)
   | false =>
    exact sr_ifT (t_to (TW.t (tw_or (t_cmp cv_neI (e_snd (e_var 4)) e_int) fun _=>(tw_or1 (t_not (t_val (e_call1 c_is_free (hr.mono (by decide)) rfl (e_fst (e_var 4)) True.intro)))))) (by rw [h2,h3]; rfl)) (sr_raise (hA _) rfl xs.mS xs.rz)
  ·exact sr_ifT (t_to (TW.t (tw_or (c':=false) (t_cmp cv_neI (e_snd (e_var 4)) e_int) fun z=>absurd z (by rw [decide_eq_false h2]; decide))) (by rw [decide_eq_false h2]; rfl)) (sr_raise (hA _) rfl xs.mS xs.rz)
 ·exact sr_ifT (t_to (t_not (t_chain3 cv_le cv_lt cv_lt e_int (e_var 2) (e_var 3) (e_lenL rfl B.len (e_var 0)))) (by rw [ck,decide_eq_false h1]; rfl)) (sr_raise (hA _) rfl xs.mS xs.rz)
end
def rwF (row:List Int) (s:Stp) (u:Fr):List Int:=(row.set s.i.toNat u.1).set s.j.toNat u.2
noncomputable def rwD (row:List Int) (d:Dt) (u:Fr):List Int:=rwF row (stE d.d) u
include B in
theorem b_row_with (row:List Int) (d:Dt) (u:Fr) (s:Stp) (e:d.d=stD s) (h1:nb1 row s):Body P w K mg base N_row_with "row_with" s_row_with f kk [.val false row,.val false d,.val false u] (RT true (rwD row d u)):=by
 intro cdv A outer sh H E hr
 obtain ⟨d⟩:=d
 have e':d=stD s:=e
 subst e'
 obtain ⟨a,b,c⟩:=h1
 show S _ _ _ (RT true (rwF row s u))
 refine s_ownlistT 3 sc_row_with.nd rfl B.list (e_var 0) ?_
 refine s_setO 3 (a:=u.1) rfl (e_st0 (s:=s) (e_var 1) e_int) (e_up (e_fst (e_var 2))) a (by omega) ?_
 refine s_setO 3 (as:=row.set s.i.toNat u.1) (a:=u.2) rfl (e_st1 (s:=s) (e_var 1) e_int) (e_up (e_snd (e_var 2))) (by omega) (by rw [List.length_set]; exact c) ?_
 refine s_freeze 3 rfl ?_
 exact s_ret (e_var 3) rfl
noncomputable def spF (row:List Int) (s:Stp):List Int:=rwF row s (nbF row s)
def whD (x:Dt):Bool:=match x.d with
 | .int _=>true
 | _=>false
theorem wh_int {d:PyData} (h:whD ⟨d⟩=true):∃ k,d=.int k:=by
 cases d with
 | int k=>exact ⟨k,rfl⟩
 | _=>exact absurd h (by simp [whD])
include B in
theorem b_is_wholeD (x:Dt):Body P w K mg base N_is_whole "is_whole" s_is_whole f kk [.val false x] (RT true (whD x)):=by
 intro cdv A outer s H E hr
 obtain ⟨d⟩:=x
 refine s_ret (e_and (e_isDI (d:=d) rfl B.isinstance rfl B.int (e_var 0)) fun _=>(e_one (e_not (e_isDB (d:=d) rfl B.isinstance rfl B.bool (e_var 0))))) ?_
 show Bd.val _ _=Bd.val _ _
 congr 1
 cases d <;> rfl
def isFrD (x:Dt):Bool:=match x.d with
 | .tuple [.int a,.int b]=>decide (1≤b) && decide (((Int.gcd a b:Nat):Int)=1)
 | _=>false
theorem isFr_low {d:PyData} (h:isFrD ⟨d⟩=true):∃ u:Fr,d=frD u∧Low u:=by
 unfold isFrD at h
 split at h
 ·rename_i a b e
  have e':d=.tuple [.int a,.int b]:=e
  refine ⟨(a,b),e',?_⟩
  simp at h
  exact ⟨h.1,by have:=h.2; show Int.gcd a b=1; omega⟩
 ·cases h
theorem low_isFr {u:Fr} (h:Low u):isFrD ⟨frD u⟩=true:=by
 show (decide (1≤u.2) && decide (((Int.gcd u.1 u.2:Nat):Int)=1))=true
 rw [decide_eq_true h.1,decide_eq_true (by rw [h.2]; rfl)]
 rfl
theorem isFr_two {a b:PyData} (h:¬ (whD ⟨a⟩=true∧whD ⟨b⟩=true)):isFrD ⟨.tuple [a,b]⟩=false:=by
 unfold isFrD
 split
 ·rename_i x y e
  have e':PyData.tuple [a,b]=.tuple [.int x,.int y]:=e
  cases e'
  exact absurd ⟨rfl,rfl⟩ h
 ·rfl
theorem isFr_len {ds:List PyData} (h:¬ (ds.length:Int)=2):isFrD ⟨.tuple ds⟩=false:=by
 unfold isFrD
 split
 ·rename_i x y e
  have e':PyData.tuple ds=.tuple [.int x,.int y]:=e
  cases e'
  exact absurd rfl h
 ·rfl
set_option maxHeartbeats 1000000 in
include B in
theorem b_is_fraction (c_is_wholeD:Cal P w K mg base 1 "is_whole" ["k"] (sp1 K (fun (_:Dt)=>True) true whD)) (c_common_divisor:Cal P w K mg base 1 "common_divisor" ["a","b"] (sp2 K (fun _ _=>True) true fun a b=>((Int.gcd a b:Nat):Int))) (x:Dt):Body P w K mg base N_is_fraction "is_fraction" s_is_fraction f 1 [.val false x] (RT true (isFrD x)):=by
 intro cdv A outer s H E hr
 obtain ⟨d⟩:=x
 have no:isTu d=false→isFrD ⟨d⟩=false→S (cx P w K mg base N_is_fraction "is_fraction" s_is_fraction f cdv A outer s H E) (gst N_is_fraction [.val false (Dt.mk d)]) (defBody s_is_fraction) (RT true (isFrD ⟨d⟩)):=fun z1 z2=>by
  rw [z2]
  refine s_if1 (TW.t (tw_or (c':=false) (t_not (t_val (e_isDT rfl B.isinstance rfl B.tuple (e_var 0)))) fun z=>absurd z (by rw [z1]; decide))) (fun hc=>?_) (fun hc=>?_)
  ·exact s_ret e_bl rfl
  ·rw [z1] at hc; cases hc
 cases d with
 | tuple ds =>
  refine s_if1 (TW.t (tw_or (t_not (t_val (e_isDT (d:=.tuple ds) rfl B.isinstance rfl B.tuple (e_var 0)))) fun _=>(tw_or1 (t_cmp cv_neI (e_lenU rfl B.len (e_ofdT (ds:=ds) (e_var 0))) e_int)))) (fun hc=>?_) (fun hc=>?_)
  ·have hc':¬ (ds.length:Int)=2:=by
    rw [List.length_map] at hc
    simpa [isTu] using hc
   rw [isFr_len hc']
   exact s_ret e_bl rfl
  ·have hc':(ds.length:Int)=2:=by
    rw [List.length_map] at hc
    simpa [isTu] using hc
   obtain ⟨a,b,rfl⟩:∃ a b,ds=[a,b]:=by
    match ds,hc' with
    | [a,b],_=>exact ⟨a,b,rfl⟩
    | [],h=>simp at h
    | [_],h=>simp at h
    | _ :: _ :: _ :: _,h=>simp at h; omega
   refine s_if1 (TW.t (tw_or (t_not (t_val (e_call1 c_is_wholeD (hr.mono (by decide)) rfl (e_ixTL (a:=Dt.mk a) (e_ofdT (ds:=[a,b]) (e_var 0)) e_int rfl) True.intro))) fun _=>(tw_or1 (t_not (t_val (e_call1 c_is_wholeD (hr.mono (by decide)) rfl (e_ixTL (a:=Dt.mk b) (e_ofdT (ds:=[a,b]) (e_var 0)) e_int rfl) True.intro)))))) (fun hc=>?_) (fun hc=>?_)
   ·rw [isFr_two fun q=>by rw [q.1,q.2] at hc; cases hc]
    exact s_ret e_bl rfl
   ·have q1:whD ⟨a⟩=true:=by
     cases q:whD ⟨a⟩ with
     | true=>rfl
     | false=>rw [q] at hc; cases hc
    have q2:whD ⟨b⟩=true:=by
     cases q:whD ⟨b⟩ with
     | true=>rfl
     | false=>rw [q,q1] at hc; cases hc
    obtain ⟨i,rfl⟩:=wh_int q1
    obtain ⟨j,rfl⟩:=wh_int q2
    exact s_ret (e_and (e_cmp cv_ge (e_ofdI (e_ixTL (a:=Dt.mk (.int j)) (e_ofdT (ds:=[.int i,.int j]) (e_var 0)) e_int rfl)) e_int) fun _=>(e_one (e_cmp cv_eqI (e_call2 c_common_divisor (hr.mono (by decide)) rfl (e_ofdI (e_ixTL (a:=Dt.mk (.int i)) (e_ofdT (ds:=[.int i,.int j]) (e_var 0)) e_int rfl)) (e_ofdI (e_ixTL (a:=Dt.mk (.int j)) (e_ofdT (ds:=[.int i,.int j]) (e_var 0)) e_int rfl)) True.intro) e_int))) rfl
 | _=>exact no rfl rfl
def Ln (d:PyData):Prop:=∀ ds,d=.list ds→ds.length≤1000
def isVcD (x:Dt) (n:Int):Bool:=match x.d with
 | .list ds=>decide ((ds.length:Int)=n) && (ds.map Dt.mk).all isFrD
 | _=>false
theorem vc_all:∀ {ds:List PyData},(ds.map Dt.mk).all isFrD=true→∃ us:List Fr,ds=us.map frD∧∀ u∈us,Low u
 | [],_=>⟨[],rfl,fun u hu=>by cases hu⟩
 | d :: ds,h=>by
  rw [List.map_cons,List.all_cons,Bool.and_eq_true] at h
  obtain ⟨us,h1,h2⟩:=vc_all h.2
  obtain ⟨u,h3,h4⟩:=isFr_low h.1
  refine ⟨u :: us,by rw [h1,h3]; rfl,fun v hv=>?_⟩
  rcases List.mem_cons.mp hv with rfl | hv
  ·exact h4
  ·exact h2 v hv
theorem vc_us {d:PyData} {n:Int} (h:isVcD ⟨d⟩ n=true):∃ us:List Fr,d=.list (us.map frD)∧(us.length:Int)=n∧∀ u∈us,Low u:=by
 cases d with
 | list ds =>
  have h':(decide ((ds.length:Int)=n) && (ds.map Dt.mk).all isFrD)=true:=h
  rw [Bool.and_eq_true] at h'
  obtain ⟨us,h1,h2⟩:=vc_all h'.2
  refine ⟨us,by rw [h1],?_,h2⟩
  have:=of_decide_eq_true h'.1
  rw [h1,List.length_map] at this
  exact this
 | _=>exact absurd h (by simp [isVcD])
set_option maxHeartbeats 1000000 in
include B in
theorem b_is_vector (c_is_fraction:Cal P w K mg base 2 "is_fraction" ["thing"] (sp1 K (fun (_:Dt)=>True) true isFrD)) (x:Dt) (n:Int) (hx:Ln x.d):Body P w K mg base N_is_vector "is_vector" s_is_vector f 2 [.val false x,.val false n] (RT true (isVcD x n)):=by
 intro cdv A outer s H E hr
 obtain ⟨d⟩:=x
 have no:isL d=false→isVcD ⟨d⟩ n=false→S (cx P w K mg base N_is_vector "is_vector" s_is_vector f cdv A outer s H E) (gst N_is_vector [.val false (Dt.mk d),.val false n]) (defBody s_is_vector) (RT true (isVcD ⟨d⟩ n)):=fun z1 z2=>by
  rw [z2]
  refine s_ret (e_and (c':=false) (b2:=true) (e_isDL rfl B.isinstance rfl B.list (e_var 0)) fun z=>absurd z (by rw [z1]; decide)) ?_
  rw [z1]
  rfl
 cases d with
 | list ds =>
  have h0:=hx ds rfl
  refine s_ret (e_and (e_isDL (d:=.list ds) rfl B.isinstance rfl B.list (e_var 0)) fun _=>(e_and (e_cmp cv_eqI (e_lenL rfl B.len (e_ofdL (ds:=ds) (e_var 0))) (e_var 1)) fun _=>(e_one (e_all rfl rfl B.all (e_comp (f:=isFrD) ["u"] [] (cscope (defScope s_is_vector) N_is_vector rfl rfl (by decide +kernel)) (ei_list (e_ofdL (ds:=ds) (e_var 0))) (gp_name 0) (fun C s H fp=>pg_cn 0 ["u"]) lt_of_eq (fun i u hu C s H fp=>e_call1 c_is_fraction (hr.mono (by decide)) rfl (e_var 0) True.intro) (by rw [List.length_map]; exact h0)))))) ?_
  show Bd.val _ _=Bd.val _ _
  congr 1
  rw [List.length_map]
  show (true && (decide _ && _))=(decide _ && _)
  rw [Bool.true_and,List.all_map]
  rfl
 | _=>exact no rfl rfl
def rowF (row:List Int):List Fr:=row.map fun k=>(k,1)
def forRow (row:List Int):Tb:=fOf (rowF row)
theorem b_form_of_row (c_form_of:Cal P w K mg base 2 "form_of" ["numbers"] (sp1 K (fun (us:List Fr)=>us.length≤8) true _root_.EP.fOf)) (row:List Int) (h:row.length≤8):Body P w K mg base N_form_of_row "form_of_row" s_form_of_row f 2 [.val false row] (RT true (forRow row)):=by
 intro cdv A outer s H E hr
 exact s_ret (e_call1 c_form_of (hr.mono (by decide)) rfl (e_comp (b':=true) (f:=fun k:Int=>((k,1):Fr)) ["k"] [] (cscope (defScope s_form_of_row) N_form_of_row rfl rfl (by decide +kernel)) (ei_list (e_var 0)) (gp_name 0) (fun C s H fp=>pg_cn 0 ["k"]) lt_of_eq (fun i u hu C s H fp=>e_up (e_tup2 (e_var 0) e_int)) (by omega)) (by rw [List.length_map]; exact h)) rfl
def Lt2 (d:PyData):Prop:=∀ ds,d=.list ds→ds.length≤1000∧∀ e∈ds,Ln e
def isTbD (x:Dt) (n:Int):Bool:=match x.d with
 | .list ds=>decide ((ds.length:Int)=n) && (ds.map Dt.mk).all (fun e=>isVcD e n)
 | _=>false
theorem tb_all {n:Int}:∀ {ds:List PyData},(ds.map Dt.mk).all (fun e=>isVcD e n)=true→∃ T:Tb,ds=T.map (fun r=>PyData.list (r.map frD))∧∀ r∈T,(r.length:Int)=n∧∀ u∈r,Low u
 | [],_=>⟨[],rfl,fun u hu=>by cases hu⟩
 | d :: ds,h=>by
  rw [List.map_cons,List.all_cons,Bool.and_eq_true] at h
  obtain ⟨T,h1,h2⟩:=tb_all h.2
  obtain ⟨us,h3,h4,h5⟩:=vc_us h.1
  refine ⟨us :: T,by rw [h1,h3]; rfl,fun r hr=>?_⟩
  rcases List.mem_cons.mp hr with rfl | hr
  ·exact ⟨h4,h5⟩
  ·exact h2 r hr
def tbL (T:Tb):PyData:=.list (T.map fun r=>PyData.list (r.map frD))
theorem tb_T {d:PyData} {n:Nat} (h:isTbD ⟨d⟩ (n:Int)=true):∃ T:Tb,d=tbL T∧Sq n T:=by
 cases d with
 | list ds =>
  have h':(decide ((ds.length:Int)=(n:Int)) && (ds.map Dt.mk).all (fun e=>isVcD e n))=true:=h
  rw [Bool.and_eq_true] at h'
  obtain ⟨T,h1,h2⟩:=tb_all h'.2
  have:=of_decide_eq_true h'.1
  rw [h1,List.length_map] at this
  exact ⟨T,by rw [h1]; rfl,by omega,fun r hr=>by have:=(h2 r hr).1; omega,fun r hr=>(h2 r hr).2⟩
 | _=>exact absurd h (by simp [isTbD])
set_option maxHeartbeats 1000000 in
include B in
theorem b_is_table (c_is_vector:Cal P w K mg base 3 "is_vector" ["thing","n"] (sp2 K (fun (x:Dt) (_:Int)=>Ln x.d) true isVcD)) (x:Dt) (n:Int) (hx:Lt2 x.d):Body P w K mg base N_is_table "is_table" s_is_table f 3 [.val false x,.val false n] (RT true (isTbD x n)):=by
 intro cdv A outer s H E hr
 obtain ⟨d⟩:=x
 have no:isL d=false→isTbD ⟨d⟩ n=false→S (cx P w K mg base N_is_table "is_table" s_is_table f cdv A outer s H E) (gst N_is_table [.val false (Dt.mk d),.val false n]) (defBody s_is_table) (RT true (isTbD ⟨d⟩ n)):=fun z1 z2=>by
  rw [z2]
  refine s_ret (e_and (c':=false) (b2:=true) (e_isDL rfl B.isinstance rfl B.list (e_var 0)) fun z=>absurd z (by rw [z1]; decide)) ?_
  rw [z1]
  rfl
 cases d with
 | list ds =>
  obtain ⟨h0,h2⟩:=hx ds rfl
  refine s_ret (e_and (e_isDL (d:=.list ds) rfl B.isinstance rfl B.list (e_var 0)) fun _=>(e_and (e_cmp cv_eqI (e_lenL rfl B.len (e_ofdL (ds:=ds) (e_var 0))) (e_var 1)) fun _=>(e_one (e_all rfl rfl B.all (e_comp (f:=fun e=>isVcD e n) ["numbers"] [1] (cscope (defScope s_is_table) N_is_table rfl rfl (by decide +kernel)) (ei_list (e_ofdL (ds:=ds) (e_var 0))) (gp_name 0) (fun C s H fp=>pg_cn 0 ["numbers","n"]) lt_of_eq (fun i u hu C s H fp=>e_call2 c_is_vector (hr.mono (by decide)) rfl (e_var 0) (e_var 1) (by
    obtain ⟨e,he,rfl⟩:=List.mem_map.mp (mem_at hu)
    exact h2 e he)) (by rw [List.length_map]; exact h0)))))) ?_
  show Bd.val _ _=Bd.val _ _
  congr 1
  rw [List.length_map]
  show (true && (decide _ && _))=(decide _ && _)
  rw [Bool.true_and,List.all_map]
  rfl
 | _=>exact no rfl rfl
def rnD (x:Dt):Bool:=match x.d with
 | .int k=>irn k
 | _=>false
include B in
theorem b_is_row_numberD (g_GREAT_FROM:MgI mg "GREAT_FROM" 1073741824) (c_is_wholeD:Cal P w K mg base 1 "is_whole" ["k"] (sp1 K (fun (_:Dt)=>True) true whD)) (x:Dt):Body P w K mg base N_is_row_number "is_row_number" s_is_row_number f 1 [.val false x] (RT true (rnD x)):=by
 intro cdv A outer s H E hr
 obtain ⟨d⟩:=x
 cases q:whD ⟨d⟩ with
 | false =>
  refine s_ret (e_and (c':=false) (b2:=true) (e_call1 c_is_wholeD (hr.mono (by decide)) rfl (e_var 0) True.intro) fun z=>absurd z (by rw [q]; decide)) ?_
  rw [q]
  cases d with
  | int k=>cases q
  | _=>rfl
 | true =>
  obtain ⟨x,rfl⟩:=wh_int q
  refine s_ret (e_and (e_call1 c_is_wholeD (hr.mono (by decide)) rfl (e_var 0) True.intro) fun _=>(e_and (e_cmp cv_neI (e_ofdI (k:=x) (e_var 0)) e_int) fun _=>(e_one (e_cmp cv_lt (e_abs rfl B.abs (e_ofdI (k:=x) (e_var 0))) (e_glI rfl g_GREAT_FROM))))) ?_
  show Bd.val _ _=Bd.val _ _
  congr 1
  show _=irn x
  unfold irn
  rw [Bool.eq_iff_iff,decide_eq_true_iff]
  simp [whD]
  intro _
  split <;> omega
def isRowD (x:Dt):Bool:=match x.d with
 | .list ds=>decide (1≤ds.length∧ds.length≤8) && (ds.map Dt.mk).all rnD
 | _=>false
theorem row_ints:∀ {ds:List PyData},(ds.map Dt.mk).all rnD=true→∃ ks:List Int,ds=ks.map PyData.int∧ks.all irn=true
 | [],_=>⟨[],rfl,rfl⟩
 | d :: ds,h=>by
  rw [List.map_cons,List.all_cons,Bool.and_eq_true] at h
  obtain ⟨ks,h1,h2⟩:=row_ints h.2
  cases d with
  | int k=>exact ⟨k :: ks,by rw [h1]; rfl,by rw [List.all_cons,h2,Bool.and_true]; exact h.1⟩
  | _=>exact absurd h.1 (by simp [rnD])
theorem row_of {d:PyData} (h:isRowD ⟨d⟩=true):∃ ks:List Int,d=.list (ks.map PyData.int)∧isRow ks=true:=by
 cases d with
 | list ds =>
  have h':(decide (1≤ds.length∧ds.length≤8) && (ds.map Dt.mk).all rnD)=true:=h
  rw [Bool.and_eq_true] at h'
  obtain ⟨ks,h1,h2⟩:=row_ints h'.2
  have:=h'.1
  rw [h1,List.length_map] at this
  refine ⟨ks,by rw [h1],?_⟩
  unfold isRow
  rw [this,h2]
  rfl
 | _=>exact absurd h (by simp [isRowD])
theorem row_to (ks:List Int):isRowD ⟨.list (ks.map PyData.int)⟩=isRow ks:=by
 show (decide (1≤(ks.map PyData.int).length∧(ks.map PyData.int).length≤8) && ((ks.map PyData.int).map Dt.mk).all rnD)=_
 unfold isRow
 rw [List.length_map,List.map_map,List.all_map]
 rfl
set_option maxHeartbeats 1000000 in
include B in
theorem b_is_rowD (g_LONGEST:MgI mg "LONGEST" 8) (c_is_row_numberD:Cal P w K mg base 2 "is_row_number" ["k"] (sp1 K (fun (_:Dt)=>True) true rnD)) (x:Dt) (hx:Ln x.d):Body P w K mg base N_is_row "is_row" s_is_row f 2 [.val false x] (RT true (isRowD x)):=by
 intro cdv A outer s H E hr
 obtain ⟨d⟩:=x
 have no:isL d=false→isRowD ⟨d⟩=false→S (cx P w K mg base N_is_row "is_row" s_is_row f cdv A outer s H E) (gst N_is_row [.val false (Dt.mk d)]) (defBody s_is_row) (RT true (isRowD ⟨d⟩)):=fun z1 z2=>by
  rw [z2]
  refine s_if1 (TW.t (tw_or (c':=false) (t_not (t_val (e_isDL rfl B.isinstance rfl B.list (e_var 0)))) fun z=>absurd z (by rw [z1]; decide))) (fun hc=>?_) (fun hc=>?_)
  ·exact s_ret e_bl rfl
  ·rw [z1] at hc; cases hc
 cases d with
 | list ds =>
  have h0:=hx ds rfl
  refine s_if1 (TW.t (tw_or (t_not (t_val (e_isDL (d:=.list ds) rfl B.isinstance rfl B.list (e_var 0)))) fun _=>(tw_or1 (t_not (t_chain cv_le cv_le e_int (e_lenL rfl B.len (e_ofdL (ds:=ds) (e_var 0))) (e_glI rfl g_LONGEST)))))) (fun hc=>?_) (fun hc=>?_)
  ·have hc':¬ (1≤ds.length∧ds.length≤8):=by
    rw [List.length_map] at hc
    simp [isL] at hc
    omega
   have e:isRowD ⟨.list ds⟩=false:=by show (decide _ && _)=_; rw [decide_eq_false hc']; rfl
   rw [e]
   exact s_ret e_bl rfl
  ·have hc':1≤ds.length∧ds.length≤8:=by
    rw [List.length_map] at hc
    simp [isL] at hc
    omega
   refine s_ret (e_all rfl rfl B.all (e_comp (f:=rnD) ["k"] [] (cscope (defScope s_is_row) N_is_row rfl rfl (by decide +kernel)) (ei_list (e_ofdL (ds:=ds) (e_var 0))) (gp_name 0) (fun C s H fp=>pg_cn 0 ["k"]) lt_of_eq (fun i u hu C s H fp=>e_call1 c_is_row_numberD (hr.mono (by decide)) rfl (e_var 0) True.intro) (by rw [List.length_map]; exact h0))) ?_
   show Bd.val _ _=Bd.val _ _
   congr 1
   show _=(decide _ && _)
   rw [decide_eq_true hc',Bool.true_and,List.all_map]
   rfl
 | _=>exact no rfl rfl
theorem tbs_dn {K:PySem.W.Frag} {N:Nn} {H:Hp}:∀ {xs:List V} {T:Tb},Paired (fun x (b:List Fr)=>Py.rp K N H x b) xs T→DNs K N H xs (T.map fun r=>PyData.list (r.map frD))
 | _,_,.nil=>.nil
 | _,_,.cons h t=>.cons (by
   obtain ⟨p,ys,ev,sq,n,r⟩:=h
   subst ev
   exact DN.lst sq n (frs_dn r)) (tbs_dn t)
theorem dn_tbs {K:PySem.W.Frag} {N:Nn} {H:Hp}:∀ {xs:List V} {T:Tb},DNs K N H xs (T.map fun r=>PyData.list (r.map frD))→Paired (fun x (b:List Fr)=>Py.rp K N H x b) xs T
 | _,[],.nil=>.nil
 | _,u :: us,.cons h t=>.cons (by
   have h':DN K N H _ (PyData.list (u.map frD)):=h
   cases h' with
   | lst sq n q=>exact ⟨_,_,rfl,sq,n,dn_frs q⟩) (dn_tbs t)
theorem e_dTb {X:Cx} {Γ:GEnv} {e:Expr} {b:Bool} {T:Tb} (h:E X Γ e b T):E X Γ e b (Dt.mk (tbL T)):=e_rp h fun N H v ⟨p,xs,ev,sq,n,r⟩=>by
 subst ev; exact DN.lst sq n (tbs_dn r)
theorem e_ofdTb {X:Cx} {Γ:GEnv} {e:Expr} {b:Bool} {T:Tb} (h:E X Γ e b (Dt.mk (tbL T))):E X Γ e b T:=e_rp h fun N H v r=>by
 have r':DN X.K N H v (.list (T.map fun r=>PyData.list (r.map frD))):=r
 cases r' with
 | lst sq n q=>exact ⟨_,_,rfl,sq,n,dn_tbs q⟩
def tbD (d:PyData):Tb:=match d with
 | .list ds=>ds.map fun e=>match e with
  | .list es=>es.map fun e=>match e with | .tuple [.int a,.int b]=>(a,b) | _=>(0,1)
  | _=>[]
 | _=>[]
theorem tbD_L (T:Tb):tbD (tbL T)=T:=by
 show (T.map fun r=>PyData.list (r.map frD)).map _=T
 rw [List.map_map]
 refine (List.map_congr_left fun r _=>?_).trans (List.map_id T)
 show (r.map frD).map _=r
 rw [List.map_map]
 exact List.map_id'' (fun _=>rfl) r
def inD (d:PyData):List Int:=match d with
 | .list ds=>ds.map fun e=>match e with | .int k=>k | _=>0
 | _=>[]
theorem inD_L (ks:List Int):inD (.list (ks.map .int))=ks:=by
 show (ks.map PyData.int).map _=ks
 rw [List.map_map]
 exact List.map_id'' (fun _=>rfl) ks
structure TK (n:Nat) (d:PyData):Prop where
 eqv:PyData.eqv d d=true
 lay:d.canLay0=true
 dep:d.depth≤50
 ls:∀ ds,d=.list ds→ds.length≤1000∧∀ e∈ds,∃ es,e=.list es∧es.length=n∧∀ u:Fr,frD u∈es→Sm 200 u.1∧Sm 50 u.2
theorem TK.lt {n:Nat} {d:PyData} (h:TK n d) (hn:n≤8):Lt2 d:=fun ds e=>by
 obtain ⟨h1,h2⟩:=h.ls ds e
 refine ⟨h1,fun x hx=>?_⟩
 obtain ⟨es,rfl,l,_⟩:=h2 x hx
 intro es' e'
 cases e'
 omega
theorem TK.g {n:Nat} {T:Tb} (h:TK n (tbL T)) (sq:Sq n T) (hn:n≤8):∀ r∈T,GRow 200 50 r:=fun r hr=>by
 obtain ⟨_,h2⟩:=h.ls _ rfl
 obtain ⟨es,e,l,hs⟩:=h2 _ (List.mem_map_of_mem hr)
 cases e
 exact ⟨by rw [sq.row r hr]; exact hn,sq.low r hr,fun u hu=>(hs u (List.mem_map_of_mem hu)).1,fun u hu=>(hs u (List.mem_map_of_mem hu)).2⟩
theorem low1 (k:Int):Low (k,1):=⟨by show (1:Int)≤1; decide,by show Int.gcd k 1=1; exact Int.gcd_one_right k⟩
theorem forRow_all {row:List Int} (h:isRow row=true):_root_.EP.AllT row.length (fun u=>Low u∧Sm 30 u.1∧Sm 1 u.2) (forRow row):=by
 have al:_root_.EP.AllT (rowF row).length (fun u=>Low u∧Sm 30 u.1∧Sm 1 u.2) (fOf (rowF row)):=_root_.EP.fOf_all ⟨_root_.EP.low01,by show (0:Int).natAbs < 2 ^ 30; decide,by show (1:Int).natAbs < 2 ^ 1; decide⟩ fun u hu=>by
  obtain ⟨k,hk,rfl⟩:=List.mem_map.mp hu
  exact ⟨low1 k,(isRow_mem h hk).2,by show (1:Int).natAbs < 2 ^ 1; decide⟩
 have e:(rowF row).length=row.length:=List.length_map ..
 rw [e] at al
 exact al
theorem forRow_g {row:List Int} (h:isRow row=true):Sq row.length (forRow row)∧∀ r∈forRow row,GRow 30 1 r:=by
 have al:=forRow_all h
 have sq:Sq row.length (forRow row):=al.sq fun u q=>q.1
 exact ⟨sq,fun r hr=>⟨by rw [sq.row r hr]; exact (isRow_len h).2,sq.low r hr,fun u hu=>(al.all r hr u hu).2.1,fun u hu=>(al.all r hr u hu).2.2⟩⟩
theorem led_p {row:List Int} {T:Tb} (h:isRow row=true) (hT:TK row.length (tbL T)) (sq:Sq row.length T):PLd (forRow row) T:=by
 have n8:=(isRow_len h).2
 obtain ⟨sf,gf⟩:=forRow_g h
 have gt:=hT.g sq n8
 have pT:PTb row.length T:=⟨sq,n8,fun r hr u hu=>((gt r hr).s1 u hu).le (by decide),fun r hr u hu=>((gt r hr).s2 u hu).le (by decide)⟩
 have key:∀ r∈prd (forRow row) T,∀ u∈r,Sm 648 u.1∧Sm 410 u.2:=fun r hr u hu=>by
  obtain ⟨r',h1,rfl⟩:=List.mem_map.mp hr
  obtain ⟨o,h2,rfl⟩:=List.mem_map.mp hu
  obtain ⟨c,h3,rfl⟩:=List.mem_map.mp h2
  have gc:GRow 200 50 c:=by
   obtain ⟨j,hj,rfl⟩:=List.mem_map.mp h3
   have hj':=_root_.EP.mem_rng hj
   rw [sq.len] at hj'
   have kk:∀ u∈colm T j,∃ r∈T,u∈r:=fun u hu=>by
    obtain ⟨r',hr',rfl⟩:=List.mem_map.mp hu
    exact ⟨r',hr',_root_.EP.getD_mem (by rw [sq.row r' hr']; omega)⟩
   refine ⟨by show (T.map _).length≤8; rw [List.length_map,sq.len]; exact n8,fun u hu=>?_,fun u hu=>?_,fun u hu=>?_⟩
   ·obtain ⟨r,a,b⟩:=kk u hu; exact (gt r a).low u b
   ·obtain ⟨r,a,b⟩:=kk u hu; exact (gt r a).s1 u b
   ·obtain ⟨r,a,b⟩:=kk u hu; exact (gt r a).s2 u b
  exact (sop_g (gf r' h1) gc).2
 refine ⟨row.length,⟨sf,n8,fun r hr u hu=>((gf r hr).s1 u hu).le (by decide),fun r hr u hu=>((gf r hr).s2 u hu).le (by decide)⟩,pT,sf.prd sq,n8,fun r hr u hu=>(key r hr u hu).1.le (by decide),fun r hr u hu=>(key r hr u hu).2.le (by decide)⟩
def PLe (row:List Int) (o x:Dt):Prop:=isRow row=true∧Ln o.d∧TK row.length x.d
def leF (row:List Int) (o x:Dt):Bool:=isRowD o && (decide ((inD o.d).length=row.length) && (isTbD x (row.length:Int) && decide (_root_.EP.ledF (forRow row) (tbD x.d)=forRow (inD o.d))))
set_option maxHeartbeats 1000000 in
include B in
theorem b_is_led (c_is_rowD:Cal P w K mg base 3 "is_row" ["row"] (sp1 K (fun (x:Dt)=>Ln x.d) true isRowD)) (c_is_table:Cal P w K mg base 4 "is_table" ["thing","n"] (sp2 K (fun (x:Dt) (_:Int)=>Lt2 x.d) true isTbD)) (c_led:Cal P w K mg base 6 "led" ["F","T"] (sp2 K PLd true _root_.EP.ledF)) (c_form_of_row:Cal P w K mg base 3 "form_of_row" ["row"] (sp1 K (fun (r:List Int)=>r.length≤8) true forRow))
  (row:List Int) (o x:Dt) (hp:PLe row o x):Body P w K mg base N_is_led "is_led" s_is_led f 6 [.val false row,.val false o,.val false x] (RT true (leF row o x)):=by
 intro cdv A outer s H E hr
 obtain ⟨hR,ho,hx⟩:=hp
 have hl:=isRow_len hR
 obtain ⟨o⟩:=o
 obtain ⟨x⟩:=x
 have hx':TK row.length x:=hx
 cases q1:isRowD ⟨o⟩ with
 | false =>
  have e:leF row ⟨o⟩ ⟨x⟩=false:=by unfold leF; rw [q1]; rfl
  rw [e]
  refine s_if1 (TW.t (tw_or (c':=false) (t_not (t_val (e_call1 c_is_rowD (hr.mono (by decide)) rfl (e_var 1) ho))) fun z=>absurd z (by rw [q1]; decide))) (fun hc=>?_) (fun hc=>?_)
  ·exact s_ret e_bl rfl
  ·rw [q1] at hc; cases hc
 | true =>
  obtain ⟨ks,rfl,hk⟩:=row_of q1
  have hkl:=isRow_len hk
  by_cases q2:ks.length=row.length
  ·cases q3:isTbD ⟨x⟩ (row.length:Int) with
   | false =>
    have e:leF row ⟨.list (ks.map .int)⟩ ⟨x⟩=false:=by unfold leF; rw [q3]; simp
    rw [e]
    refine s_if1 (TW.t (tw_or (t_not (t_val (e_call1 c_is_rowD (hr.mono (by decide)) rfl (e_var 1) ho))) fun _=>(tw_or (t_cmp cv_neI (e_lenL rfl B.len (e_ofdLI (ks:=ks) (e_var 1))) (e_lenL rfl B.len (e_var 0))) fun _=>(tw_or1 (t_not (t_val (e_call2 c_is_table (hr.mono (by decide)) rfl (e_var 2) (e_lenL rfl B.len (e_var 0)) (hx'.lt hl.2)))))))) (fun hc=>?_) (fun hc=>?_)
    ·exact s_ret e_bl rfl
    ·rw [q1,q3] at hc; simp at hc
   | true =>
    obtain ⟨T,rfl,sq⟩:=tb_T q3
    refine s_if1 (TW.t (tw_or (t_not (t_val (e_call1 c_is_rowD (hr.mono (by decide)) rfl (e_var 1) ho))) fun _=>(tw_or (t_cmp cv_neI (e_lenL rfl B.len (e_ofdLI (ks:=ks) (e_var 1))) (e_lenL rfl B.len (e_var 0))) fun _=>(tw_or1 (t_not (t_val (e_call2 c_is_table (hr.mono (by decide)) rfl (e_var 2) (e_lenL rfl B.len (e_var 0)) (hx'.lt hl.2)))))))) (fun hc=>?_) (fun hc=>?_)
    ·have q3':isTbD ⟨.list (T.map fun r=>PyData.list (r.map frD))⟩ (row.length:Int)=true:=q3
     rw [q1,q3',q2] at hc; simp at hc
    ·refine s_ret (e_cmp (cv_eq (α:=Tb) (hu60 hr)) (e_call2 c_led (hr.mono (by decide)) rfl (e_call1 c_form_of_row (hr.mono (by decide)) rfl (e_var 0) hl.2) (e_ofdTb (T:=T) (e_var 2)) (led_p hR hx' sq)) (e_call1 c_form_of_row (hr.mono (by decide)) rfl (e_ofdLI (ks:=ks) (e_var 1)) hkl.2)) ?_
     show Bd.val _ _=Bd.val _ _
     congr 1
     unfold leF
     rw [q1,q3,inD_L,tbD_L,decide_eq_true q2]
     rfl
  ·have e:leF row ⟨.list (ks.map .int)⟩ ⟨x⟩=false:=by unfold leF; rw [inD_L,decide_eq_false q2]; simp
   rw [e]
   refine s_if1 (TW.t (tw_or (t_not (t_val (e_call1 c_is_rowD (hr.mono (by decide)) rfl (e_var 1) ho))) fun _=>(tw_or (c':=false) (t_cmp cv_neI (e_lenL rfl B.len (e_ofdLI (ks:=ks) (e_var 1))) (e_lenL rfl B.len (e_var 0))) fun z=>absurd z (by simp; omega)))) (fun hc=>?_) (fun hc=>?_)
   ·exact s_ret e_bl rfl
   ·rw [q1] at hc; simp at hc; omega
noncomputable def stK (s:Stp):Dt:=⟨stD s⟩
def lkD (x:Dt):Bool:=match x.d with
 | .tuple [a,b,c,d]=>whD ⟨a⟩ && (whD ⟨b⟩ && (isFrD ⟨c⟩ && isFrD ⟨d⟩))
 | _=>false
theorem lk_st {d:PyData} (h:lkD ⟨d⟩=true):∃ s:Stp,d=stD s∧Low s.x∧Low s.y:=by
 unfold lkD at h
 split at h
 ·rename_i a b x y e
  have e':d=.tuple [a,b,x,y]:=e
  rw [Bool.and_eq_true,Bool.and_eq_true,Bool.and_eq_true] at h
  obtain ⟨h1,h2,h3,h4⟩:=h
  obtain ⟨i,rfl⟩:=wh_int h1
  obtain ⟨j,rfl⟩:=wh_int h2
  obtain ⟨u,rfl,lu⟩:=isFr_low h3
  obtain ⟨v,rfl,lv⟩:=isFr_low h4
  exact ⟨⟨i,j,u,v⟩,e',lu,lv⟩
 ·cases h
theorem st_lk {s:Stp} (hx:Low s.x) (hy:Low s.y):lkD ⟨stD s⟩=true:=by
 show (true && (true && (isFrD ⟨frD s.x⟩ && isFrD ⟨frD s.y⟩)))=true
 rw [low_isFr hx,low_isFr hy]
 rfl
theorem lk_len {ds:List PyData} (h:¬ (ds.length:Int)=4):lkD ⟨.tuple ds⟩=false:=by
 unfold lkD
 split
 ·rename_i a b x y e
  have e':PyData.tuple ds=.tuple [a,b,x,y]:=e
  cases e'
  exact absurd rfl h
 ·rfl
theorem four_of {ds:List PyData} (h:(ds.length:Int)=4):∃ a b c d,ds=[a,b,c,d]:=by
 match ds,h with
 | [a,b,c,d],_=>exact ⟨a,b,c,d,rfl⟩
 | [],h=>simp at h
 | [_],h=>simp at h
 | [_,_],h=>simp at h
 | [_,_,_],h=>simp at h
 | _ :: _ :: _ :: _ :: _ :: _,h=>simp at h; omega
set_option maxHeartbeats 1000000 in
include B in
theorem b_is_like_step (c_is_wholeD:Cal P w K mg base 1 "is_whole" ["k"] (sp1 K (fun (_:Dt)=>True) true whD)) (c_is_fraction:Cal P w K mg base 2 "is_fraction" ["thing"] (sp1 K (fun (_:Dt)=>True) true isFrD)) (x:Dt):Body P w K mg base N_is_like_step "is_like_step" s_is_like_step f 2 [.val false x] (RT true (lkD x)):=by
 intro cdv A outer s H E hr
 obtain ⟨d⟩:=x
 have no:isTu d=false→lkD ⟨d⟩=false→S (cx P w K mg base N_is_like_step "is_like_step" s_is_like_step f cdv A outer s H E) (gst N_is_like_step [.val false (Dt.mk d)]) (defBody s_is_like_step) (RT true (lkD ⟨d⟩)):=fun z1 z2=>by
  rw [z2]
  refine s_if1 (TW.t (tw_or (c':=false) (t_not (t_val (e_isDT rfl B.isinstance rfl B.tuple (e_var 0)))) fun z=>absurd z (by rw [z1]; decide))) (fun hc=>?_) (fun hc=>?_)
  ·exact s_ret e_bl rfl
  ·rw [z1] at hc; cases hc
 cases d with
 | tuple ds =>
  refine s_if1 (TW.t (tw_or (t_not (t_val (e_isDT (d:=.tuple ds) rfl B.isinstance rfl B.tuple (e_var 0)))) fun _=>(tw_or1 (t_cmp cv_neI (e_lenU rfl B.len (e_ofdT (ds:=ds) (e_var 0))) e_int)))) (fun hc=>?_) (fun hc=>?_)
  ·have hc':¬ (ds.length:Int)=4:=by
    rw [List.length_map] at hc
    simpa [isTu] using hc
   rw [lk_len hc']
   exact s_ret e_bl rfl
  ·have hc':(ds.length:Int)=4:=by
    rw [List.length_map] at hc
    simpa [isTu] using hc
   obtain ⟨a,b,c,d,rfl⟩:=four_of hc'
   exact s_ret (e_and (e_call1 c_is_wholeD (hr.mono (by decide)) rfl (e_ixTL (a:=Dt.mk a) (e_ofdT (ds:=[a,b,c,d]) (e_var 0)) e_int rfl) True.intro) fun _=>(e_and (e_call1 c_is_wholeD (hr.mono (by decide)) rfl (e_ixTL (a:=Dt.mk b) (e_ofdT (ds:=[a,b,c,d]) (e_var 0)) e_int rfl) True.intro) fun _=>(e_and (e_call1 c_is_fraction (hr.mono (by decide)) rfl (e_ixTL (a:=Dt.mk c) (e_ofdT (ds:=[a,b,c,d]) (e_var 0)) e_int rfl) True.intro) fun _=>(e_one (e_call1 c_is_fraction (hr.mono (by decide)) rfl (e_ixTL (a:=Dt.mk d) (e_ofdT (ds:=[a,b,c,d]) (e_var 0)) e_int rfl) True.intro))))) rfl
 | _=>exact no rfl rfl
theorem sp_len (row:List Int) (s:Stp):(spF row s).length=row.length:=by unfold spF rwF; rw [List.length_set,List.length_set]
theorem sp_row {row:List Int} {s:Stp} (h:PNb row s) (ok:nbOk row s):isRow (spF row s)=true:=by
 have hm:(nbM row s).1≠0∧(nbM row s).1.natAbs < 1073741824:=by
  have:=(Bool.and_eq_true_iff.mp (show (irn (nbM row s).1 && _)=true from ok.2.1.2)).1
  unfold irn at this
  simpa using this
 have pj:=(nb_mid h ok.1 ok.2.1.2).2
 have o0:nbO row s≠0:=(jn_ok pj.1 pj.2.1 pj.2.2.1 pj.2.2.2).1
 have l8:=isRow_len h.1
 unfold isRow
 rw [Bool.and_eq_true,decide_eq_true_iff,List.all_eq_true,sp_len]
 refine ⟨l8,fun x hx=>?_⟩
 unfold irn
 rw [decide_eq_true_iff]
 rcases List.mem_or_eq_of_mem_set hx with z | z
 ·rcases List.mem_or_eq_of_mem_set z with z | z
  ·exact isRow_mem h.1 z
  ·rw [z]; exact hm
 ·rw [z]; exact ⟨o0,ok.2.2⟩
def PXY (s:Stp):Prop:=PFx s.x∧PFx s.y
def Good:List Int→List Stp→Prop
 | _,[]=>True
 | row,s :: ss=>PXY s∧nbOk row s∧Good (spF row s) ss
noncomputable def fnR (row:List Int):List Stp→List Int
 | []=>row
 | s :: ss=>fnR (spF row s) ss
theorem fnR_app (s:Stp):∀ (ss:List Stp) (row:List Int),fnR row (ss ++ [s])=spF (fnR row ss) s
 | [],_=>rfl
 | _ :: ss,_=>fnR_app s ss _
theorem fn_succ {row:List Int} {ss:List Stp} {i:Nat} {s:Stp} (h:ss[i]?=some s):fnR row (ss.take (i + 1))=spF (fnR row (ss.take i)) s:=by
 rw [List.take_add_one,h]
 exact fnR_app s _ _
theorem good_at {row:List Int} {ss:List Stp} (h:isRow row=true) (g:Good row ss):∀ i,i≤ss.length→isRow (fnR row (ss.take i))=true∧Good (fnR row (ss.take i)) (ss.drop i)
 | 0,_=>⟨h,g⟩
 | i + 1,hi=>by
  obtain ⟨I,G⟩:=good_at h g i (by omega)
  have hs:ss[i]?=some ss[i]:=List.getElem?_eq_getElem (by omega)
  rw [List.drop_eq_getElem_cons (by omega)] at G
  obtain ⟨g1,g2,g3⟩:=G
  rw [fn_succ hs]
  exact ⟨sp_row ⟨I,g1.1,g1.2⟩ g2,g3⟩
def PRb (row:List Int) (ds:List Dt):Prop:=isRow row=true∧∃ ss:List Stp,ds=ss.map stK∧ss.length≤1000∧Good row ss
noncomputable def rbD (row:List Int) (ds:List Dt):List Int:=fnR row (ds.map fun d=>stE d.d)
theorem rb_d (row:List Int) (ss:List Stp):rbD row (ss.map stK)=fnR row ss:=by
 unfold rbD
 rw [List.map_map]
 congr 1
 exact List.map_id' ss
set_option maxHeartbeats 1000000 in
include B in
theorem b_row_behind (c_numbers_behind:Cal P w K mg base 8 "numbers_behind" ["row","step"] (sp2 K (fun (r:List Int) (d:Dt)=>∃ s,d.d=stD s∧PNb r s∧nbOk r s) true nbD)) (c_row_with:Cal P w K mg base 1 "row_with" ["row","step","numbers"] (sp3 K (fun (r:List Int) (d:Dt) (_:Fr)=>∃ s,d.d=stD s∧nb1 r s) true rwD)) (row:List Int) (ds:List Dt) (ss:List Stp) (e:ds=ss.map stK) (hl:ss.length≤1000) (hR:isRow row=true) (g:Good row ss):Body P w K mg base N_row_behind "row_behind" s_row_behind f 8 [.val false row,.val false ds] (RT true (rbD row ds)):=by
 intro cdv A outer sh H E hr
 subst e
 rw [rb_d]
 refine s_asg 2 sc_row_behind.nd (e_listT rfl B.list (e_var 0)) ?_
 refine s_forL (b:=false) (fun i Γ=>i≤ss.length∧∃ r3,Γ=[some (.val false row),some (.val false (ss.map stK)),some (.val true (fnR row (ss.take i))),r3]) (g_name 3 sc_row_behind.nd) (e_var 1) ⟨Nat.zero_le _,none,rfl⟩ ?_ ?_
 ·rintro i d Γ' hd ⟨hi,r3,rfl⟩
  rw [List.getElem?_map] at hd
  cases hs:ss[i]? with
  | none=>rw [hs] at hd; cases hd
  | some s =>
   rw [hs] at hd
   have hd':stK s=d:=Option.some.inj hd
   subst hd'
   have il:i < ss.length:=by
    rcases Nat.lt_or_ge i ss.length with h | h
    ·exact h
    ·rw [List.getElem?_eq_none h] at hs; cases hs
   obtain ⟨I,G⟩:=good_at hR g i hi
   rw [List.drop_eq_getElem_cons il] at G
   have es:ss[i]=s:=by rw [List.getElem?_eq_getElem il] at hs; exact Option.some.inj hs
   rw [es] at G
   obtain ⟨g1,g2,_⟩:=G
   rw [fn_succ hs]
   generalize fnR row (ss.take i)=r at *
   refine s_asg 2 sc_row_behind.nd (e_call3 c_row_with (hr.mono (by decide)) rfl (e_var 2) (e_var 3) (e_call2 c_numbers_behind (hr.mono (by decide)) rfl (e_var 2) (e_var 3) ⟨s,rfl,⟨I,g1.1,g1.2⟩,g2⟩) ⟨s,rfl,g2.1⟩) ?_
   exact s_nil ⟨il,_,rfl⟩
 ·rintro Γ' ⟨_,r3,rfl⟩
  rw [List.length_map,List.take_length]
  exact s_ret (e_var 2) rfl
def PRr (row:List Int) (ds:List Dt):Prop:=isRow row=true∧∃ (ss:List Stp) (bad:Stp) (tl:List Stp),ds=(ss ++ bad :: tl).map stK∧Good row ss∧PXY bad∧¬ nbOk (fnR row ss) bad
set_option maxHeartbeats 1000000 in
include B in
theorem b_row_behindR {cS:Addr} (c_numbers_behind:Cal P w K mg base 8 "numbers_behind" ["row","step"] (sp2 K (fun (r:List Int) (d:Dt)=>∃ s,d.d=stD s∧PNb r s∧nbOk r s) true nbD)) (c_numbers_behindR:CalR P w K mg base 8 "numbers_behind" ["row","step"] (spR2 K (fun (r:List Int) (d:Dt)=>∃ s,d.d=stD s∧PNb r s∧¬ nbOk r s) cS)) (c_row_with:Cal P w K mg base 1 "row_with" ["row","step","numbers"] (sp3 K (fun (r:List Int) (d:Dt) (_:Fr)=>∃ s,d.d=stD s∧nb1 r s) true rwD)) (row:List Int) (ds:List Dt) (ss:List Stp) (bad:Stp) (tl:List Stp) (e:ds=(ss ++ bad :: tl).map stK) (hR:isRow row=true) (g:Good row ss) (hb:PXY bad) (nb:¬ nbOk (fnR row ss) bad):BodyR P w K mg base N_row_behind "row_behind" s_row_behind f 8 [.val false row,.val false ds] cS:=by
 intro cdv A outer sh H E R hr hA
 subst e
 refine sr_asg 2 sc_row_behind.nd (e_listT rfl B.list (e_var 0)) ?_
 refine sr_forL ss.length (fun i Γ=>i≤ss.length∧∃ r3,Γ=[some (.val false row),some (.val false ((ss ++ bad :: tl).map stK)),some (.val true (fnR row (ss.take i))),r3]) PassesOwn.leaving (g_name 3 sc_row_behind.nd) (e_var 1) (by rw [List.length_map,List.length_append,List.length_cons]; omega) ⟨Nat.zero_le _,none,rfl⟩ ?_ ?_
 ·rintro i d Γ' hd il ⟨hi,r3,rfl⟩
  rw [List.getElem?_map,List.getElem?_append_left il] at hd
  cases hs:ss[i]? with
  | none=>rw [hs] at hd; cases hd
  | some s =>
   rw [hs] at hd
   have hd':stK s=d:=Option.some.inj hd
   subst hd'
   obtain ⟨I,G⟩:=good_at hR g i hi
   rw [List.drop_eq_getElem_cons il] at G
   have es:ss[i]=s:=by rw [List.getElem?_eq_getElem il] at hs; exact Option.some.inj hs
   rw [es] at G
   obtain ⟨g1,g2,_⟩:=G
   rw [fn_succ hs]
   generalize fnR row (ss.take i)=r at *
   refine s_asg 2 sc_row_behind.nd (e_call3 c_row_with (hr.mono (by decide)) rfl (e_var 2) (e_var 3) (e_call2 c_numbers_behind (hr.mono (by decide)) rfl (e_var 2) (e_var 3) ⟨s,rfl,⟨I,g1.1,g1.2⟩,g2⟩) ⟨s,rfl,g2.1⟩) ?_
   exact s_nil ⟨il,_,rfl⟩
 ·rintro d Γ' hd ⟨_,r3,rfl⟩
  rw [List.getElem?_map,List.getElem?_append_right (Nat.le_refl _),Nat.sub_self] at hd
  have hd':stK bad=d:=Option.some.inj hd
  subst hd'
  have I:=(good_at hR g ss.length (Nat.le_refl _)).1
  rw [List.take_length] at I ⊢
  exact sr_asgR 2 sc_row_behind.nd (er_arg3 c_row_with (hr.mono (by decide)) rfl (e_var 2) (e_var 3) (er_call2 c_numbers_behindR (hA _) (hr.mono (by decide)) rfl (e_var 2) (e_var 3) ⟨bad,rfl,⟨I,hb.1,hb.2⟩,nb⟩))
noncomputable def rn (row:List Int):List Stp→Option (List Int)
 | []=>some row
 | s :: ss=>open Classical in if nbOk row s then rn (spF row s) ss else none
noncomputable def runP (row:List Int) (d:PyData):Option (List Int):=match d with
 | .list ds=>if (ds.map Dt.mk).all lkD=true then rn row (ds.map stE) else none
 | _=>none
theorem run_no {row:List Int} {ds:List PyData} (h:(ds.map Dt.mk).all lkD=false):runP row (.list ds)=none:=if_neg (by rw [h]; decide)
theorem run_st {row:List Int} {ss:List Stp} (h:((ss.map stD).map Dt.mk).all lkD=true):runP row (.list (ss.map stD))=rn row ss:=by
 have e1:(ss.map stD).map stE=ss:=by rw [List.map_map]; exact List.map_id' ss
 show (if ((ss.map stD).map Dt.mk).all lkD=true then rn row ((ss.map stD).map stE) else none)=_
 rw [if_pos h,e1]
def Kd (d:PyData):Prop:=∀ ds,d=.list ds→ds.length≤1000∧∀ s:Stp,stD s∈ds→Sm 20 s.x.1∧Sm 20 s.x.2∧Sm 20 s.y.1∧Sm 20 s.y.2
theorem lks:∀ {ds:List PyData},(ds.map Dt.mk).all lkD=true→∃ ss:List Stp,ds=ss.map stD∧∀ s∈ss,Low s.x∧Low s.y
 | [],_=>⟨[],rfl,fun u hu=>by cases hu⟩
 | d :: ds,h=>by
  rw [List.map_cons,List.all_cons,Bool.and_eq_true] at h
  obtain ⟨us,h1,h2⟩:=lks h.2
  obtain ⟨u,h3,h4⟩:=lk_st h.1
  refine ⟨u :: us,by rw [h1,h3]; rfl,fun v hv=>?_⟩
  rcases List.mem_cons.mp hv with rfl | hv
  ·exact h4
  ·exact h2 v hv
theorem rn_good:∀ {ss:List Stp} {row r:List Int},(∀ s∈ss,PXY s)→rn row ss=some r→Good row ss∧r=fnR row ss
 | [],_,_,_,h=>⟨True.intro,(Option.some.inj h).symm⟩
 | s :: ss,row,r,hx,h=>by
  unfold rn at h
  split at h
  ·rename_i ok
   obtain ⟨a,b⟩:=rn_good (fun t ht=>hx t (List.mem_cons_of_mem _ ht)) h
   exact ⟨⟨hx s (List.mem_cons_self ..),ok,a⟩,b⟩
  ·cases h
theorem rn_bad:∀ {ss:List Stp} {row:List Int},(∀ s∈ss,PXY s)→rn row ss=none→∃ s1 bad s2,ss=s1 ++ bad :: s2∧Good row s1∧PXY bad∧¬ nbOk (fnR row s1) bad
 | [],_,_,h=>by cases h
 | s :: ss,row,hx,h=>by
  unfold rn at h
  split at h
  ·rename_i ok
   obtain ⟨s1,bad,s2,e,g,p,n⟩:=rn_bad (fun t ht=>hx t (List.mem_cons_of_mem _ ht)) h
   exact ⟨s :: s1,bad,s2,by rw [e]; rfl,⟨hx s (List.mem_cons_self ..),ok,g⟩,p,n⟩
  ·rename_i no
   exact ⟨[],s,ss,rfl,True.intro,hx s (List.mem_cons_self ..),no⟩
theorem er_cmpL {X:Cx} {R:RB} {Γ:GEnv} {α β:Type} [Py α] [Py β] {e1 e2:Expr} {b2:Bool} {pos:Pos} {op:CmpOp} {x:α} {y:β} {c:Bool} (hc:CV X op x y c) (ha:ER X R Γ e1) (hb:E X Γ e2 b2 y) (hm:behindInMarks op e2=false:=by first | exact nomark _ | rfl):ER X R Γ (.Compare e1 [op] [e2] pos):=by
 with_unfolding_all
  obtain ⟨r,ho,_⟩:=hc
  exact pe_wk (pe_cmpR ho ha hb hm) fun _ _ _ z=>z
def PSt (row:List Int) (o x:Dt):Prop:=isRow row=true∧(∃ ks:List Int,o.d=.list (ks.map .int)∧isRow ks=true)∧Kd x.d
noncomputable def stF (row:List Int) (o x:Dt):Bool:=open Classical in decide (runP row x.d=some (inD o.d))
section
variable {cS:Addr} (xs:Xz K mg cS)
set_option maxHeartbeats 2000000 in
include B xs in
theorem b_is_led_by_steps (c_is_rowD:Cal P w K mg base 3 "is_row" ["row"] (sp1 K (fun (x:Dt)=>Ln x.d) true isRowD)) (c_is_like_step:Cal P w K mg base 3 "is_like_step" ["thing"] (sp1 K (fun (_:Dt)=>True) true lkD)) (c_row_behind:Cal P w K mg base 9 "row_behind" ["row","steps"] (sp2 K PRb true rbD)) (c_row_behindR:CalR P w K mg base 9 "row_behind" ["row","steps"] (spR2 K PRr cS)) (row:List Int) (o x:Dt) (hp:PSt row o x):Body P w K mg base N_is_led_by_steps "is_led_by_steps" s_is_led_by_steps f 9 [.val false row,.val false o,.val false x] (RT true (stF row o x)):=by
 intro cdv A outer sh H E hr
 obtain ⟨hR,⟨ks,ho,hk⟩,hx⟩:=hp
 obtain ⟨o⟩:=o
 obtain ⟨d⟩:=x
 have ho':o=.list (ks.map .int):=ho
 subst ho'
 have kl:=isRow_len hk
 have ln:Ln (.list (ks.map PyData.int)):=fun ds e=>by cases e; rw [List.length_map]; omega
 have q1:isRowD ⟨.list (ks.map .int)⟩=true:=by rw [row_to]; exact hk
 have no:isL d=false→stF row ⟨.list (ks.map .int)⟩ ⟨d⟩=false→S (cx P w K mg base N_is_led_by_steps "is_led_by_steps" s_is_led_by_steps f cdv A outer sh H E) (gst N_is_led_by_steps [.val false row,.val false (Dt.mk (.list (ks.map .int))),.val false (Dt.mk d)]) (defBody s_is_led_by_steps) (RT true (stF row ⟨.list (ks.map .int)⟩ ⟨d⟩)):=fun z1 z2=>by
  rw [z2]
  refine s_if1 (TW.t (tw_or (t_not (t_val (e_call1 c_is_rowD (hr.mono (by decide)) rfl (e_var 1) ln))) fun _=>(tw_or (c':=false) (t_not (t_val (e_isDL (d:=d) rfl B.isinstance rfl B.list (e_var 2)))) fun z=>absurd z (by rw [z1]; decide)))) (fun hc=>?_) (fun hc=>?_)
  ·exact s_ret e_bl rfl
  ·rw [q1,z1] at hc; cases hc
 have nf:∀ {d:PyData},runP row d=none→stF row ⟨.list (ks.map .int)⟩ ⟨d⟩=false:=fun {d} z=>by
  unfold stF
  show decide (runP row d=_)=false
  rw [z]
  exact decide_eq_false (fun q=>by cases q)
 cases d with
 | list ds =>
  obtain ⟨l1,l2⟩:=hx ds rfl
  cases q2:(ds.map Dt.mk).all lkD with
  | false =>
   rw [nf (run_no q2)]
   refine s_if1 (TW.t (tw_or (t_not (t_val (e_call1 c_is_rowD (hr.mono (by decide)) rfl (e_var 1) ln))) fun _=>(tw_or (t_not (t_val (e_isDL (d:=.list ds) rfl B.isinstance rfl B.list (e_var 2)))) fun _=>(tw_or1 (t_not (t_val (e_all rfl rfl B.all (e_comp (f:=lkD) ["step"] [] (cscope (defScope s_is_led_by_steps) N_is_led_by_steps rfl rfl (by decide +kernel)) (ei_list (e_ofdL (ds:=ds) (e_var 2))) (gp_name 0) (fun C s H fp=>pg_cn 0 ["step"]) lt_of_eq (fun i u hu C s H fp=>e_call1 c_is_like_step (hr.mono (by decide)) rfl (e_var 0) True.intro) (by rw [List.length_map]; exact l1))))))))) (fun hc=>?_) (fun hc=>?_)
   ·exact s_ret e_bl rfl
   ·rw [q1,List.all_map] at hc
    have q2':(ds.map Dt.mk).all ((fun a=>a) ∘ lkD)=false:=q2
    rw [show (id:Bool→Bool) ∘ lkD=(fun a=>a) ∘ lkD from rfl,q2'] at hc
    cases hc
  | true =>
   obtain ⟨ss,rfl,hlow⟩:=lks q2
   have hxy:∀ s∈ss,PXY s:=fun s hs=>by
    obtain ⟨a,b⟩:=hlow s hs
    obtain ⟨c1,c2,c3,c4⟩:=l2 s (List.mem_map_of_mem hs)
    exact ⟨⟨a,c1,c2⟩,⟨b,c3,c4⟩⟩
   have e0:(ss.map stD).map Dt.mk=ss.map stK:=by rw [List.map_map]; rfl
   have e1:(ss.map stD).map stE=ss:=by rw [List.map_map]; exact List.map_id' ss
   rw [List.length_map] at l1
   refine s_if1 (c:=false) (t_to (TW.t (tw_or (t_not (t_val (e_call1 c_is_rowD (hr.mono (by decide)) rfl (e_var 1) ln))) fun _=>(tw_or (t_not (t_val (e_isDL (d:=.list (ss.map stD)) rfl B.isinstance rfl B.list (e_var 2)))) fun _=>(tw_or1 (t_not (t_val (e_all rfl rfl B.all (e_comp (f:=lkD) ["step"] [] (cscope (defScope s_is_led_by_steps) N_is_led_by_steps rfl rfl (by decide +kernel)) (ei_list (e_ofdL (ds:=ss.map stD) (e_var 2))) (gp_name 0) (fun C s H fp=>pg_cn 0 ["step"]) lt_of_eq (fun i u hu C s H fp=>e_call1 c_is_like_step (hr.mono (by decide)) rfl (e_var 0) True.intro) (by rw [List.length_map,List.length_map]; exact l1))))))))) (by
    rw [q1,List.all_map]
    have q2':((ss.map stD).map Dt.mk).all ((fun a=>a) ∘ lkD)=true:=q2
    rw [show (id:Bool→Bool) ∘ lkD=(fun a=>a) ∘ lkD from rfl,q2']
    rfl)) (fun hc=>nomatch hc) (fun _=>?_)
   cases q3:rn row ss with
   | none =>
    rw [nf ((run_st q2).trans q3)]
    obtain ⟨s1,bad,s2,rfl,g,p,n⟩:=rn_bad hxy q3
    refine s_try_no (C:=cS) rfl xs.mS xs.xT (fun Y pn R hA=>?_) (fun a pn=>?_)
    ·exact sr_ret (er_cmpL (cv_eq (α:=List Int) (x:=ks) (y:=ks) (hu60 hr)) (er_call2 c_row_behindR hA (hr.mono (by decide)) rfl (e_var 0) (e_eq (e_ofdL (ds:=(s1 ++ bad :: s2).map stD) (e_var 2)) e0) ⟨hR,s1,bad,s2,rfl,g,p,n⟩) (e_ofdLI (ks:=ks) (e_var 1)))
    ·exact s_ret e_bl rfl
   | some r =>
    obtain ⟨g,e2⟩:=rn_good hxy q3
    have e3:runP row (.list (ss.map stD))=some r:=(run_st q2).trans q3
    refine s_try_ok (s_ret (e_cmp (cv_eq (α:=List Int) (hu60 hr)) (e_call2 c_row_behind (hr.mono (by decide)) rfl (e_var 0) (e_eq (e_ofdL (ds:=ss.map stD) (e_var 2)) e0) ⟨hR,ss,rfl,l1,g⟩) (e_ofdLI (ks:=ks) (e_var 1))) ?_)
    show Bd.val _ _=Bd.val _ _
    congr 1
    unfold stF
    show _=decide (runP row (.list (ss.map stD))=some (inD (.list (ks.map .int))))
    rw [e3,inD_L,rb_d,← e2]
    by_cases z:r=ks
    ·rw [decide_eq_true z,decide_eq_true (by rw [z])]
    ·rw [decide_eq_false z,decide_eq_false (fun q=>z (Option.some.inj q))]
 | _=>exact no rfl (nf rfl)
end
def hpF (row:List Int) (x:Dt):Bool:=match x.d with
 | .int k=>decide (0≤2 * k∧2 * k≤(row.length:Int)) && (rng k.toNat).all (fun i=>decide (row.getD (2 * i).toNat 0=-row.getD (2 * i + 1).toNat 0))
 | _=>false
set_option maxHeartbeats 1000000 in
include B in
theorem b_has_pairs_ahead (c_is_wholeD:Cal P w K mg base 1 "is_whole" ["k"] (sp1 K (fun (_:Dt)=>True) true whD)) (row:List Int) (x:Dt) (hR:isRow row=true):Body P w K mg base N_has_pairs_ahead "has_pairs_ahead" s_has_pairs_ahead f 1 [.val false row,.val false x] (RT true (hpF row x)):=by
 intro cdv A outer sh H E hr
 obtain ⟨d⟩:=x
 have l8:=isRow_len hR
 have no:whD ⟨d⟩=false→hpF row ⟨d⟩=false→S (cx P w K mg base N_has_pairs_ahead "has_pairs_ahead" s_has_pairs_ahead f cdv A outer sh H E) (gst N_has_pairs_ahead [.val false row,.val false (Dt.mk d)]) (defBody s_has_pairs_ahead) (RT true (hpF row ⟨d⟩)):=fun z1 z2=>by
  rw [z2]
  refine s_if1 (TW.t (tw_or (c':=false) (t_not (t_val (e_call1 c_is_wholeD (hr.mono (by decide)) rfl (e_var 1) True.intro))) fun z=>absurd z (by rw [z1]; decide))) (fun hc=>?_) (fun hc=>?_)
  ·exact s_ret e_bl rfl
  ·rw [z1] at hc; cases hc
 cases d with
 | int k =>
  refine s_if1 (TW.t (tw_or (t_not (t_val (e_call1 c_is_wholeD (hr.mono (by decide)) rfl (e_var 1) True.intro))) fun _=>(tw_or1 (t_not (t_chain cv_le cv_le e_int (e_mul e_int (e_ofdI (k:=k) (e_var 1)) (mulL (by decide) (by decide))) (e_lenL rfl B.len (e_var 0))))))) (fun hc=>?_) (fun hc=>?_)
  ·have hc':¬ (0≤2 * k∧2 * k≤(row.length:Int)):=by
    simp [whD] at hc
    omega
   have e:hpF row ⟨.int k⟩=false:=by show (decide _ && _)=false; rw [decide_eq_false hc']; rfl
   rw [e]
   exact s_ret e_bl rfl
  ·have hc':0≤2 * k∧2 * k≤(row.length:Int):=by
    simp [whD] at hc
    omega
   refine s_ret (e_all rfl rfl B.all (e_comp (b':=true) (f:=fun i:Int=>decide (row.getD (2 * i).toNat 0=-row.getD (2 * i + 1).toNat 0)) ["i"] [0] (cscope (defScope s_has_pairs_ahead) N_has_pairs_ahead rfl rfl (by decide +kernel)) (ei_range rfl B.range (e_ofdI (k:=k) (e_var 1)) (by omega) (by omega)) (gp_name 0) (fun C s H fp=>pg_cn 0 ["i","row"]) lt_of_eq (fun i u hu C s H fp=>?_) (by rw [seqI_len]; omega))) ?_
   ·have hm:=_root_.EP.mem_rng (by rw [← seq_rng]; exact mem_at hu)
    exact e_cmp cv_eqI (e_ixL (e_var 1) (e_mul e_int (e_var 0) (mulL (by decide) (by decide))) (atGetA (d:=0) (n:=row.length) (by omega) (by omega) rfl)) (e_neg (e_ixL (e_var 1) (e_add (e_mul e_int (e_var 0) (mulL (by decide) (by decide))) e_int) (atGetA (d:=0) (n:=row.length) (by omega) (by omega) rfl)))
   ·rw [seq_rng]
    show Bd.val _ _=Bd.val _ _
    congr 1
    show _=(decide _ && _)
    rw [decide_eq_true hc',Bool.true_and,List.all_map]
    rfl
 | _=>exact no rfl rfl
set_option maxHeartbeats 1000000 in
include B in
theorem b_lets_three_by (c_is_led_by_steps:Cal P w K mg base 10 "is_led_by_steps" ["row","other","steps"] (sp3 K PSt true stF)) (row:List Int) (k c x:Dt) (hk:k.d=.str "steps") (hx:PSt row c x):Body P w K mg base N_lets_three_by "lets_three_by" s_lets_three_by f 10 [.val false row,.val false k,.val false c,.val false x] (RT true (stF row c x)):=by
 intro cdv A outer s H E hr
 obtain ⟨kd⟩:=k
 have hk':kd=.str "steps":=hk
 subst hk'
 refine s_if1 (t_cmp (cv_eqD (d:=.str "steps") (hu60 hr) (by decide +kernel) (by decide +kernel) (by decide)) (e_var 1) (e_dS e_str)) (fun hc=>absurd hc (by decide +kernel)) (fun hc=>?_)
 refine s_if1 (t_cmp (cv_eqD (d:=.str "steps") (hu60 hr) (by decide +kernel) (by decide +kernel) (by decide)) (e_var 1) (e_dS e_str)) (fun hc=>absurd hc (by decide +kernel)) (fun hc=>?_)
 refine s_ret (e_and (c:=true) (e_eq (e_cmp (cv_eqD (d:=.str "steps") (hu60 hr) (by decide +kernel) (by decide +kernel) (by decide)) (e_var 1) (e_dS e_str)) (by decide +kernel)) fun _=>(e_one (e_call3 c_is_led_by_steps (hr.mono (by decide)) rfl (e_var 0) (e_var 2) (e_var 3) hx))) ?_
 rfl
def PLm (row:List Int) (p:Dt):Prop:=(∃ (c x:PyData),PSt row ⟨c⟩ ⟨x⟩∧p.d=.tuple [.str "steps",c,x])∨(∃ (k:PyData) (ks:List Int) (x:PyData),PLe row ⟨.list (ks.map .int)⟩ ⟨x⟩∧p.d=.tuple [.str "pairs",k,.list (ks.map .int),x])
noncomputable def lmF (row:List Int) (p:Dt):Bool:=match p.d with
 | .tuple [.str _,c,x]=>stF row ⟨c⟩ ⟨x⟩
 | .tuple [.str _,k,c,x]=>leF row ⟨c⟩ ⟨x⟩ && hpF (inD c) ⟨k⟩
 | _=>false
set_option maxHeartbeats 1000000 in
include B in
theorem b_lets_by (c_refuse_no_row:Cal P w K mg base 4 "refuse_no_row" ["row"] (sp1 K (fun (xs:List Int)=>isRow xs=true) true unit1)) (c_lets_three_by:Cal P w K mg base 11 "lets_three_by" ["row","kind","thing","last"] (sp4 K (fun (r:List Int) (k c x:Dt)=>k.d=.str "steps"∧PSt r c x) true (fun r _ c x=>stF r c x))) (c_is_led:Cal P w K mg base 7 "is_led" ["row","other","T"] (sp3 K PLe true leF)) (c_has_pairs_ahead:Cal P w K mg base 2 "has_pairs_ahead" ["row","k"] (sp2 K (fun (r:List Int) (_:Dt)=>isRow r=true) true hpF)) (row:List Int) (p:Dt) (hp:PLm row p):Body P w K mg base N_lets_by "lets_by" s_lets_by f 11 [.val false row,.val false p] (RT true (lmF row p)):=by
 intro cdv A outer s H E hr
 obtain ⟨pd⟩:=p
 rcases hp with ⟨c,x,hx,e⟩ | ⟨k,ks,x,hx,e⟩
 ·have e':pd=.tuple [.str "steps",c,x]:=e
  subst e'
  refine s_expr (e_call1 c_refuse_no_row (hr.mono (by decide)) rfl (e_var 0) hx.1) ?_
  refine s_if1 (t_not (t_val (e_isDT (d:=.tuple [.str "steps",c,x]) rfl B.isinstance rfl B.tuple (e_var 1)))) (fun hc=>nomatch hc) (fun _=>?_)
  refine s_if1 (t_cmp cv_eqI (e_lenU rfl B.len (e_ofdT (ds:=[.str "steps",c,x]) (e_var 1))) e_int) (fun hc=>nomatch hc) (fun _=>?_)
  refine s_if1 (t_cmp cv_eqI (e_lenU rfl B.len (e_ofdT (ds:=[.str "steps",c,x]) (e_var 1))) e_int) (fun _=>?_) (fun hc=>nomatch hc)
  exact s_ret (e_call4 c_lets_three_by (hr.mono (by decide)) rfl (e_var 0) (e_ixTL (a:=Dt.mk (.str "steps")) (e_ofdT (ds:=[.str "steps",c,x]) (e_var 1)) e_int rfl) (e_ixTL (a:=Dt.mk c) (e_ofdT (ds:=[.str "steps",c,x]) (e_var 1)) e_int rfl) (e_ixTL (a:=Dt.mk x) (e_ofdT (ds:=[.str "steps",c,x]) (e_var 1)) e_int rfl) ⟨rfl,hx⟩) rfl
 ·have eqp:PyData.eqv (.str "pairs") (.str "pairs")=true:=by decide +kernel
  have e':pd=.tuple [.str "pairs",k,.list (ks.map .int),x]:=e
  subst e'
  refine s_expr (e_call1 c_refuse_no_row (hr.mono (by decide)) rfl (e_var 0) hx.1) ?_
  refine s_if1 (t_not (t_val (e_isDT (d:=.tuple [.str "pairs",k,.list (ks.map .int),x]) rfl B.isinstance rfl B.tuple (e_var 1)))) (fun hc=>nomatch hc) (fun _=>?_)
  refine s_if1 (t_cmp cv_eqI (e_lenU rfl B.len (e_ofdT (ds:=[.str "pairs",k,.list (ks.map .int),x]) (e_var 1))) e_int) (fun hc=>nomatch hc) (fun _=>?_)
  refine s_if1 (t_cmp cv_eqI (e_lenU rfl B.len (e_ofdT (ds:=[.str "pairs",k,.list (ks.map .int),x]) (e_var 1))) e_int) (fun hc=>nomatch hc) (fun _=>?_)
  refine s_if1 (c:=false) (t_to (TW.t (tw_or (t_cmp cv_neI (e_lenU rfl B.len (e_ofdT (ds:=[.str "pairs",k,.list (ks.map .int),x]) (e_var 1))) e_int) fun _=>(tw_or1 (t_cmp (cv_neD (d:=.str "pairs") (c:=.str "pairs") (hu60 hr) (by decide +kernel) (by decide +kernel) (by decide)) (e_ixTL (a:=Dt.mk (.str "pairs")) (e_ofdT (ds:=[.str "pairs",k,.list (ks.map .int),x]) (e_var 1)) e_int rfl) (e_dS e_str))))) (by show (false || !PyData.eqv (.str "pairs") (.str "pairs"))=false; rw [eqp]; rfl)) (fun hc=>nomatch hc) (fun _=>?_)
  have inl:inD (.list (ks.map .int))=ks:=inD_L ks
  cases q:leF row ⟨.list (ks.map .int)⟩ ⟨x⟩ with
  | false =>
   refine s_ret (e_and (c':=false) (b2:=true) (e_call3 c_is_led (hr.mono (by decide)) rfl (e_var 0) (e_ixTL (a:=Dt.mk (.list (ks.map .int))) (e_ofdT (ds:=[.str "pairs",k,.list (ks.map .int),x]) (e_var 1)) e_int rfl) (e_ixTL (a:=Dt.mk x) (e_ofdT (ds:=[.str "pairs",k,.list (ks.map .int),x]) (e_var 1)) e_int rfl) hx) fun z=>absurd z (by rw [q]; decide)) ?_
   show Bd.val _ _=Bd.val _ _
   congr 1
   show _=(leF row ⟨.list (ks.map .int)⟩ ⟨x⟩ && hpF (inD (.list (ks.map .int))) ⟨k⟩)
   rw [q]
   rfl
  | true =>
   have hk:isRow ks=true:=by
    unfold leF at q
    rw [Bool.and_eq_true,row_to] at q
    exact q.1
   refine s_ret (e_and (e_call3 c_is_led (hr.mono (by decide)) rfl (e_var 0) (e_ixTL (a:=Dt.mk (.list (ks.map .int))) (e_ofdT (ds:=[.str "pairs",k,.list (ks.map .int),x]) (e_var 1)) e_int rfl) (e_ixTL (a:=Dt.mk x) (e_ofdT (ds:=[.str "pairs",k,.list (ks.map .int),x]) (e_var 1)) e_int rfl) hx) fun _=>(e_one (e_call2 c_has_pairs_ahead (hr.mono (by decide)) rfl (e_ofdLI (ks:=ks) (e_ixTL (a:=Dt.mk (.list (ks.map .int))) (e_ofdT (ds:=[.str "pairs",k,.list (ks.map .int),x]) (e_var 1)) e_int rfl)) (e_ixTL (a:=Dt.mk k) (e_ofdT (ds:=[.str "pairs",k,.list (ks.map .int),x]) (e_var 1)) e_int rfl) hk))) ?_
   show Bd.val _ _=Bd.val _ _
   congr 1
   show _=(leF row ⟨.list (ks.map .int)⟩ ⟨x⟩ && hpF (inD (.list (ks.map .int))) ⟨k⟩)
   rw [inl]
def deepS (c k j:Int):Int:=(c * (48271 + 2 * j) + (j + 5) * (j + k + 2) * 69621).fmod 2147483647
def deepL (c k:Int):Nat→Int
 | 0=>0
 | i + 1=>deepL c k i * 2147483659 + (deepS c k i * deepS c k i).fmod 2147483629
def dcell (xs:List Int) (k:Int):Int:=if k < (xs.length:Int) then xs.getD k.toNat 0 else 0
def deep (xs:List Int) (k:Int):Int:=if dcell xs k < 0∨10 ^ 18≤dcell xs k then dcell xs k else deepL (dcell xs k) k 12
include B in
theorem b_law_deep (xs:List Int) (k:Int) (h0:0≤k) (h1:k≤100):Body P w K mg base N_law_deep "_law_deep" s_law_deep f kk [.val false xs,.val false k] (RT true (deep xs k)):=by
 intro cdv A outer s H E hr
 refine s_asg 2 sc_law_deep.nd e_int ?_
 have last:∀ b c,c=dcell xs k→S (cx P w K mg base N_law_deep "_law_deep" s_law_deep f cdv A outer s H E) [some (.val false xs),some (.val false k),some (.val b c),none,none,none] ((defBody s_law_deep).drop 2) (RT true (deep xs k)):=by
  intro b c he
  refine s_if1 (TW.t (tw_or (t_cmp cv_lt (e_var 2) e_int) fun _=>(tw_or1 (t_cmp cv_ge (e_var 2) (e_pow e_int e_int cpK))))) (fun hc=>?_) (fun hc=>?_)
  ·have hc':c < 0∨10 ^ 18≤c:=by simpa using hc
   have e2:c=deep xs k:=by unfold deep; rw [← he,if_pos hc']
   rw [← e2]
   exact s_ret (e_up (e_var 2)) rfl
  ·have hc':¬ (c < 0∨10 ^ 18≤c):=by simpa using hc
   refine s_asg 3 sc_law_deep.nd e_int ?_
   refine s_forRange (fun i Γ=>∃ r r',Γ=[some (.val false xs),some (.val false k),some (.val b c),some (.val true (deepL c k i)),r,r']) rfl B.range (g_name 4 sc_law_deep.nd) e_int (by decide) (by decide) ⟨none,none,rfl⟩ ?_ ?_
   ·rintro i Γ' hi ⟨r,r',rfl⟩
    have hi':i < 12:=hi
    have z1:=fmod_pos (a:=c * (48271 + 2 * (i:Int)) + ((i:Int) + 5) * (i + k + 2) * 69621) (b:=2147483647) (by decide)
    refine s_asg 5 sc_law_deep.nd (e_mod (e_add (e_mul (e_var 2) (e_add e_int (e_mul e_int (e_var 4) (mulL (by decide) (by decide)))) (mulR (by omega) (by omega))) (e_mul (e_mul (e_add (e_var 4) e_int) (e_add (e_add (e_var 4) (e_var 1)) e_int) (mulL (by omega) (by omega))) e_int (mulR (by decide) (by decide)))) e_int (by decide)) ?_
    refine s_asg 3 sc_law_deep.nd (e_add (e_mul (e_var 3) e_int (mulR (by decide) (by decide))) (e_mod (e_mul (e_var 5) (e_var 5) (mulL (by omega) (by omega))) e_int (by decide))) ?_
    exact s_nil ⟨_,_,rfl⟩
   ·rintro Γ' ⟨r,r',rfl⟩
    have e2:deepL c k 12=deep xs k:=by unfold deep; rw [← he,if_neg hc']
    rw [← e2]
    exact s_ret (e_var 3) rfl
 refine s_if1 (t_cmp cv_lt (e_var 1) (e_lenL rfl B.len (e_var 0))) (fun hc=>?_) (fun hc=>?_)
 ·have hc':k < (xs.length:Int):=by simpa using hc
  refine s_asg 2 sc_law_deep.nd (e_ixL (e_var 0) (e_var 1) (atGetD (d:=0) h0 hc')) (s_nil ?_)
  exact last _ _ (by unfold dcell; rw [if_pos hc'])
 ·have hc':¬ k < (xs.length:Int):=by simpa using hc
  exact last _ _ (by unfold dcell; rw [if_neg hc'])
def gcI (a b:Int):Int:=((Int.gcd a b:Nat):Int)
include B in
theorem b_law_common (a b:Int):Body P w K mg base N_law_common "_law_common" s_law_common f k [.val false a,.val false b] (RT true (gcI a b)):=by
 intro cdv A outer s H E hr
 refine s_while (ι:=Bool × Bool × Int × Int) (fun i Γ=>∃ r,Γ=[some (.val i.1 i.2.2.1),some (.val i.2.1 i.2.2.2),r]∧Int.gcd i.2.2.1 i.2.2.2=Int.gcd a b) (fun i=>i.2.2.2.natAbs) (false,false,a,b) ⟨none,rfl,rfl⟩ ?_
 rintro ⟨b1,b2,x,y⟩ Γ' ⟨r,rfl,hg⟩
 refine ⟨_,t_cmp cv_neI (e_var 1) e_int,fun hc=>?_,fun hc=>?_⟩
 ·have hy:y≠0:=by simpa using hc
  refine s_asg 2 sc_law_common.nd (e_mod (e_var 0) (e_var 1) hy) ?_
  refine s_asg 0 sc_law_common.nd (e_var 1) ?_
  refine s_asg 1 sc_law_common.nd (e_var 2) ?_
  exact s_nil ⟨(b2,true,y,x.fmod y),⟨_,rfl,(_root_.EP.gcd_fmod x y).trans hg⟩,_root_.EP.fmod_lt x y hy⟩
 ·have hy:y=0:=by simpa using hc
  refine s_ret (e_abs rfl B.abs (e_var 0)) ?_
  dsimp only at hg ⊢
  rw [hy,Int.gcd_zero_right] at hg
  unfold gcI
  rw [← hg]
  show Bd.val _ _=Bd.val _ _
  congr 1
  split <;> omega
include B in
theorem b_law_wholeD (x:Dt):Body P w K mg base N_law_whole "_law_whole" s_law_whole f kk [.val false x] (RT true (whD x)):=by
 intro cdv A outer s H E hr
 obtain ⟨d⟩:=x
 refine s_ret (e_and (e_isDI (d:=d) rfl B.isinstance rfl B.int (e_var 0)) fun _=>(e_one (e_not (e_isDB (d:=d) rfl B.isinstance rfl B.bool (e_var 0))))) ?_
 show Bd.val _ _=Bd.val _ _
 congr 1
 cases d <;> rfl
theorem b_law_fraction (c_law_common:Cal P w K mg base 1 "_law_common" ["_law_one","_law_other"] (sp2 K (fun _ _=>True) true gcI)) (t b:Int) (hb:b≠0) (hs:Sm 9000 b) :
  Body P w K mg base N_law_fraction "_law_fraction" s_law_fraction f 1 [.val false t,.val false b] (RT true (fr t b)):=by
 intro cdv A outer s H E hr
 have hn:=_root_.EP.fd_ne (t:=t) hb
 have hz:Sm 9000 (fd t b):=Sm.of_le (_root_.EP.fd_le hb) hs
 refine s_asg 2 sc_law_fraction.nd (e_call2 c_law_common hr rfl (e_var 0) (e_var 1) True.intro) ?_
 have last:∀ d:Int,d=fd t b→S (cx P w K mg base N_law_fraction "_law_fraction" s_law_fraction f cdv A outer s H E) [some (.val false t),some (.val false b),some (.val true d)] [(defBody s_law_fraction).getD 2 (.Pass ⟨0,0,0,0⟩)] (RT true (fr t b)):=by
  rintro d rfl
  exact s_ret (e_tup2 (e_fdiv (e_var 0) (e_var 2) (hz.div hn)) (e_fdiv (e_var 1) (e_var 2) (hz.div hn))) rfl
 refine s_if1 (t_cmp cv_lt (e_var 1) e_int) (fun hc=>?_) (fun hc=>?_)
 ·refine s_asg 2 sc_law_fraction.nd (e_sub e_int (e_var 2)) (s_nil ?_)
  exact last _ (by unfold fd; rw [if_pos (by simpa using hc)]; unfold gcI; omega)
 ·exact last _ (by unfold fd; rw [if_neg (by simpa using hc)]; rfl)
theorem b_law_plus (c_law_low:Cal P w K mg base 2 "_law_fraction" ["_law_top","_law_bottom"] (sp2 K PFr true fr)) (u v:Fr) (h:LAdd u v) :
  Body P w K mg base N_law_plus "_law_plus" s_law_plus f 2 [.val false u,.val false v] (RT true (fadd u v)):=by
 intro cdv A outer s H E hr
 obtain ⟨⟨h1,h2⟩,z1,z2,z3,z4⟩:=h
 exact s_ret (e_call2 c_law_low (hr.mono (by decide)) rfl (e_add (e_mul (e_fst (e_var 0)) (e_snd (e_var 1)) (z1.ok z4)) (e_mul (e_fst (e_var 1)) (e_snd (e_var 0)) (z3.ok z2))) (e_mul (e_snd (e_var 0)) (e_snd (e_var 1)) (z2.ok z4)) ⟨Int.mul_ne_zero h1 h2,(z2.mul z4).le (by decide)⟩) rfl
theorem b_law_times (c_law_low:Cal P w K mg base 2 "_law_fraction" ["_law_top","_law_bottom"] (sp2 K PFr true fr)) (u v:Fr) (h:LAdd u v) :
  Body P w K mg base N_law_times "_law_times" s_law_times f 2 [.val false u,.val false v] (RT true (fmul u v)):=by
 intro cdv A outer s H E hr
 obtain ⟨⟨h1,h2⟩,z1,z2,z3,z4⟩:=h
 exact s_ret (e_call2 c_law_low (hr.mono (by decide)) rfl (e_mul (e_fst (e_var 0)) (e_fst (e_var 1)) (z1.ok z3)) (e_mul (e_snd (e_var 0)) (e_snd (e_var 1)) (z2.ok z4)) ⟨Int.mul_ne_zero h1 h2,(z2.mul z4).le (by decide)⟩) rfl
include B in
theorem b_law_lets (c_lets_by:Cal P w K mg base 12 "lets_by" ["row","paper"] (sp2 K PLm true lmF)) (row:List Int) (p:Dt) (hp:PLm row p):Body P w K mg base N_law_lets "_law_lets" s_law_lets f 12 [.val false row,.val false p] (RT true (lmF row p)):=by
 intro cdv A outer s H E hr
 refine s_asg 2 sc_law_lets.nd (e_call2 c_lets_by (hr.mono (by decide)) rfl (e_var 0) (e_var 1) hp) ?_
 refine s_if1 (t_not (t_val (e_isBB (i:=lmF row p) rfl B.isinstance rfl B.bool (e_var 2)))) (fun hc=>nomatch hc) (fun _=>?_)
 exact s_ret (e_var 2) rfl
set_option maxHeartbeats 1000000 in
include B in
theorem b_law_is_fraction (c_is_wholeD:Cal P w K mg base 1 "_law_whole" ["_law_found"] (sp1 K (fun (_:Dt)=>True) true whD)) (c_law_common:Cal P w K mg base 1 "_law_common" ["_law_one","_law_other"] (sp2 K (fun _ _=>True) true gcI)) (x:Dt):Body P w K mg base N_law_is_fraction "_law_is_fraction" s_law_is_fraction f 1 [.val false x] (RT true (isFrD x)):=by
 intro cdv A outer s H E hr
 obtain ⟨d⟩:=x
 have no:isTu d=false→isFrD ⟨d⟩=false→S (cx P w K mg base N_law_is_fraction "_law_is_fraction" s_law_is_fraction f cdv A outer s H E) (gst N_law_is_fraction [.val false (Dt.mk d)]) (defBody s_law_is_fraction) (RT true (isFrD ⟨d⟩)):=fun z1 z2=>by
  rw [z2]
  refine s_if1 (TW.t (tw_or (c':=false) (t_not (t_val (e_isDT rfl B.isinstance rfl B.tuple (e_var 0)))) fun z=>absurd z (by rw [z1]; decide))) (fun hc=>?_) (fun hc=>?_)
  ·exact s_ret e_bl rfl
  ·rw [z1] at hc; cases hc
 cases d with
 | tuple ds =>
  by_cases hc':(ds.length:Int)=2
  ·obtain ⟨a,b,rfl⟩:∃ a b,ds=[a,b]:=by
    match ds,hc' with
    | [a,b],_=>exact ⟨a,b,rfl⟩
    | [],h=>simp at h
    | [_],h=>simp at h
    | _ :: _ :: _ :: _,h=>simp at h; omega
   refine s_if1 (TW.t (tw_or (t_not (t_val (e_isDT (d:=.tuple [a,b]) rfl B.isinstance rfl B.tuple (e_var 0)))) fun _=>(tw_or (t_cmp cv_neI (e_lenU rfl B.len (e_ofdT (ds:=[a,b]) (e_var 0))) e_int) fun _=>(tw_or (t_not (t_val (e_call1 c_is_wholeD (hr.mono (by decide)) rfl (e_ixTL (a:=Dt.mk a) (e_ofdT (ds:=[a,b]) (e_var 0)) e_int rfl) True.intro))) fun _=>(tw_or1 (t_not (t_val (e_call1 c_is_wholeD (hr.mono (by decide)) rfl (e_ixTL (a:=Dt.mk b) (e_ofdT (ds:=[a,b]) (e_var 0)) e_int rfl) True.intro)))))))) (fun hc=>?_) (fun hc=>?_)
   ·rw [isFr_two fun q=>by rw [q.1,q.2] at hc; cases hc]
    exact s_ret e_bl rfl
   ·have q1:whD ⟨a⟩=true:=by
     cases q:whD ⟨a⟩ with
     | true=>rfl
     | false=>rw [q] at hc; cases hc
    have q2:whD ⟨b⟩=true:=by
     cases q:whD ⟨b⟩ with
     | true=>rfl
     | false=>rw [q,q1] at hc; cases hc
    obtain ⟨i,rfl⟩:=wh_int q1
    obtain ⟨j,rfl⟩:=wh_int q2
    refine s_ret (e_and (e_cmp cv_gt (e_ofdI (e_ixTL (a:=Dt.mk (.int j)) (e_ofdT (ds:=[.int i,.int j]) (e_var 0)) e_int rfl)) e_int) fun _=>(e_one (e_cmp cv_eqI (e_call2 c_law_common (hr.mono (by decide)) rfl (e_ofdI (e_ixTL (a:=Dt.mk (.int i)) (e_ofdT (ds:=[.int i,.int j]) (e_var 0)) e_int rfl)) (e_ofdI (e_ixTL (a:=Dt.mk (.int j)) (e_ofdT (ds:=[.int i,.int j]) (e_var 0)) e_int rfl)) True.intro) e_int))) ?_
    show Bd.val _ _=Bd.val _ _
    congr 1
  ·rw [isFr_len hc']
   refine s_if1 (TW.t (tw_or (t_not (t_val (e_isDT (d:=.tuple ds) rfl B.isinstance rfl B.tuple (e_var 0)))) fun _=>(tw_or (c':=false) (t_cmp cv_neI (e_lenU rfl B.len (e_ofdT (ds:=ds) (e_var 0))) e_int) fun z=>absurd z (by rw [List.length_map,decide_eq_false hc']; decide)))) (fun hc=>?_) (fun hc=>?_)
   ·exact s_ret e_bl rfl
   ·rw [List.length_map,decide_eq_false hc'] at hc
    exact absurd hc (by simp)
 | _=>exact no rfl rfl
def plTO (n:Int):TbO Fr:=TbO.mk (plTz n)
include B in
theorem b_law_plain (n:Int) (h0:0≤n) (h1:n≤8):Body P w K mg base N_law_plain "_law_plain" s_law_plain f k [.val false n] (RT true (plTO n)):=by
 intro cdv A outer s H E hr
 refine s_ret (e_compTT (β:=Fr) (f:=fun i=>(seqI 0 1 n.toNat).map fun j=>((if decide (i=j) then (1:Int) else 0),(1:Int))) ["_law_i"] [0] (cscope (defScope s_law_plain) N_law_plain rfl rfl (by decide +kernel)) (ei_range rfl B.range (e_var 0) (by omega) (by omega)) (gp_name 0) (fun C s H fp=>pg_cn 0 ["_law_i","_law_many"]) lt_of_eq
  (fun k i hi C s H fp=>en_compT (β:=Fr) (f:=fun j=>((if decide (i=j) then (1:Int) else 0),(1:Int))) (b':=true) ["_law_j"] [0] (cscope2 ["_law_i","_law_many"] rfl (by decide +kernel)) (ei_range rfl B.range (e_var 1) (by omega) (by omega)) (gp_name 0) (fun C s H fp=>pg_cn 0 ["_law_j","_law_i"]) lt_of_eq
   (fun k j hj C s H fp=>by refine e_tup2 (b1:=true) (b2:=true) ?_ e_int; exact e_intB rfl B.int (e_cmp cv_eqI (e_var 1) (e_var 0))) (by rw [seqI_len]; omega)) (by rw [seqI_len]; omega)) ?_
 rw [seq_rng]
 show Bd.val _ _=Bd.val _ _
 congr 1
 unfold plTO
 congr 1
 unfold plTz plT plL
 exact List.map_congr_left fun i _=>List.map_congr_left fun j _=>by by_cases z:i=j <;> simp [z,eq_comm]
structure LfI (n fr l d:Int):Prop where
 d2:2≤d
 l0:0 < l
 f0:0 < fr
 sq:Sqf fr
 lo:∀ q,isP q=true→q < d→¬ q ∣ l
 hi:∀ q,isP q=true→d≤q→¬ q ∣ fr
 ex:∃ s,0 < s∧n=fr * l * (s * s)
theorem LfI.le {n fr l d:Int} (h:LfI n fr l d):fr * l≤n∧l≤n∧fr≤n:=by
 obtain ⟨s,s0,e⟩:=h.ex
 have l0:=h.l0
 have f0:=h.f0
 have p:0 < fr * l:=Int.mul_pos f0 l0
 have q:1≤s * s:=Int.mul_pos s0 s0
 have a:=Int.mul_le_mul_of_nonneg_left q (show 0≤fr * l by omega)
 have b:=Int.mul_le_mul_of_nonneg_right (show 1≤fr by omega) (show 0≤l by omega)
 have c:=Int.mul_le_mul_of_nonneg_left (show 1≤l by omega) (show 0≤fr by omega)
 rw [e]
 omega
theorem LfI.start {n:Int} (h:0 < n):LfI n 1 n 2:=⟨by decide,h,by decide,_root_.EP.sqf_one,fun q hq hl=>by have:=_root_.EP.isP_ge hq; omega,fun q hq _ z=>by
 have:=Int.le_of_dvd (by decide) z
 have:=_root_.EP.isP_ge hq
 omega,1,by decide,by rw [Int.one_mul,Int.mul_one,Int.mul_one]⟩
theorem LfI.prime {n fr l0 l d:Int} {v:Nat} (h:LfI n fr l0 d) (e:l0=l * d ^ (v + 1)):isP d=true:=by
 have hd:d ∣ l0:=⟨l * d ^ v,by rw [e,Int.pow_succ]; grind⟩
 obtain ⟨q,h1,h2⟩:=_root_.EP.has_prime h.d2
 have h3:=Int.le_of_dvd (by have:=h.d2; omega) h2
 by_cases z:q < d
 ·exact absurd (Int.dvd_trans h2 hd) (h.lo q h1 z)
 ·rw [show d=q by omega]; exact h1
theorem LfI.step {n fr l0 l d:Int} {v:Nat} (h:LfI n fr l0 d) (e:l0=l * d ^ v) (hn:¬ d ∣ l) (hl:0 < l):LfI n (if v % 2=1 then fr * d else fr) l (d + 1):=by
 have d2:=h.d2
 have dl:l ∣ l0:=⟨_,e⟩
 obtain ⟨s,s0,ex⟩:=h.ex
 have lo':∀ q,isP q=true→q < d + 1→¬ q ∣ l:=fun q hq hlt z=>by
  by_cases w:q < d
  ·exact h.lo q hq w (Int.dvd_trans z dl)
  ·rw [show q=d by omega] at z; exact hn z
 have pw:∀ m:Nat,0 < d ^ m:=fun m=>Int.pow_pos (by omega)
 by_cases o:v % 2=1
 ·rw [if_pos o]
  obtain ⟨m,hm⟩:∃ m,v=2 * m + 1:=⟨v / 2,by omega⟩
  have hp:isP d=true:=h.prime (v:=2 * m) (by rw [e,hm])
  refine ⟨by omega,hl,Int.mul_pos h.f0 (by omega),_root_.EP.sqf_mul_prime h.sq hp (h.hi d hp (Int.le_refl d)),lo',fun q hq hge z=>?_,s * d ^ m,Int.mul_pos s0 (pw m),?_⟩
  ·rcases _root_.EP.euclid hq z with z | z
   ·exact h.hi q hq (by omega) z
   ·have:=Int.le_of_dvd (by omega) z
    omega
  ·rw [ex,e,hm,Int.pow_succ,show 2 * m=m + m by omega,Int.pow_add]
   grind
 ·rw [if_neg o]
  obtain ⟨m,hm⟩:∃ m,v=2 * m:=⟨v / 2,by omega⟩
  refine ⟨by omega,hl,h.f0,h.sq,lo',fun q hq hge z=>h.hi q hq (by omega) z,s * d ^ m,Int.mul_pos s0 (pw m),?_⟩
  rw [ex,e,hm,show 2 * m=m + m by omega,Int.pow_add]
  grind
theorem LfI.done2 {n fr l d:Int} (h:LfI n fr l d) (hd:l < d * d):∃ s,0 < s∧Sqf (fr * l)∧n=fr * l * (s * s):=by
 obtain ⟨s,s0,ex⟩:=h.ex
 have d2:=h.d2
 refine ⟨s,s0,sqf_of_primes (Int.mul_ne_zero (by have:=h.f0; omega) (by have:=h.l0; omega)) fun q hq z=>?_,ex⟩
 have q2:=_root_.EP.isP_ge hq
 have cop:∀ m:Int,¬ q ∣ m→Int.gcd (q * q) m=1:=fun m w=>_root_.EP.cop_of (fun r hr h1 h2=>by
  have:r ∣ q:=by rcases _root_.EP.euclid hr h1 with z | z <;> exact z
  rw [_root_.EP.prime_dvd_prime hr hq this] at h2
  exact w h2) (Int.mul_ne_zero (by omega) (by omega))
 by_cases w:q < d
 ·have z':=_root_.EP.cop_dvd z (cop l (h.lo q hq w))
  exact h.sq.2 q q2 z'
 ·rw [Int.mul_comm fr l] at z
  have z':=_root_.EP.cop_dvd z (cop fr (h.hi q hq (by omega)))
  have h1:=Int.le_of_dvd h.l0 z'
  have h2:d * d≤q * q:=Int.mul_le_mul (by omega) (by omega) (by omega) (by omega)
  omega
set_option maxHeartbeats 2000000 in
include B in
theorem b_law_free (n:Int) (h0:n≠0) (hl:n.natAbs < 1073741824):Body P w K mg base N_law_free "_law_free" s_law_free f kk [.val false n] (RT true (foF n)):=by
 intro cdv A outer s H E hr
 have ab:∀ i:Int,(if i < 0 then -i else i)=(i.natAbs:Int):=fun i=>by split <;> omega
 refine s_asg 1 sc_law_free.nd (e_abs rfl B.abs (e_var 0)) ?_
 rw [ab]
 refine s_asg 2 sc_law_free.nd e_int ?_
 refine s_asg 3 sc_law_free.nd e_int ?_
 refine s_while (ι:=Int × Int × Int) (fun i Γ=>∃ r4,Γ=[some (.val false n),some (.val true i.1),some (.val true i.2.1),some (.val true i.2.2),r4]∧LfI n.natAbs i.2.1 i.1 i.2.2∧i.2.2≤n.natAbs + 2) (fun i=>(i.1 - i.2.2 + 5).toNat) ((n.natAbs:Int),1,2) ⟨none,rfl,LfI.start (by omega),by dsimp only; omega⟩ ?_
 rintro ⟨l0,fr0,d⟩ Γ' ⟨r4,rfl,hI,hdn⟩
 dsimp only at *
 have d2:=hI.d2
 have p0:=hI.l0
 have pf0:=hI.f0
 obtain ⟨_,le2,le3⟩:=hI.le
 have sd:Sm 36 d:=by unfold Sm; omega
 refine ⟨_,t_cmp cv_le (e_mul (e_var 3) (e_var 3) (sd.ok sd)) (e_var 1),fun hc=>?_,fun hc=>?_⟩
 ·have hc':d * d≤l0:=by simpa using hc
  have hdl:d < l0:=by
   have a1:2 * d≤d * d:=Int.mul_le_mul_of_nonneg_right d2 (by omega)
   omega
  refine s_asg 4 sc_law_free.nd e_int ?_
  refine s_while (ι:=Int × Int) (fun i Γ=>Γ=[some (.val false n),some (.val true i.1),some (.val true fr0),some (.val true d),some (.val true i.2)]∧0≤i.2∧l0=i.1 * d ^ i.2.toNat∧0 < i.1) (fun i=>i.1.natAbs) (l0,0) ⟨rfl,Int.le_refl 0,by dsimp only; rw [show (0:Int).toNat=0 from rfl,Int.pow_zero,Int.mul_one],p0⟩ ?_
  rintro ⟨l,v⟩ Γ' ⟨rfl,hv,he,hl0⟩
  dsimp only at *
  refine ⟨_,t_cmp cv_eqI (e_mod (e_var 1) (e_var 3) (by omega)) e_int,fun hc=>?_,fun hc=>?_⟩
  ·have hc2:l.fmod d=0:=by simpa using hc
   refine s_asg 1 sc_law_free.nd (e_fdiv (e_var 1) (e_var 3) (sd.div (by omega))) ?_
   refine s_asg 4 sc_law_free.nd (e_add (e_var 4) e_int) ?_
   obtain ⟨a1,a2,a3,a4⟩:=tko_go hv he d2 hc2 (by omega)
   obtain ⟨b1,_,_⟩:=_root_.EP.tko_step d2 (_root_.EP.dvd_fmod.mp hc2) (show l≠0 by omega)
   have pos:0 < l.fdiv d:=by
    by_cases w:0 < l.fdiv d
    ·exact w
    ·have:=Int.mul_nonpos_of_nonneg_of_nonpos (show 0≤d by omega) (show l.fdiv d≤0 by omega)
     have:=Int.mul_nonpos_of_nonpos_of_nonneg (show l.fdiv d≤0 by omega) (show 0≤d by omega)
     omega
   exact s_nil ⟨(l.fdiv d,v + 1),⟨rfl,a1,a2,pos⟩,a4⟩
  ·have hc2:¬ d ∣ l:=fun z=>by
    have:=_root_.EP.dvd_fmod.mpr z
    rw [decide_eq_true this] at hc
    cases hc
   have hS:=hI.step (v:=v.toNat) he hc2 hl0
   have ll:l≤l0:=by
    have:=Int.le_of_dvd p0 (show l ∣ l0 from ⟨_,he⟩)
    exact this
   have mv:v.fmod 2=1↔v.toNat % 2=1:=by
    rw [Int.fmod_eq_emod_of_nonneg _ (by decide)]
    omega
   refine s_ifJ (fun Γ=>Γ=[some (.val false n),some (.val true l),some (.val true (if v.toNat % 2=1 then fr0 * d else fr0)),some (.val true d),some (.val true v)]) (t_cmp cv_eqI (e_mod (e_var 4) e_int (by decide)) e_int) (fun hc=>?_) (fun hc=>?_) ?_
   ·have hv1:v.toNat % 2=1:=mv.mp (by simpa using hc)
    rw [if_pos hv1]
    refine s_asg 2 sc_law_free.nd (e_mul (e_var 2) (e_var 3) ((show Sm 36 fr0 by unfold Sm; omega).ok sd)) ?_
    exact s_nil rfl
   ·have hv1:¬ v.toNat % 2=1:=fun w=>by
     have:=mv.mpr w
     rw [decide_eq_true this] at hc
     cases hc
    rw [if_neg hv1]
    exact s_nil rfl
   rintro Γ' rfl
   refine s_asg 3 sc_law_free.nd (e_add (e_var 3) e_int) ?_
   exact s_nil ⟨(l,(if v.toNat % 2=1 then fr0 * d else fr0),d + 1),⟨_,rfl,hS,by dsimp only; omega⟩,by dsimp only; omega⟩
 ·have hc':l0 < d * d:=by
   have:¬ d * d≤l0:=by simpa using hc
   omega
  obtain ⟨s',s0,q1,q2⟩:=hI.done2 hc'
  have sf:Sm 30 fr0:=by unfold Sm; omega
  have sl:Sm 30 l0:=by unfold Sm; omega
  refine s_ret (e_mul (e_mul (e_var 2) (e_var 1) (sf.ok sl)) (e_sub e_int (e_mul e_int (e_intB rfl B.int (e_cmp cv_lt (e_var 0) e_int)) (mulL (by decide) (by decide)))) (mulR (by split <;> omega) (by split <;> omega))) ?_
  show Bd.val _ _=Bd.val _ _
  congr 1
  by_cases hn:n < 0
  ·rw [if_pos (decide_eq_true hn)]
   have e:foF n=-(fr0 * l0):=foF_eq h0 hl (_root_.EP.sqf_neg q1) s0 (by
    have:n=-(n.natAbs:Int):=by omega
    rw [this,q2]
    grind)
   rw [e]
   omega
  ·rw [if_neg (by rw [decide_eq_false hn]; decide)]
   have e:foF n=fr0 * l0:=foF_eq h0 hl q1 s0 (by
    have:n=(n.natAbs:Int):=by omega
    rw [this,q2])
   rw [e]
   omega
def RwQ (m:Nat) (r:List Int):Prop:=r.length=m∧∀ x∈r,x ∣ 210
theorem P71 {q:Int} (h:q=2∨q=3∨q=5∨q=7):isP q=true:=by
 rcases h with rfl | rfl | rfl | rfl
 ·exact _root_.EP.isP_two
 ·exact _root_.EP.isP_of (m:=0) (n:=3) (by decide) (by decide) (by decide) (by decide)
 ·exact _root_.EP.isP_of (m:=0) (n:=5) (by decide) (by decide) (by decide) (by decide)
 ·exact _root_.EP.isP_of (m:=0) (n:=7) (by decide) (by decide) (by decide) (by decide)
theorem sqf210:Sqf 210:=by
 have h2:=_root_.EP.sqf_mul_prime _root_.EP.sqf_one (p:=2) (P71 (.inl rfl)) (by decide)
 have h3:=_root_.EP.sqf_mul_prime h2 (p:=3) (P71 (.inr (.inl rfl))) (by decide)
 have h5:=_root_.EP.sqf_mul_prime h3 (p:=5) (P71 (.inr (.inr (.inl rfl)))) (by decide)
 exact _root_.EP.sqf_mul_prime h5 (p:=7) (P71 (.inr (.inr (.inr rfl)))) (by decide)
theorem RwQ.sq {x:Int} (h:x ∣ 210):Sqf x∧x.natAbs≤210:=⟨_root_.EP.sqf_dvd sqf210 h,Nat.le_of_dvd (by decide) (Int.natAbs_dvd_natAbs.mpr h)⟩
def pr71:Nat→Int
 | 0=>1
 | 1=>2
 | 2=>6
 | 3=>30
 | _=>210
set_option maxHeartbeats 1000000 in
include B in
theorem b_law_row (c m:Int) (h1:1≤m) (h8:m≤8):Body P w K mg base N_law_row "_law_row" s_law_row f kk [.val false c,.val false m] (RTE true (RwQ m.toNat)):=by
 intro cdv A outer s H E hr
 refine s_own 2 Int sc_law_row.nd ?_
 refine s_forRange (n:=m) (fun i Γ=>∃ (b:Bool) (c':Int) (rs:List Int) (r3 r4 r5:Option Bd),(rs.length=i∧∀ x∈rs,x ∣ 210)∧Γ=[some (.val b c'),some (.val false m),some (.own true rs),r3,r4,r5]) rfl B.range (g_name 3 sc_law_row.nd) (e_var 1) (by omega) (by omega) ⟨false,c,[],none,none,none,⟨rfl,fun x hx=>by cases hx⟩,rfl⟩ ?_ ?_
 ·rintro i Γ' hi ⟨b,c',rs,r3,r4,r5,⟨rl,rx⟩,rfl⟩
  have z2:=fmod_pos (a:=c') (b:=2) (by decide)
  refine s_asg 4 sc_law_row.nd (e_sub e_int (e_mul e_int (e_mod (e_var 0) e_int (by decide)) (mulL (by decide) (by decide)))) ?_
  refine s_asg 0 sc_law_row.nd (e_fdiv (e_var 0) e_int cdK) ?_
  refine s_forL (xs:=[(2:Int),3,5,7]) (b:=true) (fun j Γ=>∃ (c':Int) (x:Int) (r5:Option Bd),x ∣ pr71 j∧Γ=[some (.val true c'),some (.val false m),some (.own true rs),some (.val true (i:Int)),some (.val true x),r5]) (g_name 5 sc_law_row.nd) (e_lst (as:=[(2:Int),3,5,7]) (ea_cons e_int (ea_cons e_int (ea_cons e_int (ea_cons e_int ea_nil)))) (Nat.le_of_ble_eq_true rfl)) ⟨c'.fdiv 2,1 - 2 * c'.fmod 2,r5,?_,rfl⟩ ?_ ?_
  ·show 1 - 2 * c'.fmod 2 ∣ 1
   have:c'.fmod 2=0∨c'.fmod 2=1:=by omega
   rcases this with e | e <;> rw [e] <;> decide
  ·rintro j p Γ' hp ⟨c'',x,r5,hx,rfl⟩
   have hj:j < 4:=by
    rcases Nat.lt_or_ge j 4 with h | h
    ·exact h
    ·rw [List.getElem?_eq_none (by exact h)] at hp; cases hp
   have hpj:pr71 (j + 1)=pr71 j * p:=by
    have:j=0∨j=1∨j=2∨j=3:=by omega
    rcases this with rfl | rfl | rfl | rfl <;> (cases hp; decide)
   have p7:0≤p∧p≤7:=by
    have:j=0∨j=1∨j=2∨j=3:=by omega
    rcases this with rfl | rfl | rfl | rfl <;> (cases hp; decide)
   have xs:Sm 8 x:=by
    have q:pr71 j ∣ 210:=by
     have:j=0∨j=1∨j=2∨j=3:=by omega
     rcases this with rfl | rfl | rfl | rfl <;> decide
    have:=(RwQ.sq (Int.dvd_trans hx q)).2
    unfold Sm; omega
   refine s_ifJ (fun Γ=>∃ x,x ∣ pr71 (j + 1)∧Γ=[some (.val true c''),some (.val false m),some (.own true rs),some (.val true (i:Int)),some (.val true x),some (.val true p)]) (t_cmp cv_eqI (e_mod (e_var 0) e_int (by decide)) e_int) (fun hc=>?_) (fun hc=>?_) ?_
   ·refine s_asg 4 sc_law_row.nd (e_mul (e_var 4) (e_var 5) (xs.ok (show Sm 3 p by unfold Sm; omega))) (s_nil ⟨x * p,?_,rfl⟩)
    rw [hpj]
    exact Int.mul_dvd_mul hx (Int.dvd_refl p)
   ·exact s_nil ⟨x,by rw [hpj]; exact Int.dvd_trans hx (Int.dvd_mul_right ..),rfl⟩
   rintro Γ' ⟨x',hx',rfl⟩
   refine s_asg 0 sc_law_row.nd (e_fdiv (e_var 0) e_int cdK) ?_
   exact s_nil ⟨_,x',_,hx',rfl⟩
  ·rintro Γ' ⟨c'',x,r5,hx,rfl⟩
   refine s_append 2 (a:=x) rfl (e_var 4) (by omega) ?_
   refine s_nil ⟨_,_,rs ++ [x],_,_,_,⟨by rw [List.length_append,rl]; rfl,fun y hy=>?_⟩,rfl⟩
   rcases List.mem_append.mp hy with hy | hy
   ·exact rx y hy
   ·rw [List.mem_singleton.mp hy]; exact hx
 ·rintro Γ' ⟨b,c',rs,r3,r4,r5,⟨rl,rx⟩,rfl⟩
  refine s_freeze 2 rfl ?_
  exact s_ret (e_var 2) ⟨rs,⟨rl,rx⟩,rfl⟩
set_option maxHeartbeats 1000000 in
include B in
theorem b_law_root_of (n:Int):Body P w K mg base N_law_root_of "_law_root_of" s_law_root_of f kk [.val false n] (RTE true (fun (r:Int)=>1≤r∧r≤59)):=by
 intro cdv A outer s H E hr
 refine s_asg 1 sc_law_root_of.nd e_int ?_
 refine s_forRange2 (fun i Γ=>∃ (r:Int) (r2:Option Bd),(1≤r∧r≤59)∧Γ=[some (.val false n),some (.val true r),r2]) rfl B.range (g_name 2 sc_law_root_of.nd) e_int e_int ⟨by decide,by decide,by decide,by decide⟩ ⟨1,none,⟨by decide,by decide⟩,rfl⟩ ?_ ?_
 ·rintro i Γ' hi ⟨r,r2,h,rfl⟩
  have hi':i < 58:=hi
  have sk:Sm 6 ((2:Int) + i):=by unfold Sm; omega
  have kk:((2:Int) + i) * ((2:Int) + i)≠0:=Int.mul_ne_zero (by omega) (by omega)
  refine s_ifJ (fun Γ=>∃ (r:Int),(1≤r∧r≤59)∧Γ=[some (.val false n),some (.val true r),some (.val true ((2:Int) + i))]) (t_cmp cv_eqI (e_mod (e_var 0) (e_mul (e_var 2) (e_var 2) (sk.ok sk)) kk) e_int) (fun hc=>?_) (fun hc=>?_) ?_
  ·exact s_asg 1 sc_law_root_of.nd (e_var 2) (s_nil ⟨_,⟨by omega,by omega⟩,rfl⟩)
  ·exact s_nil ⟨r,h,rfl⟩
  rintro Γ' ⟨r',h',rfl⟩
  exact s_nil ⟨r',_,h',rfl⟩
 ·rintro Γ' ⟨r,r2,h,rfl⟩
  exact s_ret (e_var 1) ⟨r,h,rfl⟩
theorem low_11 (a:Int):Low (a,1):=⟨by show (1:Int)≤1; decide,by show Int.gcd a 1=1; exact Int.gcd_one_right _⟩
theorem made_ring {a b x1 x2 y1 y2 X1 X2 Y1 Y2 A1 A2 C1 C2 S1 S2:Int} (c1:X1 * (x2 * x2)=x1 * x1 * X2) (c2:Y1 * (y2 * y2)=y1 * y1 * Y2) (c3:A1 * (1 * X2)=a * X1 * A2) (c4:C1 * (1 * Y2)=b * Y1 * C2) (c5:S1 * (A2 * C2)=(A1 * C2 + C1 * A2) * S2) :
  S1 * (x2 * x2 * y2 * y2) * (X2 * Y2 * A2 * C2)=(a * x1 * x1 * y2 * y2 + b * y1 * y1 * x2 * x2) * S2 * (X2 * Y2 * A2 * C2):=by
 have g1:S1 * (x2 * x2 * y2 * y2) * (X2 * Y2 * A2 * C2)=(S1 * (A2 * C2)) * (x2 * x2 * y2 * y2 * X2 * Y2):=by grind
 have g2:((A1 * C2 + C1 * A2) * S2) * (x2 * x2 * y2 * y2 * X2 * Y2)=(A1 * (1 * X2)) * (C2 * S2 * x2 * x2 * y2 * y2 * Y2) + (C1 * (1 * Y2)) * (A2 * S2 * x2 * x2 * y2 * y2 * X2):=by grind
 have g3:(a * X1 * A2) * (C2 * S2 * x2 * x2 * y2 * y2 * Y2) + (b * Y1 * C2) * (A2 * S2 * x2 * x2 * y2 * y2 * X2)=(X1 * (x2 * x2)) * (a * A2 * C2 * S2 * y2 * y2 * Y2) + (Y1 * (y2 * y2)) * (b * C2 * A2 * S2 * x2 * x2 * X2):=by grind
 rw [g1,c5,g2,c3,c4,g3,c1,c2]
 grind
theorem made_eq {a b:Int} {x y:Fr} (hx:Low x) (hy:Low y):fadd (fmul (a,1) (fmul x x)) (fmul (b,1) (fmul y y))=mdF a b x y:=by
 have xx:=_root_.EP.low_mul hx hx
 have yy:=_root_.EP.low_mul hy hy
 have ax:=_root_.EP.low_mul (low1 a) xx
 have by':=_root_.EP.low_mul (low1 b) yy
 have x0:=hx.ne
 have y0:=hy.ne
 have B0:x.2 * x.2 * y.2 * y.2≠0:=Int.mul_ne_zero (Int.mul_ne_zero (Int.mul_ne_zero x0 x0) y0) y0
 refine (_root_.EP.fr_is B0 (_root_.EP.low_add ax by') ?_).symm
 have c1:(fmul x x).1 * (x.2 * x.2)=(x.1 * x.1) * (fmul x x).2:=_root_.EP.fr_cross _ _
 have c2:(fmul y y).1 * (y.2 * y.2)=(y.1 * y.1) * (fmul y y).2:=_root_.EP.fr_cross _ _
 have c3:(fmul (a,1) (fmul x x)).1 * (1 * (fmul x x).2)=(a * (fmul x x).1) * (fmul (a,1) (fmul x x)).2:=_root_.EP.fr_cross _ _
 have c4:(fmul (b,1) (fmul y y)).1 * (1 * (fmul y y).2)=(b * (fmul y y).1) * (fmul (b,1) (fmul y y)).2:=_root_.EP.fr_cross _ _
 have c5:(fadd (fmul (a,1) (fmul x x)) (fmul (b,1) (fmul y y))).1 * ((fmul (a,1) (fmul x x)).2 * (fmul (b,1) (fmul y y)).2)=((fmul (a,1) (fmul x x)).1 * (fmul (b,1) (fmul y y)).2 + (fmul (b,1) (fmul y y)).1 * (fmul (a,1) (fmul x x)).2) * (fadd (fmul (a,1) (fmul x x)) (fmul (b,1) (fmul y y))).2:=_root_.EP.fr_cross _ _
 have e1:=xx.ne
 have e2:=yy.ne
 have e3:=ax.ne
 have e4:=by'.ne
 generalize (fadd (fmul (a,1) (fmul x x)) (fmul (b,1) (fmul y y)))=S at *
 generalize (fmul (a,1) (fmul x x))=A at *
 generalize (fmul (b,1) (fmul y y))=C at *
 generalize fmul x x=X at *
 generalize fmul y y=Y at *
 have k:X.2 * Y.2 * A.2 * C.2≠0:=Int.mul_ne_zero (Int.mul_ne_zero (Int.mul_ne_zero e1 e2) e3) e4
 apply Int.eq_of_mul_eq_mul_right k
 generalize X.1=X1 at *
 generalize X.2=X2 at *
 generalize Y.1=Y1 at *
 generalize Y.2=Y2 at *
 generalize A.1=A1 at *
 generalize A.2=A2 at *
 generalize C.1=C1 at *
 generalize C.2=C2 at *
 generalize S.1=S1 at *
 generalize S.2=S2 at *
 generalize x.1=x1 at *
 generalize x.2=x2 at *
 generalize y.1=y1 at *
 generalize y.2=y2 at *
 exact made_ring c1 c2 c3 c4 c5
noncomputable def lwS (row:List Int) (s:Stp):Option (List Int):=open Classical in if nbOk row s∧(nbM row s).1.natAbs < 100000000 then some (spF row s) else none
noncomputable def lwO (row:List Int) (d:Dt):Option (List Int):=if lkD d=true then lwS row (stE d.d) else none
def PSd (row:List Int) (d:Dt):Prop:=isRow row=true∧(∃ a b x y,d.d=.tuple [a,b,x,y])∧∀ s:Stp,d.d=stD s→Sm 20 s.x.1∧Sm 20 s.x.2∧Sm 20 s.y.1∧Sm 20 s.y.2
theorem fp2 (a b:Int):fpF [a,b]=jnF (foF a) (foF b):=by
 show jnF (jnF 1 (foF a)) (foF b)=_
 rw [jn_one]
theorem lk_four {a b x y:PyData}:lkD ⟨.tuple [a,b,x,y]⟩=(whD ⟨a⟩ && (whD ⟨b⟩ && (isFrD ⟨x⟩ && isFrD ⟨y⟩))):=rfl
set_option maxHeartbeats 4000000 in
include B in
theorem b_law_stepped (c_law_wholeD:Cal P w K mg base 1 "_law_whole" ["_law_found"] (sp1 K (fun (_:Dt)=>True) true whD)) (c_law_is_fraction:Cal P w K mg base 2 "_law_is_fraction" ["_law_thing"] (sp1 K (fun (_:Dt)=>True) true isFrD)) (c_law_times:Cal P w K mg base 3 "_law_times" ["_law_u","_law_v"] (sp2 K LAdd true fmul)) (c_law_plus:Cal P w K mg base 3 "_law_plus" ["_law_u","_law_v"] (sp2 K LAdd true fadd)) (c_law_free:Cal P w K mg base 1 "_law_free" ["_law_number"] (sp1 K (fun (n:Int)=>n≠0∧n.natAbs < 1073741824) true foF)) (c_law_common:Cal P w K mg base 1 "_law_common" ["_law_one","_law_other"] (sp2 K (fun _ _=>True) true gcI))
  (row:List Int) (d:Dt) (hp:PSd row d):Body P w K mg base N_law_stepped "_law_stepped" s_law_stepped f 3 [.val false row,.val false d] (RT true (lwO row d)):=by
 intro cdv A outer sh H E hr
 obtain ⟨hR,⟨a,b,x,y,hd⟩,hz⟩:=hp
 obtain ⟨d⟩:=d
 have hd':d=.tuple [a,b,x,y]:=hd
 subst hd'
 have l8:=isRow_len hR
 refine s_asg4D 2 3 4 5 sc_law_stepped.nd (u1:=a) (u2:=b) (u3:=x) (u4:=y) (e_var 1) ?_
 refine s_if1 (TW.t (tw_or (t_not (t_val (e_call1 c_law_wholeD (hr.mono (by decide)) rfl (e_var 2) True.intro))) fun _=>(tw_or (t_not (t_val (e_call1 c_law_wholeD (hr.mono (by decide)) rfl (e_var 3) True.intro))) fun _=>(tw_or (t_not (t_val (e_call1 c_law_is_fraction (hr.mono (by decide)) rfl (e_var 4) True.intro))) fun _=>(tw_or1 (t_not (t_val (e_call1 c_law_is_fraction (hr.mono (by decide)) rfl (e_var 5) True.intro)))))))) (fun hc=>?_) (fun hc=>?_)
 ·have e:lwO row ⟨.tuple [a,b,x,y]⟩=none:=by
   unfold lwO
   refine if_neg fun z=>?_
   rw [lk_four] at z
   revert hc z
   cases whD ⟨a⟩ <;> cases whD ⟨b⟩ <;> cases isFrD ⟨x⟩ <;> cases isFrD ⟨y⟩ <;> simp
  rw [e]
  exact s_ret e_non rfl
 have hk:lkD ⟨.tuple [a,b,x,y]⟩=true:=by
  rw [lk_four]
  revert hc
  cases whD ⟨a⟩ <;> cases whD ⟨b⟩ <;> cases isFrD ⟨x⟩ <;> cases isFrD ⟨y⟩ <;> simp
 obtain ⟨s,hs,lx,ly⟩:=lk_st hk
 obtain ⟨x1,x2,y1,y2⟩:=hz s hs
 have ew:lwO row ⟨.tuple [a,b,x,y]⟩=lwS row s:=by
  unfold lwO
  rw [if_pos hk]
  show lwS row (stE (.tuple [a,b,x,y]))=_
  rw [hs]
  rfl
 rw [ew]
 unfold stD at hs
 obtain ⟨rfl,rfl,rfl,rfl⟩:a=.int s.i∧b=.int s.j∧x=frD s.x∧y=frD s.y:=by
  injection hs with hs
  injection hs with h1 hs
  injection hs with h2 hs
  injection hs with h3 hs
  injection hs with h4 hs
  exact ⟨h1,h2,h3,h4⟩
 clear hs hc hk ew hd hz
 refine s_if1 (t_not (t_chain3 cv_le cv_lt cv_lt e_int (e_ofdI (k:=s.i) (e_var 2)) (e_ofdI (k:=s.j) (e_var 3)) (e_lenL rfl B.len (e_var 0)))) (fun hc=>?_) (fun hc=>?_)
 ·have h1:¬ nb1 row s:=fun z=>by rw [ck,decide_eq_true z] at hc; cases hc
  have e:lwS row s=none:=if_neg fun z=>h1 z.1.1
  rw [e]
  exact s_ret e_non rfl
 have h1:nb1 row s:=by
  rw [ck] at hc
  simpa using hc
 obtain ⟨a0,ab,c0⟩:=id h1
 obtain ⟨ra,rb⟩:=row_at hR h1
 have sa:Sm 30 (row.getD s.i.toNat 0):=by unfold Sm; omega
 have sb:Sm 30 (row.getD s.j.toNat 0):=by unfold Sm; omega
 have xx:=_root_.EP.low_mul lx lx
 have yy:=_root_.EP.low_mul ly ly
 have sx1:Sm 40 (fmul s.x s.x).1:=Sm.fr1 (Int.mul_ne_zero lx.ne lx.ne) (x1.mul x1)
 have sx2:Sm 40 (fmul s.x s.x).2:=Sm.fr2 (Int.mul_ne_zero lx.ne lx.ne) (x2.mul x2)
 have sy1:Sm 40 (fmul s.y s.y).1:=Sm.fr1 (Int.mul_ne_zero ly.ne ly.ne) (y1.mul y1)
 have sy2:Sm 40 (fmul s.y s.y).2:=Sm.fr2 (Int.mul_ne_zero ly.ne ly.ne) (y2.mul y2)
 have o1:Sm 1 (1:Int):=by show (1:Int).natAbs < 2 ^ 1; decide
 have la:=low_11 (row.getD s.i.toNat 0)
 have lb:=low_11 (row.getD s.j.toNat 0)
 have ax:=_root_.EP.low_mul la xx
 have bY:=_root_.EP.low_mul lb yy
 have sA1:Sm 70 (fmul (row.getD s.i.toNat 0,1) (fmul s.x s.x)).1:=Sm.fr1 (Int.mul_ne_zero la.ne xx.ne) (sa.mul sx1)
 have sA2:Sm 41 (fmul (row.getD s.i.toNat 0,1) (fmul s.x s.x)).2:=Sm.fr2 (Int.mul_ne_zero la.ne xx.ne) (o1.mul sx2)
 have sB1:Sm 70 (fmul (row.getD s.j.toNat 0,1) (fmul s.y s.y)).1:=Sm.fr1 (Int.mul_ne_zero lb.ne yy.ne) (sb.mul sy1)
 have sB2:Sm 41 (fmul (row.getD s.j.toNat 0,1) (fmul s.y s.y)).2:=Sm.fr2 (Int.mul_ne_zero lb.ne yy.ne) (o1.mul sy2)
 refine s_asg2 6 7 sc_law_stepped.nd (e_call2 c_law_times (hr.mono (by decide)) rfl (e_tup2 (e_ixL (e_var 0) (e_ofdI (k:=s.i) (e_var 2)) (atGetA (d:=0) a0 (by omega) rfl)) e_int) (e_call2 c_law_times (hr.mono (by decide)) rfl (e_ofdFr (u:=s.x) (e_var 4)) (e_ofdFr (u:=s.x) (e_var 4)) ⟨⟨lx.ne,lx.ne⟩,x1.le (by decide),x2.le (by decide),x1.le (by decide),x2.le (by decide)⟩) ⟨⟨la.ne,xx.ne⟩,sa.le (by decide),o1.le (by decide),sx1.le (by decide),sx2.le (by decide)⟩) ?_
 refine s_asg2 6 7 sc_law_stepped.nd (e_eq (e_call2 c_law_plus (hr.mono (by decide)) rfl (e_tup2 (e_var 6) (e_var 7)) (e_call2 c_law_times (hr.mono (by decide)) rfl (e_tup2 (e_ixL (e_var 0) (e_ofdI (k:=s.j) (e_var 3)) (atGetA (d:=0) (by omega) c0 rfl)) e_int) (e_call2 c_law_times (hr.mono (by decide)) rfl (e_ofdFr (u:=s.y) (e_var 5)) (e_ofdFr (u:=s.y) (e_var 5)) ⟨⟨ly.ne,ly.ne⟩,y1.le (by decide),y2.le (by decide),y1.le (by decide),y2.le (by decide)⟩) ⟨⟨lb.ne,yy.ne⟩,sb.le (by decide),o1.le (by decide),sy1.le (by decide),sy2.le (by decide)⟩) ⟨⟨ax.ne,bY.ne⟩,sA1.le (by decide),sA2.le (by decide),sB1.le (by decide),sB2.le (by decide)⟩) (show _=nbM row s from made_eq lx ly)) ?_
 show S _ [some (.val false row),some (.val false (Dt.mk (.tuple [.int s.i,.int s.j,frD s.x,frD s.y]))),some (.val false (Dt.mk (.int s.i))),some (.val false (Dt.mk (.int s.j))),some (.val false (Dt.mk (frD s.x))),some (.val false (Dt.mk (frD s.y))),some (.val true (nbM row s).1),some (.val true (nbM row s).2),none,none,none] _ _
 have abv:∀ i:Int,(if i < 0 then -i else i)=(i.natAbs:Int):=fun i=>by split <;> omega
 have e8:(10:Int) ^ Int.toNat 8=100000000:=by decide
 have m8:∀ {i:Int},decide ((10:Int) ^ Int.toNat 8≤(if i < 0 then -i else i))=false→i.natAbs < 1073741824:=fun {i} z=>by
  have z':¬ (10:Int) ^ Int.toNat 8≤(if i < 0 then -i else i):=of_decide_eq_false z
  rw [abv,e8] at z'
  omega
 refine s_if1 (TW.t (tw_or (t_cmp cv_neI (e_var 7) e_int) fun _=>(tw_or (t_cmp cv_eqI (e_var 6) e_int) fun z2=>(tw_or (t_cmp cv_ge (e_abs rfl B.abs (e_var 6)) (e_pow e_int e_int cpK)) fun z3=>(tw_or1 (t_cmp cv_neI (e_call1 c_law_free (hr.mono (by decide)) rfl (e_var 6) ⟨by simpa using z2,m8 z3⟩) (e_var 6))))))) (fun hc=>?_) (fun hc=>?_)
 ·have e:lwS row s=none:=if_neg fun z=>by
   obtain ⟨⟨_,⟨k1,k2⟩,_⟩,k3⟩:=z
   unfold ifF irn at k2
   rw [Bool.and_eq_true,decide_eq_true_iff,decide_eq_true_iff] at k2
   rw [abv,e8,decide_eq_true k1,decide_eq_false k2.1.1,decide_eq_false (by omega),decide_eq_true k2.2] at hc
   cases hc
  rw [e]
  exact s_ret e_non rfl
 ·rw [abv,e8] at hc
  obtain ⟨k1,k2,k3,k4⟩:(nbM row s).2=1∧(nbM row s).1≠0∧(nbM row s).1.natAbs < 100000000∧foF (nbM row s).1=(nbM row s).1:=by
   simp at hc
   exact ⟨hc.1,hc.2.1,by have:=hc.2.2.1; omega,hc.2.2.2⟩
  have kI:ifF (nbM row s).1=true:=by
   unfold ifF irn
   rw [decide_eq_true ⟨k2,by omega⟩,decide_eq_true k4]
   rfl
  obtain ⟨fa1,fa2⟩:=foF_le ra.1 ra.2
  obtain ⟨fb1,fb2⟩:=foF_le rb.1 rb.2
  have sfa:Sm 30 (foF (row.getD s.i.toNat 0)):=by unfold Sm; omega
  have sfb:Sm 30 (foF (row.getD s.j.toNat 0)):=by unfold Sm; omega
  obtain ⟨j1,j2⟩:=jn_ok fa1 fb1 sfa sfb
  have sm:Sm 30 (nbM row s).1:=by unfold Sm; omega
  obtain ⟨p1,p2,p3,p4,p5⟩:=jn_parts fa1 fb1
  obtain ⟨o1',o2,o3,o4,o5⟩:=jn_parts j1 k2
  have sg:=gcd_smS (b:=foF (row.getD s.j.toNat 0)) fa1 sfa
  have sg2:=gcd_smS (b:=(nbM row s).1) j1 j2
  have eo:nbO row s=jnF (jnF (foF (row.getD s.i.toNat 0)) (foF (row.getD s.j.toNat 0))) (nbM row s).1:=by
   unfold nbO
   rw [fp2]
  refine s_asg 8 sc_law_stepped.nd (e_lst (as:=[foF (row.getD s.i.toNat 0),foF (row.getD s.j.toNat 0)]) (b:=true) (ea_cons (e_call1 c_law_free (hr.mono (by decide)) rfl (e_ixL (e_var 0) (e_ofdI (k:=s.i) (e_var 2)) (atGetA (d:=0) a0 (by omega) rfl)) ra) (ea_cons (e_call1 c_law_free (hr.mono (by decide)) rfl (e_ixL (e_var 0) (e_ofdI (k:=s.j) (e_var 3)) (atGetA (d:=0) (by omega) c0 rfl)) rb) ea_nil)) (Nat.le_of_ble_eq_true rfl)) ?_
  refine s_asg 9 sc_law_stepped.nd (e_call2 c_law_common (hr.mono (by decide)) rfl (e_ixL (a:=foF (row.getD s.i.toNat 0)) (e_var 8) e_int rfl) (e_ixL (a:=foF (row.getD s.j.toNat 0)) (e_var 8) e_int rfl) True.intro) ?_
  refine s_asg 8 sc_law_stepped.nd (e_eq (a':=jnF (foF (row.getD s.i.toNat 0)) (foF (row.getD s.j.toNat 0))) (e_mul (e_fdiv (e_ixL (a:=foF (row.getD s.i.toNat 0)) (e_var 8) e_int rfl) (e_var 9) (Sm.div (j:=gcI _ _) sg p1)) (e_fdiv (e_ixL (a:=foF (row.getD s.j.toNat 0)) (e_var 8) e_int rfl) (e_var 9) (Sm.div (j:=gcI _ _) sg p1)) ((Sm.of_le p3 sfa).ok (Sm.of_le p5 sfb))) rfl) ?_
  refine s_asg 9 sc_law_stepped.nd (e_call2 c_law_common (hr.mono (by decide)) rfl (e_var 8) (e_var 6) True.intro) ?_
  refine s_ownlistT 10 sc_law_stepped.nd rfl B.list (e_var 0) ?_
  refine s_setO 10 (a:=(nbM row s).1) rfl (e_ofdI (k:=s.i) (e_var 2)) (e_var 6) a0 (by omega) ?_
  refine s_setO 10 (as:=row.set s.i.toNat (nbM row s).1) (a:=nbO row s) rfl (e_ofdI (k:=s.j) (e_var 3)) (e_eq (e_mul (e_fdiv (e_var 8) (e_var 9) (Sm.div (j:=gcI _ _) sg2 o1')) (e_fdiv (e_var 6) (e_var 9) (Sm.div (j:=gcI _ _) sg2 o1')) ((Sm.of_le o3 j2).ok (Sm.of_le o5 sm))) eo.symm) (by omega) (by rw [List.length_set]; exact c0) ?_
  refine s_freeze 10 rfl ?_
  have gj:atI ((row.set s.i.toNat (nbM row s).1).set s.j.toNat (nbO row s)) s.j=some (nbO row s):=by
   have:=atGetA (d:=0) (l:=(row.set s.i.toNat (nbM row s).1).set s.j.toNat (nbO row s)) (i:=s.j) (n:=row.length) (by omega) c0 (by rw [List.length_set,List.length_set])
   rw [this,_root_.EP.getD_set (by rw [List.length_set]; omega),if_pos rfl]
  refine s_if1 (t_cmp cv_ge (e_abs rfl B.abs (e_ixL (a:=nbO row s) (e_var 10) (e_ofdI (k:=s.j) (e_var 3)) gj)) e_int) (fun hc=>?_) (fun hc=>?_)
  ·rw [abv] at hc
   have hc':(1073741824:Int)≤((nbO row s).natAbs:Int):=by simpa using hc
   have e:lwS row s=none:=if_neg fun z=>by have:=z.1.2.2; omega
   rw [e]
   exact s_ret e_non rfl
  ·rw [abv] at hc
   have hc':¬ (1073741824:Int)≤((nbO row s).natAbs:Int):=by simpa using hc
   have e:lwS row s=some (spF row s):=if_pos ⟨⟨h1,⟨k1,kI⟩,by omega⟩,k3⟩
   rw [e]
   exact s_ret (e_some (e_var 10)) rfl
noncomputable def lwL (row:List Int):List PyData→Option (List Int)
 | []=>some row
 | d :: ds=>match lwO row ⟨d⟩ with
  | none=>none
  | some r=>lwL r ds
noncomputable def lwA (row:List Int) (x:Dt):Option (List Int):=match x.d with
 | .list ds=>lwL row ds
 | _=>none
theorem lwO_row {row r:List Int} {d:Dt} (hR:isRow row=true) (hz:∀ s:Stp,d.d=stD s→Sm 20 s.x.1∧Sm 20 s.x.2∧Sm 20 s.y.1∧Sm 20 s.y.2) (h:lwO row d=some r):isRow r=true:=by
 unfold lwO at h
 split at h
 ·rename_i hk
  obtain ⟨s,hs,lx,ly⟩:=lk_st (d:=d.d) hk
  obtain ⟨x1,x2,y1,y2⟩:=hz s hs
  rw [hs] at h
  have h':lwS row s=some r:=h
  unfold lwS at h'
  split at h'
  ·rename_i ok
   cases h'
   exact sp_row ⟨hR,⟨lx,x1,x2⟩,⟨ly,y1,y2⟩⟩ ok.1
  ·cases h'
 ·cases h
theorem lwO_no {row:List Int} {d:PyData} (h:isTu d=false):lwO row ⟨d⟩=none:=by
 refine if_neg fun z=>?_
 obtain ⟨s,hs,_⟩:=lk_st z
 rw [hs] at h
 cases h
theorem lwO_len {row:List Int} {ds:List PyData} (h:¬ (ds.length:Int)=4):lwO row ⟨.tuple ds⟩=none:=if_neg (by rw [lk_len h]; decide)
theorem nol71 {K:PySem.W.Frag} {N:Nn} {H:Hp} {a:List Int}:¬ Py.rp K N H .non a:=fun h=>by
 obtain ⟨p,xs,e,_⟩:=h
 cases e
set_option maxHeartbeats 2000000 in
include B in
theorem b_law_all (c_law_stepped:Cal P w K mg base 4 "_law_stepped" ["_law_row_here","_law_step"] (sp2 K PSd true lwO)) (row:List Int) (x:Dt) (hR:isRow row=true) (hx:Kd x.d):Body P w K mg base N_law_all "_law_all" s_law_all f 4 [.val false row,.val false x] (RT false (lwA row x)):=by
 intro cdv A outer sh H E hr
 obtain ⟨d⟩:=x
 have no:isL d=false→lwA row ⟨d⟩=none→S (cx P w K mg base N_law_all "_law_all" s_law_all f cdv A outer sh H E) (gst N_law_all [.val false row,.val false (Dt.mk d)]) (defBody s_law_all) (RT false (lwA row ⟨d⟩)):=fun z1 z2=>by
  rw [z2]
  refine s_if1 (t_not (t_val (e_isDL (d:=d) rfl B.isinstance rfl B.list (e_var 1)))) (fun hc=>?_) (fun hc=>?_)
  ·exact s_ret (_root_.L2.EP.E.wk (b':=false) (e_non (α:=List Int)) (fun z=>nomatch z)) rfl
  ·rw [z1] at hc; cases hc
 cases d with
 | list ds =>
  obtain ⟨l1,l2⟩:=hx ds rfl
  refine s_if1 (t_not (t_val (e_isDL (d:=.list ds) rfl B.isinstance rfl B.list (e_var 1)))) (fun hc=>nomatch hc) (fun _=>?_)
  show S _ _ _ (RT false (lwL row ds))
  refine s_forL (xs:=ds.map Dt.mk) (fun i Γ=>i≤ds.length∧∃ (r:List Int) (b:Bool) (r2:Option Bd),(isRow r=true∧lwL row ds=lwL r (ds.drop i))∧Γ=[some (.val b r),some (.val false (Dt.mk (.list ds))),r2]) (g_name 2 sc_law_all.nd) (e_ofdL (ds:=ds) (e_var 1)) ⟨Nat.zero_le _,row,false,none,⟨hR,rfl⟩,rfl⟩ ?_ ?_
  ·rintro i a Γ' ha ⟨hi,r,b,r2,⟨hr1,hr2⟩,rfl⟩
   rw [List.getElem?_map] at ha
   cases hs:ds[i]? with
   | none=>rw [hs] at ha; cases ha
   | some d =>
    rw [hs] at ha
    have ha':Dt.mk d=a:=Option.some.inj ha
    subst ha'
    have il:i < ds.length:=by
     rcases Nat.lt_or_ge i ds.length with h | h
     ·exact h
     ·rw [List.getElem?_eq_none h] at hs; cases hs
    have es:ds[i]=d:=by rw [List.getElem?_eq_getElem il] at hs; exact Option.some.inj hs
    rw [List.drop_eq_getElem_cons il,es] at hr2
    have hr3:lwL row ds=match lwO r ⟨d⟩ with | none=>none | some r=>lwL r (ds.drop (i + 1)):=hr2
    have hz:∀ s:Stp,d=stD s→Sm 20 s.x.1∧Sm 20 s.x.2∧Sm 20 s.y.1∧Sm 20 s.y.2:=fun s e=>l2 s (by rw [← e,← es]; exact List.getElem_mem il)
    have bad:lwO r ⟨d⟩=none→lwL row ds=none:=fun z=>by rw [hr3,z]
    by_cases q:isTu d=true
    ·obtain ⟨us,rfl⟩:∃ us,d=.tuple us:=by
      cases d with
      | tuple us=>exact ⟨us,rfl⟩
      | _=>cases q
     by_cases q4:(us.length:Int)=4
     ·obtain ⟨u1,u2,u3,u4,rfl⟩:=four_of q4
      refine s_if1 (c:=false) (t_to (TW.t (tw_or (t_not (t_val (e_isDT (d:=.tuple [u1,u2,u3,u4]) rfl B.isinstance rfl B.tuple (e_var 2)))) fun _=>(tw_or1 (t_cmp cv_neI (e_lenU rfl B.len (e_ofdT (ds:=[u1,u2,u3,u4]) (e_var 2))) e_int)))) rfl) (fun hc=>nomatch hc) (fun _=>?_)
      refine s_asg 0 sc_law_all.nd (e_call2 c_law_stepped (hr.mono (by decide)) rfl (e_var 0) (e_var 2) ⟨hr1,⟨u1,u2,u3,u4,rfl⟩,hz⟩) ?_
      cases q5:lwO r ⟨.tuple [u1,u2,u3,u4]⟩ with
      | none =>
       rw [bad q5]
       refine s_if1 (t_isN (α:=List Int) (x:=none) (e_var 0) fun _ _ _ _=>nol71) (fun _=>?_) (fun hc=>nomatch hc)
       exact s_ret (_root_.L2.EP.E.wk (b':=false) (e_non (α:=List Int)) (fun z=>nomatch z)) rfl
      | some r' =>
       refine s_if1 (t_isN (α:=List Int) (x:=some r') (e_var 0) fun _ _ _ _=>nol71) (fun hc=>nomatch hc) (fun _=>?_)
       refine s_unopt 0 (a:=r') rfl ?_
       exact s_nil ⟨il,r',_,_,⟨lwO_row hr1 hz q5,by rw [hr3,q5]⟩,rfl⟩
     ·rw [bad (lwO_len q4)]
      refine s_if1 (TW.t (tw_or (t_not (t_val (e_isDT (d:=.tuple us) rfl B.isinstance rfl B.tuple (e_var 2)))) fun _=>(tw_or1 (t_cmp cv_neI (e_lenU rfl B.len (e_ofdT (ds:=us) (e_var 2))) e_int)))) (fun hc=>?_) (fun hc=>?_)
      ·exact s_ret (_root_.L2.EP.E.wk (b':=false) (e_non (α:=List Int)) (fun z=>nomatch z)) rfl
      ·rw [List.length_map,decide_eq_false q4] at hc
       cases hc
    ·have q':isTu d=false:=by cases h:isTu d with | true=>exact absurd h q | false=>rfl
     rw [bad (lwO_no q')]
     refine s_if1 (TW.t (tw_or (c':=false) (t_not (t_val (e_isDT (d:=d) rfl B.isinstance rfl B.tuple (e_var 2)))) fun z=>absurd z (by rw [q']; decide))) (fun hc=>?_) (fun hc=>?_)
     ·exact s_ret (_root_.L2.EP.E.wk (b':=false) (e_non (α:=List Int)) (fun z=>nomatch z)) rfl
     ·rw [q'] at hc; cases hc
  ·rintro Γ' ⟨hi,r,b,r2,⟨hr1,hr2⟩,rfl⟩
   rw [List.length_map,List.drop_length] at hr2
   rw [hr2]
   exact s_ret (e_some (_root_.L2.EP.E.wk (b':=false) (e_var 0) (fun z=>nomatch z))) rfl
 | _=>exact no rfl rfl
theorem sqf_jn {u v:Int} (hu:Sqf u) (hv:Sqf v):Sqf (jnF u v):=by
 obtain ⟨p1,p2,p3,p4,p5⟩:=jn_parts hu.1 hv.1
 obtain ⟨u',eu⟩:((Int.gcd u v:Nat):Int) ∣ u:=Int.gcd_dvd_left ..
 obtain ⟨v',ev⟩:((Int.gcd u v:Nat):Int) ∣ v:=Int.gcd_dvd_right ..
 have fu:u.fdiv ((Int.gcd u v:Nat):Int)=u':=by
  have:=Int.mul_fdiv_cancel_left u' p1
  rw [← eu] at this
  exact this
 have fv:v.fdiv ((Int.gcd u v:Nat):Int)=v':=by
  have:=Int.mul_fdiv_cancel_left v' p1
  rw [← ev] at this
  exact this
 unfold jnF
 rw [fu,fv]
 rw [fu] at p2
 rw [fv] at p4
 refine sqf_of_primes (Int.mul_ne_zero p2 p4) fun q hq z=>?_
 have q2:=_root_.EP.isP_ge hq
 have cop:∀ m:Int,¬ q ∣ m→Int.gcd (q * q) m=1:=fun m w=>_root_.EP.cop_of (fun r hr h1 h2=>by
  have:r ∣ q:=by rcases _root_.EP.euclid hr h1 with z | z <;> exact z
  rw [_root_.EP.prime_dvd_prime hr hq this] at h2
  exact w h2) (Int.mul_ne_zero (by omega) (by omega))
 by_cases w:q ∣ v'
 ·by_cases w':q ∣ u'
  ·have d1:((Int.gcd u v:Nat):Int) * q ∣ u:=by rw [eu]; exact Int.mul_dvd_mul (by rw [← eu]; exact Int.dvd_refl _) w'
   have d2:((Int.gcd u v:Nat):Int) * q ∣ v:=by rw [ev]; exact Int.mul_dvd_mul (by rw [← ev]; exact Int.dvd_refl _) w
   obtain ⟨k,hk⟩:=Int.dvd_coe_gcd d1 d2
   have:((Int.gcd u v:Nat):Int) * (q * k - 1)=0:=by
    have:((Int.gcd u v:Nat):Int) * q * k=((Int.gcd u v:Nat):Int):=hk.symm
    rw [Int.mul_sub,Int.mul_one,← Int.mul_assoc,this]
    omega
   rcases Int.mul_eq_zero.mp this with z | z
   ·exact p1 z
   ·have:q ∣ 1:=⟨k,by omega⟩
    have:=Int.le_of_dvd (by decide) this
    omega
  ·rw [Int.mul_comm u' v'] at z
   exact (_root_.EP.sqf_dvd hv ⟨((Int.gcd u v:Nat):Int),by rw [Int.mul_comm]; exact ev⟩).2 q q2 (_root_.EP.cop_dvd z (cop u' w'))
 ·exact (_root_.EP.sqf_dvd hu ⟨((Int.gcd u v:Nat):Int),by rw [Int.mul_comm]; exact eu⟩).2 q q2 (_root_.EP.cop_dvd z (cop v' w))
def RQ (row:List Int):Prop:=isRow row=true∧∀ a∈row,Sqf a∧a.natAbs < 10000
structure StQ (s:Stp):Prop where
 lx:Low s.x
 ly:Low s.y
 x3:s.x.1.natAbs≤3
 y3:s.y.1.natAbs≤3
 x6:s.x.2≤59
 y6:s.y.2≤59
theorem StQ.xy {s:Stp} (h:StQ s):PXY s:=by
 have a:=h.lx.1
 have b:=h.ly.1
 have:=h.x3
 have:=h.y3
 have:=h.x6
 have:=h.y6
 exact ⟨⟨h.lx,by unfold Sm; omega,by unfold Sm; omega⟩,⟨h.ly,by unfold Sm; omega,by unfold Sm; omega⟩⟩
def RunS (row:List Int):List Stp→Prop
 | []=>True
 | s :: ss=>StQ s∧nbOk row s∧RQ (spF row s)∧RunS (spF row s) ss
theorem RunS.good:∀ {ss:List Stp} {row:List Int},RunS row ss→Good row ss
 | [],_,_=>True.intro
 | _ :: _,_,⟨a,b,_,d⟩=>⟨a.xy,b,d.good⟩
theorem run_rq:∀ (ss:List Stp) (row:List Int),RQ row→RunS row ss→RQ (fnR row ss)
 | [],_,h,_=>h
 | _ :: ss,_,_,⟨_,_,c,d⟩=>run_rq ss _ c d
theorem RunS.snoc:∀ {ss:List Stp} {row:List Int} {s:Stp},RunS row ss→StQ s→nbOk (fnR row ss) s→RQ (spF (fnR row ss) s)→RunS row (ss ++ [s])
 | [],_,_,_,a,b,c=>⟨a,b,c,True.intro⟩
 | _ :: _,_,_,⟨p,q,r,t⟩,a,b,c=>⟨p,q,r,t.snoc a b c⟩
theorem sp_mem {row:List Int} {s:Stp} {x:Int} (hx:x∈spF row s):x∈row∨x=(nbM row s).1∨x=nbO row s:=by
 rcases List.mem_or_eq_of_mem_set hx with z | z
 ·rcases List.mem_or_eq_of_mem_set z with z | z
  ·exact .inl z
  ·exact .inr (.inl z)
 ·exact .inr (.inr z)
theorem ifF_sq {k:Int} (h:ifF k=true):Sqf k∧k≠0∧k.natAbs < 1073741824:=by
 unfold ifF irn at h
 rw [Bool.and_eq_true,decide_eq_true_iff,decide_eq_true_iff] at h
 obtain ⟨s,a,b,c⟩:=foF_ex h.1.1 h.1.2
 rw [h.2] at a
 exact ⟨a,h.1.1,h.1.2⟩
theorem sp_rq {row:List Int} {s:Stp} (h:RQ row) (hs:PXY s) (ok:nbOk row s) (hb:∀ x∈spF row s,x.natAbs < 10000):RQ (spF row s):=by
 refine ⟨sp_row ⟨h.1,hs.1,hs.2⟩ ok,fun x hx=>⟨?_,hb x hx⟩⟩
 obtain ⟨ra,rb⟩:=row_at h.1 ok.1
 obtain ⟨_,fa,_⟩:=foF_ex ra.1 ra.2
 obtain ⟨_,fb,_⟩:=foF_ex rb.1 rb.2
 have m:=(ifF_sq ok.2.1.2).1
 rcases sp_mem hx with z | z | z
 ·exact (h.2 x z).1
 ·rw [z]; exact m
 ·rw [z]
  unfold nbO
  rw [fp2]
  exact sqf_jn (sqf_jn fa fb) m
theorem made_bd {M:Nat} {m a b:Int} {x1 x2 y1 y2:Int} (c:m * (x2 * x2 * y2 * y2)=a * x1 * x1 * y2 * y2 + b * y1 * y1 * x2 * x2) (ha:a.natAbs≤M) (hb:b.natAbs≤M) (p1:0≤x1 * x1) (p2:x1 * x1≤9) (q1:0≤y1 * y1) (q2:y1 * y1≤9) (X0:1≤x2 * x2) (Y0:1≤y2 * y2):m.natAbs≤18 * M:=by
 have e1:a * x1 * x1 * y2 * y2=a * (x1 * x1) * (y2 * y2):=by grind
 have e2:b * y1 * y1 * x2 * x2=b * (y1 * y1) * (x2 * x2):=by grind
 have e3:x2 * x2 * y2 * y2=(x2 * x2) * (y2 * y2):=by grind
 rw [e1,e2,e3] at c
 generalize x1 * x1=P at *
 generalize y1 * y1=Q at *
 generalize x2 * x2=X at *
 generalize y2 * y2=Y at *
 have c':=congrArg Int.natAbs c
 have t1:(a * P * Y).natAbs≤M * 9 * Y.natAbs:=by
  rw [Int.natAbs_mul,Int.natAbs_mul]
  exact Nat.mul_le_mul (Nat.mul_le_mul ha (by omega)) (Nat.le_refl _)
 have t2:(b * Q * X).natAbs≤M * 9 * X.natAbs:=by
  rw [Int.natAbs_mul,Int.natAbs_mul]
  exact Nat.mul_le_mul (Nat.mul_le_mul hb (by omega)) (Nat.le_refl _)
 have t3:=Int.natAbs_add_le (a * P * Y) (b * Q * X)
 rw [Int.natAbs_mul,Int.natAbs_mul] at c'
 have Xn:1≤X.natAbs:=by omega
 have Yn:1≤Y.natAbs:=by omega
 have t4:M * 9 * Y.natAbs≤M * 9 * (X.natAbs * Y.natAbs):=Nat.mul_le_mul (Nat.le_refl _) (Nat.le_mul_of_pos_left _ Xn)
 have t5:M * 9 * X.natAbs≤M * 9 * (X.natAbs * Y.natAbs):=Nat.mul_le_mul (Nat.le_refl _) (Nat.le_mul_of_pos_right _ Yn)
 have t6:0 < X.natAbs * Y.natAbs:=Nat.mul_pos Xn Yn
 generalize X.natAbs * Y.natAbs=Z at *
 have:m.natAbs * Z≤(18 * M) * Z:=by
  have e:(18 * M) * Z=M * 9 * Z + M * 9 * Z:=by rw [← Nat.add_mul]; congr 1; omega
  rw [e]
  omega
 exact Nat.le_of_mul_le_mul_right this t6
theorem sq_9 {u:Int} (h:u.natAbs≤3):0≤u * u∧u * u≤9:=by
 have:u=-3∨u=-2∨u=-1∨u=0∨u=1∨u=2∨u=3:=by omega
 rcases this with rfl | rfl | rfl | rfl | rfl | rfl | rfl <;> decide
theorem nb_cross (row:List Int) (s:Stp):(nbM row s).1 * (s.x.2 * s.x.2 * s.y.2 * s.y.2)=(row.getD s.i.toNat 0 * s.x.1 * s.x.1 * s.y.2 * s.y.2 + row.getD s.j.toNat 0 * s.y.1 * s.y.1 * s.x.2 * s.x.2) * (nbM row s).2:=_root_.EP.fr_cross (row.getD s.i.toNat 0 * s.x.1 * s.x.1 * s.y.2 * s.y.2 + row.getD s.j.toNat 0 * s.y.1 * s.y.1 * s.x.2 * s.x.2) (s.x.2 * s.x.2 * s.y.2 * s.y.2)
theorem made_small {row:List Int} {s:Stp} (h:RQ row) (hs:StQ s) (h1:nb1 row s) (h2:(nbM row s).2=1):(nbM row s).1.natAbs < 100000000:=by
 obtain ⟨i0,ij,jl⟩:=id h1
 have ha:(row.getD s.i.toNat 0).natAbs≤10000:=Nat.le_of_lt (h.2 _ (_root_.EP.getD_mem (by omega))).2
 have hb:(row.getD s.j.toNat 0).natAbs≤10000:=Nat.le_of_lt (h.2 _ (_root_.EP.getD_mem (by omega))).2
 have c:=nb_cross row s
 rw [h2,Int.mul_one] at c
 obtain ⟨p1,p2⟩:=sq_9 hs.x3
 obtain ⟨q1,q2⟩:=sq_9 hs.y3
 have X0:1≤s.x.2 * s.x.2:=Int.mul_pos (by have:=hs.lx.1; omega) (by have:=hs.lx.1; omega)
 have Y0:1≤s.y.2 * s.y.2:=Int.mul_pos (by have:=hs.ly.1; omega) (by have:=hs.ly.1; omega)
 have:=made_bd c ha hb p1 p2 q1 q2 X0 Y0
 omega
theorem lwO_st {row:List Int} {s:Stp} (hx:Low s.x) (hy:Low s.y):lwO row (stK s)=lwS row s:=if_pos (st_lk hx hy)
theorem mx71:∀ {ns:List Int},0 < ns.length→∃ m,m∈ns∧∀ a,a∈ns→a≤m
 | [],h=>absurd h (by simp)
 | [x],_=>⟨x,List.mem_singleton.mpr rfl,fun a ha=>by rw [List.mem_singleton.mp ha]; exact Int.le_refl _⟩
 | x :: y :: l,_=>by
  obtain ⟨m,h1,h2⟩:=mx71 (ns:=y :: l) (by simp)
  by_cases h:x≤m
  ·exact ⟨m,List.mem_cons_of_mem _ h1,fun a ha=>by
    rcases List.mem_cons.mp ha with rfl | w
    ·exact h
    ·exact h2 a w⟩
  ·exact ⟨x,List.mem_cons_self ..,fun a ha=>by
    rcases List.mem_cons.mp ha with rfl | w
    ·exact Int.le_refl _
    ·have:=h2 a w; omega⟩
theorem e_stp {X:Cx} {Γ:GEnv} {e1 e2 e3 e4:Expr} {b1 b2 b3 b4:Bool} {pos:Pos} {k:Nat} {s:Stp} (h1:E X Γ e1 b1 s.i) (h2:E X Γ e2 b2 s.j) (h3:E X Γ e3 b3 s.x) (h4:E X Γ e4 b4 s.y) (hs1:starEach [e1,e2,e3,e4] X.env=(false,eval e1 X.env) :: starEach [e2,e3,e4] X.env:=by rfl) (hs2:starEach [e2,e3,e4] X.env=(false,eval e2 X.env) :: starEach [e3,e4] X.env:=by rfl) (hs3:starEach [e3,e4] X.env=(false,eval e3 X.env) :: starEach [e4] X.env:=by rfl) (hs4:starEach [e4] X.env=(false,eval e4 X.env) :: starEach [] X.env:=by rfl) :
  E X Γ (.Tuple [e1,e2,e3,e4] k pos) true (Dt.mk (stD s)) :=
 e_tupD (b:=true) (ds:=[⟨.int s.i⟩,⟨.int s.j⟩,⟨frD s.x⟩,⟨frD s.y⟩]) (ea_cons (e_dI (e_up h1)) (ea_cons (e_dI (e_up h2)) (ea_cons (e_dFr (e_up h3)) (ea_cons (e_dFr (e_up h4)) ea_nil hs4) hs3) hs2) hs1) (Nat.le_of_ble_eq_true rfl)
theorem e_stp' {X:Cx} {Γ:GEnv} {e1 e2 e3 e4:Expr} {b1 b2 b3 b4:Bool} {pos:Pos} {k:Nat} {i j:Int} {x y:Fr} (h1:E X Γ e1 b1 i) (h2:E X Γ e2 b2 j) (h3:E X Γ e3 b3 x) (h4:E X Γ e4 b4 y) (hs1:starEach [e1,e2,e3,e4] X.env=(false,eval e1 X.env) :: starEach [e2,e3,e4] X.env:=by rfl) (hs2:starEach [e2,e3,e4] X.env=(false,eval e2 X.env) :: starEach [e3,e4] X.env:=by rfl) (hs3:starEach [e3,e4] X.env=(false,eval e3 X.env) :: starEach [e4] X.env:=by rfl) (hs4:starEach [e4] X.env=(false,eval e4 X.env) :: starEach [] X.env:=by rfl) :
  E X Γ (.Tuple [e1,e2,e3,e4] k pos) true (Dt.mk (stD ⟨i,j,x,y⟩)):=e_stp (s:=⟨i,j,x,y⟩) h1 h2 h3 h4 hs1 hs2 hs3 hs4
def LsP (row:List Int) (u:List Dt × List Int):Prop:=∃ ss:List Stp,u=(ss.map stK,fnR row ss)∧RunS row ss∧ss.length≤3
theorem frq {x r:Int} (hx:x.natAbs≤3) (h1:1≤r) (h2:r≤59):Low (fr x r)∧(fr x r).1.natAbs≤3∧(fr x r).2≤59:=by
 have hb:r≠0:=by omega
 have:=_root_.EP.fr_abs2 (t:=x) hb
 have p:=_root_.EP.fr_pos (t:=x) hb
 exact ⟨_root_.EP.fr_lowP hb,Nat.le_trans (_root_.EP.fr_abs1 hb) hx,by omega⟩
set_option maxHeartbeats 4000000 in
include B in
theorem b_law_steps (c_law_fraction:Cal P w K mg base 2 "_law_fraction" ["_law_top","_law_bottom"] (sp2 K PFr true fr)) (c_law_root_of:Cal P w K mg base 1 "_law_root_of" ["_law_number"] (spE1 K (fun (_:Int)=>True) true (fun _ (r:Int)=>1≤r∧r≤59))) (c_law_stepped:Cal P w K mg base 4 "_law_stepped" ["_law_row_here","_law_step"] (sp2 K PSd true lwO))
  (row:List Int) (c:Int) (hq:RQ row):Body P w K mg base N_law_steps "_law_steps" s_law_steps f 4 [.val false row,.val false c] (RTE true (LsP row)):=by
 intro cdv A outer sh H E hr
 have l8:=isRow_len hq.1
 have z4:=fmod_pos (a:=c) (b:=4) (by decide)
 refine s_own 2 Dt sc_law_steps.nd ?_
 refine s_asg 3 sc_law_steps.nd (e_listT rfl B.list (e_var 0)) ?_
 refine s_forRange (n:=c.fmod 4) (fun i Γ=>∃ (b1:Bool) (cl:Int) (ss:List Stp) (r4 r5 r6 r7 r8 r9 r10 r11:Option Bd),(ss.length≤i∧RunS row ss)∧Γ=[some (.val false row),some (.val b1 cl),some (.own true (ss.map stK)),some (.val true (fnR row ss)),r4,r5,r6,r7,r8,r9,r10,r11]) rfl B.range (g_name 4 sc_law_steps.nd) (e_mod (e_var 1) e_int (by decide)) (by omega) (by omega) ⟨false,c,[],none,none,none,none,none,none,none,none,⟨Nat.le_refl _,True.intro⟩,rfl⟩ ?_ ?_
 ·rintro i Γ' hi ⟨b1,cl,ss,r4,r5,r6,r7,r8,r9,r10,r11,⟨sl,g⟩,rfl⟩
  have I:=run_rq ss row hq g
  have len:∀ (ss:List Stp) (row:List Int),(fnR row ss).length=row.length:=fun ss=>by
   induction ss with
   | nil=>intro row; rfl
   | cons s ss ih=>intro row; show (fnR (spF row s) ss).length=_; rw [ih,sp_len]
  have hlen:=len ss row
  have ln0:(row.length:Int)≠0:=by omega
  refine s_asg 1 sc_law_steps.nd (e_fdiv (e_var 1) e_int cdK) ?_
  generalize cl.fdiv 4=cc
  have y1:=fmod_pos (a:=cc) (b:=(row.length:Int)) (by omega)
  have y2:=fmod_pos (a:=cc.fdiv 8) (b:=(row.length:Int)) (by omega)
  have y3:=fmod_pos (a:=cc.fdiv 64) (b:=7) (by decide)
  have y4:=fmod_pos (a:=cc.fdiv 448) (b:=7) (by decide)
  refine s_asg 5 sc_law_steps.nd (e_min rfl rfl B.min (e_mod (e_var 1) (e_lenL rfl B.len (e_var 0)) ln0) (e_mod (e_fdiv (e_var 1) e_int cdK) (e_lenL rfl B.len (e_var 0)) ln0)) ?_
  refine s_asg 6 sc_law_steps.nd (e_max rfl rfl B.max (e_mod (e_var 1) (e_lenL rfl B.len (e_var 0)) ln0) (e_mod (e_fdiv (e_var 1) e_int cdK) (e_lenL rfl B.len (e_var 0)) ln0)) ?_
  refine s_asg 7 sc_law_steps.nd (e_sub (e_mod (e_fdiv (e_var 1) e_int cdK) e_int (by decide)) e_int) ?_
  refine s_asg 8 sc_law_steps.nd (e_sub (e_mod (e_fdiv (e_var 1) e_int cdK) e_int (by decide)) e_int) ?_
  obtain ⟨I',hI⟩:∃ I',(if (cc.fdiv 8).fmod (row.length:Int) < cc.fmod (row.length:Int) then (cc.fdiv 8).fmod (row.length:Int) else cc.fmod (row.length:Int))=I':=⟨_,rfl⟩
  obtain ⟨J',hJ⟩:∃ J',(if cc.fmod (row.length:Int) < (cc.fdiv 8).fmod (row.length:Int) then (cc.fdiv 8).fmod (row.length:Int) else cc.fmod (row.length:Int))=J':=⟨_,rfl⟩
  obtain ⟨X',hX⟩:∃ X',(cc.fdiv 64).fmod 7 - 3=X':=⟨_,rfl⟩
  obtain ⟨Y',hY⟩:∃ Y',(cc.fdiv 448).fmod 7 - 3=Y':=⟨_,rfl⟩
  have i0:0≤I'∧I' < (row.length:Int):=by rw [← hI]; split <;> omega
  have j0:0≤J'∧J' < (row.length:Int):=by rw [← hJ]; split <;> omega
  have x0:X'.natAbs≤3:=by omega
  have y0:Y'.natAbs≤3:=by omega
  show S _ [some (.val false row),some (.val true cc),some (.own true (ss.map stK)),some (.val true (fnR row ss)),some (.val true (i:Int)),some (.val true (if (cc.fdiv 8).fmod (row.length:Int) < cc.fmod (row.length:Int) then (cc.fdiv 8).fmod (row.length:Int) else cc.fmod (row.length:Int))),some (.val true (if cc.fmod (row.length:Int) < (cc.fdiv 8).fmod (row.length:Int) then (cc.fdiv 8).fmod (row.length:Int) else cc.fmod (row.length:Int))),some (.val true ((cc.fdiv 64).fmod 7 - 3)),some (.val true ((cc.fdiv 448).fmod 7 - 3)),r9,r10,r11] _ _
  rw [hI,hJ,hX,hY]
  clear hI hJ hX hY
  have ga:=atGetA (d:=0) (l:=fnR row ss) (i:=I') (n:=row.length) i0.1 i0.2 hlen
  have gb:=atGetA (d:=0) (l:=fnR row ss) (i:=J') (n:=row.length) j0.1 j0.2 hlen
  have sa:Sm 14 ((fnR row ss).getD I'.toNat 0):=by have:=(I.2 _ (_root_.EP.getD_mem (d:=0) (show I'.toNat < (fnR row ss).length by omega))).2; unfold Sm; omega
  have sb:Sm 14 ((fnR row ss).getD J'.toNat 0):=by have:=(I.2 _ (_root_.EP.getD_mem (d:=0) (show J'.toNat < (fnR row ss).length by omega))).2; unfold Sm; omega
  have sx:Sm 2 X':=by unfold Sm; omega
  have sy:Sm 2 Y':=by unfold Sm; omega
  refine s_asgX 9 sc_law_steps.nd (ex_call1 c_law_root_of (hr.mono (by decide)) rfl (e_add (e_mul (e_mul (e_ixL (e_var 3) (e_var 5) ga) (e_var 7) (sa.ok sx)) (e_var 7) ((sa.mul sx).ok sx)) (e_mul (e_mul (e_ixL (e_var 3) (e_var 6) gb) (e_var 8) (sb.ok sy)) (e_var 8) ((sb.mul sy).ok sy))) True.intro) ?_
  rintro r ⟨r1,r2⟩
  have rn0:r≠0:=by omega
  have sr:Sm 9000 r:=(show Sm 6 r by unfold Sm; omega).le (by decide)
  obtain ⟨f1,f2,f3⟩:=frq x0 r1 r2
  obtain ⟨h1,h2,h3⟩:=frq y0 r1 r2
  refine s_asg 10 sc_law_steps.nd (e_stp' (i:=I') (j:=J') (x:=fr X' r) (y:=fr Y' r) (e_var 5) (e_var 6) (e_call2 (f:=fr) (a:=X') (c:=r) c_law_fraction (hr.mono (by decide)) rfl (e_var 7) (e_var 9) ⟨rn0,sr⟩) (e_call2 (f:=fr) (a:=Y') (c:=r) c_law_fraction (hr.mono (by decide)) rfl (e_var 8) (e_var 9) ⟨rn0,sr⟩)) ?_
  have sq:StQ ⟨I',J',fr X' r,fr Y' r⟩:=⟨f1,h1,f2,h2,f3,h3⟩
  generalize (⟨I',J',fr X' r,fr Y' r⟩:Stp)=s at *
  refine s_asg 1 sc_law_steps.nd (e_fdiv (e_var 1) e_int cdK) ?_
  have xy:=sq.xy
  refine s_asg 11 sc_law_steps.nd (e_eq (a':=lwS (fnR row ss) s) (e_call2 c_law_stepped (hr.mono (by decide)) rfl (e_var 3) (e_var 10) ⟨I.1,⟨_,_,_,_,rfl⟩,fun t ht=>by
   have:s=t:=by rw [← stE_eq s,← stE_eq t]; exact congrArg stE ht
   rw [← this]
   exact ⟨xy.1.2.1,xy.1.2.2,xy.2.2.1,xy.2.2.2⟩⟩) (lwO_st sq.lx sq.ly)) ?_
  show S _ [some (.val false row),some (.val true (cc.fdiv 3136)),some (.own true (ss.map stK)),some (.val true (fnR row ss)),some (.val true (i:Int)),some (.val true I'),some (.val true J'),some (.val true X'),some (.val true Y'),some (.val true r),some (.val true (stK s)),some (.val true (lwS (fnR row ss) s))] _ _
  generalize hx:lwS (fnR row ss) s=o
  cases o with
  | none =>
   refine s_if1 (TW.t (tw_and (c':=false) (t_nN (α:=List Int) (x:=none) (e_var 11) fun _ _ _ _=>nol71) fun z=>nomatch z)) (fun hc=>nomatch hc) (fun _=>?_)
   exact s_nil ⟨_,_,ss,_,_,_,_,_,_,_,_,⟨by omega,g⟩,rfl⟩
  | some q =>
   obtain ⟨ok,eq⟩:nbOk (fnR row ss) s∧q=spF (fnR row ss) s:=by
    unfold lwS at hx
    split at hx
    ·rename_i z; cases hx; exact ⟨z.1,rfl⟩
    ·cases hx
   have ql:q.length=row.length:=by rw [eq,sp_len]; exact hlen
   obtain ⟨m,m1,m2⟩:=mx71 (ns:=q.map fun x=>if x < 0 then -x else x) (by rw [List.length_map]; omega)
   refine s_if1 (TW.t (tw_and (t_nN (x:=some q) (e_var 11) fun _ _ _ _=>nol71) fun _=>(tw_and1 (t_cmp cv_lt (e_maxL (m:=m) rfl rfl B.max (e_comp (f:=fun x:Int=>if x < 0 then -x else x) ["_law_number"] [] (cscope (defScope s_law_steps) N_law_steps rfl rfl (by decide +kernel)) (ei_list (e_get (a:=q) (e_var 11))) (gp_name 0) (fun C s H fp=>pg_cn 0 ["_law_number"]) lt_of_eq (fun i u hu C s H fp=>e_abs rfl B.abs (e_var 0)) (by omega)) (by rw [List.length_map]; omega) m1 m2) (e_pow e_int e_int cpK))))) (fun hc=>?_) (fun hc=>?_)
   ·have hm:m < 10000:=by
     have e4:(10:Int) ^ Int.toNat 4=10000:=by decide
     rw [e4] at hc
     simpa using hc
    have hb:∀ x∈spF (fnR row ss) s,x.natAbs < 10000:=fun x hx=>by
     have:=m2 _ (List.mem_map_of_mem (f:=fun x:Int=>if x < 0 then -x else x) (by rw [eq]; exact hx))
     split at this <;> omega
    subst eq
    refine s_append 2 (a:=stK s) rfl (e_var 10) (by rw [List.length_map]; omega) ?_
    refine s_asg 3 sc_law_steps.nd (e_get (a:=spF (fnR row ss) s) (e_var 11)) ?_
    refine s_nil (s_nil ⟨true,cc.fdiv 3136,ss ++ [s],some (.val true (i:Int)),some (.val true I'),some (.val true J'),some (.val true X'),some (.val true Y'),some (.val true r),some (.val true (stK s)),some (.val true (some (spF (fnR row ss) s))),⟨by rw [List.length_append]; show ss.length + 1≤i + 1; omega,g.snoc sq ok (sp_rq I xy ok hb)⟩,?_⟩)
    rw [fnR_app,List.map_append]
    rfl
   ·exact s_nil ⟨_,_,ss,_,_,_,_,_,_,_,_,⟨by omega,g⟩,rfl⟩
 ·rintro Γ' ⟨b1,cl,ss,r4,r5,r6,r7,r8,r9,r10,r11,⟨sl,g⟩,rfl⟩
  refine s_freeze 2 rfl ?_
  exact s_ret (e_tup2 (e_var 2) (e_var 3)) ⟨(ss.map stK,fnR row ss),⟨ss,rfl,g,by omega⟩,rfl⟩
theorem lwL_st {r:List Int} {s:Stp} {ds:List PyData} (hx:Low s.x) (hy:Low s.y):lwL r (stD s :: ds)=match lwS r s with | none=>none | some r'=>lwL r' ds:=by
 show (match lwO r (stK s) with | none=>none | some r'=>lwL r' ds)=_
 rw [lwO_st hx hy]
theorem lw_pre:∀ {s1:List Stp} {row:List Int} {rest:List PyData},RQ row→RunS row s1→lwL row (s1.map stD ++ rest)=lwL (fnR row s1) rest
 | [],_,_,_,_=>rfl
 | s :: s1,row,rest,h,⟨a,b,c,d⟩=>by
  show lwL row (stD s :: (s1.map stD ++ rest))=lwL (fnR (spF row s) s1) rest
  rw [lwL_st a.lx a.ly]
  have e:lwS row s=some (spF row s):=if_pos ⟨b,made_small h a b.1 b.2.1.1⟩
  rw [e]
  exact lw_pre c d
theorem rn_pre:∀ {s1:List Stp} {row:List Int} {rest:List Stp},Good row s1→rn row (s1 ++ rest)=rn (fnR row s1) rest
 | [],_,_,_=>rfl
 | s :: s1,row,rest,⟨_,b,c⟩=>by
  show rn row (s :: (s1 ++ rest))=rn (fnR (spF row s) s1) rest
  rw [rn,if_pos b]
  exact rn_pre c
theorem last_ok {r o:List Int} {s:Stp} (ho:∀ x∈o,x.natAbs < 100000000) (h1:nb1 r s→s.i.toNat < r.length):(rn r [s]=some o)↔(lwS r s=some o):=by
 unfold lwS rn rn
 by_cases ok:nbOk r s
 ·rw [if_pos ok]
  by_cases sm:(nbM r s).1.natAbs < 100000000
  ·rw [if_pos ⟨ok,sm⟩]
  ·rw [if_neg (fun z=>sm z.2)]
   refine ⟨fun z=>?_,fun z=>by cases z⟩
   exfalso
   have z':spF r s=o:=Option.some.inj z
   have hi:=h1 ok.1
   have e:(nbM r s).1∈spF r s:=by
    have g:(spF r s).getD s.i.toNat 0=(nbM r s).1:=by
     unfold spF rwF
     obtain ⟨i0,ij,jl⟩:=ok.1
     rw [_root_.EP.getD_set (by rw [List.length_set]; omega),if_neg (by omega),_root_.EP.getD_set (by omega),if_pos rfl]
     rfl
    rw [← g]
    exact _root_.EP.getD_mem (by rw [sp_len]; omega)
   rw [z'] at e
   exact sm (ho _ e)
 ·rw [if_neg ok,if_neg (fun z=>ok z.1)]
theorem two_ok {r o:List Int} {s2:List Stp} (h:RQ r) (hs:∀ s∈s2,StQ s) (hl:s2.length≤2) (ho:∀ x∈o,x.natAbs < 100000000):(rn r s2=some o)↔(lwL r (s2.map stD)=some o):=by
 have nb:∀ {r:List Int} {s:Stp},nb1 r s→s.i.toNat < r.length:=fun {r s} z=>by obtain ⟨a,b,c⟩:=z; omega
 match s2,hs,hl with
 | [],_,_=>exact Iff.rfl
 | [s],hs,_ =>
  have q:=hs s (List.mem_cons_self ..)
  show _↔lwL r [stD s]=some o
  rw [lwL_st q.lx q.ly]
  rw [last_ok ho nb]
  cases lwS r s <;> exact Iff.rfl
 | [s,t],hs,_ =>
  have q:=hs s (List.mem_cons_self ..)
  have q':=hs t (List.mem_cons_of_mem _ (List.mem_cons_self ..))
  show _↔lwL r [stD s,stD t]=some o
  rw [lwL_st q.lx q.ly]
  by_cases ok:nbOk r s
  ·have e:lwS r s=some (spF r s):=if_pos ⟨ok,made_small h q ok.1 ok.2.1.1⟩
   rw [e,rn,if_pos ok]
   show _↔lwL (spF r s) [stD t]=some o
   rw [lwL_st q'.lx q'.ly,last_ok ho nb]
   cases lwS (spF r s) t <;> exact Iff.rfl
  ·have e:lwS r s=none:=if_neg fun z=>ok z.1
   rw [e,rn,if_neg ok]
 | _ :: _ :: _ :: _,_,hl=>exact absurd hl (by simp)
def SpA (row:List Int) (d:PyData):Prop:=(∃ s1 s2:List Stp,d=.list ((s1 ++ s2).map stD)∧RunS row s1∧(∀ s∈s2,StQ s)∧s2.length≤2)∨(runP row d=none∧lwA row ⟨d⟩=none)
theorem st_all {ss:List Stp} (h:∀ s∈ss,Low s.x∧Low s.y):((ss.map stD).map Dt.mk).all lkD=true:=by
 rw [List.all_eq_true]
 intro x hx
 obtain ⟨d,hd,rfl⟩:=List.mem_map.mp hx
 obtain ⟨s,hs,rfl⟩:=List.mem_map.mp hd
 exact st_lk (h s hs).1 (h s hs).2
theorem RunS.st:∀ {ss:List Stp} {row:List Int},RunS row ss→∀ s∈ss,StQ s
 | [],_,_,_,h=>by cases h
 | _ :: _,_,⟨a,_,_,d⟩,s,h=>by
  rcases List.mem_cons.mp h with rfl | h
  ·exact a
  ·exact d.st s h
theorem agree {row:List Int} {d:PyData} {o:List Int} (h:RQ row) (hd:SpA row d) (ho:∀ x∈o,x.natAbs < 100000000):stF row ⟨.list (o.map .int)⟩ ⟨d⟩=(open Classical in decide (lwA row ⟨d⟩=some o)):=by
 unfold stF
 show decide (runP row d=some (inD (.list (o.map .int))))=_
 rw [inD_L]
 rcases hd with ⟨s1,s2,rfl,r1,q2,l2⟩ | ⟨e1,e2⟩
 ·have lo:∀ s∈s1 ++ s2,Low s.x∧Low s.y:=fun s hs=>by
   rcases List.mem_append.mp hs with z | z
   ·exact ⟨(r1.st s z).lx,(r1.st s z).ly⟩
   ·exact ⟨(q2 s z).lx,(q2 s z).ly⟩
  rw [run_st (st_all lo)]
  have e:lwA row ⟨.list ((s1 ++ s2).map stD)⟩=lwL (fnR row s1) (s2.map stD):=by
   show lwL row ((s1 ++ s2).map stD)=_
   rw [List.map_append]
   exact lw_pre h r1
  rw [e,rn_pre r1.good]
  have:=two_ok (o:=o) (run_rq s1 row h r1) q2 l2 ho
  exact decide_eq_decide.mpr this
 ·rw [e1,e2]
theorem one_more {r:List Int} {s t:Stp} (h:RQ r) (hs:StQ s) (ok:nbOk r s) (et:t=⟨s.i,s.j,(s.x.1,s.x.2 + 1),s.y⟩) (lt:Low t.x):¬ nbOk r t:=fun ok'=>by
 obtain ⟨i0,ij,jl⟩:=ok.1
 have c:=nb_cross r s
 have c':=nb_cross r t
 rw [ok.2.1.1,Int.mul_one] at c
 rw [ok'.2.1.1,Int.mul_one] at c'
 subst et
 have sq:=(h.2 _ (_root_.EP.getD_mem (d:=0) (show s.i.toNat < r.length by omega))).1
 have lt':Int.gcd s.x.1 (s.x.2 + 1)=1:=lt.2
 have X1:=hs.lx.1
 have Y1:=hs.ly.1
 generalize (nbM r s).1=m at *
 generalize (nbM r ⟨s.i,s.j,(s.x.1,s.x.2 + 1),s.y⟩).1=m' at *
 dsimp only at c'
 generalize r.getD s.i.toNat 0=a at *
 generalize r.getD s.j.toNat 0=b at *
 generalize s.x.1=x at *
 generalize s.x.2=X at *
 generalize s.y.1=y at *
 generalize s.y.2=Y at *
 have key:((m - m') * (X * X) * ((X + 1) * (X + 1)) - a * (x * x * (2 * X + 1))) * (Y * Y)=0:=by grind
 have k2:(m - m') * (X * X) * ((X + 1) * (X + 1))=a * (x * x * (2 * X + 1)):=by
  rcases Int.mul_eq_zero.mp key with z | z
  ·omega
  ·have:Y * Y≠0:=Int.mul_ne_zero (by omega) (by omega)
   exact absurd z this
 have dv:(X + 1) * (X + 1) ∣ a * (x * x * (2 * X + 1)):=⟨(m - m') * (X * X),by rw [← k2,Int.mul_comm]⟩
 have g:Int.gcd ((X + 1) * (X + 1)) (x * x * (2 * X + 1))=1:=_root_.EP.cop_of (fun q hq h1 h2=>by
  have q2:=_root_.EP.isP_ge hq
  have d1:q ∣ X + 1:=by rcases _root_.EP.euclid hq h1 with z | z <;> exact z
  rcases _root_.EP.euclid hq h2 with z | z
  ·have d2:q ∣ x:=by rcases _root_.EP.euclid hq z with z | z <;> exact z
   have:=Int.dvd_coe_gcd d2 d1
   rw [lt'] at this
   have:=Int.le_of_dvd (by decide) this
   omega
  ·obtain ⟨u,hu⟩:=d1
   obtain ⟨v,hv⟩:=z
   have:q ∣ 1:=⟨2 * u - v,by rw [Int.mul_sub,← hv,show q * (2 * u)=2 * (q * u) by grind,← hu]; omega⟩
   have:=Int.le_of_dvd (by decide) this
   omega) (Int.mul_ne_zero (by omega) (by omega))
 exact sq.2 (X + 1) (by omega) (_root_.EP.cop_dvd dv g)
def odd71 (s:Stp) (n:Int):List PyData:=[.tuple [.int s.j,.int s.i,frD s.x,frD s.y],.tuple [.int s.i,.int s.j,.int s.x.1,frD s.y],.tuple [.bool true,.int s.j,frD s.x,frD s.y],.tuple [.int s.i,.int s.j,frD s.x,.none],.list [.int s.i,.int s.j,frD s.x,frD s.y],.tuple [.int s.i,.int s.j,frD s.x]] ++ [.tuple [.int s.i,.int (n + 8),frD s.x,frD s.y]] ++ [.tuple [.int s.i,.int s.j,frD (s.x.1,s.x.2 + 1),frD s.y],.tuple [.int s.i,.int s.j,frD (2 * s.x.1,2 * s.x.2),frD s.y],.tuple [.int s.i,.int s.j,frD (s.x.1,0),frD s.y]] ++ [.tuple [.int s.i,.int s.j,frD s.x,frD (1,-1)],.tuple [.int s.i,.int s.j,.tuple [.bool true,.int 1],frD s.y]]
def six71 (ss:List Stp):List PyData:=[.tuple (ss.map stD),.none,.list [.none],.list [.tuple []],.list [.tuple [.int 0,.int 1,frD (1,1)]],.list [.tuple [.int 0,.int 0,frD (1,1),frD (1,1)]]]
def SpP (ss:List Stp) (d:Dt):Prop:=(∃ (h:Nat) (s:Stp) (o:PyData),ss[h]?=some s∧o∈odd71 s ss.length∧d.d=.list ((ss.take h).map stD ++ o :: (ss.drop (h + 1)).map stD))∨(∃ h:Nat,h < ss.length∧d.d=.list ((ss.take h ++ ss.drop (h + 1)).map stD))∨d.d∈six71 ss
def OdQ (s:Stp) (o:PyData):Prop:=(∀ t:Stp,o=stD t→Sm 20 t.x.1∧Sm 20 t.x.2∧Sm 20 t.y.1∧Sm 20 t.y.2)∧(lkD ⟨o⟩=false∨∃ t:Stp,o=stD t∧(t.j≤t.i∨8≤t.j∨t=⟨s.i,s.j,(s.x.1,s.x.2 + 1),s.y⟩))
theorem stD_inj {s t:Stp} (h:stD s=stD t):s=t:=by rw [← stE_eq s,← stE_eq t]; exact congrArg stE h
theorem od_no {s:Stp} {o:PyData} (h:∀ t:Stp,o≠stD t) (h2:lkD ⟨o⟩=false):OdQ s o:=⟨fun t e=>absurd e (h t),.inl h2⟩
theorem no_low {u:Fr} (h:¬ Low u):isFrD ⟨frD u⟩=false:=by
 cases q:isFrD ⟨frD u⟩ with
 | false=>rfl
 | true =>
  obtain ⟨v,e,l⟩:=isFr_low q
  have:u=v:=by
   unfold frD at e
   injection e with e
   injection e with e1 e
   injection e with e2 e
   injection e1 with e1
   injection e2 with e2
   exact Prod.ext e1 e2
  rw [← this] at l
  exact absurd l h
theorem od_st {s t:Stp} (h1:t.x.1.natAbs≤200) (h2:t.x.2.natAbs≤200) (h3:t.y.1.natAbs≤200) (h4:t.y.2.natAbs≤200) (h:lkD ⟨stD t⟩=false∨t.j≤t.i∨8≤t.j∨t=⟨s.i,s.j,(s.x.1,s.x.2 + 1),s.y⟩):OdQ s (stD t):=by
 refine ⟨fun t' e=>?_,?_⟩
 ·rw [← stD_inj e]
  exact ⟨by unfold Sm; omega,by unfold Sm; omega,by unfold Sm; omega,by unfold Sm; omega⟩
 ·rcases h with z | z
  ·exact .inl z
  ·exact .inr ⟨t,rfl,z⟩
theorem lk_x {t:Stp} (h:¬ Low t.x):lkD ⟨stD t⟩=false:=by
 show (true && (true && (isFrD ⟨frD t.x⟩ && isFrD ⟨frD t.y⟩)))=false
 rw [no_low h]
 rfl
theorem lk_y {t:Stp} (h:¬ Low t.y):lkD ⟨stD t⟩=false:=by
 show (true && (true && (isFrD ⟨frD t.x⟩ && isFrD ⟨frD t.y⟩)))=false
 rw [no_low h,Bool.and_false]
 rfl
theorem odd_ok {s:Stp} {n:Int} (hs:StQ s) (hij:s.i < s.j) (hn:0≤n):∀ o∈odd71 s n,OdQ s o:=fun o ho=>by
 have a:=hs.lx.1
 have b:=hs.ly.1
 have x3:=hs.x3
 have y3:=hs.y3
 have x6:=hs.x6
 have y6:=hs.y6
 unfold odd71 at ho
 simp only [List.mem_append,List.mem_cons,List.not_mem_nil,or_false] at ho
 rcases ho with ((( rfl | rfl | rfl | rfl | rfl | rfl) | rfl) | rfl | rfl | rfl) | rfl | rfl
 ·exact od_st (t:=⟨s.j,s.i,s.x,s.y⟩) (by dsimp only; omega) (by dsimp only; omega) (by dsimp only; omega) (by dsimp only; omega) (.inr (.inl (by dsimp only; omega)))
 ·exact od_no (fun t e=>by unfold stD frD at e; injection e with e; injection e with _ e; injection e with _ e; injection e with e _; cases e) rfl
 ·exact od_no (fun t e=>by unfold stD frD at e; injection e with e; injection e with e _; cases e) rfl
 ·exact od_no (fun t e=>by unfold stD frD at e; injection e with e; injection e with _ e; injection e with _ e; injection e with _ e; injection e with e _; cases e) (by show (true && (true && (isFrD ⟨frD s.x⟩ && false)))=false; simp)
 ·exact od_no (fun t e=>by unfold stD at e; cases e) rfl
 ·exact od_no (fun t e=>by unfold stD frD at e; injection e with e; injection e with _ e; injection e with _ e; injection e with _ e; cases e) rfl
 ·exact od_st (t:=⟨s.i,n + 8,s.x,s.y⟩) (by dsimp only; omega) (by dsimp only; omega) (by dsimp only; omega) (by dsimp only; omega) (.inr (.inr (.inl (by dsimp only; omega))))
 ·exact od_st (t:=⟨s.i,s.j,(s.x.1,s.x.2 + 1),s.y⟩) (by dsimp only; omega) (by dsimp only; omega) (by dsimp only; omega) (by dsimp only; omega) (.inr (.inr (.inr rfl)))
 ·refine od_st (t:=⟨s.i,s.j,(2 * s.x.1,2 * s.x.2),s.y⟩) (by dsimp only; omega) (by dsimp only; omega) (by dsimp only; omega) (by dsimp only; omega) (.inl (lk_x fun l=>?_))
  have g:Int.gcd (2 * s.x.1) (2 * s.x.2)=1:=l.2
  have:=Int.dvd_coe_gcd (Int.dvd_mul_right 2 s.x.1) (Int.dvd_mul_right 2 s.x.2)
  rw [g] at this
  exact absurd this (by decide)
 ·exact od_st (t:=⟨s.i,s.j,(s.x.1,0),s.y⟩) (by dsimp only; omega) (by dsimp only; omega) (by dsimp only; omega) (by dsimp only; omega) (.inl (lk_x fun l=>by have:=l.1; revert this; show ¬ (1:Int)≤0; decide))
 ·exact od_st (t:=⟨s.i,s.j,s.x,(1,-1)⟩) (by dsimp only; omega) (by dsimp only; omega) (by show (1:Int).natAbs≤200; decide) (by show (-1:Int).natAbs≤200; decide) (.inl (lk_y fun l=>by have:=l.1; revert this; show ¬ (1:Int)≤-1; decide))
 ·exact od_no (fun t e=>by unfold stD frD at e; injection e with e; injection e with _ e; injection e with _ e; injection e with e _; injection e with e; injection e with e _; cases e) rfl
theorem run_at:∀ {ss:List Stp} {row:List Int} {h:Nat} {s:Stp},RunS row ss→ss[h]?=some s→RunS row (ss.take h)∧StQ s∧nbOk (fnR row (ss.take h)) s
 | [],_,_,_,_,e=>by cases e
 | t :: ss,row,0,s,⟨a,b,_,_⟩,e=>by cases e; exact ⟨True.intro,a,b⟩
 | t :: ss,row,h + 1,s,⟨a,b,c,d⟩,e=>by
  obtain ⟨x,y,z⟩:=run_at (h:=h) d e
  exact ⟨⟨a,b,c,x⟩,y,z⟩
theorem fn_len:∀ (ss:List Stp) (row:List Int),(fnR row ss).length=row.length
 | [],_=>rfl
 | s :: ss,row=>by show (fnR (spF row s) ss).length=_; rw [fn_len ss,sp_len]
theorem bad_run {row:List Int} {s1:List Stp} {o:PyData} {rest:List PyData} (h:RQ row) (g:RunS row s1) (ho:lkD ⟨o⟩=false∨∃ t:Stp,o=stD t∧Low t.x∧Low t.y∧¬ nbOk (fnR row s1) t):runP row (.list (s1.map stD ++ o :: rest))=none∧lwA row ⟨.list (s1.map stD ++ o :: rest)⟩=none:=by
 have e:lwA row ⟨.list (s1.map stD ++ o :: rest)⟩=lwL (fnR row s1) (o :: rest):=lw_pre h g
 rw [e]
 rcases ho with q | ⟨t,rfl,lx,ly,nb⟩
 ·refine ⟨run_no ?_,?_⟩
  ·rw [List.map_append,List.all_append,List.map_cons,List.all_cons,q]
   simp
  ·show (match lwO (fnR row s1) ⟨o⟩ with | none=>none | some r=>lwL r rest)=none
   rw [show lwO (fnR row s1) ⟨o⟩=none from if_neg (by rw [q]; decide)]
 ·refine ⟨?_,?_⟩
  ·cases q:((s1.map stD ++ stD t :: rest).map Dt.mk).all lkD with
   | false=>exact run_no q
   | true =>
    obtain ⟨us,e2,_⟩:=lks q
    rw [e2] at q ⊢
    rw [run_st q]
    obtain ⟨tl,rfl⟩:∃ tl,us=s1 ++ t :: tl:=by
     have e3:=congrArg (List.map stE) e2
     have e4:(us.map stD).map stE=us:=by rw [List.map_map]; exact List.map_id' us
     rw [e4,List.map_append,List.map_cons] at e3
     have e5:(s1.map stD).map stE=s1:=by rw [List.map_map]; exact List.map_id' s1
     rw [e5] at e3
     exact ⟨_,e3.symm⟩
    rw [rn_pre g.good,rn,if_neg nb]
  ·rw [lwL_st lx ly,show lwS (fnR row s1) t=none from if_neg fun z=>nb z.1]
theorem lk_low {t:Stp} (h:lkD ⟨stD t⟩=true):Low t.x∧Low t.y:=by
 obtain ⟨u,e,a,b⟩:=lk_st h
 rw [stD_inj e]
 exact ⟨a,b⟩
theorem sz_of {s:Stp} (h:StQ s):Sm 20 s.x.1∧Sm 20 s.x.2∧Sm 20 s.y.1∧Sm 20 s.y.2:=⟨h.xy.1.2.1,h.xy.1.2.2,h.xy.2.2.1,h.xy.2.2.2⟩
theorem kd_st {us:List Stp} (hl:us.length≤1000) (h:∀ s∈us,StQ s):Kd (.list (us.map stD)):=fun ds e=>by
 cases e
 refine ⟨by rw [List.length_map]; exact hl,fun s hs=>?_⟩
 obtain ⟨t,ht,e⟩:=List.mem_map.mp hs
 rw [← stD_inj e]
 exact sz_of (h t ht)
theorem sp_all {row:List Int} {ss:List Stp} {d:Dt} (h:RQ row) (g:RunS row ss) (hl:ss.length≤3) (hd:SpP ss d):SpA row d.d∧Kd d.d:=by
 obtain ⟨d⟩:=d
 have r8:=isRow_len h.1
 rcases hd with ⟨hh,s,o,es,ho,e⟩ | ⟨hh,hlt,e⟩ | e
 ·have e':d=_:=e
  subst e'
  obtain ⟨g1,sq,ok⟩:=run_at g es
  have hR:=run_rq _ _ h g1
  obtain ⟨z1,z2⟩:=odd_ok sq ok.1.2.1 (by omega) o ho
  refine ⟨.inr (bad_run h g1 ?_),fun ds e=>?_⟩
  ·cases q:lkD ⟨o⟩ with
   | false=>exact .inl rfl
   | true =>
    rw [q] at z2
    rcases z2 with z2 | ⟨t,rfl,z2⟩
    ·cases z2
    ·obtain ⟨lx,ly⟩:=lk_low q
     refine .inr ⟨t,rfl,lx,ly,?_⟩
     rcases z2 with z | z | z
     ·exact fun w=>by have:=w.1.2.1; omega
     ·exact fun w=>by have:=w.1.2.2; rw [fn_len] at this; omega
     ·exact one_more hR sq ok z lx
  ·cases e
   refine ⟨?_,fun t ht=>?_⟩
   ·rw [List.length_append,List.length_cons,List.length_map,List.length_map,List.length_take,List.length_drop]
    omega
   ·rcases List.mem_append.mp ht with w | w
    ·obtain ⟨u,hu,e⟩:=List.mem_map.mp w
     rw [← stD_inj e]
     exact sz_of (g.st u (List.mem_of_mem_take hu))
    ·rcases List.mem_cons.mp w with w | w
     ·exact z1 t w.symm
     ·obtain ⟨u,hu,e⟩:=List.mem_map.mp w
      rw [← stD_inj e]
      exact sz_of (g.st u (List.mem_of_mem_drop hu))
 ·have e':d=_:=e
  subst e'
  obtain ⟨s,es⟩:∃ s,ss[hh]?=some s:=⟨_,List.getElem?_eq_getElem hlt⟩
  obtain ⟨g1,_,_⟩:=run_at g es
  refine ⟨.inl ⟨_,_,rfl,g1,fun s hs=>g.st s (List.mem_of_mem_drop hs),?_⟩,kd_st ?_ fun s hs=>?_⟩
  ·rw [List.length_drop]; omega
  ·rw [List.length_append,List.length_take,List.length_drop]; omega
  ·rcases List.mem_append.mp hs with w | w
   ·exact g.st s (List.mem_of_mem_take w)
   ·exact g.st s (List.mem_of_mem_drop w)
 ·have e':d∈six71 ss:=e
  unfold six71 at e'
  simp only [List.mem_cons,List.not_mem_nil,or_false] at e'
  have one:∀ {o:PyData},(∀ t:Stp,o≠stD t)→lkD ⟨o⟩=false→SpA row (.list [o])∧Kd (.list [o]):=fun {o} z1 z2=>⟨.inr (bad_run (s1:=[]) (rest:=[]) h True.intro (.inl z2)),fun ds e=>by
   cases e
   exact ⟨by show 1≤1000; decide,fun t ht=>absurd (List.mem_singleton.mp ht).symm (z1 t)⟩⟩
  rcases e' with rfl | rfl | rfl | rfl | rfl | rfl
  ·exact ⟨.inr ⟨rfl,rfl⟩,fun ds e=>by cases e⟩
  ·exact ⟨.inr ⟨rfl,rfl⟩,fun ds e=>by cases e⟩
  ·exact one (fun t e=>by unfold stD at e; cases e) rfl
  ·exact one (fun t e=>by unfold stD at e; injection e with e; cases e) rfl
  ·exact one (fun t e=>by unfold stD frD at e; injection e with e; injection e with _ e; injection e with _ e; injection e with _ e; cases e) rfl
  ·have l1:=low_11 1
   refine ⟨.inr (bad_run (s1:=[]) (rest:=[]) h True.intro (.inr ⟨⟨0,0,(1,1),(1,1)⟩,rfl,l1,l1,fun w=>by have:=w.1.2.1; revert this; show ¬ (0:Int) < 0; decide⟩)),fun ds e=>?_⟩
   cases e
   refine ⟨by show 1≤1000; decide,fun t ht=>?_⟩
   have e2:stD t=stD ⟨0,0,(1,1),(1,1)⟩:=List.mem_singleton.mp ht
   rw [stD_inj e2]
   exact ⟨by show (1:Int).natAbs < 2 ^ 20; decide,by show (1:Int).natAbs < 2 ^ 20; decide,by show (1:Int).natAbs < 2 ^ 20; decide,by show (1:Int).natAbs < 2 ^ 20; decide⟩
theorem st_ok (s:Stp):(stD s).canLay0=true∧(stD s).depth≤2∧PyData.eqv (stD s) (stD s)=true:=by
 refine ⟨?_,?_,?_⟩
 ·simp [stD,frD,PyData.canLay0,PyData.canLayAll0]
 ·simp [stD,frD,PyData.depth,PyData.depthAll]
 ·simp [stD,frD,PyData.eqv,PyData.eqvAll]
theorem sts_ok:∀ ss:List Stp,PyData.canLayAll0 ((ss.map stK).map Dt.d)=true∧PyData.depthAll ((ss.map stK).map Dt.d)≤3∧PyData.eqvAll ((ss.map stK).map Dt.d) ((ss.map stK).map Dt.d)=true
 | []=>⟨by simp [PyData.canLayAll0],by simp [PyData.depthAll],by simp [PyData.eqvAll]⟩
 | s :: ss=>by
  obtain ⟨a1,a2,a3⟩:=st_ok s
  obtain ⟨b1,b2,b3⟩:=sts_ok ss
  refine ⟨?_,?_,?_⟩
  ·show PyData.canLayAll0 (stD s :: (ss.map stK).map Dt.d)=true
   rw [PyData.canLayAll0,a1,b1]; rfl
  ·show PyData.depthAll (stD s :: (ss.map stK).map Dt.d)≤3
   rw [PyData.depthAll]; omega
  ·show PyData.eqvAll (stD s :: (ss.map stK).map Dt.d) (stD s :: (ss.map stK).map Dt.d)=true
   rw [PyData.eqvAll,a3,b3]; rfl
theorem sts_lay (ss:List Stp):(PyData.list ((ss.map stK).map Dt.d)).canLay0=true:=by rw [PyData.canLay0]; exact (sts_ok ss).1
theorem sts_dep (ss:List Stp):(PyData.list ((ss.map stK).map Dt.d)).depth≤60:=by have:=(sts_ok ss).2.1; simp only [PyData.depth]; omega
theorem sts_ne (s:Stp) (ss:List Stp):PyData.eqv (.list (((s :: ss).map stK).map Dt.d)) (.list ((([]:List Stp).map stK).map Dt.d))=false:=by
 show PyData.eqv (.list (stD s :: (ss.map stK).map Dt.d)) (.list [])=false
 rw [PyData.eqv,PyData.eqvAll]
theorem e_sd (ss:List Stp):(ss.map stK).map Dt.d=ss.map stD:=by rw [List.map_map]; rfl
theorem ea_w {X:Cx} {Γ:GEnv} {α:Type} [Py α] {e:Expr} {es:List Expr} {b:Bool} {a:α} {as:List α} (h:E X Γ e b a) (h':EA X Γ es false as) (hs:starEach (e :: es) X.env=(false,eval e X.env) :: starEach es X.env:=by rfl):EA X Γ (e :: es) false (a :: as):=ea_cons (_root_.L2.EP.E.wk (b':=false) h (fun z=>nomatch z)) h' hs
set_option maxHeartbeats 4000000 in
include B in
theorem b_law_spoilt (ds:List Dt) (c:Int) (ss:List Stp) (e:ds=ss.map stK) (hl:ss.length≤3):Body P w K mg base N_law_spoilt "_law_spoilt" s_law_spoilt f kk [.val false ds,.val false c] (RTE false (fun (d:Dt)=>∃ ss:List Stp,ds=ss.map stK∧SpP ss d)):=by
 intro cdv A outer sh H E hr
 subst e
 have z14:=fmod_pos (a:=c) (b:=14) (by decide)
 have z6:=fmod_pos (a:=c.fdiv 14) (b:=6) (by decide)
 refine s_asg 2 sc_law_spoilt.nd (e_mod (e_var 1) e_int (by decide)) ?_
 have hmx:(if ((ss.map stK).length:Int) > 1 then ((ss.map stK).length:Int) else 1)≠0:=by split <;> omega
 refine s_asg 3 sc_law_spoilt.nd (e_mod (e_fdiv (e_var 1) e_int cdK) (e_max rfl rfl B.max e_int (e_lenL rfl B.len (e_var 0))) hmx) ?_
 have zh:=fmod_pos (a:=c.fdiv 14) (b:=(if ((ss.map stK).length:Int) > 1 then ((ss.map stK).length:Int) else 1)) (by split <;> omega)
 generalize hh:(c.fdiv 14).fmod (if ((ss.map stK).length:Int) > 1 then ((ss.map stK).length:Int) else 1)=h at *
 have eqe:∀ ss:List Stp,PyData.eqv (.list ((ss.map stK).map Dt.d)) (.list ((([]:List Stp).map stK).map Dt.d))=decide (ss=[]):=fun ss=>by
  cases ss with
  | nil=>rw [decide_eq_true rfl]; exact (by rw [PyData.eqv]; exact (sts_ok []).2.2)
  | cons s ss=>rw [sts_ne,decide_eq_false (by simp)]
 refine s_if1 (TW.t (tw_or (t_cmp (cv_eqD (hu60 hr) (sts_lay ss) (sts_lay []) (sts_dep ss)) (e_dL (e_var 0)) (e_dL (ds:=[]) (e_lst (b:=true) ea_nil (by decide)))) fun _=>(tw_or1 (t_cmp cv_eqI (e_var 2) e_int)))) (fun hc=>?_) (fun hc=>?_)
 ·have g6:=atGetA (d:=Dt.mk .none) (l:=(six71 ss).map Dt.mk) (i:=(c.fdiv 14).fmod 6) (n:=6) z6.1 z6.2 rfl
  refine s_ret (e_ixL (a:=((six71 ss).map Dt.mk).getD ((c.fdiv 14).fmod 6).toNat ⟨.none⟩) (e_lst (as:=(six71 ss).map Dt.mk) (b:=false) (ea_cons (e_eq (e_tupleD rfl B.tuple (e_var 0)) (by rw [e_sd])) (ea_w (e_dN e_non) (ea_w (e_dL (ds:=[⟨.none⟩]) (e_lst (b:=true) (ea_cons (e_dN e_non) ea_nil) (Nat.le_of_ble_eq_true rfl))) (ea_w (e_dL (ds:=[⟨.tuple []⟩]) (e_lst (b:=true) (ea_cons (e_tupD (b:=true) (ds:=[]) ea_nil (Nat.le_of_ble_eq_true rfl)) ea_nil) (Nat.le_of_ble_eq_true rfl))) (ea_w (e_dL (ds:=[⟨.tuple [.int 0,.int 1,frD (1,1)]⟩]) (e_lst (b:=true) (ea_cons (e_tupD (b:=true) (ds:=[⟨.int 0⟩,⟨.int 1⟩,⟨frD (1,1)⟩]) (ea_cons (e_dI e_int) (ea_cons (e_dI e_int) (ea_cons (e_dFr (u:=(1,1)) (e_up (e_tup2 e_int e_int))) ea_nil))) (Nat.le_of_ble_eq_true rfl)) ea_nil) (Nat.le_of_ble_eq_true rfl))) (ea_w (e_dL (ds:=[⟨.tuple [.int 0,.int 0,frD (1,1),frD (1,1)]⟩]) (e_lst (b:=true) (ea_cons (e_tupD (b:=true) (ds:=[⟨.int 0⟩,⟨.int 0⟩,⟨frD (1,1)⟩,⟨frD (1,1)⟩]) (ea_cons (e_dI e_int) (ea_cons (e_dI e_int) (ea_cons (e_dFr (u:=(1,1)) (e_up (e_tup2 e_int e_int))) (ea_cons (e_dFr (u:=(1,1)) (e_up (e_tup2 e_int e_int))) ea_nil)))) (Nat.le_of_ble_eq_true rfl)) ea_nil) (Nat.le_of_ble_eq_true rfl))) ea_nil)))))) (by show 6≤1000; decide)) (e_mod (e_fdiv (e_var 1) e_int cdK) e_int (by decide)) g6) ⟨_,⟨ss,rfl,.inr (.inr ?_)⟩,rfl⟩
  have hm:((six71 ss).map Dt.mk).getD ((c.fdiv 14).fmod 6).toNat ⟨.none⟩∈(six71 ss).map Dt.mk:=_root_.EP.getD_mem (by show _ < 6; omega)
  obtain ⟨x,hx,e⟩:=List.mem_map.mp hm
  rw [← e]
  exact hx
 have hne:ss≠[]∧c.fmod 14≠0:=by
  rw [eqe] at hc
  simpa using hc
 have l0:0 < ss.length:=by have:=hne.1; cases ss with | nil=>exact absurd rfl this | cons s ss=>simp
 have hlt:h.toNat < ss.length:=by
  rw [List.length_map] at zh
  split at zh <;> omega
 obtain ⟨s,es⟩:∃ s,ss[h.toNat]?=some s:=⟨_,List.getElem?_eq_getElem hlt⟩
 have gs:atI (ss.map stK) h=some (stK s):=by
  unfold atI ixN
  rw [if_pos zh.1,if_pos (by rw [List.length_map]; omega)]
  show (ss.map stK)[h.toNat]?=_
  rw [List.getElem?_map,es]
  rfl
 refine s_asg4 4 5 6 7 sc_law_spoilt.nd (u:=s) (e_ixL (a:=stK s) (e_var 0) (e_var 3) gs) ?_
 refine s_ownL 8 (b:=true) (as:=((odd71 s ss.length).take 6).map Dt.mk) sc_law_spoilt.nd (ea_cons (e_tupD (b:=true) (ds:=[⟨.int s.j⟩,⟨.int s.i⟩,⟨frD s.x⟩,⟨frD s.y⟩]) (ea_cons (e_dI (e_up (e_var 5))) (ea_cons (e_dI (e_up (e_var 4))) (ea_cons (e_dFr (u:=s.x) (e_up (e_var 6))) (ea_cons (e_dFr (u:=s.y) (e_up (e_var 7))) ea_nil)))) (Nat.le_of_ble_eq_true rfl)) (ea_cons (e_tupD (b:=true) (ds:=[⟨.int s.i⟩,⟨.int s.j⟩,⟨.int s.x.1⟩,⟨frD s.y⟩]) (ea_cons (e_dI (e_up (e_var 4))) (ea_cons (e_dI (e_up (e_var 5))) (ea_cons (e_dI (e_up (e_fst (e_var 6)))) (ea_cons (e_dFr (u:=s.y) (e_up (e_var 7))) ea_nil)))) (Nat.le_of_ble_eq_true rfl)) (ea_cons (e_tupD (b:=true) (ds:=[⟨.bool true⟩,⟨.int s.j⟩,⟨frD s.x⟩,⟨frD s.y⟩]) (ea_cons (e_dB e_bl) (ea_cons (e_dI (e_up (e_var 5))) (ea_cons (e_dFr (u:=s.x) (e_up (e_var 6))) (ea_cons (e_dFr (u:=s.y) (e_up (e_var 7))) ea_nil)))) (Nat.le_of_ble_eq_true rfl)) (ea_cons (e_tupD (b:=true) (ds:=[⟨.int s.i⟩,⟨.int s.j⟩,⟨frD s.x⟩,⟨.none⟩]) (ea_cons (e_dI (e_up (e_var 4))) (ea_cons (e_dI (e_up (e_var 5))) (ea_cons (e_dFr (u:=s.x) (e_up (e_var 6))) (ea_cons (e_dN e_non) ea_nil)))) (Nat.le_of_ble_eq_true rfl)) (ea_cons (e_dL (ds:=[Dt.mk (.int s.i),Dt.mk (.int s.j),Dt.mk (frD s.x),Dt.mk (frD s.y)]) (e_lst (b:=true) (as:=[Dt.mk (.int s.i),Dt.mk (.int s.j),Dt.mk (frD s.x),Dt.mk (frD s.y)]) (ea_cons (e_dI (e_up (e_var 4))) (ea_cons (e_dI (e_up (e_var 5))) (ea_cons (e_dFr (u:=s.x) (e_up (e_var 6))) (ea_cons (e_dFr (u:=s.y) (e_up (e_var 7))) ea_nil)))) (Nat.le_of_ble_eq_true rfl))) (ea_cons (e_tupD (b:=true) (ds:=[⟨.int s.i⟩,⟨.int s.j⟩,⟨frD s.x⟩]) (ea_cons (e_dI (e_up (e_var 4))) (ea_cons (e_dI (e_up (e_var 5))) (ea_cons (e_dFr (u:=s.x) (e_up (e_var 6))) ea_nil))) (Nat.le_of_ble_eq_true rfl)) ea_nil)))))) (Nat.le_of_ble_eq_true rfl) ?_
 refine s_append 8 (a:=Dt.mk (.tuple [.int s.i,.int ((ss.length:Int) + 8),frD s.x,frD s.y])) rfl (e_tupD (b:=true) (ds:=[⟨.int s.i⟩,⟨.int ((ss.length:Int) + 8)⟩,⟨frD s.x⟩,⟨frD s.y⟩]) (ea_cons (e_dI (e_up (e_var 4))) (ea_cons (e_dI (e_eq (a':=(ss.length:Int) + 8) (e_add (e_lenL rfl B.len (e_var 0)) e_int) (by rw [List.length_map]))) (ea_cons (e_dFr (u:=s.x) (e_up (e_var 6))) (ea_cons (e_dFr (u:=s.y) (e_up (e_var 7))) ea_nil)))) (Nat.le_of_ble_eq_true rfl)) (Nat.le_of_ble_eq_true rfl) ?_
 refine s_freeze 8 rfl ?_
 refine s_asg 8 sc_law_spoilt.nd (e_cat (e_var 8) (e_lst (as:=[Dt.mk (.tuple [.int s.i,.int s.j,frD (s.x.1,s.x.2 + 1),frD s.y]),Dt.mk (.tuple [.int s.i,.int s.j,frD (2 * s.x.1,2 * s.x.2),frD s.y]),Dt.mk (.tuple [.int s.i,.int s.j,frD (s.x.1,0),frD s.y])]) (b:=true) (ea_cons (e_tupD (b:=true) (ds:=[⟨.int s.i⟩,⟨.int s.j⟩,⟨frD (s.x.1,s.x.2 + 1)⟩,⟨frD s.y⟩]) (ea_cons (e_dI (e_up (e_var 4))) (ea_cons (e_dI (e_up (e_var 5))) (ea_cons (e_dFr (u:=(s.x.1,s.x.2 + 1)) (e_up (e_tup2 (e_fst (e_var 6)) (e_add (e_snd (e_var 6)) e_int)))) (ea_cons (e_dFr (u:=s.y) (e_up (e_var 7))) ea_nil)))) (Nat.le_of_ble_eq_true rfl)) (ea_cons (e_tupD (b:=true) (ds:=[⟨.int s.i⟩,⟨.int s.j⟩,⟨frD (2 * s.x.1,2 * s.x.2)⟩,⟨frD s.y⟩]) (ea_cons (e_dI (e_up (e_var 4))) (ea_cons (e_dI (e_up (e_var 5))) (ea_cons (e_dFr (u:=(2 * s.x.1,2 * s.x.2)) (e_up (e_tup2 (e_mul e_int (e_fst (e_var 6)) (mulL (by decide) (by decide))) (e_mul e_int (e_snd (e_var 6)) (mulL (by decide) (by decide)))))) (ea_cons (e_dFr (u:=s.y) (e_up (e_var 7))) ea_nil)))) (Nat.le_of_ble_eq_true rfl)) (ea_cons (e_tupD (b:=true) (ds:=[⟨.int s.i⟩,⟨.int s.j⟩,⟨frD (s.x.1,0)⟩,⟨frD s.y⟩]) (ea_cons (e_dI (e_up (e_var 4))) (ea_cons (e_dI (e_up (e_var 5))) (ea_cons (e_dFr (u:=(s.x.1,0)) (e_up (e_tup2 (e_fst (e_var 6)) e_int))) (ea_cons (e_dFr (u:=s.y) (e_up (e_var 7))) ea_nil)))) (Nat.le_of_ble_eq_true rfl)) ea_nil))) (by show 3≤1000; decide)) (Nat.le_of_ble_eq_true rfl)) ?_
 refine s_asg 8 sc_law_spoilt.nd (e_cat (e_var 8) (e_lst (as:=[Dt.mk (.tuple [.int s.i,.int s.j,frD s.x,frD (1,-1)]),Dt.mk (.tuple [.int s.i,.int s.j,.tuple [.bool true,.int 1],frD s.y])]) (b:=true) (ea_cons (e_tupD (b:=true) (ds:=[⟨.int s.i⟩,⟨.int s.j⟩,⟨frD s.x⟩,⟨frD (1,-1)⟩]) (ea_cons (e_dI (e_up (e_var 4))) (ea_cons (e_dI (e_up (e_var 5))) (ea_cons (e_dFr (u:=s.x) (e_up (e_var 6))) (ea_cons (e_dFr (u:=(1,-1)) (e_up (e_tup2 e_int (e_neg e_int)))) ea_nil)))) (Nat.le_of_ble_eq_true rfl)) (ea_cons (e_tupD (b:=true) (ds:=[⟨.int s.i⟩,⟨.int s.j⟩,⟨.tuple [.bool true,.int 1]⟩,⟨frD s.y⟩]) (ea_cons (e_dI (e_up (e_var 4))) (ea_cons (e_dI (e_up (e_var 5))) (ea_cons (e_tupD (b:=true) (ds:=[⟨.bool true⟩,⟨.int 1⟩]) (ea_cons (e_dB e_bl) (ea_cons (e_dI e_int) ea_nil)) (Nat.le_of_ble_eq_true rfl)) (ea_cons (e_dFr (u:=s.y) (e_up (e_var 7))) ea_nil)))) (Nat.le_of_ble_eq_true rfl)) ea_nil)) (by show 2≤1000; decide)) (Nat.le_of_ble_eq_true rfl)) ?_
 show S _ [some (.val false (ss.map stK)),some (.val false c),some (.val true (c.fmod 14)),some (.val true h),some (.val false s.i),some (.val false s.j),some (.val false s.x),some (.val false s.y),some (.val true ((odd71 s ss.length).map Dt.mk))] _ _
 have ht:((ss.map stK).take h.toNat).map Dt.d=(ss.take h.toNat).map stD:=by rw [← List.map_take,e_sd]
 have hd:((ss.map stK).drop (h + 1).toNat).map Dt.d=(ss.drop (h.toNat + 1)).map stD:=by rw [← List.map_drop,e_sd,show (h + 1).toNat=h.toNat + 1 by omega]
 have lt':((ss.map stK).take h.toNat).length≤3:=by rw [List.length_take,List.length_map]; omega
 have ld':((ss.map stK).drop (h + 1).toNat).length≤3:=by rw [List.length_drop,List.length_map]; omega
 refine s_if1 (t_cmp cv_lt (e_var 2) e_int) (fun hc=>?_) (fun hc=>?_)
 ·have hb:c.fmod 14 < 13:=by simpa using hc
  have go:=atGetA (d:=⟨.none⟩) (l:=(odd71 s ss.length).map Dt.mk) (i:=c.fmod 14 - 1) (n:=12) (by omega) (by omega) rfl
  obtain ⟨o,ho,eo⟩:=List.mem_map.mp (show ((odd71 s ss.length).map Dt.mk).getD (c.fmod 14 - 1).toNat ⟨.none⟩∈(odd71 s ss.length).map Dt.mk from _root_.EP.getD_mem (by show _ < 12; omega))
  rw [← eo] at go
  refine s_ret (e_dL (e_catF (e_catF (e_to (e_var 0) (e_var 3) zh.1) (e_lst (as:=[Dt.mk o]) (b:=true) (ea_cons (e_ixL (e_var 8) (e_sub (e_var 2) e_int) go) ea_nil) (by show 1≤1000; decide)) (by show _ + 1≤1000; omega)) (e_from (e_var 0) (e_add (e_var 3) e_int) (by omega)) (by rw [List.length_append]; show _ + 1 + _≤1000; omega))) ⟨_,⟨ss,rfl,.inl ⟨h.toNat,s,o,es,ho,?_⟩⟩,rfl⟩
  show PyData.list _=_
  rw [List.map_append,List.map_append,ht,hd,List.append_assoc]
  rfl
 ·refine s_ret (e_dL (e_catF (e_to (e_var 0) (e_var 3) zh.1) (e_from (e_var 0) (e_add (e_var 3) e_int) (by omega)) (by omega))) ⟨_,⟨ss,rfl,.inr (.inl ⟨h.toNat,hlt,?_⟩)⟩,rfl⟩
  show PyData.list _=_
  rw [List.map_append,ht,hd,List.map_append]
open _root_.EP (exA exT dgR ledF)
def PaQ (row:List Int):Prop:=isRow row=true∧∀ x∈row,x.natAbs≤210
theorem gsA {α:Type} {d:α} {l:List α} {i:Nat} (h:i < l.length):l[i]?=some (l.getD i d):=by
 rw [List.getD_eq_getElem?_getD,List.getElem?_eq_getElem h]
 rfl
theorem isRow_mk {r:List Int} (h1:1≤r.length) (h8:r.length≤8) (h:∀ x∈r,x≠0∧x.natAbs < 1073741824):isRow r=true:=by
 unfold isRow
 rw [decide_eq_true ⟨h1,h8⟩,Bool.true_and,List.all_eq_true]
 intro k hk
 unfold irn
 exact decide_eq_true (h k hk)
theorem tb_is {n:Nat} {T:Tb} (h:Sq n T):isTbD ⟨tbL T⟩ (n:Int)=true:=by
 show (decide (((T.map fun r=>PyData.list (r.map frD)).length:Int)=(n:Int)) && ((T.map fun r=>PyData.list (r.map frD)).map Dt.mk).all (fun e=>isVcD e n))=true
 rw [List.length_map,h.len,decide_eq_true rfl,Bool.true_and,List.all_eq_true]
 intro x hx
 obtain ⟨e,he,rfl⟩:=List.mem_map.mp hx
 obtain ⟨r,hr,rfl⟩:=List.mem_map.mp he
 show (decide (((r.map frD).length:Int)=(n:Int)) && ((r.map frD).map Dt.mk).all isFrD)=true
 rw [List.length_map,h.row r hr,decide_eq_true rfl,Bool.true_and,List.all_eq_true]
 intro y hy
 obtain ⟨d,hd,rfl⟩:=List.mem_map.mp hy
 obtain ⟨u,hu,rfl⟩:=List.mem_map.mp hd
 exact low_isFr (h.low r hr u hu)
theorem pl_mem {n:Nat} {r:List Fr} {u:Fr} (hr:r∈plT n) (hu:u∈r):u=(1,1)∨u=(0,1):=by
 obtain ⟨i,_,rfl⟩:=List.mem_map.mp hr
 obtain ⟨j,_,rfl⟩:=List.mem_map.mp hu
 split
 ·exact .inl rfl
 ·exact .inr rfl
theorem ex_mem {n m:Nat} {t:Int} {r:List Fr} {u:Fr} (hm:m < n) (hr:r∈exT n m t) (hu:u∈r):u=(1,1)∨u=(0,1)∨u=(1,t):=by
 have p:=_root_.EP.plT_sq n
 have mem:∀ r∈exA n m,r∈plT n:=fun r hr=>by
  rcases List.mem_or_eq_of_mem_set hr with z | z
  ·rcases List.mem_or_eq_of_mem_set z with z | z
   ·exact z
   ·rw [z]; exact _root_.EP.getD_mem (by rw [p.len]; exact hm)
  ·rw [z]; exact _root_.EP.getD_mem (by rw [p.len]; omega)
 rcases List.mem_or_eq_of_mem_set hr with z | z
 ·rcases pl_mem (mem r z) hu with w | w
  ·exact .inl w
  ·exact .inr (.inl w)
 ·rw [z] at hu
  rcases List.mem_or_eq_of_mem_set hu with w | w
  ·rcases pl_mem (mem _ (_root_.EP.getD_mem (by rw [(_root_.EP.exA_sq hm).len]; exact hm))) w with w | w
   ·exact .inl w
   ·exact .inr (.inl w)
  ·exact .inr (.inr w)
theorem frD_in {u v:Fr} (e:frD u=frD v):u=v:=by
 unfold frD at e
 injection e with e
 injection e with e1 e
 injection e with e2 e
 injection e1 with e1
 injection e2 with e2
 exact Prod.ext e1 e2
theorem ex_tk {n m:Nat} {t:Int} (hm:m < n) (n8:n≤8) (t1:1≤t) (t3:t≤3):TK n (tbL (exT n m t)):=by
 have sq:=(_root_.EP.exT_ok hm t1).sq
 refine ⟨(PyD.eqv (exT n m t) (exT n m t)).mpr rfl,PyD.lay (α:=Tb) (exT n m t),Nat.le_trans (PyD.depth (α:=Tb) (exT n m t)) (by decide),fun ds e=>?_⟩
 have e':(exT n m t).map (fun r=>PyData.list (r.map frD))=ds:=by injection e
 subst e'
 refine ⟨by rw [List.length_map,sq.len]; omega,fun x hx=>?_⟩
 obtain ⟨r,hr,rfl⟩:=List.mem_map.mp hx
 refine ⟨_,rfl,by rw [List.length_map]; exact sq.row r hr,fun u hu=>?_⟩
 obtain ⟨v,hv,ev⟩:=List.mem_map.mp hu
 rw [← frD_in ev]
 rcases ex_mem hm hr hv with w | w | w <;> rw [w]
 ·exact ⟨by show (1:Int).natAbs < 2 ^ 200; decide,by show (1:Int).natAbs < 2 ^ 50; decide⟩
 ·exact ⟨by show (0:Int).natAbs < 2 ^ 200; decide,by show (1:Int).natAbs < 2 ^ 50; decide⟩
 ·exact ⟨by show (1:Int).natAbs < 2 ^ 200; decide,by show t.natAbs < 2 ^ 50; omega⟩
theorem le_yes {b o:List Int} {T:Tb} (ho:isRow o=true) (hl:o.length=b.length) (sq:Sq b.length T) (h:ledF (dgR b) T=dgR o):leF b ⟨.list (o.map .int)⟩ ⟨tbL T⟩=true:=by
 unfold leF
 rw [row_to,ho,tb_is sq]
 show (true && (decide ((inD (.list (o.map .int))).length=b.length) && (true && decide (ledF (forRow b) (tbD (tbL T))=forRow (inD (.list (o.map .int)))))))=true
 rw [inD_L,tbD_L,decide_eq_true hl,decide_eq_true (show ledF (forRow b) T=forRow o from h)]
 rfl
theorem le_no {b o:List Int} {T:Tb} (h:¬ ledF (dgR b) T=dgR o):leF b ⟨.list (o.map .int)⟩ ⟨tbL T⟩=false:=by
 unfold leF
 show (_ && (_ && (_ && decide (ledF (forRow b) (tbD (tbL T))=forRow (inD (.list (o.map .int)))))))=false
 rw [inD_L,tbD_L,decide_eq_false (show ¬ ledF (forRow b) T=forRow o from h)]
 simp
theorem ln_int {o:List Int} (h:o.length≤1000):Ln (.list (o.map PyData.int)):=fun ds e=>by cases e; rw [List.length_map]; exact h
def cd71 (n:Int) (d:Dt):Bool:=match d.d with
 | .int k=>decide (0≤k) && decide (k≤n.fdiv 2)
 | _=>false
theorem cd_no {n:Int} {d:Dt} (h:whD d=false):cd71 n d=false:=by
 obtain ⟨d⟩:=d
 cases d <;> first | rfl | cases h
theorem cd_yes {n:Int} {d:Dt} (h:cd71 n d=true):∃ k,d=Dt.mk (.int k)∧0≤k∧k≤n.fdiv 2:=by
 obtain ⟨d⟩:=d
 cases d with
 | int k =>
  have h':(decide (0≤k) && decide (k≤n.fdiv 2))=true:=h
  rw [Bool.and_eq_true,decide_eq_true_iff,decide_eq_true_iff] at h'
  exact ⟨k,rfl,h'⟩
 | _=>cases h
def td71 (k:Int):List Dt:=[⟨.int 0⟩,⟨.int 1⟩,⟨.int 2⟩,⟨.int (-1)⟩,⟨.int k⟩,⟨.bool true⟩,⟨.none⟩]
set_option maxHeartbeats 4000000 in
include B in
theorem b_law_pairs (c_law_plain:Cal P w K mg base 1 "_law_plain" ["_law_many"] (sp1 K (fun n=>(0:Int)≤n∧n≤8) true plTO)) (c_law_wholeD:Cal P w K mg base 1 "_law_whole" ["_law_found"] (sp1 K (fun (_:Dt)=>True) true whD)) (c_law_lets:Cal P w K mg base 13 "_law_lets" ["_law_row_here","_law_paper"] (sp2 K PLm true lmF))
  (row:List Int) (c:Int) (hq:PaQ row):Body P w K mg base N_law_pairs "_law_pairs" s_law_pairs f 13 [.val false row,.val false c] (RT true true):=by
 intro cdv A outer sh H E hr
 obtain ⟨hR,hx⟩:=hq
 obtain ⟨n1,n8⟩:=isRow_len hR
 have zh:=fmod_pos (a:=c) (b:=(row.length:Int)) (by omega)
 have z3:=fmod_pos (a:=c.fdiv 64) (b:=3) (by decide)
 refine s_asg 2 sc_law_pairs.nd (e_lenL rfl B.len (e_var 0)) ?_
 refine s_asg 3 sc_law_pairs.nd (e_mod (e_var 1) (e_var 2) (by omega)) ?_
 refine s_deep 4 sc_law_pairs.nd (en_call1 c_law_plain (hr.mono (by decide)) rfl (e_var 2) ⟨by omega,by omega⟩) ?_
 generalize c.fmod (row.length:Int)=h at *
 have hN:h.toNat < row.length:=by omega
 have ez:plTz (row.length:Int)=plT row.length:=by unfold plTz; rw [Int.toNat_natCast]
 have sp:=_root_.EP.plT_sq row.length
 show S _ [some (.val false row),some (.val false c),some (.val true (row.length:Int)),some (.val true h),some (.dpo (TbO.mk (plTz (row.length:Int)))),none,none,none,none,none,none] _ _
 rw [ez]
 have r0:(plT row.length)[(0:Int).toNat]?=some ((plT row.length).getD 0 []):=gsA (d:=[]) (by rw [sp.len]; show 0 < _; omega)
 have rh:(plT row.length)[h.toNat]?=some ((plT row.length).getD h.toNat []):=gsA (d:=[]) (by rw [sp.len]; exact hN)
 refine s_swapA 4 (rows:=plT row.length) (rk:=(plT row.length).getD 0 []) (rl:=(plT row.length).getD h.toNat []) (k:=0) (l:=h) rfl e_int e_int (e_var 3) (fun y=>e_var 3) (by decide) zh.1 r0 rh ?_
 show S _ [some (.val false row),some (.val false c),some (.val true (row.length:Int)),some (.val true h),some (.dpo (TbO.mk (exA row.length h.toNat))),none,none,none,none,none,none] _ _
 have ah:=atGetA (d:=(0:Int)) (l:=row) (i:=h) (n:=row.length) zh.1 zh.2 rfl
 have a0:atI row 0=some (row.getD 0 0):=atGetA (d:=(0:Int)) (l:=row) (i:=0) (n:=row.length) (by decide) (by omega) rfl
 refine s_ownlistT 5 sc_law_pairs.nd rfl B.list (e_var 0) ?_
 refine s_set2 5 (u:=(row.getD h.toNat 0,row.getD 0 0)) (k:=0) (l:=h) rfl e_int (e_var 3) (e_tup2 (e_ixL (e_var 0) (e_var 3) ah) (e_ixL (e_var 0) e_int a0)) (by decide) (by omega) zh.1 zh.2 ?_
 refine s_asg 6 sc_law_pairs.nd (e_add e_int (e_mod (e_fdiv (e_var 1) e_int cdK) e_int (by decide))) ?_
 obtain ⟨t,et⟩:∃ t,1 + (c.fdiv 64).fmod 3=t:=⟨_,rfl⟩
 have t1:1≤t:=by omega
 have t3:t≤3:=by omega
 rw [et]
 have sA:=_root_.EP.exA_sq hN
 refine s_setkl 4 (rows:=exA row.length h.toNat) (r0:=(exA row.length h.toNat).getD h.toNat []) (k:=h) (l:=0) (c:=((1:Int),t)) rfl zh.1 (gsA (d:=[]) (by rw [sA.len]; exact hN)) (by decide) (by rw [sA.row _ (_root_.EP.getD_mem (by rw [sA.len]; exact hN))]; show 0 < _; omega) (e_up (b':=true) (e_tup2 e_int (e_var 6))) (e_var 3) e_int ?_
 have st:Sm 2 t:=by unfold Sm; omega
 have mh:row.getD h.toNat 0∈row:=_root_.EP.getD_mem hN
 have sh8:Sm 8 (row.getD h.toNat 0):=by have:=hx _ mh; unfold Sm; omega
 refine s_ownlistT 7 sc_law_pairs.nd rfl B.list (e_var 0) ?_
 refine s_setO 7 (a:=row.getD h.toNat 0 * t * t) rfl (e_var 3) (e_mul (e_mul (e_ixL (e_var 0) (e_var 3) ah) (e_var 6) (sh8.ok st)) (e_var 6) ((sh8.mul st).ok st)) zh.1 zh.2 ?_
 refine s_freeze 7 rfl ?_
 refine s_freeze 5 rfl ?_
 refine s_thawT 4 rfl ?_
 show S _ [some (.val false row),some (.val false c),some (.val true (row.length:Int)),some (.val true h),some (.val true (exT row.length h.toNat t)),some (.val true ((row.set 0 (row.getD h.toNat 0)).set h.toNat (row.getD 0 0))),some (.val true t),some (.val true (row.set h.toNat (row.getD h.toNat 0 * t * t))),none,none,none] _ _
 have led:=_root_.EP.ex_led hN t1
 have sq:=(_root_.EP.exT_ok hN t1).sq
 have tk:=ex_tk hN n8 t1 t3
 have nz:∀ x∈row,x≠0:=fun x hx'=>(isRow_mem hR hx').1
 have m0:row.getD 0 0∈row:=_root_.EP.getD_mem (by omega)
 obtain ⟨nw,en⟩:∃ nw,(row.set 0 (row.getD h.toNat 0)).set h.toNat (row.getD 0 0)=nw:=⟨_,rfl⟩
 obtain ⟨bg,eb⟩:∃ bg,row.set h.toNat (row.getD h.toNat 0 * t * t)=bg:=⟨_,rfl⟩
 have nl:nw.length=row.length:=by rw [← en,List.length_set,List.length_set]
 have bl:bg.length=row.length:=by rw [← eb,List.length_set]
 have hnw:isRow nw=true:=isRow_mk (by omega) (by omega) fun x hx'=>by
  rw [← en] at hx'
  have:x∈row:=by
   rcases List.mem_or_eq_of_mem_set hx' with z | z
   ·rcases List.mem_or_eq_of_mem_set z with z | z
    ·exact z
    ·rw [z]; exact mh
   ·rw [z]; exact m0
  exact ⟨nz x this,by have:=hx x this; omega⟩
 have tt9:1≤t * t∧t * t≤9:=by
  have:t=1∨t=2∨t=3:=by omega
  rcases this with rfl | rfl | rfl <;> decide
 have hbg:isRow bg=true:=isRow_mk (by omega) (by omega) fun x hx'=>by
  rw [← eb] at hx'
  rcases List.mem_or_eq_of_mem_set hx' with z | z
  ·exact ⟨nz x z,by have:=hx x z; omega⟩
  ·rw [z]
   refine ⟨Int.mul_ne_zero (Int.mul_ne_zero (nz _ mh) (by omega)) (by omega),?_⟩
   rw [Int.mul_assoc,Int.natAbs_mul]
   have:=Nat.mul_le_mul (hx _ mh) (show (t * t).natAbs≤9 by omega)
   omega
 have nw0:nw.getD 0 0=row.getD h.toNat 0:=by
  rw [← en,_root_.EP.getD_set (by rw [List.length_set]; exact hN)]
  split
  ·rename_i z; rw [← z]
  ·rw [_root_.EP.getD_set (by omega),if_pos rfl]
 have yes:leF bg ⟨.list (nw.map .int)⟩ ⟨tbL (exT row.length h.toNat t)⟩=true:=le_yes hnw (by rw [nl,bl]) (by rw [bl]; exact sq) (by rw [← eb,← en]; exact led)
 have no:t≠1→leF row ⟨.list (nw.map .int)⟩ ⟨tbL (exT row.length h.toNat t)⟩=false:=fun t'=>le_no fun z=>by
  have:=_root_.EP.ex_no rfl nl hN t1 z
  rw [nw0,Int.mul_assoc] at this
  have:row.getD h.toNat 0 * (t * t - 1)=0:=by rw [Int.mul_sub,← this]; omega
  rcases Int.mul_eq_zero.mp this with w | w
  ·exact nz _ mh w
  ·have:t=2∨t=3:=by omega
   rcases this with rfl | rfl <;> revert w <;> decide
 have wr:∀ o:List Int,o.length=row.length→o.getD 0 0=row.getD h.toNat 0 + 1→leF bg ⟨.list (o.map .int)⟩ ⟨tbL (exT row.length h.toNat t)⟩=false:=fun o ol o0=>le_no fun z=>by
  have:=_root_.EP.ex_no bl ol hN t1 z
  rw [o0,← eb,_root_.EP.getD_set hN,if_pos rfl] at this
  have:t * t=0:=by
   have e:(row.getD h.toNat 0 + 1) * t * t=row.getD h.toNat 0 * t * t + t * t:=by grind
   omega
  omega
 rw [en,eb]
 have lnw:Ln (.list (nw.map PyData.int)):=ln_int (by omega)
 have pb:∀ k:PyData,PLm bg ⟨.tuple [.str "pairs",k,.list (nw.map .int),tbL (exT row.length h.toNat t)]⟩:=fun k=>.inr ⟨k,nw,_,⟨hbg,lnw,by rw [bl]; exact tk⟩,rfl⟩
 have pr:∀ k:PyData,PLm row ⟨.tuple [.str "pairs",k,.list (nw.map .int),tbL (exT row.length h.toNat t)]⟩:=fun k=>.inr ⟨k,nw,_,⟨hR,lnw,tk⟩,rfl⟩
 have vb:∀ k:PyData,lmF bg ⟨.tuple [.str "pairs",k,.list (nw.map .int),tbL (exT row.length h.toNat t)]⟩=hpF nw ⟨k⟩:=fun k=>by
  show (leF bg ⟨.list (nw.map .int)⟩ ⟨tbL (exT row.length h.toNat t)⟩ && hpF (inD (.list (nw.map .int))) ⟨k⟩)=_
  rw [yes,inD_L]
  rfl
 have vr:t≠1→∀ k:PyData,lmF row ⟨.tuple [.str "pairs",k,.list (nw.map .int),tbL (exT row.length h.toNat t)]⟩=false:=fun t' k=>by
  show (leF row ⟨.list (nw.map .int)⟩ ⟨tbL (exT row.length h.toNat t)⟩ && hpF (inD (.list (nw.map .int))) ⟨k⟩)=_
  rw [no t']
  rfl
 generalize exT row.length h.toNat t=T at *
 refine s_forL (xs:=td71 ((c.fdiv 8).fmod 5)) (b:=true) (fun i Γ=>∃ r8 r9,Γ=[some (.val false row),some (.val false c),some (.val true (row.length:Int)),some (.val true h),some (.val true T),some (.val true nw),some (.val true t),some (.val true bg),r8,r9,none]) (g_name 8 sc_law_pairs.nd) (e_lst (as:=td71 ((c.fdiv 8).fmod 5)) (ea_cons (e_dI e_int) (ea_cons (e_dI e_int) (ea_cons (e_dI e_int) (ea_cons (e_dI (e_neg e_int)) (ea_cons (e_dI (e_mod (e_fdiv (e_var 1) e_int cdK) e_int (by decide))) (ea_cons (e_dB e_bl) (ea_cons (e_dN e_non) ea_nil))))))) (by show 7≤1000; decide)) ⟨none,none,rfl⟩ ?_ ?_
 ·rintro i d Γ' hd ⟨r8,r9,rfl⟩
  have hk:(∃ k,d=Dt.mk (.int k))∨(whD d=false∧hpF nw d=false):=by
   have:=List.mem_of_getElem? hd
   unfold td71 at this
   simp only [List.mem_cons,List.not_mem_nil,or_false] at this
   rcases this with rfl | rfl | rfl | rfl | rfl | rfl | rfl
   ·exact .inl ⟨_,rfl⟩
   ·exact .inl ⟨_,rfl⟩
   ·exact .inl ⟨_,rfl⟩
   ·exact .inl ⟨_,rfl⟩
   ·exact .inl ⟨_,rfl⟩
   ·exact .inr ⟨rfl,rfl⟩
   ·exact .inr ⟨rfl,rfl⟩
  refine s_asg 9 sc_law_pairs.nd e_bl ?_
  refine s_ifJ (fun Γ=>Γ=[some (.val false row),some (.val false c),some (.val true (row.length:Int)),some (.val true h),some (.val true T),some (.val true nw),some (.val true t),some (.val true bg),some (.val true d),some (.val true (hpF nw d)),none]) (c:=cd71 (row.length:Int) d) ?_ (fun hc=>?_) (fun hc=>?_) ?_
  ·rcases hk with ⟨k,rfl⟩ | ⟨w1,w2⟩
   ·refine t_to (TW.t (tw_and (t_val (e_call1 c_law_wholeD (hr.mono (by decide)) rfl (e_var 8) True.intro)) fun _=>(tw_and1 (t_chain cv_le cv_le e_int (e_ofdI (k:=k) (e_var 8)) (e_fdiv (e_var 2) e_int cdK))))) ?_
    rfl
   ·refine t_to (TW.t (tw_and (c':=false) (t_val (e_call1 c_law_wholeD (hr.mono (by decide)) rfl (e_var 8) True.intro)) fun z=>absurd z (by rw [w1]; decide))) ?_
    rw [w1,Bool.false_and,cd_no w1]
  ·obtain ⟨k,rfl,k0,k2⟩:=cd_yes hc
   have k2':2 * k≤(row.length:Int):=by
    rw [Int.fdiv_eq_ediv_of_nonneg _ (by decide)] at k2
    omega
   refine s_asg 9 sc_law_pairs.nd (e_eq (a':=hpF nw ⟨.int k⟩) (e_all rfl rfl B.all (e_comp (b':=true) (f:=fun i:Int=>decide (nw.getD (2 * i).toNat 0=0 - nw.getD (2 * i + 1).toNat 0)) ["_law_k"] [5] (cscope (defScope s_law_pairs) N_law_pairs rfl rfl (by decide +kernel)) (ei_range rfl B.range (e_ofdI (k:=k) (e_var 8)) (by omega) (by omega)) (gp_name 0) (fun C s H fp=>pg_cn 0 ["_law_k","_law_new"]) lt_of_eq (fun i u hu C s H fp=>by
     have hm:=_root_.EP.mem_rng (by rw [← seq_rng]; exact mem_at hu)
     exact e_cmp cv_eqI (e_ixL (e_var 1) (e_mul e_int (e_var 0) (mulL (by decide) (by decide))) (atGetA (d:=0) (n:=row.length) (by omega) (by omega) nl)) (e_sub e_int (e_ixL (e_var 1) (e_add (e_mul e_int (e_var 0) (mulL (by decide) (by decide))) e_int) (atGetA (d:=0) (n:=row.length) (by omega) (by omega) nl)))) (by rw [seqI_len]; omega))) (by
     rw [seq_rng]
     show _=(decide (0≤2 * k∧2 * k≤(nw.length:Int)) && (rng k.toNat).all (fun i=>decide (nw.getD (2 * i).toNat 0=-nw.getD (2 * i + 1).toNat 0)))
     rw [decide_eq_true ⟨by omega,by omega⟩,Bool.true_and,List.all_map]
     have ee:(fun i:Int=>decide (nw.getD (2 * i).toNat 0=0 - nw.getD (2 * i + 1).toNat 0))=fun i=>decide (nw.getD (2 * i).toNat 0=-nw.getD (2 * i + 1).toNat 0):=funext fun i=>by rw [Int.zero_sub]
     rw [ee]
     rfl)) (s_nil rfl)
  ·have e:hpF nw d=false:=by
    rcases hk with ⟨k,rfl⟩ | ⟨_,w2⟩
    ·have hn:¬ (0≤2 * k∧2 * k≤(nw.length:Int)):=fun z=>by
      have hc':(decide (0≤k) && decide (k≤(row.length:Int).fdiv 2))=false:=hc
      rw [decide_eq_true (by omega),decide_eq_true (by rw [Int.fdiv_eq_ediv_of_nonneg _ (by decide)]; omega)] at hc'
      cases hc'
     show (decide (0≤2 * k∧2 * k≤(nw.length:Int)) && _)=false
     rw [decide_eq_false hn]
     rfl
    ·exact w2
   rw [e]
   exact s_nil rfl
  rintro Γ' rfl
  obtain ⟨d⟩:=d
  refine s_if1 (c:=false) (t_to (t_cmp (cv_ne (α:=Bool) (hu60 hr)) (e_call2 c_law_lets (hr.mono (by decide)) rfl (e_listT rfl B.list (e_var 7)) (e_tupD (ds:=[⟨.str "pairs"⟩,⟨d⟩,⟨.list (nw.map .int)⟩,⟨tbL T⟩]) (b:=true) (ea_cons (e_dS e_str) (ea_cons (e_var 8) (ea_cons (e_dLI (e_var 5)) (ea_cons (e_dTb (e_var 4)) ea_nil)))) (Nat.le_of_ble_eq_true rfl)) (pb d)) (e_var 9)) (by
   show (!decide (lmF bg ⟨.tuple [.str "pairs",d,.list (nw.map .int),tbL T]⟩=hpF nw ⟨d⟩))=false
   rw [vb d,decide_eq_true rfl]
   rfl)) (fun hc=>nomatch hc) (fun _=>?_)
  refine s_if1 (c:=false) (t_to (TW.t (tw_and (t_cmp cv_gt (e_var 6) e_int) fun _=>(tw_and1 (t_cmp cv_isnotB (e_call2 c_law_lets (hr.mono (by decide)) rfl (e_listT rfl B.list (e_var 0)) (e_tupD (ds:=[⟨.str "pairs"⟩,⟨d⟩,⟨.list (nw.map .int)⟩,⟨tbL T⟩]) (b:=true) (ea_cons (e_dS e_str) (ea_cons (e_var 8) (ea_cons (e_dLI (e_var 5)) (ea_cons (e_dTb (e_var 4)) ea_nil)))) (Nat.le_of_ble_eq_true rfl)) (pr d)) e_bl)))) (by
   show (decide (t > 1) && (lmF row ⟨.tuple [.str "pairs",d,.list (nw.map .int),tbL T]⟩ != false))=false
   by_cases w:t=1
   ·rw [decide_eq_false (by omega)]; rfl
   ·rw [vr w d,Bool.and_eq_false_iff]; exact .inr rfl)) (fun hc=>nomatch hc) (fun _=>?_)
  exact s_nil ⟨_,_,rfl⟩
 ·rintro Γ' ⟨r8,r9,rfl⟩
  have g0:atI nw 0=some (row.getD h.toNat 0):=by
   have:=atGetA (d:=(0:Int)) (l:=nw) (i:=0) (n:=row.length) (by decide) (by omega) nl
   rw [this]
   show some (nw.getD 0 0)=_
   rw [nw0]
  have ol:([row.getD h.toNat 0 + 1] ++ nw.drop (1:Int).toNat).length=row.length:=by
   rw [List.length_append,List.length_drop,nl]
   show 1 + (row.length - 1)=_
   omega
  refine s_asg 10 sc_law_pairs.nd (e_cat (e_lst (as:=[row.getD h.toNat 0 + 1]) (b:=true) (ea_cons (e_add (e_ixL (e_var 5) e_int g0) e_int) ea_nil) (by show 1≤1000; decide)) (e_fromN (e_var 5) e_int (by decide)) (by rw [List.length_append] at ol; omega)) ?_
  have w0:=wr _ ol rfl
  generalize [row.getD h.toNat 0 + 1] ++ nw.drop (1:Int).toNat=wg at *
  refine s_ret (e_cmp cv_isB (e_call2 c_law_lets (hr.mono (by decide)) rfl (e_listT rfl B.list (e_var 7)) (e_tupD (ds:=[⟨.str "pairs"⟩,⟨.int 0⟩,⟨.list (wg.map .int)⟩,⟨tbL T⟩]) (b:=true) (ea_cons (e_dS e_str) (ea_cons (e_dI e_int) (ea_cons (e_dLI (e_var 10)) (ea_cons (e_dTb (e_var 4)) ea_nil)))) (Nat.le_of_ble_eq_true rfl)) (.inr ⟨.int 0,wg,tbL T,⟨hbg,ln_int (by omega),by show TK bg.length (tbL T); rw [bl]; exact tk⟩,rfl⟩)) e_bl) ?_
  show Bd.val _ _=Bd.val _ _
  congr 1
  show ((leF bg ⟨.list (wg.map .int)⟩ ⟨tbL T⟩ && hpF (inD (.list (wg.map .int))) ⟨.int 0⟩) == false)=true
  rw [w0]
  rfl
theorem rs_3a {n:Int} {i:Nat} {m:Int} (hn:n≤m) (h:i < (Builtin.Range.rangeSize 0 n 3).toNat):(0:Int) + (i:Int) * 3 < m:=by
 unfold Builtin.Range.rangeSize at h
 simp at h
 split at h <;> omega
theorem rs_2o {n:Int} {i:Nat} (h:i < (Builtin.Range.rangeSize 1 n 2).toNat):(1:Int) + (i:Int) * 2 < n:=by
 unfold Builtin.Range.rangeSize at h
 simp at h
 split at h <;> omega
def sz71 (c:Int):List Int:=[2 + c.fmod 3,1 + (c.fdiv 24).fmod 8]
theorem sz71_ok (c:Int) (b:Bool):1≤(sz71 c).getD (if b then (1:Int) else 0).toNat 0∧(sz71 c).getD (if b then (1:Int) else 0).toNat 0≤8:=by
 have z1:=fmod_pos (a:=c) (b:=3) (by decide)
 have z2:=fmod_pos (a:=c.fdiv 24) (b:=8) (by decide)
 cases b
 ·show 1≤2 + c.fmod 3∧2 + c.fmod 3≤8
  omega
 ·show 1≤1 + (c.fdiv 24).fmod 8∧1 + (c.fdiv 24).fmod 8≤8
  omega
def mo71 (nw:List Int):List Int:=[nw.getD 0 0 + 1 + (if decide (nw.getD 0 0=-1) then (1:Int) else 0)] ++ nw.drop (1:Int).toNat
theorem mo_ok {nw:List Int} (h:RQ nw):isRow (mo71 nw)=true∧∀ x∈mo71 nw,x.natAbs < 100000000:=by
 obtain ⟨n1,n8⟩:=isRow_len h.1
 have ml:(mo71 nw).length=nw.length:=by
  unfold mo71
  rw [List.length_append,List.length_drop]
  show 1 + (nw.length - 1)=_
  omega
 have all:∀ x∈mo71 nw,x≠0∧x.natAbs < 100000000:=fun x hx=>by
  rcases List.mem_append.mp hx with w | w
  ·rw [List.mem_singleton.mp w]
   have:=(h.2 _ (_root_.EP.getD_mem (d:=0) (show 0 < nw.length by omega))).2
   by_cases z:nw.getD 0 0=-1
   ·rw [if_pos (decide_eq_true z)]; omega
   ·rw [if_neg (by rw [decide_eq_false z]; decide)]; omega
  ·have m:=List.mem_of_mem_drop w
   have:=(h.2 x m).2
   exact ⟨(isRow_mem h.1 m).1,by omega⟩
 exact ⟨isRow_mk (by omega) (by omega) fun x hx=>⟨(all x hx).1,by have:=(all x hx).2; omega⟩,fun x hx=>(all x hx).2⟩
def AkQ (row:List Int) (u:List Int × Dt):Prop:=isRow u.1=true∧(∀ x∈u.1,x.natAbs < 100000000)∧SpA row u.2.d∧Kd u.2.d
theorem map_stK {a b:List Stp} (h:a.map stK=b.map stK):a=b:=by
 have:=congrArg (List.map fun d:Dt=>stE d.d) h
 rw [List.map_map,List.map_map] at this
 have e:∀ l:List Stp,l.map ((fun d:Dt=>stE d.d) ∘ stK)=l:=fun l=>List.map_id' l
 rw [e,e] at this
 exact this
noncomputable def ask71 (row:List Int) (ss:List Stp) (d:Dt):List (List Int × Dt):=[(fnR row ss,⟨.list (ss.map stD)⟩),(fnR row ss,d),(mo71 (fnR row ss),⟨.list (ss.map stD)⟩),(row,⟨.list (ss.map stD)⟩),(fnR row ss,⟨.list ((ss ++ ss.take (1:Int).toNat).map stD)⟩)]
theorem ask_ok {row:List Int} {ss:List Stp} {d:Dt} (h:RQ row) (g:RunS row ss) (hl:ss.length≤3) (hd:SpP ss d):∀ u∈ask71 row ss d,AkQ row u:=by
 have hn:=run_rq ss row h g
 obtain ⟨m1,m2⟩:=mo_ok hn
 obtain ⟨d1,d2⟩:=sp_all h g hl hd
 have n2:∀ x∈fnR row ss,x.natAbs < 100000000:=fun x hx=>by have:=(hn.2 x hx).2; omega
 have r2:∀ x∈row,x.natAbs < 100000000:=fun x hx=>by have:=(h.2 x hx).2; omega
 have s1:SpA row (.list (ss.map stD)):=.inl ⟨ss,[],by rw [List.append_nil],g,(fun s hs=>nomatch hs),Nat.zero_le _⟩
 have k1:Kd (.list (ss.map stD)):=kd_st (by omega) g.st
 have t1:∀ s∈ss.take (1:Int).toNat,StQ s:=fun s hs=>g.st s (List.mem_of_mem_take hs)
 have l1:(ss.take (1:Int).toNat).length≤1:=by rw [List.length_take]; exact Nat.min_le_left ..
 intro u hu
 unfold ask71 at hu
 simp only [List.mem_cons,List.not_mem_nil,or_false] at hu
 rcases hu with rfl | rfl | rfl | rfl | rfl
 ·exact ⟨hn.1,n2,s1,k1⟩
 ·exact ⟨hn.1,n2,d1,d2⟩
 ·exact ⟨m1,m2,s1,k1⟩
 ·exact ⟨h.1,r2,s1,k1⟩
 ·refine ⟨hn.1,n2,.inl ⟨ss,_,rfl,g,t1,by omega⟩,kd_st (by rw [List.length_append]; omega) fun s hs=>?_⟩
  rcases List.mem_append.mp hs with w | w
  ·exact g.st s w
  ·exact t1 s w
set_option maxHeartbeats 8000000 in
include B in
theorem b_law (c_law_deep:Cal P w K mg base 1 "_law_deep" ["_law_script","_law_k"] (sp2 K (fun _ k=>0≤k∧k≤100) true deep)) (c_law_row:Cal P w K mg base 1 "_law_row" ["_law_cell","_law_size"] (spE2 K (fun (_ m:Int)=>1≤m∧m≤8) true (fun _ m r=>RwQ m.toNat r)))
  (c_law_steps:Cal P w K mg base 5 "_law_steps" ["_law_row_here","_law_cell"] (spE2 K (fun (r:List Int) (_:Int)=>RQ r) true (fun r _ (u:List Dt × List Int)=>LsP r u)))
  (c_law_spoilt:Cal P w K mg base 1 "_law_spoilt" ["_law_steps_here","_law_cell"] (spE2 K (fun (ds:List Dt) (_:Int)=>∃ ss:List Stp,ds=ss.map stK∧ss.length≤3) false (fun ds _ (d:Dt)=>∃ ss:List Stp,ds=ss.map stK∧SpP ss d)))
  (c_law_all:Cal P w K mg base 5 "_law_all" ["_law_row_here","_law_steps_here"] (sp2 K (fun (r:List Int) (d:Dt)=>isRow r=true∧Kd d.d) false lwA))
  (c_law_lets:Cal P w K mg base 13 "_law_lets" ["_law_row_here","_law_paper"] (sp2 K PLm true lmF))
  (c_law_pairs:Cal P w K mg base 14 "_law_pairs" ["_law_row_here","_law_cell"] (sp2 K (fun (r:List Int) (_:Int)=>PaQ r) true (fun _ _=>true)))
  (xs:List Int) (hl:xs.length≤63):Body P w K mg base N_law "law" s_law f 14 [.val false xs] (RT true true):=by
 intro cdv A outer sh H E hr
 have hl':(if (xs.length:Int) < 9 then (xs.length:Int) else 9)≤9∧0≤(if (xs.length:Int) < 9 then (xs.length:Int) else 9):=by split <;> omega
 refine s_forRange3 (fun i Γ=>∃ r1 r2 r3 r4 r5 r6 r7 r8 r9 r10 r11 r12 r13 r14 r15,Γ=[some (.val false xs),r1,r2,r3,r4,r5,r6,r7,r8,r9,r10,r11,r12,r13,r14,r15]) rfl B.range (g_name 1 sc_law.nd) e_int (e_add (e_min rfl rfl B.min e_int (e_lenL rfl B.len (e_var 0))) e_int) e_int ⟨by decide,by decide,by omega,by omega⟩ (by decide) ⟨none,none,none,none,none,none,none,none,none,none,none,none,none,none,none,rfl⟩ ?_ ?_
 ·rintro i Γ' hi ⟨r1,r2,r3,r4,r5,r6,r7,r8,r9,r10,r11,r12,r13,r14,r15,rfl⟩
  have hi':=rs_3a (m:=10) (by omega) hi
  refine s_asg 2 sc_law.nd (e_call2 c_law_deep (hr.mono (by decide)) rfl (e_var 0) (e_var 1) ⟨by omega,by omega⟩) ?_
  generalize deep xs ((0:Int) + (i:Int) * 3)=c
  have ix:∀ c:Bool,0≤(if c then (1:Int) else 0)∧(if c then (1:Int) else 0) < 2:=fun c=>by cases c <;> simp
  refine s_asgX 3 sc_law.nd (ex_call2 c_law_row (hr.mono (by decide)) rfl (e_fdiv (e_var 2) e_int cdK) (e_ixL (e_lst (b:=true) (as:=sz71 c) (ea_cons (e_add e_int (e_mod (e_var 2) e_int (by decide))) (ea_cons (e_add e_int (e_mod (e_fdiv (e_var 2) e_int cdK) e_int (by decide))) ea_nil)) (Nat.le_of_ble_eq_true rfl)) (e_intB rfl B.int (e_and (e_cmp cv_eqI (e_var 1) e_int) fun _=>(e_one (e_cmp cv_eqI (e_mod (e_fdiv (e_var 2) e_int cdK) e_int (by decide)) e_int)))) (atGetA (d:=0) (n:=2) (ix _).1 (ix _).2 rfl)) (sz71_ok c _)) ?_
  intro row hRw
  have hsz:=sz71_ok c (decide ((0:Int) + (i:Int) * 3=0) && decide ((c.fdiv 3).fmod 8=3))
  obtain ⟨rl,rx⟩:=hRw
  have rl':row.length=((sz71 c).getD (if (decide ((0:Int) + (i:Int) * 3=0) && decide ((c.fdiv 3).fmod 8=3)) then (1:Int) else 0).toNat 0).toNat:=rl
  have n1:1≤row.length∧row.length≤8:=by rw [rl']; omega
  clear rl rl' hsz
  have hR:isRow row=true:=isRow_mk n1.1 n1.2 fun x hx=>by
   obtain ⟨a,b⟩:=RwQ.sq (rx x hx)
   exact ⟨a.1,by omega⟩
  have hq:RQ row:=⟨hR,fun x hx=>by
   obtain ⟨a,b⟩:=RwQ.sq (rx x hx)
   exact ⟨a,by omega⟩⟩
  refine s_asg2X 4 5 sc_law.nd (ex_call2 c_law_steps (hr.mono (by decide)) rfl (e_var 3) (e_call2 c_law_deep (hr.mono (by decide)) rfl (e_var 0) (e_add (e_var 1) e_int) ⟨by omega,by omega⟩) hq) ?_
  rintro _ ⟨ss,rfl,g,l3⟩
  refine s_asg 6 sc_law.nd (e_call2 c_law_deep (hr.mono (by decide)) rfl (e_var 0) (e_add (e_var 1) e_int) ⟨by omega,by omega⟩) ?_
  generalize deep xs ((0:Int) + (i:Int) * 3 + 2)=th
  refine s_asgX 7 sc_law.nd (ex_call2 c_law_spoilt (hr.mono (by decide)) rfl (e_var 4) (e_var 6) ⟨ss,rfl,l3⟩) ?_
  rintro od ⟨ss',es,hod⟩
  have ess:ss'=ss:=(map_stK es).symm
  subst ess
  have hn:=run_rq ss' row hq g
  have nl:=isRow_len hn.1
  have g0:atI (fnR row ss') 0=some ((fnR row ss').getD 0 0):=atGetA (d:=(0:Int)) (n:=(fnR row ss').length) (by decide) (by omega) rfl
  refine s_asg 8 sc_law.nd (e_eq (a':=mo71 (fnR row ss')) (e_cat (e_lst (as:=[(fnR row ss').getD 0 0 + 1 + (if decide ((fnR row ss').getD 0 0=-1) then (1:Int) else 0)]) (b:=true) (ea_cons (e_add (e_add (e_ixL (e_var 5) e_int g0) e_int) (e_intB rfl B.int (e_cmp cv_eqI (e_ixL (e_var 5) e_int g0) (e_neg e_int)))) ea_nil) (by show 1≤1000; decide)) (e_fromN (e_var 5) e_int (by decide)) (by rw [List.length_drop]; show 1 + _≤1000; omega)) rfl) ?_
  refine s_asg 9 sc_law.nd (e_lst (as:=ask71 row ss' od) (b:=false) (ea_w (e_tup2 (e_var 5) (e_eq (e_dL (e_var 4)) (by rw [e_sd]))) (ea_w (e_tup2 (e_var 5) (e_var 7)) (ea_w (e_tup2 (e_var 8) (e_eq (e_dL (e_var 4)) (by rw [e_sd]))) (ea_w (e_tup2 (e_var 3) (e_eq (e_dL (e_var 4)) (by rw [e_sd]))) (ea_w (e_tup2 (e_var 5) (e_eq (e_dL (e_catF (e_var 4) (e_to (e_var 4) e_int (by decide)) (by rw [List.length_take,List.length_map]; omega))) (by rw [List.map_append,e_sd,← List.map_take,e_sd,List.map_append]))) ea_nil))))) (by show 5≤1000; decide)) ?_
  have hak:=ask_ok hq g l3 hod
  generalize ask71 row ss' od=asks at *
  refine s_forL (xs:=asks) (b:=false) (fun j Γ=>∃ r10 r11 r12 r13,Γ=[some (.val false xs),some (.val true ((0:Int) + (i:Int) * 3)),some (.val true c),some (.val true row),some (.val true (ss'.map stK)),some (.val true (fnR row ss')),some (.val true th),some (.val false od),some (.val true (mo71 (fnR row ss'))),some (.val false asks),r10,r11,r12,r13,r14,r15]) (g_two 10 11 sc_law.nd) (e_var 9) ⟨_,_,_,_,rfl⟩ ?_ ?_
  ·rintro j ⟨o,⟨d⟩⟩ Γ' hu ⟨r10,r11,r12,r13,rfl⟩
   obtain ⟨a1,a2,a3,a4⟩:=hak _ (List.mem_of_getElem? hu)
   have a1':isRow o=true:=a1
   have a2':∀ x∈o,x.natAbs < 100000000:=a2
   have a3':SpA row d:=a3
   have a4':Kd d:=a4
   have ag:=agree hq a3' a2'
   refine s_asg 12 sc_law.nd (e_listT rfl B.list (e_var 3)) ?_
   refine s_asg 13 sc_law.nd (a:=stF row ⟨.list (o.map .int)⟩ ⟨d⟩) (b:=true) ?_ ?_
   ·cases q:lwA row ⟨d⟩ with
    | none =>
     refine e_eq (e_cmp (cv_eqD (d:=.none) (c:=.list (o.map .int)) (hu60 hr) rfl (PyD.lay (α:=List Int) o) (by decide)) (e_dOn (β:=List Int) (e_eq (e_call2 c_law_all (hr.mono (by decide)) rfl (e_var 3) (e_var 11) ⟨hR,a4'⟩) q)) (e_dLI (e_var 10))) ?_
     rw [ag,q,decide_eq_false (fun z=>by cases z)]
     rw [PyData.eqv]
    | some r =>
     refine e_eq (e_cmp (cv_eq (α:=List Int) (hu60 hr)) (e_getO (e_call2 c_law_all (hr.mono (by decide)) rfl (e_var 3) (e_var 11) ⟨hR,a4'⟩) q) (e_var 10)) ?_
     rw [ag,q]
     by_cases z:r=o
     ·rw [decide_eq_true z,decide_eq_true (by rw [z])]
     ·rw [decide_eq_false z,decide_eq_false (fun w=>z (Option.some.inj w))]
   refine s_if1 (c:=false) (t_to (TW.t (tw_or (t_cmp (cv_ne (α:=Bool) (hu60 hr)) (e_call2 c_law_lets (hr.mono (by decide)) rfl (e_var 12) (e_tupD (ds:=[⟨.str "steps"⟩,⟨.list (o.map .int)⟩,⟨d⟩]) (b:=false) (ea_w (e_dS e_str) (ea_w (e_dLI (e_var 10)) (ea_w (e_var 11) ea_nil))) (Nat.le_of_ble_eq_true rfl)) (.inl ⟨.list (o.map .int),d,⟨hR,⟨o,rfl,a1'⟩,a4'⟩,rfl⟩)) (e_var 13)) fun _=>(tw_or1 (t_cmp (cv_ne (α:=List Int) (hu60 hr)) (e_var 12) (e_var 3))))) (by
    show (!decide (stF row ⟨.list (o.map .int)⟩ ⟨d⟩=stF row ⟨.list (o.map .int)⟩ ⟨d⟩) || !decide (row=row))=false
    rw [decide_eq_true rfl,decide_eq_true rfl]
    rfl)) (fun hc=>nomatch hc) (fun _=>?_)
   exact s_nil ⟨_,_,_,_,rfl⟩
  ·rintro Γ' ⟨r10,r11,r12,r13,rfl⟩
   refine s_ownlistT 14 sc_law.nd rfl B.list (e_var 3) ?_
   refine s_forRange3 (fun j Γ=>∃ (ps:List Int) (r15:Option Bd),(ps.length=row.length∧∀ x∈ps,x≠0∧x.natAbs≤210)∧Γ=[some (.val false xs),some (.val true ((0:Int) + (i:Int) * 3)),some (.val true c),some (.val true row),some (.val true (ss'.map stK)),some (.val true (fnR row ss')),some (.val true th),some (.val false od),some (.val true (mo71 (fnR row ss'))),some (.val false asks),r10,r11,r12,r13,some (.own true ps),r15]) rfl B.range (g_name 15 sc_law.nd) e_int (e_lenL rfl B.len (e_var 3)) e_int ⟨by decide,by decide,by omega,by omega⟩ (by decide) ⟨row,_,⟨rfl,fun x hx=>⟨(isRow_mem hR hx).1,(RwQ.sq (rx x hx)).2⟩⟩,rfl⟩ ?_ ?_
   ·rintro j Γ' hj ⟨ps,r15,⟨pl,px⟩,rfl⟩
    have hj':=rs_2o hj
    have sj:Sm 10 ((1:Int) + (j:Int) * 2):=by unfold Sm; omega
    have gp:atI ps ((1:Int) + (j:Int) * 2 - 1)=some (ps.getD ((1:Int) + (j:Int) * 2 - 1).toNat 0):=atGetA (d:=(0:Int)) (n:=row.length) (by omega) (by omega) pl
    have mp:=px _ (_root_.EP.getD_mem (d:=0) (show ((1:Int) + (j:Int) * 2 - 1).toNat < ps.length by omega))
    refine s_ifJ (fun Γ=>∃ (ps:List Int),(ps.length=row.length∧∀ x∈ps,x≠0∧x.natAbs≤210)∧Γ=[some (.val false xs),some (.val true ((0:Int) + (i:Int) * 3)),some (.val true c),some (.val true row),some (.val true (ss'.map stK)),some (.val true (fnR row ss')),some (.val true th),some (.val false od),some (.val true (mo71 (fnR row ss'))),some (.val false asks),r10,r11,r12,r13,some (.own true ps),some (.val true ((1:Int) + (j:Int) * 2))]) (t_cmp cv_gt (e_mod (e_fdiv (e_fdiv (e_var 6) e_int cdK) (e_var 15) (sj.div (by omega))) e_int (by decide)) e_int) (fun hc=>?_) (fun hc=>?_) ?_
    ·refine s_setO 14 (a:=0 - ps.getD ((1:Int) + (j:Int) * 2 - 1).toNat 0) rfl (e_var 15) (e_sub e_int (e_ixO 14 rfl (e_sub (e_var 15) e_int) gp)) (by omega) (by omega) (s_nil ⟨_,⟨by rw [List.length_set]; exact pl,fun x hx=>?_⟩,rfl⟩)
     rcases List.mem_or_eq_of_mem_set hx with w | w
     ·exact px x w
     ·rw [w]; omega
    ·exact s_nil ⟨ps,⟨pl,px⟩,rfl⟩
    rintro Γ' ⟨ps',hps',rfl⟩
    exact s_nil ⟨ps',_,hps',rfl⟩
   ·rintro Γ' ⟨ps,r15,⟨pl,px⟩,rfl⟩
    refine s_freeze 14 rfl ?_
    have hP:PaQ ps:=⟨isRow_mk (by omega) (by omega) fun x hx=>⟨(px x hx).1,by have:=(px x hx).2; omega⟩,fun x hx=>(px x hx).2⟩
    refine s_if1 (c:=false) (t_to (t_not (t_val (e_call2 c_law_pairs (hr.mono (by decide)) rfl (e_var 14) (e_fdiv (e_var 6) e_int cdK) hP))) rfl) (fun hc=>nomatch hc) (fun _=>?_)
    exact s_nil ⟨_,_,_,_,_,_,_,_,_,_,_,_,_,_,_,rfl⟩
 ·rintro Γ' ⟨r1,r2,r3,r4,r5,r6,r7,r8,r9,r10,r11,r12,r13,r14,r15,rfl⟩
  exact s_ret e_bl rfl
end
end L2.EP.K
namespace L2.EP.K
open PySem PySem.Spec PyProof.Rows
open _root_.EP (fr fd)
open _root_.EP (Sqf isP)
open _root_.EP (Fr Tb Low Sq rng plL plT colm tov lcmB oob dotI sop dotF prd lsum lprd fadd fmul)
open _root_.EP (atv latv vsum)
open _root_.EP (wNum fOf bsd ent)
open _root_.EP (Fr Low fadd fmul)
open _root_.EP (exA exT dgR ledF)
set_option maxHeartbeats 0 in
theorem fin {lp:Program} {w:World} {K:PySem.W.Frag} {h:Heap} {mg:Str→Option Value} {fa:Addr} (X:K.In h) (G:h.Ns mainGlobals mg) (hfa:mg "law"=some (.ref fa)) (B:Bu mg)
  {cS:Addr} (xs:Xz K mg cS) (g_GREAT_PRIMES_FROM:MgI mg "GREAT_PRIMES_FROM" 32768) (g_GREAT_FROM:MgI mg "GREAT_FROM" 1073741824) (g_LONGEST:MgI mg "LONGEST" 8) (d_taken_out:Df K "taken_out" s_taken_out) (d_square_root:Df K "square_root" s_square_root) (d_square_root_or_none:Df K "square_root_or_none" s_square_root_or_none) (d_common_divisor:Df K "common_divisor" s_common_divisor) (d_fraction:Df K "fraction" s_fraction) (d_next_divisor:Df K "next_divisor" s_next_divisor) (d_divided:Df K "divided" s_divided) (d_tame_parts:Df K "tame_parts" s_tame_parts) (d_power:Df K "power" s_power) (d_freed:Df K "freed" s_freed) (d_free_of:Df K "free_of" s_free_of) (d_is_whole:Df K "is_whole" s_is_whole) (d_is_row_number:Df K "is_row_number" s_is_row_number) (d_is_row:Df K "is_row" s_is_row) (d_refuse_no_row:Df K "refuse_no_row" s_refuse_no_row) (d_column:Df K "column" s_column) (d_turned_over:Df K "turned_over" s_turned_over) (d_common_bottom:Df K "common_bottom" s_common_bottom) (d_over_one_bottom:Df K "over_one_bottom" s_over_one_bottom) (d_sum_of_products:Df K "sum_of_products" s_sum_of_products) (d_sums_with:Df K "sums_with" s_sums_with) (d_at:Df K "at" s_at) (d_product:Df K "product" s_product) (d_led:Df K "led" s_led) (d_with_number:Df K "with_number" s_with_number) (d_form_of:Df K "form_of" s_form_of) (d_joined:Df K "joined" s_joined) (d_free_product:Df K "free_product" s_free_product) (d_made_of_two:Df K "made_of_two" s_made_of_two) (d_is_free:Df K "is_free" s_is_free) (d_numbers_behind:Df K "numbers_behind" s_numbers_behind) (d_row_with:Df K "row_with" s_row_with) (d_is_fraction:Df K "is_fraction" s_is_fraction) (d_is_vector:Df K "is_vector" s_is_vector) (d_is_table:Df K "is_table" s_is_table) (d_form_of_row:Df K "form_of_row" s_form_of_row) (d_is_led:Df K "is_led" s_is_led) (d_is_like_step:Df K "is_like_step" s_is_like_step) (d_row_behind:Df K "row_behind" s_row_behind) (d_is_led_by_steps:Df K "is_led_by_steps" s_is_led_by_steps) (d_has_pairs_ahead:Df K "has_pairs_ahead" s_has_pairs_ahead) (d_lets_three_by:Df K "lets_three_by" s_lets_three_by) (d_lets_by:Df K "lets_by" s_lets_by) (d_law_deep:Df K "_law_deep" s_law_deep) (d_law_common:Df K "_law_common" s_law_common) (d_law_whole:Df K "_law_whole" s_law_whole) (d_law_fraction:Df K "_law_fraction" s_law_fraction) (d_law_plus:Df K "_law_plus" s_law_plus) (d_law_times:Df K "_law_times" s_law_times) (d_law_lets:Df K "_law_lets" s_law_lets) (d_law_is_fraction:Df K "_law_is_fraction" s_law_is_fraction) (d_law_plain:Df K "_law_plain" s_law_plain) (d_law_free:Df K "_law_free" s_law_free) (d_law_row:Df K "_law_row" s_law_row) (d_law_root_of:Df K "_law_root_of" s_law_root_of) (d_law_stepped:Df K "_law_stepped" s_law_stepped) (d_law_all:Df K "_law_all" s_law_all) (d_law_steps:Df K "_law_steps" s_law_steps) (d_law_spoilt:Df K "_law_spoilt" s_law_spoilt) (d_law_pairs:Df K "_law_pairs" s_law_pairs) (d_law:Df K "law" s_law) :
  ∃ fd:FuncData,(∀ (s:Shared) (u:Value),BindsTo s fd ⟨[u],[]⟩ [("_law_script",u)])∧∀ base:Heap,K.In base→base.Ns mainGlobals mg→FnOk lp w K mg base CX0 15 fa fd ["_law_script"] (spLaw K):=by
 refine law_end d_law X G hfa (fun _ _ _ _ _ _ s u=>.of_eq rfl) fun base _ _ f fd F=>?_
 have c_taken_out:Cal lp w K mg base 1 "taken_out" ["k","divisor"] (sp2 K (fun k d=>k≠0∧2≤d∧Sm 9000 d) true _root_.EP.tko):=d_taken_out.cal X G (fun _ _ _ _ _ _ us hl=>match us,hl with | [_,_],_=>rfl) fun f fd F=>fn2 F sc_taken_out rfl fun a b hp=>b_taken_out a b hp.1 hp.2.1 hp.2.2
 have c_square_root:Cal lp w K mg base 1 "square_root" ["k"] (sp1 K (fun k=>0≤k∧Sm 8000 k) true _root_.EP.rt):=d_square_root.cal X G (fun _ _ _ _ _ _ us hl=>match us,hl with | [_],_=>rfl) fun f fd F=>fn1 F sc_square_root rfl fun a hp=>b_square_root a hp.1 hp.2
 have c_square_root_or_none:Cal lp w K mg base 2 "square_root_or_none" ["k"] (sp1 K (fun k=>Sm 8000 k) true rtO):=d_square_root_or_none.cal X G (fun _ _ _ _ _ _ us hl=>match us,hl with | [_],_=>rfl) fun f fd F=>fn1 F sc_square_root_or_none rfl fun a hp=>b_square_root_or_none c_square_root a hp
 have c_common_divisor:Cal lp w K mg base 1 "common_divisor" ["a","b"] (sp2 K (fun _ _=>True) true fun a b=>((Int.gcd a b:Nat):Int)):=d_common_divisor.cal X G (fun _ _ _ _ _ _ us hl=>match us,hl with | [_,_],_=>rfl) fun f fd F=>fn2 F sc_common_divisor rfl fun a c _=>b_common_divisor B a c
 have c_fraction:Cal lp w K mg base 2 "fraction" ["top","bottom"] (sp2 K PFr true fr):=d_fraction.cal X G (fun _ _ _ _ _ _ us hl=>match us,hl with | [_,_],_=>rfl) fun f fd F=>fn2 F sc_fraction rfl fun a c hp=>b_fraction c_common_divisor a c hp.1 hp.2
 have c_next_divisor:Cal lp w K mg base 2 "next_divisor" ["k","begin","end"] (sp3 K (fun k b e=>1≤k∧Sm 8000 k∧1≤b∧b < 2 ^ 62∧-(2 ^ 62)≤e∧e < 2 ^ 62) true _root_.EP.ndv):=d_next_divisor.cal X G (fun _ _ _ _ _ _ us hl=>match us,hl with | [_,_,_],_=>rfl) fun f fd F=>fn3 F sc_next_divisor rfl fun a b c hp=>b_next_divisor B c_square_root a b c hp
 have c_divided:Cal lp w K mg base 3 "divided" ["k","end"] (sp2 K PDv true _root_.EP.dvdF):=d_divided.cal X G (fun _ _ _ _ _ _ us hl=>match us,hl with | [_,_],_=>rfl) fun f fd F=>fn2 F sc_divided rfl fun a c hp=>b_divided c_taken_out c_next_divisor a c hp
 have c_tame_parts:Cal lp w K mg base 4 "tame_parts" ["k"] (sp1 K (fun k=>1≤k∧Sm 900 k) true tpF):=d_tame_parts.cal X G (fun _ _ _ _ _ _ us hl=>match us,hl with | [_],_=>rfl) fun f fd F=>fn1 F sc_tame_parts rfl fun a hp=>b_tame_parts g_GREAT_PRIMES_FROM g_GREAT_FROM c_divided c_square_root_or_none a hp
 have c_power:Cal lp w K mg base 1 "power" ["base","exponent"] (sp2 K PPw true pwF):=d_power.cal X G (fun _ _ _ _ _ _ us hl=>match us,hl with | [_,_],_=>rfl) fun f fd F=>fn2 F sc_power rfl fun a c hp=>b_power B a c hp
 have c_freed:Cal lp w K mg base 5 "freed" ["u"] (sp1 K PFd true _root_.EP.frd):=d_freed.cal X G (fun _ _ _ _ _ _ us hl=>match us,hl with | [_],_=>rfl) fun f fd F=>fn1 F sc_freed rfl fun a hp=>b_freed B c_power c_fraction c_tame_parts a hp
 have c_free_of:Cal lp w K mg base 6 "free_of" ["k"] (sp1 K PFo true foF):=d_free_of.cal X G (fun _ _ _ _ _ _ us hl=>match us,hl with | [_],_=>rfl) fun f fd F=>fn1 F sc_free_of rfl fun a hp=>b_free_of c_freed a hp
 have c_is_whole:Cal lp w K mg base 1 "is_whole" ["k"] (sp1 K (fun (_:Int)=>True) true (fun _=>true)):=d_is_whole.cal X G (fun _ _ _ _ _ _ us hl=>match us,hl with | [_],_=>rfl) fun f fd F=>fn1 F sc_is_whole rfl fun a _=>b_is_whole B a
 have c_is_row_number:Cal lp w K mg base 2 "is_row_number" ["k"] (sp1 K (fun (_:Int)=>True) true irn):=d_is_row_number.cal X G (fun _ _ _ _ _ _ us hl=>match us,hl with | [_],_=>rfl) fun f fd F=>fn1 F sc_is_row_number rfl fun a _=>b_is_row_number B g_GREAT_FROM c_is_whole a
 have c_is_row:Cal lp w K mg base 3 "is_row" ["row"] (sp1 K (fun (xs:List Int)=>xs.length≤1000) true isRow):=d_is_row.cal X G (fun _ _ _ _ _ _ us hl=>match us,hl with | [_],_=>rfl) fun f fd F=>fn1 F sc_is_row rfl fun a hp=>b_is_row B g_LONGEST c_is_row_number a hp
 have c_refuse_no_row:Cal lp w K mg base 4 "refuse_no_row" ["row"] (sp1 K (fun (xs:List Int)=>isRow xs=true) true unit1):=d_refuse_no_row.cal X G (fun _ _ _ _ _ _ us hl=>match us,hl with | [_],_=>rfl) fun f fd F=>fn1U F sc_refuse_no_row rfl fun a hp=>b_refuse_no_row c_is_row a hp
 have c_column:Cal lp w K mg base 1 "column" ["T","j"] (sp2 K (fun (T:Tb) (j:Int)=>T.length≤8∧0≤j∧∀ r∈T,j < (r.length:Int)) true colm):=d_column.cal X G (fun _ _ _ _ _ _ us hl=>match us,hl with | [_,_],_=>rfl) fun f fd F=>fn2 F sc_column rfl fun T j hp=>b_column T j hp.1 hp.2.1 hp.2.2
 have c_turned_over:Cal lp w K mg base 2 "turned_over" ["T"] (sp1 K (fun (T:Tb)=>∃ n,PTb n T) true tov):=d_turned_over.cal X G (fun _ _ _ _ _ _ us hl=>match us,hl with | [_],_=>rfl) fun f fd F=>fn1 F sc_turned_over rfl fun T hp=>hp.elim fun n h=>b_turned_over B c_column n T h
 have c_common_bottom:Cal lp w K mg base 2 "common_bottom" ["numbers"] (sp1 K PRow true lcmB):=d_common_bottom.cal X G (fun _ _ _ _ _ _ us hl=>match us,hl with | [_],_=>rfl) fun f fd F=>fn1 F sc_common_bottom rfl fun us h=>b_common_bottom c_common_divisor us h
 have c_over_one_bottom:Cal lp w K mg base 3 "over_one_bottom" ["numbers"] (sp1 K PRow true oob):=d_over_one_bottom.cal X G (fun _ _ _ _ _ _ us hl=>match us,hl with | [_],_=>rfl) fun f fd F=>fn1 F sc_over_one_bottom rfl fun us h=>b_over_one_bottom c_common_bottom us h
 have c_sum_of_products:Cal lp w K mg base 3 "sum_of_products" ["one","other"] (sp2 K (fun a b=>POb a∧POb b) true sop):=d_sum_of_products.cal X G (fun _ _ _ _ _ _ us hl=>match us,hl with | [_,_],_=>rfl) fun f fd F=>fn2 F sc_sum_of_products rfl fun a b h=>b_sum_of_products B c_fraction a b h.1 h.2
 have c_sums_with:Cal lp w K mg base 4 "sums_with" ["one","others"] (sp2 K (fun (a:List Int × Int) (bs:List (List Int × Int))=>POb a∧bs.length≤8∧∀ b∈bs,POb b) true swi):=d_sums_with.cal X G (fun _ _ _ _ _ _ us hl=>match us,hl with | [_,_],_=>rfl) fun f fd F=>fn2 F sc_sums_with rfl fun a b h=>b_sums_with c_sum_of_products a b h.1 h.2.1 h.2.2
 have c_at:Cal lp w K mg base 5 "at" ["T","x"] (sp2 K (fun (T:Tb) (x:List Fr)=>T.length≤8∧(∀ r∈T,PRow r)∧PRow x) true atv):=d_at.cal X G (fun _ _ _ _ _ _ us hl=>match us,hl with | [_,_],_=>rfl) fun f fd F=>fn2 F sc_at rfl fun T x h=>b_at c_over_one_bottom c_sums_with T x h.1 h.2.1 h.2.2
 have c_product:Cal lp w K mg base 5 "product" ["one","other"] (sp2 K (fun (A B:Tb)=>∃ n,PTb n A∧PTb n B) true prd):=d_product.cal X G (fun _ _ _ _ _ _ us hl=>match us,hl with | [_,_],_=>rfl) fun f fd F=>fn2 F sc_product rfl fun A B h=>h.elim fun n h=>b_product c_turned_over c_over_one_bottom c_sums_with n A B h.1 h.2
 have c_led:Cal lp w K mg base 6 "led" ["F","T"] (sp2 K PLd true _root_.EP.ledF):=d_led.cal X G (fun _ _ _ _ _ _ us hl=>match us,hl with | [_,_],_=>rfl) fun f fd F=>fn2 F sc_led rfl fun F T hp=>b_led c_turned_over c_product F T hp
 have c_with_number:Cal lp w K mg base 1 "with_number" ["n","place","number"] (sp3 K (fun (n _:Int) (_:Fr)=>0≤n∧n≤8) true wNumZ):=d_with_number.cal X G (fun _ _ _ _ _ _ us hl=>match us,hl with | [_,_,_],_=>rfl) fun f fd F=>fn3 F sc_with_number rfl fun n p u hp=>b_with_number B n p u hp.1 hp.2
 have c_form_of:Cal lp w K mg base 2 "form_of" ["numbers"] (sp1 K (fun (us:List Fr)=>us.length≤8) true _root_.EP.fOf):=d_form_of.cal X G (fun _ _ _ _ _ _ us hl=>match us,hl with | [_],_=>rfl) fun f fd F=>fn1 F sc_form_of rfl fun us hp=>b_form_of B c_with_number us hp
 have c_joined:Cal lp w K mg base 2 "joined" ["a","b"] (sp2 K PJn true jnF):=d_joined.cal X G (fun _ _ _ _ _ _ us hl=>match us,hl with | [_,_],_=>rfl) fun f fd F=>fn2 F sc_joined rfl fun a c hp=>b_joined c_common_divisor a c hp
 have c_free_product:Cal lp w K mg base 7 "free_product" ["row"] (sp1 K PFp true fpF):=d_free_product.cal X G (fun _ _ _ _ _ _ us hl=>match us,hl with | [_],_=>rfl) fun f fd F=>fn1 F sc_free_product rfl fun a hp=>b_free_product c_joined c_free_of a hp
 have c_made_of_two:Cal lp w K mg base 3 "made_of_two" ["a","b","x","y"] (sp4 K PMd true mdF):=d_made_of_two.cal X G (fun _ _ _ _ _ _ us hl=>match us,hl with | [_,_,_,_],_=>rfl) fun f fd F=>fn4 F sc_made_of_two rfl fun a c d e hp=>b_made_of_two c_fraction a c d e hp
 have c_is_free:Cal lp w K mg base 7 "is_free" ["k"] (sp1 K (fun (_:Int)=>True) true ifF):=d_is_free.cal X G (fun _ _ _ _ _ _ us hl=>match us,hl with | [_],_=>rfl) fun f fd F=>fn1 F sc_is_free rfl fun a _=>b_is_free c_is_row_number c_free_of a
 have c_numbers_behind:Cal lp w K mg base 8 "numbers_behind" ["row","step"] (sp2 K (fun (r:List Int) (d:Dt)=>∃ s,d.d=stD s∧PNb r s∧nbOk r s) true nbD):=d_numbers_behind.cal X G (fun _ _ _ _ _ _ us hl=>match us,hl with | [_,_],_=>rfl) fun f fd F=>fn2 F sc_numbers_behind rfl fun a c hp=>hp.elim fun s h=>b_numbers_behind B g_GREAT_FROM c_joined c_free_product c_made_of_two c_is_free a c s h.1 h.2.1 h.2.2
 have c_numbers_behindR:CalR lp w K mg base 8 "numbers_behind" ["row","step"] (spR2 K (fun (r:List Int) (d:Dt)=>∃ s,d.d=stD s∧PNb r s∧¬ nbOk r s) cS):=d_numbers_behind.calR X G (fun _ _ _ _ _ _ us hl=>match us,hl with | [_,_],_=>rfl) fun f fd F=>fnR2 F sc_numbers_behind rfl fun a c hp=>hp.elim fun s h=>b_numbers_behindR B g_GREAT_FROM c_joined c_free_product c_made_of_two c_is_free xs a c s h.1 h.2.1 h.2.2
 have c_row_with:Cal lp w K mg base 1 "row_with" ["row","step","numbers"] (sp3 K (fun (r:List Int) (d:Dt) (_:Fr)=>∃ s,d.d=stD s∧nb1 r s) true rwD):=d_row_with.cal X G (fun _ _ _ _ _ _ us hl=>match us,hl with | [_,_,_],_=>rfl) fun f fd F=>fn3 F sc_row_with rfl fun a c d hp=>hp.elim fun s h=>b_row_with B a c d s h.1 h.2
 have c_is_wholeD:Cal lp w K mg base 1 "is_whole" ["k"] (sp1 K (fun (_:Dt)=>True) true whD):=d_is_whole.cal X G (fun _ _ _ _ _ _ us hl=>match us,hl with | [_],_=>rfl) fun f fd F=>fn1 F sc_is_whole rfl fun a _=>b_is_wholeD B a
 have c_is_fraction:Cal lp w K mg base 2 "is_fraction" ["thing"] (sp1 K (fun (_:Dt)=>True) true isFrD):=d_is_fraction.cal X G (fun _ _ _ _ _ _ us hl=>match us,hl with | [_],_=>rfl) fun f fd F=>fn1 F sc_is_fraction rfl fun a _=>b_is_fraction B c_is_wholeD c_common_divisor a
 have c_is_vector:Cal lp w K mg base 3 "is_vector" ["thing","n"] (sp2 K (fun (x:Dt) (_:Int)=>Ln x.d) true isVcD):=d_is_vector.cal X G (fun _ _ _ _ _ _ us hl=>match us,hl with | [_,_],_=>rfl) fun f fd F=>fn2 F sc_is_vector rfl fun a c hp=>b_is_vector B c_is_fraction a c hp
 have c_is_table:Cal lp w K mg base 4 "is_table" ["thing","n"] (sp2 K (fun (x:Dt) (_:Int)=>Lt2 x.d) true isTbD):=d_is_table.cal X G (fun _ _ _ _ _ _ us hl=>match us,hl with | [_,_],_=>rfl) fun f fd F=>fn2 F sc_is_table rfl fun a c hp=>b_is_table B c_is_vector a c hp
 have c_is_row_numberD:Cal lp w K mg base 2 "is_row_number" ["k"] (sp1 K (fun (_:Dt)=>True) true rnD):=d_is_row_number.cal X G (fun _ _ _ _ _ _ us hl=>match us,hl with | [_],_=>rfl) fun f fd F=>fn1 F sc_is_row_number rfl fun a _=>b_is_row_numberD B g_GREAT_FROM c_is_wholeD a
 have c_is_rowD:Cal lp w K mg base 3 "is_row" ["row"] (sp1 K (fun (x:Dt)=>Ln x.d) true isRowD):=d_is_row.cal X G (fun _ _ _ _ _ _ us hl=>match us,hl with | [_],_=>rfl) fun f fd F=>fn1 F sc_is_row rfl fun a hp=>b_is_rowD B g_LONGEST c_is_row_numberD a hp
 have c_form_of_row:Cal lp w K mg base 3 "form_of_row" ["row"] (sp1 K (fun (r:List Int)=>r.length≤8) true forRow):=d_form_of_row.cal X G (fun _ _ _ _ _ _ us hl=>match us,hl with | [_],_=>rfl) fun f fd F=>fn1 F sc_form_of_row rfl fun a hp=>b_form_of_row c_form_of a hp
 have c_is_led:Cal lp w K mg base 7 "is_led" ["row","other","T"] (sp3 K PLe true leF):=d_is_led.cal X G (fun _ _ _ _ _ _ us hl=>match us,hl with | [_,_,_],_=>rfl) fun f fd F=>fn3 F sc_is_led rfl fun a c d hp=>b_is_led B c_is_rowD c_is_table c_led c_form_of_row a c d hp
 have c_is_like_step:Cal lp w K mg base 3 "is_like_step" ["thing"] (sp1 K (fun (_:Dt)=>True) true lkD):=d_is_like_step.cal X G (fun _ _ _ _ _ _ us hl=>match us,hl with | [_],_=>rfl) fun f fd F=>fn1 F sc_is_like_step rfl fun a _=>b_is_like_step B c_is_wholeD c_is_fraction a
 have c_row_behind:Cal lp w K mg base 9 "row_behind" ["row","steps"] (sp2 K PRb true rbD):=d_row_behind.cal X G (fun _ _ _ _ _ _ us hl=>match us,hl with | [_,_],_=>rfl) fun f fd F=>fn2 F sc_row_behind rfl fun a c hp=>hp.2.elim fun ss h=>b_row_behind B c_numbers_behind c_row_with a c ss h.1 h.2.1 hp.1 h.2.2
 have c_row_behindR:CalR lp w K mg base 9 "row_behind" ["row","steps"] (spR2 K PRr cS):=d_row_behind.calR X G (fun _ _ _ _ _ _ us hl=>match us,hl with | [_,_],_=>rfl) fun f fd F=>fnR2 F sc_row_behind rfl fun a c hp=>hp.2.elim fun ss h=>h.elim fun bad h=>h.elim fun tl h=>b_row_behindR B c_numbers_behind c_numbers_behindR c_row_with a c ss bad tl h.1 hp.1 h.2.1 h.2.2.1 h.2.2.2
 have c_is_led_by_steps:Cal lp w K mg base 10 "is_led_by_steps" ["row","other","steps"] (sp3 K PSt true stF):=d_is_led_by_steps.cal X G (fun _ _ _ _ _ _ us hl=>match us,hl with | [_,_,_],_=>rfl) fun f fd F=>fn3 F sc_is_led_by_steps rfl fun a c d hp=>b_is_led_by_steps B xs c_is_rowD c_is_like_step c_row_behind c_row_behindR a c d hp
 have c_has_pairs_ahead:Cal lp w K mg base 2 "has_pairs_ahead" ["row","k"] (sp2 K (fun (r:List Int) (_:Dt)=>isRow r=true) true hpF):=d_has_pairs_ahead.cal X G (fun _ _ _ _ _ _ us hl=>match us,hl with | [_,_],_=>rfl) fun f fd F=>fn2 F sc_has_pairs_ahead rfl fun a c hp=>b_has_pairs_ahead B c_is_wholeD a c hp
 have c_lets_three_by:Cal lp w K mg base 11 "lets_three_by" ["row","kind","thing","last"] (sp4 K (fun (r:List Int) (k c x:Dt)=>k.d=.str "steps"∧PSt r c x) true (fun r _ c x=>stF r c x)):=d_lets_three_by.cal X G (fun _ _ _ _ _ _ us hl=>match us,hl with | [_,_,_,_],_=>rfl) fun f fd F=>fn4 F sc_lets_three_by rfl fun a c d e hp=>b_lets_three_by B c_is_led_by_steps a c d e hp.1 hp.2
 have c_lets_by:Cal lp w K mg base 12 "lets_by" ["row","paper"] (sp2 K PLm true lmF):=d_lets_by.cal X G (fun _ _ _ _ _ _ us hl=>match us,hl with | [_,_],_=>rfl) fun f fd F=>fn2 F sc_lets_by rfl fun a c hp=>b_lets_by B c_refuse_no_row c_lets_three_by c_is_led c_has_pairs_ahead a c hp
 have c_law_deep:Cal lp w K mg base 1 "_law_deep" ["_law_script","_law_k"] (sp2 K (fun _ k=>0≤k∧k≤100) true deep):=d_law_deep.cal X G (fun _ _ _ _ _ _ us hl=>match us,hl with | [_,_],_=>rfl) fun f fd F=>fn2 F sc_law_deep rfl fun a c hp=>b_law_deep B a c hp.1 hp.2
 have c_law_common:Cal lp w K mg base 1 "_law_common" ["_law_one","_law_other"] (sp2 K (fun _ _=>True) true gcI):=d_law_common.cal X G (fun _ _ _ _ _ _ us hl=>match us,hl with | [_,_],_=>rfl) fun f fd F=>fn2 F sc_law_common rfl fun a c _=>b_law_common B a c
 have c_law_wholeD:Cal lp w K mg base 1 "_law_whole" ["_law_found"] (sp1 K (fun (_:Dt)=>True) true whD):=d_law_whole.cal X G (fun _ _ _ _ _ _ us hl=>match us,hl with | [_],_=>rfl) fun f fd F=>fn1 F sc_law_whole rfl fun a _=>b_law_wholeD B a
 have c_law_fraction:Cal lp w K mg base 2 "_law_fraction" ["_law_top","_law_bottom"] (sp2 K PFr true fr):=d_law_fraction.cal X G (fun _ _ _ _ _ _ us hl=>match us,hl with | [_,_],_=>rfl) fun f fd F=>fn2 F sc_law_fraction rfl fun a c hp=>b_law_fraction c_law_common a c hp.1 hp.2
 have c_law_plus:Cal lp w K mg base 3 "_law_plus" ["_law_u","_law_v"] (sp2 K LAdd true fadd):=d_law_plus.cal X G (fun _ _ _ _ _ _ us hl=>match us,hl with | [_,_],_=>rfl) fun f fd F=>fn2 F sc_law_plus rfl fun u v hp=>b_law_plus c_law_fraction u v hp
 have c_law_times:Cal lp w K mg base 3 "_law_times" ["_law_u","_law_v"] (sp2 K LAdd true fmul):=d_law_times.cal X G (fun _ _ _ _ _ _ us hl=>match us,hl with | [_,_],_=>rfl) fun f fd F=>fn2 F sc_law_times rfl fun u v hp=>b_law_times c_law_fraction u v hp
 have c_law_lets:Cal lp w K mg base 13 "_law_lets" ["_law_row_here","_law_paper"] (sp2 K PLm true lmF):=d_law_lets.cal X G (fun _ _ _ _ _ _ us hl=>match us,hl with | [_,_],_=>rfl) fun f fd F=>fn2 F sc_law_lets rfl fun a c hp=>b_law_lets B c_lets_by a c hp
 have c_law_is_fraction:Cal lp w K mg base 2 "_law_is_fraction" ["_law_thing"] (sp1 K (fun (_:Dt)=>True) true isFrD):=d_law_is_fraction.cal X G (fun _ _ _ _ _ _ us hl=>match us,hl with | [_],_=>rfl) fun f fd F=>fn1 F sc_law_is_fraction rfl fun a _=>b_law_is_fraction B c_law_wholeD c_law_common a
 have c_law_plain:Cal lp w K mg base 1 "_law_plain" ["_law_many"] (sp1 K (fun n=>(0:Int)≤n∧n≤8) true plTO):=d_law_plain.cal X G (fun _ _ _ _ _ _ us hl=>match us,hl with | [_],_=>rfl) fun f fd F=>fn1 F sc_law_plain rfl fun n hp=>b_law_plain B n hp.1 hp.2
 have c_law_free:Cal lp w K mg base 1 "_law_free" ["_law_number"] (sp1 K (fun (n:Int)=>n≠0∧n.natAbs < 1073741824) true foF):=d_law_free.cal X G (fun _ _ _ _ _ _ us hl=>match us,hl with | [_],_=>rfl) fun f fd F=>fn1 F sc_law_free rfl fun a hp=>b_law_free B a hp.1 hp.2
 have c_law_row:Cal lp w K mg base 1 "_law_row" ["_law_cell","_law_size"] (spE2 K (fun (_ m:Int)=>1≤m∧m≤8) true (fun _ m r=>RwQ m.toNat r)):=d_law_row.cal X G (fun _ _ _ _ _ _ us hl=>match us,hl with | [_,_],_=>rfl) fun f fd F=>fnE2 F sc_law_row rfl fun a c hp=>b_law_row B a c hp.1 hp.2
 have c_law_root_of:Cal lp w K mg base 1 "_law_root_of" ["_law_number"] (spE1 K (fun (_:Int)=>True) true (fun _ (r:Int)=>1≤r∧r≤59)):=d_law_root_of.cal X G (fun _ _ _ _ _ _ us hl=>match us,hl with | [_],_=>rfl) fun f fd F=>fnE1 F sc_law_root_of rfl fun a _=>b_law_root_of B a
 have c_law_stepped:Cal lp w K mg base 4 "_law_stepped" ["_law_row_here","_law_step"] (sp2 K PSd true lwO):=d_law_stepped.cal X G (fun _ _ _ _ _ _ us hl=>match us,hl with | [_,_],_=>rfl) fun f fd F=>fn2 F sc_law_stepped rfl fun a c hp=>b_law_stepped B c_law_wholeD c_law_is_fraction c_law_times c_law_plus c_law_free c_law_common a c hp
 have c_law_all:Cal lp w K mg base 5 "_law_all" ["_law_row_here","_law_steps_here"] (sp2 K (fun (r:List Int) (d:Dt)=>isRow r=true∧Kd d.d) false lwA):=d_law_all.cal X G (fun _ _ _ _ _ _ us hl=>match us,hl with | [_,_],_=>rfl) fun f fd F=>fn2 F sc_law_all rfl fun a c hp=>b_law_all B c_law_stepped a c hp.1 hp.2
 have c_law_steps:Cal lp w K mg base 5 "_law_steps" ["_law_row_here","_law_cell"] (spE2 K (fun (r:List Int) (_:Int)=>RQ r) true (fun r _ (u:List Dt × List Int)=>LsP r u)):=d_law_steps.cal X G (fun _ _ _ _ _ _ us hl=>match us,hl with | [_,_],_=>rfl) fun f fd F=>fnE2 F sc_law_steps rfl fun a c hp=>b_law_steps B c_law_fraction c_law_root_of c_law_stepped a c hp
 have c_law_spoilt:Cal lp w K mg base 1 "_law_spoilt" ["_law_steps_here","_law_cell"] (spE2 K (fun (ds:List Dt) (_:Int)=>∃ ss:List Stp,ds=ss.map stK∧ss.length≤3) false (fun ds _ (d:Dt)=>∃ ss:List Stp,ds=ss.map stK∧SpP ss d)):=d_law_spoilt.cal X G (fun _ _ _ _ _ _ us hl=>match us,hl with | [_,_],_=>rfl) fun f fd F=>fnE2 F sc_law_spoilt rfl fun a c hp=>hp.elim fun ss h=>b_law_spoilt B a c ss h.1 h.2
 have c_law_pairs:Cal lp w K mg base 14 "_law_pairs" ["_law_row_here","_law_cell"] (sp2 K (fun (r:List Int) (_:Int)=>PaQ r) true (fun _ _=>true)):=d_law_pairs.cal X G (fun _ _ _ _ _ _ us hl=>match us,hl with | [_,_],_=>rfl) fun f fd F=>fn2 F sc_law_pairs rfl fun a c hp=>b_law_pairs B c_law_plain c_law_wholeD c_law_lets a c hp
 exact fn1 F sc_law rfl fun a hp=>b_law B c_law_deep c_law_row c_law_steps c_law_spoilt c_law_all c_law_lets c_law_pairs a hp
end L2.EP.K
namespace PySem.W.Fast
def tw11110975323289068642:Nat:=0
def tw5727946855326776897:Nat:=0
def tw2171567341809076940:Nat:=0
def tw1056870746185702019:Nat:=0
def tw17898026214878175254:Nat:=0
def tw6933125153622339894:Nat:=0
def tw6948775459345981975:Nat:=0
def tw5616528314693474533:Nat:=0
def tw5776527890361683326:Nat:=0
def tw15932217014434889883:Nat:=0
def tw6109488841490695369:Nat:=0
def tw12417477922122312348:Nat:=0
def tw6757694829574137165:Nat:=0
def tw9622969437652903138:Nat:=0
def tw4929075332708646228:Nat:=0
def tw7557660599353526796:Nat:=0
def tw2871437135437525334:Nat:=0
def tw13552426206453276095:Nat:=0
def tw12006401545592302494:Nat:=0
def tw15512101530760534372:Nat:=0
def tw9535782547886380513:Nat:=0
def tw6208769759592856845:Nat:=0
def tw18443053023840374025:Nat:=0
def tw6448156417809390286:Nat:=0
def tw17030062421954160688:Nat:=0
def tw209138466221364334:Nat:=0
def tw1245134315746977386:Nat:=0
def tw5926476927915242551:Nat:=0
def tw884602548976342465:Nat:=0
def tw11625420309562987622:Nat:=0
def tw2457952342558979772:Nat:=0
def tw16201202881167539684:Nat:=0
def tw2354025234057206392:Nat:=0
def tw8649465300890196212:Nat:=0
def tw11162121527254733846:Nat:=0
def tw14520794841501162983:Nat:=0
def tw7908246439923327602:Nat:=0
def tw12507202017874365607:Nat:=0
def tw4357788562043325634:Nat:=0
def tw13474411575691321810:Nat:=0
def tw8542275506177797916:Nat:=0
def tw14173262480976707260:Nat:=0
def tw297976679950491226:Nat:=0
def tw16045249203452934777:Nat:=0
def tw10060929673411218399:Nat:=0
def tw16056379501955794066:Nat:=0
def tw17044445949381310538:Nat:=0
def tw15238068929628489600:Nat:=0
def tw2872446398133655036:Nat:=0
def tw18007869624001467163:Nat:=0
def tw8896015732180357042:Nat:=0
def tw17573621293886533108:Nat:=0
def tw13333132406136975830:Nat:=0
def tw11251860620219592984:Nat:=0
def tw3399607447448730653:Nat:=0
def tw18287560190806428640:Nat:=0
def tw839747228773690324:Nat:=0
end PySem.W.Fast
open PySem PySem.W PyProof.Rows
set_option maxRecDepth 100000 in
set_option maxHeartbeats 0 in
theorem PySem.Challenge.cw_everyplace_k71_papers_of_steps_and_pairs_holds : PySem.Challenge.rw_everyplace_k71_papers_of_steps_and_pairs.Holds := by
 w_on; o_law; k_head; (case hw => w_witness2)
 k_fill
 refine L2.walk_ofK (l := PySem.Challenge.rw_everyplace_k71_papers_of_steps_and_pairs) (n := 63) (k := 15) (x := "_law_script") (CX := L2.CX0) (sp := L2.EP.spLaw) rfl (by decide) rfl ⟨rfl, by decide, by decide⟩ (fun w h Y => PySem.W.kIn_of Y) ?F ?S ?C
 case F =>
  intro w mg fa h KX G hmg
  have B : L2.EP.Bu mg := by
   refine' L2.EP.bu_mk (K := L2.KOf KX) KX G ?z1 ?z2 ?z3 ?z4 ?z5 ?z6 ?z7 ?z8 ?z9 ?z10 ?z11 ?z12 ?z13 ?z14 ?z15 ?z16 ?z17 ?z18 ?z19
   all_goals (dsimp only [L2.KOf]; k_is)
  have d_taken_out : L2.EP.Df (L2.KOf KX) "taken_out" L2.EP.K.s_taken_out := by
   dsimp only [L2.KOf]
   refine' L2.EP.Df.mk ?a ?l ?c ?k
   (case a=>k_is);(case l=>k_is);(case c=>k_is);(case k=>k_is)
  have d_square_root : L2.EP.Df (L2.KOf KX) "square_root" L2.EP.K.s_square_root := by
   dsimp only [L2.KOf]
   refine' L2.EP.Df.mk ?a ?l ?c ?k
   (case a=>k_is);(case l=>k_is);(case c=>k_is);(case k=>k_is)
  have d_square_root_or_none : L2.EP.Df (L2.KOf KX) "square_root_or_none" L2.EP.K.s_square_root_or_none := by
   dsimp only [L2.KOf]
   refine' L2.EP.Df.mk ?a ?l ?c ?k
   (case a=>k_is);(case l=>k_is);(case c=>k_is);(case k=>k_is)
  have d_common_divisor : L2.EP.Df (L2.KOf KX) "common_divisor" L2.EP.K.s_common_divisor := by
   dsimp only [L2.KOf]
   refine' L2.EP.Df.mk ?a ?l ?c ?k
   (case a=>k_is);(case l=>k_is);(case c=>k_is);(case k=>k_is)
  have d_fraction : L2.EP.Df (L2.KOf KX) "fraction" L2.EP.K.s_fraction := by
   dsimp only [L2.KOf]
   refine' L2.EP.Df.mk ?a ?l ?c ?k
   (case a=>k_is);(case l=>k_is);(case c=>k_is);(case k=>k_is)
  have d_next_divisor : L2.EP.Df (L2.KOf KX) "next_divisor" L2.EP.K.s_next_divisor := by
   dsimp only [L2.KOf]
   refine' L2.EP.Df.mk ?a ?l ?c ?k
   (case a=>k_is);(case l=>k_is);(case c=>k_is);(case k=>k_is)
  have d_divided : L2.EP.Df (L2.KOf KX) "divided" L2.EP.K.s_divided := by
   dsimp only [L2.KOf]
   refine' L2.EP.Df.mk ?a ?l ?c ?k
   (case a=>k_is);(case l=>k_is);(case c=>k_is);(case k=>k_is)
  have d_tame_parts : L2.EP.Df (L2.KOf KX) "tame_parts" L2.EP.K.s_tame_parts := by
   dsimp only [L2.KOf]
   refine' L2.EP.Df.mk ?a ?l ?c ?k
   (case a=>k_is);(case l=>k_is);(case c=>k_is);(case k=>k_is)
  have d_power : L2.EP.Df (L2.KOf KX) "power" L2.EP.K.s_power := by
   dsimp only [L2.KOf]
   refine' L2.EP.Df.mk ?a ?l ?c ?k
   (case a=>k_is);(case l=>k_is);(case c=>k_is);(case k=>k_is)
  have d_freed : L2.EP.Df (L2.KOf KX) "freed" L2.EP.K.s_freed := by
   dsimp only [L2.KOf]
   refine' L2.EP.Df.mk ?a ?l ?c ?k
   (case a=>k_is);(case l=>k_is);(case c=>k_is);(case k=>k_is)
  have d_free_of : L2.EP.Df (L2.KOf KX) "free_of" L2.EP.K.s_free_of := by
   dsimp only [L2.KOf]
   refine' L2.EP.Df.mk ?a ?l ?c ?k
   (case a=>k_is);(case l=>k_is);(case c=>k_is);(case k=>k_is)
  have d_is_whole : L2.EP.Df (L2.KOf KX) "is_whole" L2.EP.K.s_is_whole := by
   dsimp only [L2.KOf]
   refine' L2.EP.Df.mk ?a ?l ?c ?k
   (case a=>k_is);(case l=>k_is);(case c=>k_is);(case k=>k_is)
  have d_is_row_number : L2.EP.Df (L2.KOf KX) "is_row_number" L2.EP.K.s_is_row_number := by
   dsimp only [L2.KOf]
   refine' L2.EP.Df.mk ?a ?l ?c ?k
   (case a=>k_is);(case l=>k_is);(case c=>k_is);(case k=>k_is)
  have d_is_row : L2.EP.Df (L2.KOf KX) "is_row" L2.EP.K.s_is_row := by
   dsimp only [L2.KOf]
   refine' L2.EP.Df.mk ?a ?l ?c ?k
   (case a=>k_is);(case l=>k_is);(case c=>k_is);(case k=>k_is)
  have d_refuse_no_row : L2.EP.Df (L2.KOf KX) "refuse_no_row" L2.EP.K.s_refuse_no_row := by
   dsimp only [L2.KOf]
   refine' L2.EP.Df.mk ?a ?l ?c ?k
   (case a=>k_is);(case l=>k_is);(case c=>k_is);(case k=>k_is)
  have d_column : L2.EP.Df (L2.KOf KX) "column" L2.EP.K.s_column := by
   dsimp only [L2.KOf]
   refine' L2.EP.Df.mk ?a ?l ?c ?k
   (case a=>k_is);(case l=>k_is);(case c=>k_is);(case k=>k_is)
  have d_turned_over : L2.EP.Df (L2.KOf KX) "turned_over" L2.EP.K.s_turned_over := by
   dsimp only [L2.KOf]
   refine' L2.EP.Df.mk ?a ?l ?c ?k
   (case a=>k_is);(case l=>k_is);(case c=>k_is);(case k=>k_is)
  have d_common_bottom : L2.EP.Df (L2.KOf KX) "common_bottom" L2.EP.K.s_common_bottom := by
   dsimp only [L2.KOf]
   refine' L2.EP.Df.mk ?a ?l ?c ?k
   (case a=>k_is);(case l=>k_is);(case c=>k_is);(case k=>k_is)
  have d_over_one_bottom : L2.EP.Df (L2.KOf KX) "over_one_bottom" L2.EP.K.s_over_one_bottom := by
   dsimp only [L2.KOf]
   refine' L2.EP.Df.mk ?a ?l ?c ?k
   (case a=>k_is);(case l=>k_is);(case c=>k_is);(case k=>k_is)
  have d_sum_of_products : L2.EP.Df (L2.KOf KX) "sum_of_products" L2.EP.K.s_sum_of_products := by
   dsimp only [L2.KOf]
   refine' L2.EP.Df.mk ?a ?l ?c ?k
   (case a=>k_is);(case l=>k_is);(case c=>k_is);(case k=>k_is)
  have d_sums_with : L2.EP.Df (L2.KOf KX) "sums_with" L2.EP.K.s_sums_with := by
   dsimp only [L2.KOf]
   refine' L2.EP.Df.mk ?a ?l ?c ?k
   (case a=>k_is);(case l=>k_is);(case c=>k_is);(case k=>k_is)
  have d_at : L2.EP.Df (L2.KOf KX) "at" L2.EP.K.s_at := by
   dsimp only [L2.KOf]
   refine' L2.EP.Df.mk ?a ?l ?c ?k
   (case a=>k_is);(case l=>k_is);(case c=>k_is);(case k=>k_is)
  have d_product : L2.EP.Df (L2.KOf KX) "product" L2.EP.K.s_product := by
   dsimp only [L2.KOf]
   refine' L2.EP.Df.mk ?a ?l ?c ?k
   (case a=>k_is);(case l=>k_is);(case c=>k_is);(case k=>k_is)
  have d_led : L2.EP.Df (L2.KOf KX) "led" L2.EP.K.s_led := by
   dsimp only [L2.KOf]
   refine' L2.EP.Df.mk ?a ?l ?c ?k
   (case a=>k_is);(case l=>k_is);(case c=>k_is);(case k=>k_is)
  have d_with_number : L2.EP.Df (L2.KOf KX) "with_number" L2.EP.K.s_with_number := by
   dsimp only [L2.KOf]
   refine' L2.EP.Df.mk ?a ?l ?c ?k
   (case a=>k_is);(case l=>k_is);(case c=>k_is);(case k=>k_is)
  have d_form_of : L2.EP.Df (L2.KOf KX) "form_of" L2.EP.K.s_form_of := by
   dsimp only [L2.KOf]
   refine' L2.EP.Df.mk ?a ?l ?c ?k
   (case a=>k_is);(case l=>k_is);(case c=>k_is);(case k=>k_is)
  have d_joined : L2.EP.Df (L2.KOf KX) "joined" L2.EP.K.s_joined := by
   dsimp only [L2.KOf]
   refine' L2.EP.Df.mk ?a ?l ?c ?k
   (case a=>k_is);(case l=>k_is);(case c=>k_is);(case k=>k_is)
  have d_free_product : L2.EP.Df (L2.KOf KX) "free_product" L2.EP.K.s_free_product := by
   dsimp only [L2.KOf]
   refine' L2.EP.Df.mk ?a ?l ?c ?k
   (case a=>k_is);(case l=>k_is);(case c=>k_is);(case k=>k_is)
  have d_made_of_two : L2.EP.Df (L2.KOf KX) "made_of_two" L2.EP.K.s_made_of_two := by
   dsimp only [L2.KOf]
   refine' L2.EP.Df.mk ?a ?l ?c ?k
   (case a=>k_is);(case l=>k_is);(case c=>k_is);(case k=>k_is)
  have d_is_free : L2.EP.Df (L2.KOf KX) "is_free" L2.EP.K.s_is_free := by
   dsimp only [L2.KOf]
   refine' L2.EP.Df.mk ?a ?l ?c ?k
   (case a=>k_is);(case l=>k_is);(case c=>k_is);(case k=>k_is)
  have d_numbers_behind : L2.EP.Df (L2.KOf KX) "numbers_behind" L2.EP.K.s_numbers_behind := by
   dsimp only [L2.KOf]
   refine' L2.EP.Df.mk ?a ?l ?c ?k
   (case a=>k_is);(case l=>k_is);(case c=>k_is);(case k=>k_is)
  have d_row_with : L2.EP.Df (L2.KOf KX) "row_with" L2.EP.K.s_row_with := by
   dsimp only [L2.KOf]
   refine' L2.EP.Df.mk ?a ?l ?c ?k
   (case a=>k_is);(case l=>k_is);(case c=>k_is);(case k=>k_is)
  have d_is_fraction : L2.EP.Df (L2.KOf KX) "is_fraction" L2.EP.K.s_is_fraction := by
   dsimp only [L2.KOf]
   refine' L2.EP.Df.mk ?a ?l ?c ?k
   (case a=>k_is);(case l=>k_is);(case c=>k_is);(case k=>k_is)
  have d_is_vector : L2.EP.Df (L2.KOf KX) "is_vector" L2.EP.K.s_is_vector := by
   dsimp only [L2.KOf]
   refine' L2.EP.Df.mk ?a ?l ?c ?k
   (case a=>k_is);(case l=>k_is);(case c=>k_is);(case k=>k_is)
  have d_is_table : L2.EP.Df (L2.KOf KX) "is_table" L2.EP.K.s_is_table := by
   dsimp only [L2.KOf]
   refine' L2.EP.Df.mk ?a ?l ?c ?k
   (case a=>k_is);(case l=>k_is);(case c=>k_is);(case k=>k_is)
  have d_form_of_row : L2.EP.Df (L2.KOf KX) "form_of_row" L2.EP.K.s_form_of_row := by
   dsimp only [L2.KOf]
   refine' L2.EP.Df.mk ?a ?l ?c ?k
   (case a=>k_is);(case l=>k_is);(case c=>k_is);(case k=>k_is)
  have d_is_led : L2.EP.Df (L2.KOf KX) "is_led" L2.EP.K.s_is_led := by
   dsimp only [L2.KOf]
   refine' L2.EP.Df.mk ?a ?l ?c ?k
   (case a=>k_is);(case l=>k_is);(case c=>k_is);(case k=>k_is)
  have d_is_like_step : L2.EP.Df (L2.KOf KX) "is_like_step" L2.EP.K.s_is_like_step := by
   dsimp only [L2.KOf]
   refine' L2.EP.Df.mk ?a ?l ?c ?k
   (case a=>k_is);(case l=>k_is);(case c=>k_is);(case k=>k_is)
  have d_row_behind : L2.EP.Df (L2.KOf KX) "row_behind" L2.EP.K.s_row_behind := by
   dsimp only [L2.KOf]
   refine' L2.EP.Df.mk ?a ?l ?c ?k
   (case a=>k_is);(case l=>k_is);(case c=>k_is);(case k=>k_is)
  have d_is_led_by_steps : L2.EP.Df (L2.KOf KX) "is_led_by_steps" L2.EP.K.s_is_led_by_steps := by
   dsimp only [L2.KOf]
   refine' L2.EP.Df.mk ?a ?l ?c ?k
   (case a=>k_is);(case l=>k_is);(case c=>k_is);(case k=>k_is)
  have d_has_pairs_ahead : L2.EP.Df (L2.KOf KX) "has_pairs_ahead" L2.EP.K.s_has_pairs_ahead := by
   dsimp only [L2.KOf]
   refine' L2.EP.Df.mk ?a ?l ?c ?k
   (case a=>k_is);(case l=>k_is);(case c=>k_is);(case k=>k_is)
  have d_lets_three_by : L2.EP.Df (L2.KOf KX) "lets_three_by" L2.EP.K.s_lets_three_by := by
   dsimp only [L2.KOf]
   refine' L2.EP.Df.mk ?a ?l ?c ?k
   (case a=>k_is);(case l=>k_is);(case c=>k_is);(case k=>k_is)
  have d_lets_by : L2.EP.Df (L2.KOf KX) "lets_by" L2.EP.K.s_lets_by := by
   dsimp only [L2.KOf]
   refine' L2.EP.Df.mk ?a ?l ?c ?k
   (case a=>k_is);(case l=>k_is);(case c=>k_is);(case k=>k_is)
  have d_law_deep : L2.EP.Df (L2.KOf KX) "_law_deep" L2.EP.K.s_law_deep := by
   dsimp only [L2.KOf]
   refine' L2.EP.Df.mk ?a ?l ?c ?k
   (case a=>k_is);(case l=>k_is);(case c=>k_is);(case k=>k_is)
  have d_law_common : L2.EP.Df (L2.KOf KX) "_law_common" L2.EP.K.s_law_common := by
   dsimp only [L2.KOf]
   refine' L2.EP.Df.mk ?a ?l ?c ?k
   (case a=>k_is);(case l=>k_is);(case c=>k_is);(case k=>k_is)
  have d_law_whole : L2.EP.Df (L2.KOf KX) "_law_whole" L2.EP.K.s_law_whole := by
   dsimp only [L2.KOf]
   refine' L2.EP.Df.mk ?a ?l ?c ?k
   (case a=>k_is);(case l=>k_is);(case c=>k_is);(case k=>k_is)
  have d_law_fraction : L2.EP.Df (L2.KOf KX) "_law_fraction" L2.EP.K.s_law_fraction := by
   dsimp only [L2.KOf]
   refine' L2.EP.Df.mk ?a ?l ?c ?k
   (case a=>k_is);(case l=>k_is);(case c=>k_is);(case k=>k_is)
  have d_law_plus : L2.EP.Df (L2.KOf KX) "_law_plus" L2.EP.K.s_law_plus := by
   dsimp only [L2.KOf]
   refine' L2.EP.Df.mk ?a ?l ?c ?k
   (case a=>k_is);(case l=>k_is);(case c=>k_is);(case k=>k_is)
  have d_law_times : L2.EP.Df (L2.KOf KX) "_law_times" L2.EP.K.s_law_times := by
   dsimp only [L2.KOf]
   refine' L2.EP.Df.mk ?a ?l ?c ?k
   (case a=>k_is);(case l=>k_is);(case c=>k_is);(case k=>k_is)
  have d_law_lets : L2.EP.Df (L2.KOf KX) "_law_lets" L2.EP.K.s_law_lets := by
   dsimp only [L2.KOf]
   refine' L2.EP.Df.mk ?a ?l ?c ?k
   (case a=>k_is);(case l=>k_is);(case c=>k_is);(case k=>k_is)
  have d_law_is_fraction : L2.EP.Df (L2.KOf KX) "_law_is_fraction" L2.EP.K.s_law_is_fraction := by
   dsimp only [L2.KOf]
   refine' L2.EP.Df.mk ?a ?l ?c ?k
   (case a=>k_is);(case l=>k_is);(case c=>k_is);(case k=>k_is)
  have d_law_plain : L2.EP.Df (L2.KOf KX) "_law_plain" L2.EP.K.s_law_plain := by
   dsimp only [L2.KOf]
   refine' L2.EP.Df.mk ?a ?l ?c ?k
   (case a=>k_is);(case l=>k_is);(case c=>k_is);(case k=>k_is)
  have d_law_free : L2.EP.Df (L2.KOf KX) "_law_free" L2.EP.K.s_law_free := by
   dsimp only [L2.KOf]
   refine' L2.EP.Df.mk ?a ?l ?c ?k
   (case a=>k_is);(case l=>k_is);(case c=>k_is);(case k=>k_is)
  have d_law_row : L2.EP.Df (L2.KOf KX) "_law_row" L2.EP.K.s_law_row := by
   dsimp only [L2.KOf]
   refine' L2.EP.Df.mk ?a ?l ?c ?k
   (case a=>k_is);(case l=>k_is);(case c=>k_is);(case k=>k_is)
  have d_law_root_of : L2.EP.Df (L2.KOf KX) "_law_root_of" L2.EP.K.s_law_root_of := by
   dsimp only [L2.KOf]
   refine' L2.EP.Df.mk ?a ?l ?c ?k
   (case a=>k_is);(case l=>k_is);(case c=>k_is);(case k=>k_is)
  have d_law_stepped : L2.EP.Df (L2.KOf KX) "_law_stepped" L2.EP.K.s_law_stepped := by
   dsimp only [L2.KOf]
   refine' L2.EP.Df.mk ?a ?l ?c ?k
   (case a=>k_is);(case l=>k_is);(case c=>k_is);(case k=>k_is)
  have d_law_all : L2.EP.Df (L2.KOf KX) "_law_all" L2.EP.K.s_law_all := by
   dsimp only [L2.KOf]
   refine' L2.EP.Df.mk ?a ?l ?c ?k
   (case a=>k_is);(case l=>k_is);(case c=>k_is);(case k=>k_is)
  have d_law_steps : L2.EP.Df (L2.KOf KX) "_law_steps" L2.EP.K.s_law_steps := by
   dsimp only [L2.KOf]
   refine' L2.EP.Df.mk ?a ?l ?c ?k
   (case a=>k_is);(case l=>k_is);(case c=>k_is);(case k=>k_is)
  have d_law_spoilt : L2.EP.Df (L2.KOf KX) "_law_spoilt" L2.EP.K.s_law_spoilt := by
   dsimp only [L2.KOf]
   refine' L2.EP.Df.mk ?a ?l ?c ?k
   (case a=>k_is);(case l=>k_is);(case c=>k_is);(case k=>k_is)
  have d_law_pairs : L2.EP.Df (L2.KOf KX) "_law_pairs" L2.EP.K.s_law_pairs := by
   dsimp only [L2.KOf]
   refine' L2.EP.Df.mk ?a ?l ?c ?k
   (case a=>k_is);(case l=>k_is);(case c=>k_is);(case k=>k_is)
  have d_law : L2.EP.Df (L2.KOf KX) "law" L2.EP.K.s_law := by
   dsimp only [L2.KOf]
   refine' L2.EP.Df.mk ?a ?l ?c ?k
   (case a=>k_is);(case l=>k_is);(case c=>k_is);(case k=>k_is)
  have g_GREAT_PRIMES_FROM : L2.EP.MgI mg "GREAT_PRIMES_FROM" 32768 := by
   refine' L2.EP.MgI.mk (K := L2.KOf KX) KX G ?ga0
   (case ga0 => dsimp only [L2.KOf]; k_is)
  have g_GREAT_FROM : L2.EP.MgI mg "GREAT_FROM" 1073741824 := by
   refine' L2.EP.MgI.mk (K := L2.KOf KX) KX G ?ga1
   (case ga1 => dsimp only [L2.KOf]; k_is)
  have g_LONGEST : L2.EP.MgI mg "LONGEST" 8 := by
   refine' L2.EP.MgI.mk (K := L2.KOf KX) KX G ?ga2
   (case ga2 => dsimp only [L2.KOf]; k_is)
  obtain ⟨cS, xs⟩ : ∃ cS, L2.EP.Xz (L2.KOf KX) mg cS := by
   refine' ⟨_, L2.EP.xz_mk (K := L2.KOf KX) KX G ?xz1 ?xy1⟩
   (case xz1 => dsimp only [L2.KOf]; k_is); (case xy1 => dsimp only [L2.KOf]; kernel_rfl)
  exact L2.EP.K.fin KX G hmg B xs g_GREAT_PRIMES_FROM g_GREAT_FROM g_LONGEST d_taken_out d_square_root d_square_root_or_none d_common_divisor d_fraction d_next_divisor d_divided d_tame_parts d_power d_freed d_free_of d_is_whole d_is_row_number d_is_row d_refuse_no_row d_column d_turned_over d_common_bottom d_over_one_bottom d_sum_of_products d_sums_with d_at d_product d_led d_with_number d_form_of d_joined d_free_product d_made_of_two d_is_free d_numbers_behind d_row_with d_is_fraction d_is_vector d_is_table d_form_of_row d_is_led d_is_like_step d_row_behind d_is_led_by_steps d_has_pairs_ahead d_lets_three_by d_lets_by d_law_deep d_law_common d_law_whole d_law_fraction d_law_plus d_law_times d_law_lets d_law_is_fraction d_law_plain d_law_free d_law_row d_law_root_of d_law_stepped d_law_all d_law_steps d_law_spoilt d_law_pairs d_law
 case S => exact fun K H a ns hl hO hS => L2.EP.law_start K H a ns hl hS
 case C => exact fun _ _ _ _ z => z
