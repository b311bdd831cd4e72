import PyProof.Rows.All
import Wide.All
import OpenK.AllK
import Wide.FinOn
import Lean
import PyProof.EqAt
import PyProof.EqKinds
import PyProof.TupleCall
import PyProof.NeData
import PyProof.P3Eq
import KE.KTryMore
import PyProof.ExcArgs
import PyProof.Rows.CountFlat
import PyProof.ExcBaseAll.ValueError
import PyProof.Conv_int_bool
import PyProof.IsiPairs
import PyProof.IsiNone
import PyProof.IsiStr
import PyProof.IsiBool
import PyProof.IsiHeapPairs
import KE.KRevIter
import PyProof.CollectIter
import PyProof.WalksMore
import PyProof.Rows.SortRunsK
import KE.KSortKey
import PyProof.Rows.RuleN_abs
import PyProof.Rows.CallKwBuiltin
import PySem.Challenge.RW_everyplace_k63_built_rows
set_option Elab.async false
set_option linter.all false
set_option maxRecDepth 100000
namespace L2
open PySem PySem.Spec PyProof.Rows
abbrev Key:=Sum Int Str
def kG:Key->Value->Bool
 |.inl k,v=>Value.isInt k v
 |.inr x,v=>Value.isStrOf x v
def IC(w:World):Key->Int
 |.inl k=>hashInt k
 |.inr x=>hashStr w x
theorem br:∀{k:Key} {v:Value},kG k v=true->(∃i t,k=Sum.inl i/\v=Value.int i t)\/(∃x t,k=Sum.inr x/\v=Value.str x t)
 |.inl i,v,h=>by
  obtain⟨t,e⟩:=Value.isInt_shape (k:=i) (v:=v) h;exact .inl ⟨i,t,rfl,e⟩
 |.inr x,v,h=>by
  obtain⟨t,e⟩:=Value.isStrOf_shape (x:=x) (v:=v) h;exact .inr ⟨x,t,rfl,e⟩
theorem wG(i:Int)(t:Tok):kG (.inl i) (.int i t)=true:=by simp[kG,Value.isInt]
theorem wX(x:Str)(t:Tok):kG (.inr x) (.str x t)=true:=by simp[kG,Value.isStrOf]
theorem DA(a b:Int):decide ((Sum.inl a:Key)=Sum.inl b)=(a==b):=by
 by_cases e:a=b
 .subst e;simp
 .have h:¬(Sum.inl a:Key)=Sum.inl b:=fun q=>e (Sum.inl.inj q);rw[decide_eq_false h];exact(beq_eq_false_iff_ne.mpr e).symm
theorem D1(a b:Str):decide ((Sum.inr a:Key)=Sum.inr b)=decide (a=b):=by
 by_cases e:a=b
 .subst e;simp
 .have h:¬(Sum.inr a:Key)=Sum.inr b:=fun q=>e (Sum.inr.inj q);rw[decide_eq_false h,decide_eq_false e]
theorem Eu(a:Int)(b:Str):decide ((Sum.inl a:Key)=Sum.inr b)=false:=decide_eq_false (fun q=>nomatch q)
theorem E2(a:Str)(b:Int):decide ((Sum.inr a:Key)=Sum.inl b)=false:=decide_eq_false (fun q=>nomatch q)
def aX(prog:Program)(w:World):PySem.KeyKind prog w Key where
 is:=kG
 hash:=IC w
 inj:=fun v a b ha hb=>by
  rcases br ha with⟨i,t,rfl,rfl⟩|⟨x,t,rfl,rfl⟩
  .rcases br hb with⟨j,u,rfl,e⟩|⟨y,u,rfl,e⟩
   .injection e with e1 _;rw[e1]
   .exact nomatch e
  .rcases br hb with⟨j,u,rfl,e⟩|⟨y,u,rfl,e⟩
   .exact nomatch e
   .injection e with e1 _;rw[e1]
 byValue:=fun k v h=>by
  rcases br h with⟨i,t,rfl,rfl⟩|⟨x,t,rfl,rfl⟩<;>rfl
 pyHash:=fun hv h=>by
  rcases br hv with⟨i,t,rfl,rfl⟩|⟨x,t,rfl,rfl⟩
  .exact wpAny_pyHash_int h
  .exact wpAny_pyHash_str h
 eqBool:=fun hu hv h=>by
  rcases br hu with⟨i,t,rfl,rfl⟩|⟨x,t,rfl,rfl⟩
  .rcases br hv with⟨j,u,rfl,rfl⟩|⟨y,u,rfl,rfl⟩
   .rw[DA] at h;exact wpAny_eqBool_int h
   .rw[Eu] at h;exact SeqAt.EqAt.int_str i t y u _ _ _ _ h
  .rcases br hv with⟨j,u,rfl,rfl⟩|⟨y,u,rfl,rfl⟩
   .rw[E2] at h;exact SeqAt.EqAt.str_int x t j u _ _ _ _ h
   .rw[D1] at h;exact wpAny_eqBool_str h
 «strs»:=fun k x t v h=>by
  rcases br h with⟨i,u,rfl,e⟩|⟨y,u,rfl,e⟩
  .exact nomatch e
  .injection e with e1 _;subst e1;cases v<;>rfl
theorem qE(prog:Program)(w:World)(i:Int)(t:Tok):(aX prog w).is (.inl i) (.int i t)=true:=wG i t
theorem rE(prog:Program)(w:World)(x:Str)(t:Tok):(aX prog w).is (.inr x) (.str x t)=true:=wX x t
def bI(b:Bool):Int:=if b then 1 else 0
def G8(k:Int)(v:Value):Bool:=match v with
 |.int i _=>i==k
 |.bool b=>bI b==k
 |_=>false
theorem bR{k:Int}{v:Value}(h:G8 k v=true):(∃t,v=Value.int k t)\/∃b,k=bI b/\v=Value.bool b:=by
 cases v with
 |int i t=>exact .inl ⟨t,by rw[eq_of_beq (show(i==k)=true from h)]⟩
 |bool b=>exact .inr ⟨b,(eq_of_beq (show(bI b==k)=true from h)).symm,rfl⟩
 |_=>exact nomatch h
theorem pJ{prog:Program}{w:World}{A:Around}{E:Value->Shared->Prop}{s:Shared}{b:Bool}{Q:Int->Shared->Prop}(h:Q (hashInt (bI b)) {s with toks:=s.toks+1}):wpAny (model prog w) A (pyHash (.bool b)) Q E s:=by
 refine PySem.W.pyHash_slot (T:="bool") rfl F.slot_bool_hash entry_int_hash (args_int_hash _) (beq_builtin_none _) (.inl rfl) ?_;cases b
 .exact(show wpAny _ _ (do ret (<-mkInt 0)) _ _ s from wpAny_bind (wpAny_mkInt (wpAny_pure ⟨0,_,rfl,h⟩)))
 .exact(show wpAny _ _ (do ret (<-mkInt 1)) _ _ s from wpAny_bind (wpAny_mkInt (wpAny_pure ⟨1,_,rfl,h⟩)))
theorem AK(a b:Int):decide (a=b)=(a==b):=by
 by_cases e:a=b
 .subst e;simp
 .rw[decide_eq_false e];exact(beq_eq_false_iff_ne.mpr e).symm
def uw(prog:Program)(w:World):PySem.KeyKind prog w Int where
 is:=G8
 hash:=hashInt
 inj:=fun v a b ha hb=>by
  rcases bR ha with⟨t,rfl⟩|⟨x,rfl,rfl⟩
  .rcases bR hb with⟨u,e⟩|⟨y,rfl,e⟩
   .injection e
   .cases e
  .rcases bR hb with⟨u,e⟩|⟨y,rfl,e⟩
   .cases e
   .injection e with e;rw[e]
 byValue:=fun k v h=>by
  rcases bR h with⟨t,rfl⟩|⟨x,rfl,rfl⟩<;>rfl
 pyHash:=fun hv h=>by
  rcases bR hv with⟨t,rfl⟩|⟨x,rfl,rfl⟩
  .exact wpAny_pyHash_int h
  .exact pJ h
 eqBool:=fun {A E s a b u v Q} hu hv h=>by
  rw[AK] at h;rcases bR hu with⟨t,rfl⟩|⟨x,rfl,rfl⟩
  .rcases bR hv with⟨t',rfl⟩|⟨y,rfl,rfl⟩
   .exact wpAny_eqBool_int h
   .exact SeqAt.EqAt.int_bool _ t y _ _ _ _ h
  .rcases bR hv with⟨t',rfl⟩|⟨y,rfl,rfl⟩
   .exact SeqAt.EqAt.bool_int x _ t' _ _ _ _ h
   .refine SeqAt.EqAt.bool_bool x y _ _ _ _ ?_;rw[show(x==y)=(bI x==bI y) by cases x<;>cases y<;>rfl];exact h
 «strs»:=fun k x t v h=>by
  rcases bR h with⟨u,e⟩|⟨y,_,e⟩<;>cases e
def kl(k:Int×Bool):List Int:=[k.1,bI k.2]
theorem Aj{x y:Int×Bool}(h:kl x=kl y):x=y:=by
 obtain⟨x1,x2⟩:=x;obtain⟨y1,y2⟩:=y;have h1:x1=y1/\bI x2=bI y2:=by simpa [kl] using h
 obtain⟨rfl,h2⟩:=h1;cases x2<;>cases y2<;>first|rfl|exact absurd h2 (by decide)
theorem D8(x y:Int×Bool):decide (kl x=kl y)=decide (x=y):=decide_eq_decide.mpr ⟨Aj,fun h=>by rw[h]⟩
def fU(prog:Program)(w:World):PySem.HeapKind prog w (Int×Bool) where
 is:=fun h k a=>IsTupleKey (uw prog w) h (kl k) a
 hash:=fun k=>tupleKeyHash (uw prog w) (kl k)
 draws:=fun _=>3
 room:=fun A=>A.units<cLine
 inj:=fun hx hy=>Aj (hx.inj hy)
 keeps:=fun x ho hd hs=>x.keeps ho hd hs
 pyHash:=fun hu hk h=>wpAny_pyHash_tuple hu hk h
 eqBool:=fun {A E s x y a b Q} hu hx hy h=>wpAny_eqBool_tuple hu hx hy (by rw[D8];exact h)
 quiet:=fun hk h=>wpAny_eqIsQuiet_tuple hk h
theorem nH{prog:Program}{w:World}{A:Around}(hu:A.units+1<cLine):(fU prog w).room A.in1:=hu
inductive V where
 |non|bl (b:Bool)|int (i:Int)|str (x:Str)|byt (b:Array UInt8)|flt (b:UInt64)|ref (a:Addr)|ty (n:String)
 deriving DecidableEq
def RelV:V->Value->Prop
 |.non,u=>u=Value.none
 |.bl b,u=>u=Value.bool b
 |.int i,u=>∃t,u=Value.int i t
 |.str x,u=>∃t,u=Value.str x t
 |.byt b,u=>∃t,u=Value.bytes b t
 |.flt b,u=>∃t,u=Value.float b t
 |.ref a,u=>u=Value.ref a
 |.ty n,u=>u=Value.type n
abbrev Vals:List V->List Value->Prop:=Paired RelV
theorem Vals.length{xs:List V}{us:List Value}(r:Vals xs us):xs.length=us.length:=Paired.length r
theorem Vals.get:∀{xs:List V} {us:List Value} {i:Nat} {x:V},Vals xs us->xs[i]?=some x->∃u,us[i]?=some u/\RelV x u
 |_,_,_,_,.nil,e=>by simp at e
 |_,_,0,_,.cons r _,e=>by simp at e;subst e;exact⟨_,rfl,r⟩
 |_,_,i+1,x,.cons _ t,e=>by
  obtain⟨u,h1,h2⟩:=Vals.get (i:=i) (x:=x) t (by simpa using e);exact⟨u,by simpa using h1,h2⟩
theorem Vals.append:∀{xs ys:List V} {us ws:List Value},Vals xs us->Vals ys ws->Vals (xs++ys) (us++ws)
 |_,_,_,_,.nil,s=>s
 |_,_,_,_,.cons r t,s=>.cons r (Vals.append t s)
theorem Vals.take:∀{xs:List V} {us:List Value} (n:Nat),Vals xs us->Vals (xs.take n) (us.take n)
 |_,_,0,_=>.nil
 |_,_,_+1,.nil=>.nil
 |_,_,n+1,.cons r t=>.cons r (Vals.take n t)
theorem Vals.drop:∀{xs:List V} {us:List Value} (n:Nat),Vals xs us->Vals (xs.drop n) (us.drop n)
 |_,_,0,r=>r
 |_,_,_+1,.nil=>.nil
 |_,_,n+1,.cons _ t=>Vals.drop n t
def wz:Option V->Option Value->Prop
 |some v,some u=>RelV v u
 |none,none=>True
 |_,_=>False
def KV{κ:Type}:List (κ×V)->List (κ×Value)->Prop:=Paired fun(p:κ×V) (q:κ×Value)=>p.1=q.1/\RelV p.2 q.2
def kV:Key->V
 |.inl i=>.int i
 |.inr x=>.str x
def kB(k:Int×Bool):List V:=[.int k.1,.bl k.2]
inductive HO where
 |lst (xs:List V)
 |tup (xs:List V)
 |dK (kvs:List (Key×V))|dT (kvs:List (List Key×V))
 |dB (kvs:List ((Int×Bool)×V))
 |set (S:Int->Bool) (n:Nat)
 |ins (C dx:Addr) (fs:List (Str×V))
 |own (x:Addr)
 |xd (fs:List (Str×V))
 |met (f x:Addr)
 |rng (lo hi:Int)
 |frz (o:Obj) (u:HO)
 |tbl (ps:Array Value)
 |ext (φ:Heap->Prop)
abbrev Hp:=Addr->Option HO
def upd(H:Hp)(a:Addr)(o:HO):Hp:=fun b=>if b=a then some o else H b
theorem bq{H:Hp}{a:Addr}{o:HO}:upd H a o a=some o:=by unfold upd;rw[if_pos rfl]
theorem aO{H:Hp}{a b:Addr}{o:HO}(h:b≠a):upd H a o b=H b:=by unfold upd;rw[if_neg h]
theorem CJ{H:Hp}{a b:Addr}{o u:HO}(h:H a=some o)(h':H b=some u)(d:o≠u):a≠b:=by
 intro e;subst e;rw[h] at h';exact d (Option.some.inj h')
theorem bz{H:Hp}{a b:Addr}{o:HO}(h:H a=some o)(h':H b=none):a≠b:=by
 intro e;subst e;rw[h] at h';cases h'
section
variable(P:Program)(w:World)
def cb(H:Hp)(h:Heap)(a:Addr):HO->Prop
 |.lst xs=>xs.length<=sizeLine/\∃(its:List Value) (n:Nat),Vals xs its/\h.get? a=some {cls:=.type "list",data:=.seq its.toArray n}
 |.tup xs=>xs.length<=sizeLine/\∃its:List Value,Vals xs its/\IsTup h a its.toArray
 |.dK kvs=>kvs.length<=sizeLine/\(a==sysModules)=false/\∃vs,KV kvs vs/\h.DictOf (aX P w) a vs
 |.dT kvs=>kvs.length<=sizeLine/\(a==sysModules)=false/\∃xs:List (List Key×Addr×Value),
   Paired (fun(p:List Key×V) (q:List Key×Addr×Value)=>p.1=q.1/\H q.2.1=some (.tup (p.1.map kV))/\RelV p.2 q.2.2) kvs xs /\
   ∃o es ep,h.get? a=some o/\o.ExactDict/\o.data=.dict es ep/\es.toList=xs.map (entryOfKey (tupleKind (aX P w)))/\(xs.map (·.1)).Nodup
 |.dB kvs=>kvs.length<=sizeLine/\(a==sysModules)=false/\∃xs:List ((Int×Bool)×Addr×Value),
   Paired (fun(p:(Int×Bool)×V) (q:(Int×Bool)×Addr×Value)=>p.1=q.1/\H q.2.1=some (.tup (kB p.1))/\RelV p.2 q.2.2) kvs xs /\
   ∃o es ep,h.get? a=some o/\o.ExactDict/\o.data=.dict es ep/\es.toList=xs.map (entryOfKey (fU P w))/\(xs.map (·.1)).Nodup
 |.set S n=>h.SetOf (intKind P w) a S n
 |.ins C dx fs=>H dx=some (.own a)/\fs.length<=1000/\dx≠a/\h.get? a=some (PySem.W.instObj C dx) /\
   ∃mA,h.Ns1 dx mA/\(∀f,wz (fs.lookup f) (mA f))/\PySem.Within mA (fs.map (·.1))
 |.own _=>∃o,h.get? a=some o
 |.xd fs=>∃mA,h.Ns1 a mA/\∀f,wz (fs.lookup f) (mA f)
 |.rng lo hi=>∃t u v,h.get? a=some {cls:=.type "range",data:=.fields #[.int lo t,.int hi u,.int 1 v]}
 |.frz o u=>h.get? a=some o/\cb H h a u
 |.tbl ps=>h.get? a=some {cls:=.none,data:=.fields ps}
 |.met f x=>h.get? a=some (PySem.W.methodObj (.ref f) (.ref x))
 |.ext φ=>φ h/\(∃o,h.get? a=some o)/\∀h1 h2:Heap,φ h1->(∀o,h1.get? a=some o->h2.get? a=some o)->φ h2
def iN(H:Hp)(h:Heap):Prop:=∀a o,H a=some o->cb P w H h a o
end
section
variable{P:Program}{w:World}{H H':Hp}{h h':Heap}{a:Addr}{o:HO}
theorem cb.lt(x:cb P w H h a o):a<h.objs.size:=by
 cases o with
 |lst xs=>obtain⟨_,_,_,_,e⟩:=x;exact Heap.lt_size e
 |tup xs=>obtain⟨_,_,_,p⟩:=x;exact p.lt
 |dK kvs=>obtain⟨_,_,_,_,o,_,_,e,_⟩:=x;exact Heap.lt_size e
 |dT kvs=>obtain⟨_,_,_,_,o,_,_,e,_⟩:=x;exact Heap.lt_size e
 |dB kvs=>obtain⟨_,_,_,_,o,_,_,e,_⟩:=x;exact Heap.lt_size e
 |set S n=>obtain⟨o,_,_,_,e,_⟩:=x;exact Heap.lt_size e
 |ins C dx fs=>obtain⟨_,_,_,e,_⟩:=x;exact Heap.lt_size e
 |own y=>obtain⟨_,e⟩:=x;exact Heap.lt_size e
 |xd fs=>obtain⟨_,⟨_,_,_,e,_⟩,_⟩:=x;exact Heap.lt_size e
 |rng lo hi=>obtain⟨_,_,_,e⟩:=x;exact Heap.lt_size e
 |frz ob u=>obtain⟨e,_⟩:=x;exact Heap.lt_size e
 |tbl ps=>exact Heap.lt_size (show h.get? a=some _ from x)
 |met f y=>exact Heap.lt_size (show h.get? a=some _ from x)
 |ext φ=>obtain⟨_,⟨_,e⟩,_⟩:=x;exact Heap.lt_size e
theorem Paired.Ae{α β:Type}{F G:α->β->Prop}:∀{l₁:List α} {l₂:List β},Paired F l₁ l₂->(∀a b,F a b->G a b)->Paired G l₁ l₂
 |_,_,.nil,_=>.nil
 |_,_,.cons r t,f=>.cons (f _ _ r) (Paired.Ae t f)
theorem cb.tD(x:cb P w H h a o)(k:∀b u,(b=a\/H b=some (.own a))->h.get? b=some u->h'.get? b=some u)
  (ho:∀b,H b=some (.own a)->H' b=some (.own a)) (ht:∀b xs,H b=some (.tup xs)->H' b=some (.tup xs)):cb P w H' h' a o:=by
 induction o with
 |lst xs=>obtain⟨z,its,n,r,e⟩:=x;exact⟨z,its,n,r,k _ _ (.inl rfl) e⟩
 |tup xs=>obtain⟨z,its,r,ob,e,c⟩:=x;exact⟨z,its,r,ob,k _ _ (.inl rfl) e,c⟩
 |dK kvs=>obtain⟨z,y,vs,r,ob,es,ep,e,c⟩:=x;exact⟨z,y,vs,r,ob,es,ep,k _ _ (.inl rfl) e,c⟩
 |dT kvs =>
  obtain⟨z,y,xs,r,ob,es,ep,e,c⟩:=x;exact⟨z,y,xs,Paired.Ae r fun p q z=>⟨z.1,ht _ _ z.2.1,z.2.2⟩,ob,es,ep,k _ _ (.inl rfl) e,c⟩
 |dB kvs =>
  obtain⟨z,y,xs,r,ob,es,ep,e,c⟩:=x;exact⟨z,y,xs,Paired.Ae r fun p q z=>⟨z.1,ht _ _ z.2.1,z.2.2⟩,ob,es,ep,k _ _ (.inl rfl) e,c⟩
 |set S n=>obtain⟨ob,es,ep,t,e,c⟩:=x;exact⟨ob,es,ep,t,k _ _ (.inl rfl) e,c⟩
 |ins C dx fs =>
  obtain⟨d,z,ne,e,mA,⟨od,es,ep,e2,c⟩,r⟩:=x;exact⟨ho _ d,z,ne,k _ _ (.inl rfl) e,mA,⟨od,es,ep,k _ _ (.inr d) e2,c⟩,r⟩
 |own y=>obtain⟨ob,e⟩:=x;exact⟨ob,k _ _ (.inl rfl) e⟩
 |xd fs=>obtain⟨mA,⟨od,es,ep,e,c⟩,r⟩:=x;exact⟨mA,⟨od,es,ep,k _ _ (.inl rfl) e,c⟩,r⟩
 |rng lo hi=>obtain⟨t,u,v,e⟩:=x;exact⟨t,u,v,k _ _ (.inl rfl) e⟩
 |frz ob u ih=>obtain⟨e,q⟩:=x;exact⟨k _ _ (.inl rfl) e,ih q⟩
 |tbl ps =>
  have e:h.get? a=some {cls:=.none,data:=.fields ps}:=x;show h'.get? a=some {cls:=.none,data:=.fields ps};exact k a _ (.inl rfl) e
 |met f y =>
  have e:h.get? a=some (PySem.W.methodObj (.ref f) (.ref y)):=x;show h'.get? a=some (PySem.W.methodObj (.ref f) (.ref y));exact k a _ (.inl rfl) e
 |ext φ=>obtain⟨p,⟨o,e⟩,st⟩:=x;exact⟨st _ _ p fun o q=>k _ _ (.inl rfl) q,⟨o,k _ _ (.inl rfl) e⟩,st⟩
theorem iN.lt(x:iN P w H h)(e:H a=some o):a<h.objs.size:=(x a o e).lt
theorem iN.fresh(x:iN P w H h)(e:h.objs.size<=a):H a=none:=by
 cases q:H a with
 |none=>rfl
 |some u=>exact absurd (Nat.lt_of_lt_of_le (x.lt q) e) (Nat.lt_irrefl _)
theorem iN.kept(x:iN P w H h)(k:∀b u,h.get? b=some u->h'.get? b=some u):iN P w H h':=fun a o e =>
 (x a o e).tD (fun b u _ q=>k b u q) (fun _ q=>q) fun _ _ q=>q
theorem iN.laid(x:iN P w H h)(k:∀b u,h.get? b=some u->h'.get? b=some u)(hp:h.objs.size<=a)(new:cb P w (upd H a o) h' a o):iN P w (upd H a o) h':=fun b u e=>by
 have hn:=x.fresh hp;by_cases hb:b=a
 .subst hb;rw[bq] at e;cases e;exact new
 .rw[aO hb] at e;exact(x b u e).tD (fun c v _ q=>k c v q) (fun c q=>by rw[aO (bz q hn)];exact q) fun c xs q=>by rw[aO (bz q hn)];exact q
end
def Rd(H:Hp)(a:Addr)(u:HO):Prop:=H a=some u\/∃o,H a=some (.frz o u)
theorem Rd.ok{P:Program}{w:World}{H:Hp}{h:Heap}{a:Addr}{u:HO}(r:Rd H a u)(x:iN P w H h):cb P w H h a u:=by
 rcases r with r|⟨o,r⟩
 .exact x a u r
 .obtain⟨_,q⟩:=x a _ r;exact q
def GF:Option HO->Prop
 |some (.lst _)=>True
 |some (.dK _)=>True
 |some (.dT _)=>True
 |some (.dB _)=>True
 |some (.set _ _)=>True
 |some (.ins _ _ _)=>True
 |some (.ext _)=>True
 |_=>False
section
variable{P:Program}{w:World}{H:Hp}{h h':Heap}{x e:Addr}{o':HO}
theorem iN.write(ok:iN P w H h)(mu:GF (H x))(he:e=x\/H e=some (.own x))(k:∀b u,b≠e->h.get? b=some u->h'.get? b=some u)(heo:∃u,h'.get? e=some u)
  (new:cb P w (upd H x o') h' x o'):iN P w (upd H x o') h':=fun b u q=>by
 have nown:∀c y,H c=some (.own y)->c≠x:=fun c y r z=>by subst z;rw[r] at mu;exact mu
 have ntup:∀c xs,H c=some (.tup xs)->c≠x:=fun c xs r z=>by subst z;rw[r] at mu;exact mu
 by_cases hb:b=x
 .subst hb;rw[bq] at q;cases q;exact new
 .rw[aO hb] at q;by_cases hbe:b=e
  .have q':H b=some (.own x):=by
    rcases he with z|z
    .exact absurd (hbe.trans z) hb
    .rw[hbe];exact z
   rw[q] at q';cases q';obtain⟨v,hv⟩:=heo;exact⟨v,by rw[hbe];exact hv⟩
  .refine(ok b u q).tD (fun c v hc r=>k c v ?_ r) (fun c r=>by rw[aO (nown c b r)];exact r) fun c xs r=>by rw[aO (ntup c xs r)];exact r
   rcases hc with rfl|hc
   .exact hbe
   .rintro rfl;rcases he with z|z
    .exact nown c b hc z
    .rw[hc] at z;cases z;exact hb rfl
end
structure Un(fs ex:List Addr)(H H':Hp)(h h':Heap):Prop where
 keep:∀b o,h.get? b=some o->H b=none->b∉fs->b∉ex->h'.get? b=some o
 slot:∀b o,h.get? b=some o->H b=none->b∈fs->b∉ex->∃sl,h'.get? b=some {o with slots:=sl}
 free:∀b o,h.get? b=some o->H b=none->b∉ex->H' b=none
 there:∀b o,h.get? b=some o->b∉ex->∃o',h'.get? b=some o'
 tups:∀b xs,H b=some (.tup xs)->H' b=some (.tup xs)
 frzs:∀b o u,H b=some (.frz o u)->H' b=some (.frz o u)
 tbls:∀b ps,H b=some (.tbl ps)->∃more,H' b=some (.tbl (ps++more))
section
variable{fs fs' ex ex':List Addr}{H H1 H2:Hp}{h h1 h2 h':Heap}{a x e:Addr}{o:HO}
theorem Un.any(u:Un fs ex H H1 h h1){b:Addr}{ob:Obj}(q:h.get? b=some ob)(n:H b=none)(hx:b∉ex):∃sl,h1.get? b=some {ob with slots:=sl}:=by
 by_cases hb:b∈fs
 .exact u.slot b ob q n hb hx
 .exact⟨ob.slots,u.keep b ob q n hb hx⟩
theorem Un.trans(a:Un fs ex H H1 h h1)(b:Un fs ex H1 H2 h1 h2):Un fs ex H H2 h h2 where
 keep:=fun c ob q n hc hx=>b.keep c ob (a.keep c ob q n hc hx) (a.free c ob q n hx) hc hx
 slot:=fun c ob q n hc hx=>by
  obtain⟨sl,e1⟩:=a.slot c ob q n hc hx;obtain⟨sl',e2⟩:=b.slot c _ e1 (a.free c ob q n hx) hc hx;exact⟨sl',e2⟩
 free:=fun c ob q n hx=>by
  obtain⟨o',e1⟩:=a.there c ob q hx;exact b.free c o' e1 (a.free c ob q n hx) hx
 there:=fun c ob q hx=>by
  obtain⟨o',e1⟩:=a.there c ob q hx;exact b.there c o' e1 hx
 tups:=fun c xs q=>b.tups c xs (a.tups c xs q)
 frzs:=fun c ob xs q=>b.frzs c ob xs (a.frzs c ob xs q)
 tbls:=fun c ps q=>by
  obtain⟨m1,e1⟩:=a.tbls c ps q;obtain⟨m2,e2⟩:=b.tbls c _ e1;exact⟨m1++m2,by rw[e2,Array.append_assoc]⟩
theorem Un.kept(k:∀b u,h.get? b=some u->h'.get? b=some u):Un fs ex H H h h' :=
 ⟨fun b ob q _ _ _=>k b ob q,fun b ob q _ _ _=>⟨ob.slots,k b ob q⟩,fun _ _ _ n _=>n,fun b ob q _=>⟨ob,k b ob q⟩,fun _ _ q=>q,fun _ _ _ q=>q,fun _ ps q=>⟨#[],by rw[q];simp⟩⟩
theorem Un.refl:Un fs ex H H h h:=Un.kept fun _ _ q=>q
theorem Un.laid(k:∀b u,h.get? b=some u->h'.get? b=some u)(hp:h.objs.size<=a)(hn:H a=none):Un fs ex H (upd H a o) h h' where
 keep:=fun b u q _ _ _=>k b u q
 slot:=fun b u q _ _ _=>⟨u.slots,k b u q⟩
 free:=fun b u q n _=>by rw[aO (Nat.ne_of_lt (Nat.lt_of_lt_of_le (Heap.lt_size q) hp))];exact n
 there:=fun b u q _=>⟨u,k b u q⟩
 tups:=fun b xs q=>by rw[aO (bz q hn)];exact q
 frzs:=fun b u xs q=>by rw[aO (bz q hn)];exact q
 tbls:=fun b ps q=>⟨#[],by rw[aO (bz q hn),q];simp⟩
theorem Un.write(mu:GF (H x))(he:e=x\/H e=some (.own x))(k:∀b u,b≠e->h.get? b=some u->h'.get? b=some u)(heo:∃u,h'.get? e=some u):Un fs ex H (upd H x o) h h':=by
 have hx:∀b,H b=none->b≠x:=fun b n z=>by subst z;rw[n] at mu;exact mu
 have hb:∀b,H b=none->b≠e:=fun b n z=>by
  subst z;rcases he with r|r
  .exact hx b n r
  .rw[n] at r;cases r
 have hm:∀b u,H b=some u->¬GF (some u)->b≠x:=fun b u q nm z=>by subst z;rw[q] at mu;exact nm mu
 refine ⟨fun b u q n _ _=>k b u (hb b n) q,fun b u q n _ _=>⟨u.slots,k b u (hb b n) q⟩,fun b u q n _=>by rw [aO (hx b n)]; exact n,fun b u q _=>?_,
  fun b xs q=>by rw[aO (hm b _ q fun z=>z)];exact q,fun b u xs q=>by rw[aO (hm b _ q fun z=>z)];exact q,fun b ps q=>⟨#[],by rw[aO (hm b _ q fun z=>z),q];simp⟩⟩
 by_cases hbe:b=e
 .subst hbe;exact heo
 .exact⟨u,k b u hbe q⟩
end
def Hn(h:Heap)(H:Hp):List Addr:=(List.range h.objs.size).filter fun a=>(H a).isSome
def oP(h:Heap)(H:Hp):Heap:=PySem.W.hideAll h (Hn h H)
theorem wo(h:Heap)(H:Hp):(oP h H).objs.size=h.objs.size:=PySem.W.hideAll_size _ _
theorem Ag{h:Heap}{H:Hp}{b:Addr}{o:Obj}(e:h.get? b=some o)(n:H b=none):(oP h H).get? b=some o :=
 PySem.W.hideAll_get _ e fun hm=>by
  have q:(H b).isSome=true:=(List.mem_filter.mp hm).2;rw[n] at q;simp at q
theorem A4{h:Heap}{H:Hp}{b:Addr}{o:Obj}(e:(oP h H).get? b=some o):h.get? b=some o/\H b=none:=by
 have e':h.get? b=some o:=PySem.W.of_hideAll (Hn h H) e;refine⟨e',?_⟩;cases q:H b with
 |none=>rfl
 |some x =>
  have hm:b∈Hn h H:=List.mem_filter.mpr ⟨List.mem_range.mpr (Heap.lt_size e'),by simp[q]⟩;have z:(oP h H).get? b=none:=PySem.W.hideAll_none (Hn h H) hm;rw[z] at e;cases e
structure Mod(K:PySem.W.Frag)(mg:Str->Option Value)(base:Heap):Prop where
 kin:K.In base
 glob:base.Ns mainGlobals mg
 blt:∃mb,base.Ns builtinsNs mb/\∀x:Str,x≠"__name__"->mb x=bootBuiltins x
 nolimit:base.NoLimit
/-- the context: a def's body (or a comprehension's block) running. base: fixed through the whole law; s₀, H₀: the entry; outer: the frames whose slots others may change (a def's callers); stack: all frames that run;
   ex: iterators that were made ahead of the entry and are walked here (a comprehension's);fn: the names whose cells were made at the entry (a def: all;a comprehension's block: its own);calm: not within an except suite;pn: pins that every state bears;xe: what is wanted of an exception that leaves the code -/
structure Cx where
 prog:Program
 w:World
 K:PySem.W.Frag
 mg:Str->Option Value
 base:Heap
 A:Around
 N:List Str
 s₀:Shared
 H₀:Hp
 env:Env
 outer:List Env
 stack:List Env
 ex:List Addr
 fn:Str->Bool
 calm:Bool
 pn:List (Addr×Obj)
 xe:Value->Shared->Prop
def si(l:List Env):List Addr:=l.filterMap (·.frame)
abbrev Cx.fs(X:Cx):List Addr:=si X.outer
def Ee(sc:Scope)(x:Str):Prop:=sc.names.lookup x=some .local\/sc.names.lookup x=some .cell\/sc.names.lookup x=some .free
def Loc(sc:Scope)(x:Str):Prop:=sc.names.lookup x=some .local\/sc.names.lookup x=some .cell
def Look(env:Env)(h:Heap)(m:Str->Option Value)(x:Str)(u:Value):Prop :=
 (env.kindOf x=some .local/\m x=some u)\/((env.kindOf x=some .cell\/env.kindOf x=some .free)/\∃c,env.cells.lookup x=some c/\h.IsCell c (some u))
structure Cx.Ok(X:Cx):Prop where
 mod:Mod X.K X.mg X.base
 kind:X.env.scope.kind=.function
 glob:X.env.globals=mainGlobals
 blt:X.env.builtins=builtinsNs
 above:X.s₀.heap.objs.size<=X.env.locals
 inj:∀x y c,X.env.cells.lookup x=some c->X.env.cells.lookup y=some c->x=y
 has:∀x,(X.env.kindOf x=some .cell\/X.env.kindOf x=some .free)->∃c,X.env.cells.lookup x=some c
 cab:∀x c,X.fn x=true->X.env.cells.lookup x=some c->X.s₀.heap.objs.size<=c
 hd:X.calm=true->X.A.handled=none
 frames:X.A.frames=some X.stack
 stk:X.stack=X.outer\/(X.stack=X.env::X.outer/\X.env.frame=some X.env.locals)
 exf:∀b∈X.ex,b≠X.env.locals/\∀x c,X.env.cells.lookup x=some c->c≠b
 bs:∀b o,X.base.get? b=some o->X.s₀.heap.get? b=some o/\X.H₀ b=none
 bsz:X.base.objs.size<=X.s₀.heap.objs.size
 noex:∀b o,X.base.get? b=some o->b∉X.ex
 exfs:∀b∈X.ex,b∉X.fs
 kg:X.s₀.heap.FunFrames X.base X.outer
 frf:∀b∈X.fs,X.H₀ b=none
structure Inv(X:Cx)(pins:List (Addr×Obj))(σ:List (Option V))(H:Hp)(s:Shared):Prop where
 ok:X.Ok
 os:s.os=X.s₀.os
 bare:AllBare s.gens
 base:Un X.fs X.ex X.H₀ H X.s₀.heap s.heap
 loc:∃m,s.heap.Ns X.env.locals m/\∀(i:Nat) (x:Str) (v:V),X.N[i]?=some x->σ[i]?=some (some v)->Ee X.env.scope x->∃u,RelV v u/\Look X.env s.heap m x u
 cell:∀x c,X.env.cells.lookup x=some c->∃v,s.heap.IsCell c v
 free:H X.env.locals=none
 freeC:∀x c,X.env.cells.lookup x=some c->H c=none
 pin:∀p∈X.pn++pins,s.heap.get? p.1=some p.2/\H p.1=none/\p.1≠X.env.locals/\p.1∉X.fs/\∀v,p.2.data≠.cell v
 hok:iN X.prog X.w H s.heap
 len:σ.length=X.N.length
section
variable{X:Cx}{pins:List (Addr×Obj)}{σ:List (Option V)}{H H':Hp}{s:Shared}{h':Heap}
theorem Cx.Ok.HS(ok:X.Ok){b:Addr}{o:Obj}(e:X.base.get? b=some o):b∉X.fs:=fun hb=>by
 have:=(ok.kg.mem hb).1;rw[e] at this;cases this
theorem Inv.bs(I:Inv X pins σ H s):∀b o,X.base.get? b=some o->s.heap.get? b=some o/\H b=none:=fun b o e =>
 ⟨I.base.keep b o (I.ok.bs b o e).1 (I.ok.bs b o e).2 (I.ok.HS e) (I.ok.noex b o e),I.base.free b o (I.ok.bs b o e).1 (I.ok.bs b o e).2 (I.ok.noex b o e)⟩
theorem Inv.bk(I:Inv X pins σ H s):∀b o,X.base.get? b=some o->s.heap.get? b=some o:=fun b o e=>(I.bs b o e).1
theorem Inv.mod(I:Inv X pins σ H s):Mod X.K X.mg X.base:=I.ok.mod
theorem Inv.C3(I:Inv X pins σ H s):X.K.In s.heap:=I.ok.mod.kin.keeps I.bk
theorem Inv.lt(I:Inv X pins σ H s):X.env.locals<s.heap.objs.size:=let ⟨_,hn,_⟩:=I.loc;hn.lt
theorem Inv.sz(I:Inv X pins σ H s):X.s₀.heap.objs.size<=s.heap.objs.size:=Nat.le_trans I.ok.above (Nat.le_of_lt I.lt)
theorem Inv.Iu(I:Inv X pins σ H s){a:Addr}(h:s.heap.objs.size<=a):a∉X.fs:=fun hb=>by
 obtain⟨_,o,ho,_⟩:=I.ok.kg.mem hb;exact absurd (Nat.lt_of_lt_of_le (Heap.lt_size ho) (Nat.le_trans I.sz h)) (Nat.lt_irrefl _)
theorem Inv.EH(I:Inv X pins σ H s):∀x c,X.env.cells.lookup x=some c->c≠X.env.locals:=fun x c e z=>by
 obtain⟨v,o,ho,hd⟩:=I.cell x c e;obtain⟨m,⟨o',es,ep,ho',hd',_⟩,_⟩:=I.loc;rw[z,ho'] at ho;cases ho;rw[hd'] at hd;cases hd
theorem Inv.kg(I:Inv X pins σ H s):s.heap.FunFrames X.base X.outer:=by
 have all:∀(l:List Env),(∀b∈si l,b∈X.fs)->X.s₀.heap.FunFrames X.base l->s.heap.FunFrames X.base l:=by
  intro l
  induction l with
  |nil=>intro _ _;trivial
  |cons env r ih =>
   intro hs hl;obtain⟨hk,⟨L,o,hf,hn,ho,hd⟩,hr⟩:=hl;have hL:L∈X.fs:=hs L (by unfold si;rw[List.filterMap_cons,hf];exact List.mem_cons_self);obtain⟨sl,e⟩:=I.base.slot L o ho (I.ok.frf L hL) hL fun z=>I.ok.exfs L z hL;exact⟨hk,⟨L,_,hf,hn,e,hd⟩,ih (fun b hb=>hs b (by unfold si;rw[List.filterMap_cons,hf];exact List.mem_cons_of_mem _ hb)) hr⟩
 exact all X.outer (fun _ hb=>hb) I.ok.kg
theorem Inv.stack(I:Inv X pins σ H s):s.heap.FunFrames X.base X.stack:=by
 rcases I.ok.stk with e|⟨e,hf⟩
 .rw[e];exact I.kg
 .rw[e];obtain⟨m,hn,_⟩:=I.loc;refine .cons (by rw[I.ok.kind];decide) hf hn ?_ I.kg;exact Heap.get?_none_of_le (Nat.le_trans I.ok.bsz I.ok.above)
theorem Inv.pG(I:Inv X pins σ H s):∀b∈si X.stack,b∈X.env.locals::X.fs:=fun b hb=>by
 rcases I.ok.stk with e|⟨e,hf⟩
 .rw[e] at hb;exact List.mem_cons_of_mem _ hb
 .rw[e] at hb;unfold si at hb;rw[List.filterMap_cons,hf] at hb;exact hb
theorem Inv.vg(I:Inv X pins σ H s):∀b∈si X.stack,H b=none:=fun b hb=>by
 rcases List.mem_cons.mp (I.pG b hb) with e|hb
 .rw[e];exact I.free
 .obtain⟨_,o,ho,_⟩:=I.ok.kg.mem hb;exact I.base.free b o ho (I.ok.frf b hb) fun z=>I.ok.exfs b z hb
theorem Inv.step{g':Array GenState}{t':Nat}{d':Drawn}{ch:List Addr}(I:Inv X pins σ H s)
  (hch:∀b∈ch,(b∈X.ex\/X.s₀.heap.objs.size<=b)/\b≠X.env.locals/\(∀x c,X.env.cells.lookup x=some c->c≠b)/\∀p∈X.pn++pins,p.1≠b)
  (keep:∀b o,b≠X.env.locals->b∉X.fs->b∉ch->s.heap.get? b=some o->H b=none->h'.get? b=some o)
  (slot:∀b o,b≠X.env.locals->b∈X.fs->b∉ch->s.heap.get? b=some o->H b=none->∃sl,h'.get? b=some {o with slots:=sl}) (free:∀b o,b∉ch->s.heap.get? b=some o->H b=none->H' b=none)
  (there:∀b o,b∉ch->s.heap.get? b=some o->∃o',h'.get? b=some o')
  (tups:∀b xs,H b=some (.tup xs)->H' b=some (.tup xs)) (frzs:∀b o u,H b=some (.frz o u)->H' b=some (.frz o u)) (tbls:∀b ps,H b=some (.tbl ps)->∃more,H' b=some (.tbl (ps++more)))
  (ns:∀m,s.heap.Ns X.env.locals m->h'.Ns X.env.locals m) (hok:iN X.prog X.w H' h') (hg:AllBare g'):
  Inv X pins σ H' {s with heap:=h',gens:=g',drawn:=d',toks:=t'}:=by
 have neL:∀b o,X.s₀.heap.get? b=some o->b≠X.env.locals:=fun b o e=>Nat.ne_of_lt (Nat.lt_of_lt_of_le (Heap.lt_size e) I.ok.above)
 have neC:∀b o,X.s₀.heap.get? b=some o->b∉X.ex->b∉ch:=fun b o e hx hb=>by
  rcases(hch b hb).1 with z|z
  .exact hx z
  .exact absurd (Nat.lt_of_lt_of_le (Heap.lt_size e) z) (Nat.lt_irrefl _)
 have cellK:∀x c,X.env.cells.lookup x=some c->∀v,s.heap.IsCell c v->h'.IsCell c v:=fun x c e v ⟨o,ho,hd⟩=>by
  have nch:c∉ch:=fun z=>(hch c z).2.2.1 x c e rfl;by_cases hc:c∈X.fs
  .obtain⟨sl,q⟩:=slot c o (I.EH x c e) hc nch ho (I.freeC x c e);exact⟨_,q,hd⟩
  .exact⟨o,keep c o (I.EH x c e) hc nch ho (I.freeC x c e),hd⟩
 refine⟨I.ok,I.os,hg,⟨fun b o e n hb hx=>?_,fun b o e n hb hx=>?_,fun b o e n hx=>?_,fun b o e hx=>?_,fun b xs e=>tups b xs (I.base.tups b xs e),fun b o xs e=>frzs b o xs (I.base.frzs b o xs e),fun b ps e=>?_⟩,?_,fun x c e=>?_,?_,fun x c e=>?_,fun p hp=>?_,hok,I.len⟩
 .exact keep b o (neL b o e) hb (neC b o e hx) (I.base.keep b o e n hb hx) (I.base.free b o e n hx)
 .obtain⟨sl,e1⟩:=I.base.slot b o e n hb hx;obtain⟨sl',e2⟩:=slot b _ (neL b o e) hb (neC b o e hx) e1 (I.base.free b o e n hx);exact⟨sl',e2⟩
 .obtain⟨o',e1⟩:=I.base.there b o e hx;exact free b o' (neC b o e hx) e1 (I.base.free b o e n hx)
 .obtain⟨o',e1⟩:=I.base.there b o e hx;exact there b o' (neC b o e hx) e1
 .obtain⟨m1,e1⟩:=I.base.tbls b ps e;obtain⟨m2,e2⟩:=tbls b _ e1;exact⟨m1++m2,by rw[e2,Array.append_assoc]⟩
 .obtain⟨m,hn,hl⟩:=I.loc;refine⟨m,ns m hn,fun i x v e1 e2 e3=>?_⟩;obtain⟨u,r,l⟩:=hl i x v e1 e2 e3;refine⟨u,r,?_⟩;rcases l with l|⟨k,c,e,z⟩
  .exact .inl l
  .exact .inr ⟨k,c,e,cellK x c e _ z⟩
 .obtain⟨v,z⟩:=I.cell x c e;exact⟨v,cellK x c e v z⟩
 .obtain⟨m,⟨o,_,_,ho,_⟩,_⟩:=I.loc;exact free _ o (fun z=>(hch _ z).2.1 rfl) ho I.free
 .obtain⟨v,o,ho,hd⟩:=I.cell x c e;exact free c o (fun z=>(hch c z).2.2.1 x c e rfl) ho (I.freeC x c e)
 .obtain⟨e,n,ne,nf,d⟩:=I.pin p hp;have nch:p.1∉ch:=fun z=>(hch p.1 z).2.2.2 p hp rfl;exact⟨keep p.1 p.2 ne nf nch e n,free p.1 p.2 nch e n,ne,nf,d⟩
theorem Inv.un{t':Nat}(I:Inv X pins σ H s)(u:Un X.fs [] H H' s.heap h')(hok:iN X.prog X.w H' h'):Inv X pins σ H' {s with heap:=h',toks:=t'}:=by
 obtain⟨m,⟨o,es,ep,ho,r⟩,_⟩:=id I.loc;obtain⟨sl,hL⟩:=u.any ho I.free (by simp)
 exact I.step (g':=s.gens) (d':=s.drawn) (ch:=[]) (fun _ z=>nomatch z) (fun b o _ hb _ e n=>u.keep b o e n hb (by simp)) (fun b o _ hb _ e n=>u.slot b o e n hb (by simp)) (fun b o _ e n=>u.free b o e n (by simp)) (fun b o _ e=>u.there b o e (by simp)) u.tups u.frzs u.tbls (fun m' hm=>by
  obtain⟨o',es',ep',ho',r'⟩:=hm;rw[ho] at ho';cases ho'
  exact⟨_,es',ep',hL,r'⟩) hok I.bare
theorem Inv.call{g':Array GenState}{t':Nat}{d':Drawn}{ch:List Addr}(I:Inv X pins σ H s)(u:Un (si X.stack) ch H H' s.heap h')(hok:iN X.prog X.w H' h')(hg:AllBare g')
  (hch:∀b∈ch,(b∈X.ex\/X.s₀.heap.objs.size<=b)/\b≠X.env.locals/\(∀x c,X.env.cells.lookup x=some c->c≠b)/\∀p∈X.pn++pins,p.1≠b):
  Inv X pins σ H' {s with heap:=h',gens:=g',drawn:=d',toks:=t'}:=by
 obtain⟨m,⟨o,es,ep,ho,r⟩,_⟩:=id I.loc;obtain⟨sl,hL⟩:=u.any ho I.free fun z=>(hch _ z).2.1 rfl
 exact I.step (ch:=ch) hch (fun b o hL hb hc e n=>u.keep b o e n (fun z=>(List.mem_cons.mp (I.pG b z)).elim hL hb) hc) (fun b o _ _ hc e n=>u.any e n hc) (fun b o hc e n=>u.free b o e n hc) (fun b o hc e=>u.there b o e hc) u.tups u.frzs u.tbls (fun m' hm=>by
  obtain⟨o',es',ep',ho',r'⟩:=hm;rw[ho] at ho';cases ho'
  exact⟨_,es',ep',hL,r'⟩) hok hg
theorem Inv.turned{t':Nat}{it:Addr}(I:Inv X pins σ H s)(k:∀b o,b≠it->s.heap.get? b=some o->h'.get? b=some o)(hn:H it=none)(hL:it≠X.env.locals)
  (h1:it∈X.ex\/X.s₀.heap.objs.size<=it) (h2:∀x c,X.env.cells.lookup x=some c->c≠it) (h3:∀p∈X.pn++pins,p.1≠it):Inv X pins σ H {s with heap:=h',toks:=t'}:=by
 have nit:∀b u,H b=some u->b≠it:=fun b u e z=>by rw[z,hn] at e;cases e
 refine I.step (g':=s.gens) (d':=s.drawn) (ch:=[it]) (fun b hb=>?_) (fun b o _ _ hc e _=>k b o (fun z=>hc (by simp[z])) e) (fun b o _ _ hc e _=>⟨o.slots,k b o (fun z=>hc (by simp[z])) e⟩) (fun _ _ _ _ n=>n)
  (fun b o hc e=>⟨o,k b o (fun z=>hc (by simp[z])) e⟩) (fun _ _ e=>e) (fun _ _ _ e=>e) (fun b ps e=>⟨#[],by rw[e];simp⟩) (fun m hm=>?_) (fun b u e=>?_) I.bare
 .have e:b=it:=by simpa using hb
  subst e;exact⟨h1,hL,h2,h3⟩
 .obtain⟨o,es,ep,ho,r⟩:=hm;exact⟨o,es,ep,k _ o (Ne.symm hL) ho,r⟩
 .refine(I.hok b u e).tD (fun c v hc q=>k c v ?_ q) (fun _ q=>q) fun _ _ q=>q;rcases hc with z|z
  .rw[z];exact nit b u e
  .exact nit c _ z
theorem Inv.tok(I:Inv X pins σ H s)(t:Nat):Inv X pins σ H {s with toks:=t}:=I.un (h':=s.heap) (t':=t) Un.refl I.hok
theorem Inv.kept{t':Nat}(I:Inv X pins σ H s)(k:∀b u,s.heap.get? b=some u->h'.get? b=some u):Inv X pins σ H {s with heap:=h',toks:=t'}:=I.un (Un.kept k) (I.hok.kept k)
theorem Inv.laid{a:Addr}{o:HO}{t':Nat}(I:Inv X pins σ H s)(k:∀b u,s.heap.get? b=some u->h'.get? b=some u)(hp:s.heap.objs.size<=a)(new:cb X.prog X.w (upd H a o) h' a o):
  Inv X pins σ (upd H a o) {s with heap:=h',toks:=t'}:=I.un (Un.laid k hp (I.hok.fresh hp)) (I.hok.laid k hp new)
theorem Inv.write{x e:Addr}{o:HO}{t':Nat}(I:Inv X pins σ H s)(mu:GF (H x))(he:e=x\/H e=some (.own x))(k:∀b u,b≠e->s.heap.get? b=some u->h'.get? b=some u)(heo:∃u,h'.get? e=some u)
  (new:cb X.prog X.w (upd H x o) h' x o):Inv X pins σ (upd H x o) {s with heap:=h',toks:=t'}:=I.un (Un.write mu he k heo) (I.hok.write mu he k heo new)
theorem Inv.weak{σ':List (Option V)}(I:Inv X pins σ H s)(hl:σ'.length=σ.length)(w:∀(i:Nat) v,σ'[i]?=some (some v)->σ[i]?=some (some v)):Inv X pins σ' H s :=
 ⟨I.ok,I.os,I.bare,I.base,let ⟨m,hn,hl'⟩:=I.loc;⟨m,hn,fun i x v e1 e2 e3=>hl' i x v e1 (w i v e2) e3⟩,I.cell,I.free,I.freeC,I.pin,I.hok,hl.trans I.len⟩
theorem Inv.jQ{pins':List (Addr×Obj)}(I:Inv X pins σ H s)(h:∀p∈pins',s.heap.get? p.1=some p.2/\H p.1=none/\p.1≠X.env.locals/\p.1∉X.fs/\∀v,p.2.data≠.cell v):Inv X pins' σ H s :=
 ⟨I.ok,I.os,I.bare,I.base,I.loc,I.cell,I.free,I.freeC,fun p hp=>(List.mem_append.mp hp).elim (fun z=>I.pin p (List.mem_append_left _ z)) (h p),I.hok,I.len⟩
theorem qV{N:List Str}(hN:N.Nodup){i j:Nat}{x:Str}(a:N[i]?=some x)(b:N[j]?=some x):i=j:=by
 obtain⟨h1,e1⟩:=List.getElem?_eq_some_iff.mp a;obtain⟨h2,e2⟩:=List.getElem?_eq_some_iff.mp b;exact(List.getElem_inj hN).mp (e1.trans e2.symm)
theorem w6{M:Model}{A:Around}{E:Value->Shared->Prop}{i:Nat}{x:Str}{v:V}{u:Value}{Q:Unit->Shared->Prop}(I:Inv X pins σ H s)(hN:X.N.Nodup)(hi:X.N[i]?=some x)(hx:Loc X.env.scope x)(r:RelV v u)
  (h:∀s',Inv X pins (σ.set i (some v)) H s'->(∃a,Heap.SameBut a s.heap s'.heap/\(a=X.env.locals\/X.env.cells.lookup x=some a))->Q () s') (hf:X.fn x=true\/X.env.scope.names.lookup x=some .local:=by first|exact .inl rfl|exact .inr rfl|assumption):wpAny M A (storeName X.env x u) Q E s:=by
 obtain⟨m,hn,hl⟩:=id I.loc;have hcls:(X.env.scope.kind==.class || (X.env.scope.kind==.module&&X.env.locals != X.env.globals))=false:=by rw[I.ok.kind];rfl
 have hiσ:i<σ.length:=by rw[I.len];exact(List.getElem?_eq_some_iff.mp hi).1
 have EH:=I.EH
 have tracked:∀{a:Addr} {h':Heap},(∃o,s.heap.get? a=some o/\H a=none)->Heap.SameBut a s.heap h'->iN X.prog X.w H h':=fun {a h'} ha hs b ob e=>by
  obtain⟨_,_,hfree⟩:=ha;refine(I.hok b ob e).tD (fun c w' hc q=>(hs.2 c ?_).trans q) (fun _ q=>q) fun _ _ q=>q;rintro rfl;rcases hc with rfl|hc
  .rw[hfree] at e;cases e
  .rw[hfree] at hc;cases hc
 rcases hx with hk|hk
 .refine wpAny_storeName_local hk hn (fun h' hn' hs=>?_) hcls;obtain⟨oL,_,_,hoL,_⟩:=id hn;refine h _ ⟨I.ok,I.os,I.bare,⟨fun b o e n hb hx=>?_,fun b o e n hb hx=>?_,I.base.free,fun b o e hx=>?_,I.base.tups,I.base.frzs,I.base.tbls⟩,⟨_,hn',fun j y v' e1 e2 e3=>?_⟩,fun y c e=>?_,I.free,I.freeC,fun p hp=>?_,tracked ⟨oL,hoL,I.free⟩ hs,by simpa using I.len⟩ ⟨_,hs,.inl rfl⟩
  .exact(hs.2 b (Nat.ne_of_lt (Nat.lt_of_lt_of_le (Heap.lt_size e) I.ok.above))).trans (I.base.keep b o e n hb hx)
  .obtain⟨sl,e1⟩:=I.base.slot b o e n hb hx;exact⟨sl,(hs.2 b (Nat.ne_of_lt (Nat.lt_of_lt_of_le (Heap.lt_size e) I.ok.above))).trans e1⟩
  .obtain⟨o',e1⟩:=I.base.there b o e hx;exact⟨o',(hs.2 b (Nat.ne_of_lt (Nat.lt_of_lt_of_le (Heap.lt_size e) I.ok.above))).trans e1⟩
  .by_cases hj:j=i
   .subst hj;rw[hi] at e1;cases e1;rw[List.getElem?_set_self hiσ] at e2;cases e2;exact⟨u,r,.inl ⟨hk,by simp⟩⟩
   .rw[List.getElem?_set_ne (Ne.symm hj)] at e2;obtain⟨u',r',q⟩:=hl j y v' e1 e2 e3;refine⟨u',r',?_⟩;rcases q with⟨k,e⟩|⟨k,c,e,z⟩
    .refine .inl ⟨k,?_⟩;have:y≠x:=fun e=>hj (qV hN e1 (e▸hi));simp[this,e]
    .exact .inr ⟨k,c,e,z.sameBut hs (EH y c e)⟩
  .obtain⟨w',z⟩:=I.cell y c e;exact⟨w',z.sameBut hs (EH y c e)⟩
  .obtain⟨e,n,ne,nf,d⟩:=I.pin p hp;exact⟨(hs.2 p.1 ne).trans e,n,ne,nf,d⟩
 .have hfn:X.fn x=true:=by
   rcases hf with z|z
   .exact z
   .rw[z] at hk;cases hk
  obtain⟨c,hc⟩:=I.ok.has x (.inl hk);obtain⟨w',z⟩:=I.cell x c hc;refine wpAny_storeName_cell I.ok.kind hk hc z (fun h' hc' hs=>?_);obtain⟨oc,hoc,hocd⟩:=id z;refine h {s with heap:=h'} ⟨I.ok,I.os,I.bare,⟨fun b o e n hb hx=>?_,fun b o e n hb hx=>?_,I.base.free,fun b o e hx=>?_,I.base.tups,I.base.frzs,I.base.tbls⟩,⟨m,hn.sameBut hs (Ne.symm (EH x c hc)),fun j y v' e1 e2 e3=>?_⟩,fun y c' e=>?_,I.free,I.freeC,fun p hp=>?_,tracked ⟨oc,hoc,I.freeC x c hc⟩ hs,by simpa using I.len⟩ ⟨c,hs,.inr hc⟩
  .exact(hs.2 b (Nat.ne_of_lt (Nat.lt_of_lt_of_le (Heap.lt_size e) (I.ok.cab x c hfn hc)))).trans (I.base.keep b o e n hb hx)
  .obtain⟨sl,e1⟩:=I.base.slot b o e n hb hx;exact⟨sl,(hs.2 b (Nat.ne_of_lt (Nat.lt_of_lt_of_le (Heap.lt_size e) (I.ok.cab x c hfn hc)))).trans e1⟩
  .obtain⟨o',e1⟩:=I.base.there b o e hx;exact⟨o',(hs.2 b (Nat.ne_of_lt (Nat.lt_of_lt_of_le (Heap.lt_size e) (I.ok.cab x c hfn hc)))).trans e1⟩
  .by_cases hj:j=i
   .subst hj;rw[hi] at e1;cases e1;rw[List.getElem?_set_self hiσ] at e2;cases e2;exact⟨u,r,.inr ⟨.inl hk,c,hc,hc'⟩⟩
   .rw[List.getElem?_set_ne (Ne.symm hj)] at e2;obtain⟨u',r',q⟩:=hl j y v' e1 e2 e3;refine⟨u',r',?_⟩;rcases q with q|⟨k,c',e,z'⟩
    .exact .inl q
    .refine .inr ⟨k,c',e,z'.sameBut hs ?_⟩;rintro rfl;exact hj (qV hN e1 (I.ok.inj _ _ _ e hc▸hi))
  .by_cases hcc:c'=c
   .subst hcc;exact⟨_,hc'⟩
   .obtain⟨w2,z2⟩:=I.cell y c' e;exact⟨w2,z2.sameBut hs hcc⟩
  .obtain⟨e,n,ne,nf,d⟩:=I.pin p hp;refine⟨(hs.2 p.1 ?_).trans e,n,ne,nf,d⟩;intro q;rw[q,hoc] at e;have q':oc=p.2:=Option.some.inj e;exact d w' (by rw[<-q'];exact hocd)
theorem qG{M:Model}{A:Around}{E:Value->Shared->Prop}{i:Nat}{x:Str}{v:V}{u:Value}{Q:Unit->Shared->Prop}(I:Inv X pins σ H s)(hN:X.N.Nodup)(hi:X.N[i]?=some x)(hx:Loc X.env.scope x)(r:RelV v u)
  (h:∀s',Inv X pins (σ.set i (some v)) H s'->Q () s') (hf:X.fn x=true\/X.env.scope.names.lookup x=some .local:=by first|exact .inl rfl|exact .inr rfl|assumption):wpAny M A (storeName X.env x u) Q E s :=
 w6 I hN hi hx r (fun s' I' _=>h s' I') hf
theorem Inv.F1{s':Shared}{ch:List Addr}(I:Inv X pins σ H s)(ho:s'.os=s.os)(u:Un (si X.stack) ch H H' s.heap s'.heap)(hok:iN X.prog X.w H' s'.heap)(hg:AllBare s'.gens)
  (hch:∀b∈ch,(b∈X.ex\/X.s₀.heap.objs.size<=b)/\b≠X.env.locals/\(∀x c,X.env.cells.lookup x=some c->c≠b)/\∀p∈X.pn++pins,p.1≠b):Inv X pins σ H' s':=by
 obtain⟨h',g',d',t',o'⟩:=s';have e:o'=s.os:=ho;subst e;exact I.call (g':=g') (t':=t') (d':=d') u hok hg hch
end
abbrev XK:=Value->Option Addr->Hp->Prop
abbrev St:=List (Option V)
abbrev VK:=V->Hp->Prop
abbrev TE:=St->Hp->VK->Prop
abbrev TT:=St->Hp->(Bool->Hp->Prop)->Prop
abbrev TA:=St->Hp->(List V->Hp->Prop)->Prop
structure Ends where
 nx:St->Hp->Prop
 rt:VK
 bk:St->Hp->Prop:=fun _ _=>False
 ct:St->Hp->Prop:=fun _ _=>False
abbrev TS:=Ends->St->Hp->Prop
def EP(X:Cx)(pins:List (Addr×Obj))(σ:St)(Q:VK)(u:Value)(s':Shared):Prop:=∃v H',Inv X pins σ H' s'/\RelV v u/\Q v H'
def TP(X:Cx)(pins:List (Addr×Obj))(σ:St)(Q:Bool->Hp->Prop)(b:Bool)(s':Shared):Prop:=∃H',Inv X pins σ H' s'/\Q b H'
def AP(X:Cx)(pins:List (Addr×Obj))(σ:St)(Q:List V->Hp->Prop)(us:List Value)(s':Shared):Prop:=∃vs H',Inv X pins σ H' s'/\Vals vs us/\Q vs H'
def SP(X:Cx)(pins:List (Addr×Obj))(D:Ends)(f:Flow)(s':Shared):Prop :=
 match f with
 |.next=>∃σ' H',Inv X pins σ' H' s'/\D.nx σ' H'
 |.brk=>∃σ' H',Inv X pins σ' H' s'/\D.bk σ' H'
 |.cont=>∃σ' H',Inv X pins σ' H' s'/\D.ct σ' H'
 |.ret u=>∃v σ' H',Inv X pins σ' H' s'/\RelV v u/\D.rt v H'
def PE(X:Cx)(e:Expr)(t:TE):Prop :=
 ∀(pins:List (Addr×Obj)) (s:Shared) (σ:St) (H:Hp) (Q:VK),Inv X pins σ H s->t σ H Q->wpAny (model X.prog X.w) X.A (eval e X.env) (EP X pins σ Q) X.xe s
def PT(X:Cx)(e:Expr)(t:TT):Prop :=
 ∀(pins:List (Addr×Obj)) (s:Shared) (σ:St) (H:Hp) (Q:Bool->Hp->Prop),Inv X pins σ H s->t σ H Q->wpAny (model X.prog X.w) X.A (isTrue e X.env (eval e X.env)) (TP X pins σ Q) X.xe s
def PW(X:Cx)(e:Expr)(t:TT):Prop :=
 ∀(whole:Sem Value) (pins:List (Addr×Obj)) (s:Shared) (σ:St) (H:Hp) (Q:Bool->Hp->Prop),Inv X pins σ H s->t σ H Q->wpAny (model X.prog X.w) X.A (isTrue e X.env whole) (TP X pins σ Q) X.xe s
theorem PW.pt{X:Cx}{e:Expr}{t:TT}(h:PW X e t):PT X e t:=h _
def PA(X:Cx)(es:List Expr)(t:TA):Prop :=
 ∀(pos:Pos) (pins:List (Addr×Obj)) (s:Shared) (σ:St) (H:Hp) (Q:List V->Hp->Prop),Inv X pins σ H s->t σ H Q->wpAny (model X.prog X.w) X.A (spliced (backTo pos (starEach es X.env))) (AP X pins σ Q) X.xe s
def PS(X:Cx)(st:Stmt)(t:TS):Prop :=
 ∀(pins:List (Addr×Obj)) (s:Shared) (σ:St) (H:Hp) (D:Ends),Inv X pins σ H s->t D σ H->wpAny (model X.prog X.w) X.A (exec st X.env) (SP X pins D) X.xe s
def nA(X:Cx)(st:List Stmt)(t:TS):Prop :=
 ∀(pins:List (Addr×Obj)) (s:Shared) (σ:St) (H:Hp) (D:Ends),Inv X pins σ H s->t D σ H->wpAny (model X.prog X.w) X.A (execs st X.env) (SP X pins D) X.xe s
theorem bO{α:Type}{t:Sem α}{Q Q':α->Shared->Prop}{M:Model}{A:Around}{E:Value->Shared->Prop}{s:Shared}(h:wpAny M A t Q E s)(hQ:∀a s,Q a s->Q' a s):wpAny M A t Q' E s:=wpAny_mono h hQ fun _ _ x=>x
section
variable{X:Cx}
def G6(i:Nat):TE:=fun σ H Q=>∃v,σ[i]?=some (some v)/\Q v H
def tC(v:V):TE:=fun _ H Q=>Q v H
theorem Dp{i:Nat}{x:Str}{pos:Pos}(hN:X.N[i]?=some x)(hv:Ee X.env.scope x)(hd:(x==("__debug__":Str))=false:=by decide)(hcd:(x==("__classdict__":Str))=false:=by decide):PE X (.Name x pos) (G6 i):=by
 intro pins s σ H Q I h;obtain⟨v,e,h⟩:=h;obtain⟨m,hn,hl⟩:=I.loc;obtain⟨u,r,l⟩:=hl i x v hN e hv;have fin:EP X pins σ Q u s:=⟨v,H,I,r,h⟩;rcases l with⟨hk,hm⟩|⟨hk,c,hc,hcell⟩
 .exact wpAny_Name (wpAny_loadName_local I.ok.kind hk hn hm fin) hd
 .rcases hk with hk|hk
  .exact wpAny_Name (wpAny_loadName_cell I.ok.kind hk hc hcell fin) hd
  .exact wpAny_Name (wpAny_loadName_free I.ok.kind hk hc hcell fin hcd) hd
theorem ya{i j pos}:PE X (.Constant (.int i) j pos) (tC (.int i)):=fun _ _ _ H _ I h=>wpAny_Constant_int ⟨.int i,H,I.tok _,⟨_,rfl⟩,h⟩
theorem Co{b j pos}:PE X (.Constant (.bool b) j pos) (tC (.bl b)):=fun _ _ _ H _ I h=>Constant_bool ⟨.bl b,H,I,rfl,h⟩
theorem D_{j pos}:PE X (.Constant .none j pos) (tC .non):=fun _ _ _ H _ I h=>Constant_none ⟨.non,H,I,rfl,h⟩
def Gl(X:Cx)(x:Str):Prop:=X.env.kindOf x=some .globalImplicit
theorem pA{E:Value->Shared->Prop}{pins:List (Addr×Obj)}{s:Shared}{σ:St}{H:Hp}{x:Str}{u:Value}{pos:Pos}{Q:Value->Shared->Prop}(I:Inv X pins σ H s)(hg:Gl X x)(hm:X.mg x=some u)(h:Q u s)
  (hd:(x==("__debug__":Str))=false:=by decide):wpAny (model X.prog X.w) X.A (eval (.Name x pos) X.env) Q E s :=
 Calls.Name_function_global I.ok.kind hg (Calls.loadGlobal_global (by rw[I.ok.glob];exact I.mod.glob.keeps I.bk) hm h) hd
theorem eO{E:Value->Shared->Prop}{pins:List (Addr×Obj)}{s:Shared}{σ:St}{H:Hp}{x:Str}{u:Value}{pos:Pos}{Q:Value->Shared->Prop}(I:Inv X pins σ H s)(hg:Gl X x)(hm:X.mg x=none)(hv:bootBuiltins x=some u)(h:Q u s)
  (hn:x≠"__name__":=by decide) (hd:(x==("__debug__":Str))=false:=by decide):wpAny (model X.prog X.w) X.A (eval (.Name x pos) X.env) Q E s:=by
 obtain⟨mb,h1,h2⟩:=I.mod.blt;exact Calls.Name_function_global I.ok.kind hg (Calls.loadGlobal_builtin (by rw[I.ok.glob];exact I.mod.glob.keeps I.bk) hm (by rw[I.ok.blt];exact h1.keeps I.bk) ((h2 x hn).trans hv) h) hd
theorem vh{x:Str}{v:V}{u:Value}{pos:Pos}(hg:Gl X x)(hm:X.mg x=some u)(r:RelV v u)(hd:(x==("__debug__":Str))=false:=by decide):PE X (.Name x pos) (tC v) :=
 fun _ _ _ H _ I h=>pA I hg hm ⟨v,H,I,r,h⟩ hd
theorem AX{x:Str}{v:V}{u:Value}{pos:Pos}(hg:Gl X x)(hm:X.mg x=none)(hv:bootBuiltins x=some u)(r:RelV v u)(hn:x≠"__name__":=by decide)(hd:(x==("__debug__":Str))=false:=by decide):PE X (.Name x pos) (tC v) :=
 fun _ _ _ H _ I h=>eO I hg hm hv ⟨v,H,I,r,h⟩ hn hd
variable{a b:Expr}{ta tb:TE}{pos:Pos}
def PC(X:Cx)(op:CmpOp)(a b:Expr)(t:TE):Prop :=
 ∀(pins:List (Addr×Obj)) (s:Shared) (σ:St) (H:Hp) (Q:VK),Inv X pins σ H s->t σ H Q ->
  wpAny (model X.prog X.w) X.A (eval a X.env) (fun v s₁=>wpAny (model X.prog X.w) X.A (eval b X.env) (fun u s₂=>wpAny (model X.prog X.w) X.A (compareOp op v u) (EP X pins σ Q) X.xe s₂) X.xe s₁) X.xe s
theorem r9(b:Expr){op:CmpOp}(h:op≠.In)(h2:op≠.NotIn):behindInMarks op b=false:=by
 have e1:(op==CmpOp.In)=false:=by cases op<;>first|rfl|exact absurd rfl h
 have e2:(op==CmpOp.NotIn)=false:=by cases op<;>first|rfl|exact absurd rfl h2
 cases b<;>simp[behindInMarks,e1,e2]
def Iz(ta:TE):TE:=fun σ H Q=>ta σ H fun x H1=>Q (.bl (decide (x=.non))) H1
def GV(ta:TE):TE:=fun σ H Q=>ta σ H fun x H1=>Q (.bl (!decide (x=.non))) H1
theorem RelV.qC{x:V}{v:Value}(r:RelV x v):(v==Value.none)=decide (x=.non):=by
 cases x with
 |non=>cases r;rfl
 |bl _=>cases r;rfl
 |int _=>obtain⟨t,rfl⟩:=r;rfl
 |str _=>obtain⟨t,rfl⟩:=r;rfl
 |byt _=>obtain⟨t,rfl⟩:=r;rfl
 |flt _=>obtain⟨t,rfl⟩:=r;rfl
 |ref _=>cases r;rfl
 |ty _=>cases r;rfl
theorem yH{j pos'}(ha:PE X a ta):PC X .Is a (.Constant .none j pos') (Iz ta):=by
 intro pins s σ H Q I h;refine bO (ha pins s σ H _ I h) fun v s1 ⟨x,H1,I1,r1,q1⟩=>?_;exact Constant_none (is_none_gen ⟨.bl _,H1,I1,by rw[r1.qC];rfl,q1⟩)
theorem AY{j pos'}(ha:PE X a ta):PC X .IsNot a (.Constant .none j pos') (GV ta):=by
 intro pins s σ H Q I h;refine bO (ha pins s σ H _ I h) fun v s1 ⟨x,H1,I1,r1,q1⟩=>?_;exact Constant_none (isnot_none_gen ⟨.bl _,H1,I1,by rw[r1.qC];rfl,q1⟩)
def tB(t:TE):TT:=fun σ H Q=>t σ H fun x H1=>∃c,x=.bl c/\Q c H1
theorem DG{op:CmpOp}{t:TE}(h:PC X op a b t)(h1:behindInMarks op b=false:=by first|exact r9 _ (by decide) (by decide)|rfl):PE X (.Compare a [op] [b] pos) t:=fun pins s σ H Q I hw=>wpAny_Compare1 (h pins s σ H Q I hw) h1
theorem zJ{op:CmpOp}{t:TE}(h:PC X op a b t)(h1:behindInMarks op b=false:=by first|exact r9 _ (by decide) (by decide)|rfl):PT X (.Compare a [op] [b] pos) (tB t):=by
 intro pins s σ H Q I hw;refine wpAny_isTrue_Compare1 (bO (h pins s σ H _ I hw) fun v s1 h1=>bO h1 fun u s2 h2=>bO h2 fun c s3 ⟨x,H1,I1,r1,q1⟩=>?_) h1;obtain⟨d,rfl,q⟩:=q1;cases r1;exact wpAny_truthy_bool ⟨H1,I1,q⟩
theorem Dg{e:Expr}{t:TE}(h:PE X e t)(he:∀whole,isTrue e X.env whole=(do let v <-whole;standAt e.pos;holding [v] (truthy v)):=by intro _;rfl):PT X e (tB t):=by
 intro pins s σ H Q I hw;refine isTrue_plain (bO (h pins s σ H _ I hw) fun v s1 ⟨x,H1,I1,r1,q1⟩=>?_) (he _);obtain⟨d,rfl,q⟩:=q1;cases r1;exact wpAny_truthy_bool ⟨H1,I1,q⟩
variable{tA tB':TT}{rest:List Expr}
def HR(t u:TT):TT:=fun σ H Q=>t σ H fun c H1=>if c=true then u σ H1 Q else Q false H1
def Jp(t u:TT):TT:=fun σ H Q=>t σ H fun c H1=>if c=true then Q true H1 else u σ H1 Q
def HC(t:TT):TT:=fun σ H Q=>t σ H fun c H1=>Q (!c) H1
theorem AL(ha:PT X a tA):PW X (.BoolOp .And [a] pos) tA:=by
 intro wh pins s σ H Q I h;refine isTrue_and (bO (ha pins s σ H Q I h) fun c s1 e=>?_);cases c with
 |true=>exact isTrue_and_nil e
 |false=>exact e
theorem Es(ha:PT X a tA):PW X (.BoolOp .Or [a] pos) tA:=by
 intro wh pins s σ H Q I h;refine isTrue_or (bO (ha pins s σ H Q I h) fun c s1 e=>?_);cases c with
 |false=>exact isTrue_or_nil e
 |true=>exact e
theorem zu(ha:PT X a tA)(hb:PW X (.BoolOp .And (b::rest) pos) tB'):PW X (.BoolOp .And (a::b::rest) pos) (HR tA tB'):=by
 intro wh pins s σ H Q I h;refine isTrue_and (bO (ha pins s σ H _ I h) fun c s1 ⟨H1,I1,q1⟩=>?_);cases c with
 |true=>exact hb wh pins s1 σ H1 Q I1 q1
 |false=>exact⟨H1,I1,q1⟩
theorem Cb(ha:PT X a tA)(hb:PW X (.BoolOp .Or (b::rest) pos) tB'):PW X (.BoolOp .Or (a::b::rest) pos) (Jp tA tB'):=by
 intro wh pins s σ H Q I h;refine isTrue_or (bO (ha pins s σ H _ I h) fun c s1 ⟨H1,I1,q1⟩=>?_);cases c with
 |true=>exact⟨H1,I1,q1⟩
 |false=>exact hb wh pins s1 σ H1 Q I1 q1
theorem CY(ha:PT X a tA):PT X (.UnaryOp .Not a pos) (HC tA):=by
 intro pins s σ H Q I h;exact isTrue_not (ha pins s σ H (fun c H1=>Q (!c) H1) I h)
def HX(ta tb:TE):TE:=fun σ H Q=>ta σ H fun x H1=>∃c,x=.bl c/\if c=true then Q (.bl true) H1 else tb σ H1 Q
def Fz(ta:TE):TE:=fun σ H Q=>ta σ H fun x H1=>∃c,x=.bl c/\Q (.bl (!c)) H1
theorem DZ{op}{t:TE}(h:PE X a t):PE X (.BoolOp op [a] pos) t:=fun pins s σ H Q I hw=>BoolOp_one (h pins s σ H Q I hw)
theorem CH(ha:PE X a ta)(hb:PE X (.BoolOp .Or (b::rest) pos) tb):PE X (.BoolOp .Or (a::b::rest) pos) (HX ta tb):=by
 intro pins s σ H Q I h;refine BoolOp_or (bO (ha pins s σ H _ I h) fun v s1 ⟨x,H1,I1,r1,q1⟩=>?_);obtain⟨c,rfl,q1⟩:=q1;cases r1;refine wpAny_truthy_bool ?_;cases c with
 |false=>exact hb pins s1 σ H1 Q I1 q1
 |true=>exact⟨.bl true,H1,I1,rfl,q1⟩
theorem EG(ha:PE X a ta):PE X (.UnaryOp .Not a pos) (Fz ta):=by
 intro pins s σ H Q I h;refine UnaryOp_ (bO (ha pins s σ H _ I h) fun v s1 ⟨x,H1,I1,r1,q1⟩=>?_);obtain⟨c,rfl,q1⟩:=q1;cases r1;exact not_of (wpAny_truthy_bool ⟨.bl (!c),H1,I1,rfl,q1⟩)
def Jw(t:TT)(ta tb:TE):TE:=fun σ H Q=>t σ H fun c H1=>if c=true then ta σ H1 Q else tb σ H1 Q
theorem fP{c:Expr}(hc:PT X c tA)(ha:PE X a ta)(hb:PE X b tb):PE X (.IfExp c a b pos) (Jw tA ta tb):=by
 intro pins s σ H Q I h;refine wpAny_IfExp (bO (hc pins s σ H _ I h) fun d s1 ⟨H1,I1,q1⟩=>?_);cases d with
 |true=>exact ha pins s1 σ H1 Q I1 q1
 |false=>exact hb pins s1 σ H1 Q I1 q1
end
def dF(K:PySem.W.Frag)(H:Hp)(a:Addr)(xs:List V):Prop :=
 Rd H a (.lst xs) \/
  ∃(o:Obj) (its:Array Value) (n:Nat),K.lookup a=some o/\o.cls=.type "list"/\o.dict=none/\o.data=.seq its n/\its.size<=sizeLine/\Vals xs its.toList
def sh(K:PySem.W.Frag)(H:Hp)(a:Addr)(xs:List V):Prop :=
 Rd H a (.tup xs) \/
  ∃(o:Obj) (its:Array Value) (n:Nat),K.lookup a=some o/\o.cls=.type "tuple"/\o.data=.seq its n/\its.size<=sizeLine/\Vals xs its.toList
def HL:Value->Option V
 |.none=>some .non
 |.bool b=>some (.bl b)
 |.int i _=>some (.int i)
 |.str x _=>some (.str x)
 |.bytes b _=>some (.byt b)
 |.float b _=>some (.flt b)
 |.ref a=>some (.ref a)
 |.type n=>some (.ty n)
 |_=>none
theorem RelV.abs{x:V}{u:Value}(r:RelV x u):HL u=some x:=by
 cases x with
 |non=>cases r;rfl
 |bl _=>cases r;rfl
 |int _=>obtain⟨t,rfl⟩:=r;rfl
 |str _=>obtain⟨t,rfl⟩:=r;rfl
 |byt _=>obtain⟨t,rfl⟩:=r;rfl
 |flt _=>obtain⟨t,rfl⟩:=r;rfl
 |ref _=>cases r;rfl
 |ty _=>cases r;rfl
theorem RelV.inj{x y:V}{u:Value}(r:RelV x u)(q:RelV y u):x=y:=Option.some.inj (r.abs.symm.trans q.abs)
theorem Vals.inj:∀{xs ys:List V} {us:List Value},Vals xs us->Vals ys us->xs=ys
 |_,_,_,.nil,.nil=>rfl
 |_,_,_,.cons r t,.cons r' t'=>by rw[r.inj r',Vals.inj t t']
section
variable{X:Cx}{pins:List (Addr×Obj)}{σ:St}{H:Hp}{s:Shared}{a:Addr}{xs ys:List V}
theorem dF.of{K:PySem.W.Frag}(h:H a=some (.lst xs)):dF K H a xs:=.inl (.inl h)
theorem Inv.list(I:Inv X pins σ H s)(h:dF X.K H a xs):∃its:List Value,Vals xs its/\PlainL s.heap a its.toArray/\xs.length<=sizeLine:=by
 rcases h with h|⟨o,its,n,hk,hc,hd,hs,hz,r⟩
 .obtain⟨z,its,n,r,e⟩:=h.ok I.hok;exact⟨its,r,⟨_,n,e,rfl,rfl,rfl⟩,z⟩
 .refine⟨its.toList,r,⟨o,n,I.C3 a o hk,hc,hd,by simpa using hs⟩,?_⟩;have e:=r.length;simp only[Array.length_toList] at e;omega
theorem Inv.tuple(I:Inv X pins σ H s)(h:sh X.K H a xs):∃its:List Value,Vals xs its/\IsTup s.heap a its.toArray/\xs.length<=sizeLine:=by
 rcases h with h|⟨o,its,n,hk,hc,hs,hz,r⟩
 .obtain⟨z,its,r,p⟩:=h.ok I.hok;exact⟨its,r,p,z⟩
 .refine⟨its.toList,r,⟨o,I.C3 a o hk,hc,n,by simpa using hs⟩,?_⟩;have e:=r.length;simp only[Array.length_toList] at e;omega
theorem Inv.mO(I:Inv X pins σ H s)(h:dF X.K H a xs)(h':dF X.K H a ys):xs=ys:=by
 obtain⟨its,r,⟨o,n,e,_,_,d⟩,_⟩:=I.list h;obtain⟨its',r',⟨o',n',e',_,_,d'⟩,_⟩:=I.list h';rw[e] at e';cases e';rw[d] at d';injection d' with d1 _;have:its=its':=by simpa using congrArg Array.toList d1
 subst this;exact r.inj r'
theorem Inv.wK(I:Inv X pins σ H s)(h:sh X.K H a xs)(h':sh X.K H a ys):xs=ys:=by
 obtain⟨its,r,⟨o,e,_,n,d⟩,_⟩:=I.tuple h;obtain⟨its',r',⟨o',e',_,n',d'⟩,_⟩:=I.tuple h';rw[e] at e';cases e';rw[d] at d';injection d' with d1 _;have:its=its':=by simpa using congrArg Array.toList d1
 subst this;exact r.inj r'
end
abbrev Cx.nN(X:Cx)(E:Value->Shared->Prop):Cx:={X with xe:=E}
abbrev Cx.Ek(X:Cx):Cx:=X.nN fun _ _=>False
theorem Cx.Ok.nN{X:Cx}(ok:X.Ok)(E:Value->Shared->Prop):(X.nN E).Ok :=
 ⟨ok.mod,ok.kind,ok.glob,ok.blt,ok.above,ok.inj,ok.has,ok.cab,ok.hd,ok.frames,ok.stk,ok.exf,ok.bs,ok.bsz,ok.noex,ok.exfs,ok.kg,ok.frf⟩
theorem Cx.Ok.hW{X:Cx}{E:Value->Shared->Prop}(ok:(X.nN E).Ok):X.Ok :=
 ⟨ok.mod,ok.kind,ok.glob,ok.blt,ok.above,ok.inj,ok.has,ok.cab,ok.hd,ok.frames,ok.stk,ok.exf,ok.bs,ok.bsz,ok.noex,ok.exfs,ok.kg,ok.frf⟩
section
variable{X:Cx}{pins:List (Addr×Obj)}{σ:St}{H:Hp}{s:Shared}{E:Value->Shared->Prop}
theorem Inv.nN(I:Inv X pins σ H s)(E:Value->Shared->Prop):Inv (X.nN E) pins σ H s:=⟨I.ok.nN E,I.os,I.bare,I.base,I.loc,I.cell,I.free,I.freeC,I.pin,I.hok,I.len⟩
theorem Inv.hW(I:Inv (X.nN E) pins σ H s):Inv X pins σ H s:=⟨I.ok.hW,I.os,I.bare,I.base,I.loc,I.cell,I.free,I.freeC,I.pin,I.hok,I.len⟩
theorem SP.hW{D:Ends}{f:Flow}{s':Shared}(h:SP (X.nN E) pins D f s'):SP X pins D f s':=by
 cases f with
 |next=>obtain⟨σ',H',I,q⟩:=h;exact⟨σ',H',I.hW,q⟩
 |brk=>obtain⟨σ',H',I,q⟩:=h;exact⟨σ',H',I.hW,q⟩
 |cont=>obtain⟨σ',H',I,q⟩:=h;exact⟨σ',H',I.hW,q⟩
 |ret u=>obtain⟨v,σ',H',I,r,q⟩:=h;exact⟨v,σ',H',I.hW,r,q⟩
theorem nA.Ek{st:List Stmt}{t:TS}(h:nA X.Ek st t):nA X st t:=fun pins s σ H D I hw =>
 wpAny_mono (h pins s σ H D (I.nN _) hw) (fun _ _ q=>q.hW) fun _ _ z=>False.elim z
end
section
variable{X:Cx}{st:Stmt}{rest:List Stmt}{t u:TS}{e:Expr}{te:TE}{pos:Pos}
def Gw:TS:=fun D σ H=>D.nx σ H
def Ie(t u:TS):TS:=fun D σ H=>t {D with nx:=u D} σ H
theorem BW:nA X [] Gw:=fun _ _ σ H _ I h=>wpAny_execs_nil ⟨σ,H,I,h⟩
theorem yC(h1:PS X st t)(h2:nA X rest u):nA X (st::rest) (Ie t u):=by
 intro pins s σ H D I h;refine wpAny_execs_cons (bO (h1 pins s σ H {D with nx:=u D} I h) fun f s1 q=>?_);cases f with
 |next =>
  obtain⟨σ',H',I',q⟩:=q;exact h2 pins s1 σ' H' D I' q
 |ret v=>exact q
 |brk=>exact q
 |cont=>exact q
theorem Inv.quiet{pins:List (Addr×Obj)}{σ:St}{H:Hp}{s:Shared}(I:Inv X pins σ H s):interactive X.env=false:=by simp[interactive,I.ok.kind]
def Gb(te:TE):TS:=fun D σ H=>te σ H fun _ H1=>D.nx σ H1
theorem Ba(he:PE X e te)(hs:swapsWith e none pos.line X.env=pure false:=by rfl):PS X (.Expr e pos) (Gb te):=by
 intro pins s σ H D I h;exact wpAny_Expr_any (bO (he pins s σ H _ I h) fun v s1 ⟨x,H1,I1,r1,q1⟩=>⟨σ,H1,I1,q1⟩) I.quiet hs
def Ig(te:TE):TS:=fun D σ H=>te σ H D.rt
theorem yL(he:PE X e te):PS X (.Return (some e) pos) (Ig te):=by
 intro pins s σ H D I h;exact wpAny_Return_some (bO (he pins s σ H _ I h) fun v s1 ⟨x,H1,I1,r1,q1⟩=>⟨x,σ,H1,I1,r1,q1⟩)
def HW(c:TT)(t u:TS):TS:=fun D σ H=>c σ H fun b H1=>if b=true then t D σ H1 else u D σ H1
theorem Ca{c:Expr}{a b:List Stmt}{tc:TT}(hc:PT X c tc)(ha:nA X a t)(hb:nA X b u):PS X (.If c a b pos) (HW tc t u):=by
 intro pins s σ H D I h;refine wpAny_If (bO (hc pins s σ H _ I h) fun d s1 ⟨H1,I1,q1⟩=>?_);cases d with
 |true=>exact ha pins s1 σ H1 D I1 q1
 |false=>exact hb pins s1 σ H1 D I1 q1
def CU:TS:=fun _ _ _=>False
theorem oJ{sts:List Stmt}:nA X sts CU:=fun _ _ _ _ _ _ h=>h.elim
end
abbrev TG:=V->St->Hp->(St->Hp->Prop)->Prop
abbrev Ex:=List V->St->Hp->(St->Hp->Prop)->Prop
def PG(X:Cx)(target:Expr)(t:TG):Prop :=
 ∀(pins:List (Addr×Obj)) (s:Shared) (σ:St) (H:Hp) (v:V) (u:Value) (Q:St->Hp->Prop),Inv X pins σ H s->RelV v u->t v σ H Q ->
  wpAny (model X.prog X.w) X.A (assign target X.env u) (fun _ s'=>∃σ' H',Inv X pins σ' H' s'/\Q σ' H') X.xe s
def Hi(X:Cx)(ts:List Expr)(t:Ex):Prop :=
 ∀(pins:List (Addr×Obj)) (s:Shared) (σ:St) (H:Hp) (vs:List V) (us:List Value) (Q:St->Hp->Prop),Inv X pins σ H s->Vals vs us->t vs σ H Q ->
  wpAny (model X.prog X.w) X.A (assignInOrder ((assignEach ts X.env).map (·.2)) us) (fun _ s'=>∃σ' H',Inv X pins σ' H' s'/\Q σ' H') X.xe s
section
variable{X:Cx}{pos:Pos}
def jr(i:Nat):TG:=fun v σ H Q=>Q (σ.set i (some v)) H
theorem de{i:Nat}{x:Str}(hN:X.N.Nodup)(hi:X.N[i]?=some x)(hx:Loc X.env.scope x)(hf:X.fn x=true\/X.env.scope.names.lookup x=some .local:=by first|exact .inl rfl|exact .inr rfl|assumption):PG X (.Name x pos) (jr i):=by
 intro pins s σ H v u Q I r h;exact wpAny_assign_Name (qG I hN hi hx r (fun s' I'=>⟨_,H,I',h⟩) hf)
def E3:Ex:=fun vs σ H Q=>vs=[]/\Q σ H
def rT(t:TG)(u:Ex):Ex:=fun vs σ H Q=>∃v r,vs=v::r/\t v σ H fun σ' H'=>u r σ' H' Q
theorem o5:Hi X [] E3:=by
 intro pins s σ H vs us Q I r h;obtain⟨e,h⟩:=h;subst e;cases r;exact assignInOrder_nil ⟨σ,H,I,h⟩
theorem dO{e:Expr}{es:List Expr}{t:TG}{u:Ex}(h1:PG X e t)(h2:Hi X es u)
  (hs:(assignEach (e::es) X.env).map (·.2)=assign e X.env::(assignEach es X.env).map (·.2):=by rfl):Hi X (e::es) (rT t u):=by
 intro pins s σ H vs us Q I r h;obtain⟨v,vr,e1,h⟩:=h;subst e1;cases r with
 |cons r rr =>
  rw[hs];refine assignInOrder_cons (bO (h1 pins s σ H _ _ _ I r h) fun _ s1 ⟨σ1,H1,I1,q1⟩=>?_);exact h2 pins s1 σ1 H1 _ _ Q I1 rr q1
def ER(K:PySem.W.Frag)(n:Nat)(t:Ex):TG:=fun v σ H Q=>∃a xs,v=.ref a/\sh K H a xs/\xs.length=n/\t xs σ H Q
theorem tP{es:List Expr}{k:Nat}{t:Ex}{n:Nat}(hc:X.calm=true)(h:Hi X es t)
  (hn:(assignEach es X.env).length=n:=by rfl) (hst:(assignEach es X.env).findIdx? (·.1)=none:=by rfl):PG X (.Tuple es k pos) (ER X.K n t):=by
 intro pins s σ H v u Q I r hw;obtain⟨a,xs,e1,hq,hl,hw⟩:=hw;subst e1;cases r;obtain⟨its,rv,ht,hz⟩:=I.tuple hq;refine assign_Tuple_tuple (I.ok.hd hc) ht (by simp[hn,<-hl,rv.length]) hst fun h' hx=>?_;have I1:Inv X pins σ H {s with heap:=h'}:=I.kept (t':=s.toks) fun b o e=>hx b o (Nat.ne_of_lt (Heap.lt_size e)) e;exact h pins _ σ H xs _ Q I1 (by simpa using rv) hw
def F3(te:TE)(g:TG):TS:=fun D σ H=>te σ H fun x H1=>g x σ H1 D.nx
theorem xC{tg e:Expr}{te:TE}{g:TG}(he:PE X e te)(hg:PG X tg g)(hs:swapsWithSole [tg] e pos.line X.env=pure false:=by rfl)(hw:swappedStores [tg] e X.env=pure none:=by rfl)
  (h1:(assignEach [tg] X.env).map (·.2)=[assign tg X.env]:=by rfl):PS X (.Assign [tg] e pos) (F3 te g):=by
 intro pins s σ H D I h;refine wpAny_Assign_stores (bO (he pins s σ H _ I h) fun v s1 ⟨x,H1,I1,r1,q1⟩=>?_) hs hw;rw[h1];exact bO (hg pins s1 σ H1 x v _ I1 r1 q1) fun _ s2 q=>q
theorem l_{i:Nat}{x:Str}{e:Expr}{te:TE}{pos':Pos}(hN:X.N.Nodup)(hi:X.N[i]?=some x)(hx:Loc X.env.scope x)(he:PE X e te)(hs:swapsWith e (some (.Name x pos')) pos.line X.env=pure false:=by rfl)(hf:X.fn x=true\/X.env.scope.names.lookup x=some .local:=by first|exact .inl rfl|exact .inr rfl|assumption):
  PS X (.Assign [.Name x pos'] e pos) (F3 te (jr i)):=by
 intro pins s σ H D I h;refine wpAny_Assign_Name (bO (he pins s σ H _ I h) fun v s1 ⟨y,H1,I1,r1,q1⟩=>?_) hs;exact qG I1 hN hi hx r1 (fun s2 I2=>⟨_,H1,I2,q1⟩) hf
end
section
variable{X:Cx}{pos:Pos}
def Dh(c:TT)(tb:TS):TS:=fun D σ H=>∃W:Nat->St->Hp->Prop,(∃m,W m σ H)/\∀m σ H,W m σ H ->
 c σ H fun b H1=>if b=true then ∃N:St->Hp->Prop,(∀σ' H',N σ' H'->∃m',m'<m/\W m' σ' H')/\tb {D with nx:=N,ct:=N,bk:=D.nx} σ H1 else D.nx σ H1
theorem zh{c:Expr}{body:List Stmt}{tc:TT}{tb:TS}(hp:PassesOwn (model X.prog X.w) X.A X.env X.xe)(hc:PT X c tc)(hb:nA X body tb):PS X (.While c body [] pos) (Dh tc tb):=by
 intro pins s σ H D I h;obtain⟨W,⟨m0,w0⟩,turn⟩:=h;refine wpAny_While (codeAny_whileLoop (fun n s'=>∃σ' H',Inv X pins σ' H' s'/\W n σ' H') ?_ m0 ⟨σ,H,I,w0⟩);rintro n s1 ⟨σ1,H1,I1,w1⟩;refine wpAny_passesOwn hp (bO (hc pins s1 σ1 H1 _ I1 (turn n σ1 H1 w1)) fun b s2 ⟨H2,I2,q2⟩=>?_);cases b with
 |true =>
  obtain⟨N,hN,q2⟩:=q2;rw[if_pos rfl];refine wpAny_passesOwn hp (bO (hb pins s2 σ1 H2 _ I2 q2) fun f s3 q3=>?_);cases f with
  |next =>
   obtain⟨σ3,H3,I3,n3⟩:=q3;obtain⟨m',hm,w3⟩:=hN σ3 H3 n3;exact⟨m',hm,σ3,H3,I3,w3⟩
  |cont =>
   obtain⟨σ3,H3,I3,n3⟩:=q3;obtain⟨m',hm,w3⟩:=hN σ3 H3 n3;exact⟨m',hm,σ3,H3,I3,w3⟩
  |brk=>exact q3
  |ret v=>exact q3
 |false =>
  rw[if_neg Bool.false_ne_true];exact wpAny_execs_nil ⟨σ1,H2,I2,q2⟩
end
structure It where
 go:Nat->Hp->Prop
 yld:Nat->Hp->V->Hp->Prop
 stop:Nat->Hp->Prop
def nK(X:Cx)(pins:List (Addr×Obj))(H:Hp)(b:Addr):Prop :=
 H b=none/\b≠X.env.locals/\b∉X.fs/\(b∈X.ex\/X.s₀.heap.objs.size<=b)/\(∀x c,X.env.cells.lookup x=some c->c≠b)/\∀p∈X.pn++pins,p.1≠b
theorem Inv.Ak{X:Cx}{pins:List (Addr×Obj)}{σ:St}{H H':Hp}{s:Shared}{b:Addr}(I:Inv X pins σ H s)(hb:s.heap.objs.size<=b)(hn:H' b=none):nK X pins H' b:=by
 refine⟨hn,Nat.ne_of_gt (Nat.lt_of_lt_of_le I.lt hb),I.Iu hb,.inr (Nat.le_trans I.sz hb),fun x c e z=>?_,fun p hp z=>?_⟩
 .obtain⟨v,q⟩:=I.cell x c e;exact absurd (Nat.lt_of_lt_of_le q.lt (by rw[z];exact hb)) (Nat.lt_irrefl _)
 .exact absurd (Nat.lt_of_lt_of_le (Heap.lt_size (I.pin p hp).1) (by rw[z];exact hb)) (Nat.lt_irrefl _)
structure Turn(P:Program)(w:World)(K:PySem.W.Frag)(tg:Expr)(J:It)(fp:List Addr)(it:Addr)(tn:Nat->Heap->Prop):Prop where
 mem:it∈fp
 obj:∀i h,tn i h->∀b∈fp,∃o,h.get? b=some o/\∀v,o.data≠.cell v
 keep:∀i h h',tn i h->(∀b∈fp,∀o,h.get? b=some o->h'.get? b=some o)->tn i h'
 item:∀(X:Cx),X.prog=P->X.w=w->X.K=K->X.calm=true->∀(i:Nat) (pins:List (Addr×Obj)) (s:Shared) (σ:St) (H:Hp) (E:Value->Shared->Prop),Inv X pins σ H s->(∀b∈fp,nK X pins H b)->tn i s.heap->J.go i H ->
  wpAny (model P w) X.A (pyNext (.ref it)) (fun r s1=>∃ u,r=some u /\
   wpAny (model P w) X.A (letOwnedTupleGo tg (.ref it) u) (fun _ s2=>∃x H',Inv X pins σ H' s2/\RelV x u/\J.yld i H x H'/\tn (i+1) s2.heap/\∀b∈fp,H' b=none) E s1) E s
 done:∀(X:Cx),X.prog=P->X.w=w->X.K=K->X.calm=true->∀(i:Nat) (pins:List (Addr×Obj)) (s:Shared) (σ:St) (H:Hp) (E:Value->Shared->Prop),Inv X pins σ H s->(∀b∈fp,nK X pins H b)->tn i s.heap->J.stop i H ->
  wpAny (model P w) X.A (pyNext (.ref it)) (fun r s1=>r=none/\Inv X pins σ H s1) E s
 self:∀(A:Around) (i:Nat) (s:Shared) (Q:Value->Shared->Prop) (E:Value->Shared->Prop),tn i s.heap->Q (.ref it) s->wpAny (model P w) A (pyIter (.ref it)) Q E s
abbrev TI:=St->Hp->(It->Hp->Prop)->Prop
def Ia(X:Cx)(pins:List (Addr×Obj))(σ:St)(tg:Expr)(R:It->Hp->Prop)(itv:Value)(s2:Shared):Prop :=
 ∃(it:Addr) (fp:List Addr) (tn:Nat->Heap->Prop) (J:It) (H':Hp),itv=.ref it/\Inv X pins σ H' s2/\Turn X.prog X.w X.K tg J fp it tn/\tn 0 s2.heap/\(∀b∈fp,nK X pins H' b)/\R J H'
def PI(X:Cx)(tg iter:Expr)(wi:TI):Prop :=
 ∀(pins:List (Addr×Obj)) (s:Shared) (σ:St) (H:Hp) (R:It->Hp->Prop),Inv X pins σ H s->wi σ H R ->
  wpAny (model X.prog X.w) X.A (eval iter X.env) (fun v s1=>wpAny (model X.prog X.w) X.A (pyIter v) (Ia X pins σ tg R) X.xe s1) X.xe s
theorem vR{M : Model}{A : Around}{E : Value->Shared->Prop}{s : Shared}{tg : Expr}{it : Addr}{u : Value}{o : Obj}{n : String}{vs : Array Value}{Q : Unit->Shared->Prop}(ho : s.heap.get? it=some o)(hc : o.cls=.type n)(hd : o.data=.fields vs)
    (hn : ["enumerate","zip","dict_itemiterator","dict_reverseitemiterator","odict_iterator","itertools.zip_longest","itertools.pairwise"].contains n=false) (hQ : Q () s) : wpAny M A (letOwnedTupleGo tg (.ref it) u) Q E s:=by
  unfold letOwnedTupleGo
  cases tg<;>first
    |exact wpAny_pure hQ
    | (cases u <;> first
        |exact wpAny_pure hQ
        | (refine wpAny_bind (wpAny_load ho ?_)
           rw[hc,hd];show wpAny M A (if (["enumerate","zip","dict_itemiterator","dict_reverseitemiterator","odict_iterator","itertools.zip_longest","itertools.pairwise"].contains n&&vs[0]?==some (rawInt _))=true then _ else _) Q E s;rw[if_neg (by intro h;rw[hn,Bool.false_and] at h;cases h)]
           exact wpAny_pure hQ))
def Hf(K:PySem.W.Frag)(a:Addr):It :=
 ⟨fun i H=>∃xs x,dF K H a xs/\xs[i]?=some x,fun i H x H'=>H'=H/\∀xs,dF K H a xs->xs[i]?=some x,fun i H=>∃xs,dF K H a xs/\xs.length<=i⟩
def IG(K:PySem.W.Frag)(a:Addr):It :=
 ⟨fun i H=>∃xs x,sh K H a xs/\xs[i]?=some x,fun i H x H'=>H'=H/\∀xs,sh K H a xs->xs[i]?=some x,fun i H=>∃xs,sh K H a xs/\xs.length<=i⟩
def Em(lo:Int)(n:Nat):It:=⟨fun i _=>i<n,fun i H x H'=>H'=H/\x=.int (lo+i),fun i _=>n<=i⟩
theorem wN{P:Program}{w:World}{K:PySem.W.Frag}{tg:Expr}(a it:Addr):Turn P w K tg (Hf K a) [it] it (fun i h=>h.IsListIter it a i) where
 mem:=by simp
 obj:=fun i h st b hb=>by
  have e:b=it:=by simpa using hb
  subst e;obtain⟨o,e,c,d⟩:=st;exact⟨o,e,fun v z=>by rw[d] at z;cases z⟩
 keep:=fun i h h' st k=>st.at fun o e=>k it (by simp) o e
 item:=by
  intro X hP hw hK hc i pins s σ H E I hf st hg;subst hP hw hK;obtain⟨xs,x,hq,hx⟩:=hg;obtain⟨its,rv,p,hz⟩:=I.list hq;obtain⟨u,hu,ru⟩:=rv.get hx;obtain⟨f0,f1,f2,f3,f4,f5⟩:=hf it (by simp);refine wpAny_pyNext_list_item st p.isList (x:=u) (by simpa using hu) fun h' st' sb=>?_;have I1:Inv X pins σ H {s with heap:=h'}:=I.turned (t':=s.toks) (fun b o hb e=>(sb.2 b hb).trans e) f0 f1 f3 f4 f5;obtain⟨o,e,c,d⟩:=id st';exact⟨u,rfl,vR (s:={s with heap:=h'}) e c d (by decide) ⟨x,H,I1,ru,⟨rfl,fun ys hy=>by rw[I.mO hy hq];exact hx⟩,st',fun b hb=>(hf b hb).1⟩⟩
 done:=by
  intro X hP hw hK hc i pins s σ H E I hf st hg;subst hP hw hK;obtain⟨xs,hq,hx⟩:=hg;obtain⟨its,rv,p,hz⟩:=I.list hq;obtain⟨f0,f1,f2,f3,f4,f5⟩:=hf it (by simp);have hl:=rv.length;exact wpAny_pyNext_list_end (I.ok.hd hc) st p.isList (by simp;omega) fun h' eb=>⟨rfl,I.turned (t':=s.toks) (fun b o hb e=>eb b o hb e) f0 f1 f3 f4 f5⟩
 self:=fun _ _ _ _ _ st h=>wpAny_pyIter_listiter st h
theorem uM{P:Program}{w:World}{K:PySem.W.Frag}{tg:Expr}(a it:Addr):Turn P w K tg (IG K a) [it] it (fun i h=>h.IsTupleIter it a i) where
 mem:=by simp
 obj:=fun i h st b hb=>by
  have e:b=it:=by simpa using hb
  subst e;obtain⟨o,e,c,d⟩:=st;exact⟨o,e,fun v z=>by rw[d] at z;cases z⟩
 keep:=fun i h h' st k=>st.at fun o e=>k it (by simp) o e
 item:=by
  intro X hP hw hK hc i pins s σ H E I hf st hg;subst hP hw hK;obtain⟨xs,x,hq,hx⟩:=hg;obtain⟨its,rv,p,hz⟩:=I.tuple hq;obtain⟨u,hu,ru⟩:=rv.get hx;obtain⟨f0,f1,f2,f3,f4,f5⟩:=hf it (by simp);refine wpAny_pyNext_tuple_item st (show s.heap.IsTuple a its.toArray from p) (x:=u) (by simpa using hu) fun h' st' sb=>?_;have I1:Inv X pins σ H {s with heap:=h'}:=I.turned (t':=s.toks) (fun b o hb e=>(sb.2 b hb).trans e) f0 f1 f3 f4 f5;obtain⟨o,e,c,d⟩:=id st';exact⟨u,rfl,vR (s:={s with heap:=h'}) e c d (by decide) ⟨x,H,I1,ru,⟨rfl,fun ys hy=>by rw[I.wK hy hq];exact hx⟩,st',fun b hb=>(hf b hb).1⟩⟩
 done:=by
  intro X hP hw hK hc i pins s σ H E I hf st hg;subst hP hw hK;obtain⟨xs,hq,hx⟩:=hg;obtain⟨its,rv,p,hz⟩:=I.tuple hq;obtain⟨f0,f1,f2,f3,f4,f5⟩:=hf it (by simp);have hl:=rv.length;exact wpAny_pyNext_tuple_end (I.ok.hd hc) st (show s.heap.IsTuple a its.toArray from p) (by simp;omega) fun h' eb=>⟨rfl,I.turned (t':=s.toks) (fun b o hb e=>eb b o hb e) f0 f1 f3 f4 f5⟩
 self:=fun _ _ _ _ _ st h=>wpAny_pyIter_tupleiter st h
theorem uj{P:Program}{w:World}{K:PySem.W.Frag}{tg:Expr}(it:Addr)(lo:Int)(n:Nat):Turn P w K tg (Em lo n) [it] it (fun i h=>IsRangeIter h it (lo+(i:Nat)*1) ((n:Int)-(i:Nat)) 1) where
 mem:=by simp
 obj:=fun i h st b hb=>by
  have e:b=it:=by simpa using hb
  subst e
  exact ⟨_,st,fun v z=>by
   have z':Data.fields _=Data.cell v:=z
   cases z'⟩
 keep:=fun i h h' st k=>k it (by simp) _ st
 item:=by
  intro X hP hw hK hc i pins s σ H E I hf st hg;subst hP hw hK;obtain⟨f0,f1,f2,f3,f4,f5⟩:=hf it (by simp);have W:=Walks.range (prog:=X.prog) (w:=X.w) (I.ok.hd hc) it lo 1 n;refine W.item i s _ _ hg st fun v h' tk hv st' kk=>?_;obtain⟨t,rfl⟩:=hv;have I1:Inv X pins σ H {s with heap:=h',toks:=tk}:=I.turned (fun b o hb e=>kk b o (by simpa using hb) e) f0 f1 f3 f4 f5;refine⟨_,rfl,vR (s:={s with heap:=h',toks:=tk}) (n:="range_iterator") st' rfl rfl (by decide) ⟨.int (lo+i),H,I1,⟨t,?_⟩,⟨rfl,rfl⟩,st',fun b hb=>(hf b hb).1⟩⟩;rw[Int.mul_one]
 done:=by
  intro X hP hw hK hc i pins s σ H E I hf st hg;subst hP hw hK;obtain⟨f0,f1,f2,f3,f4,f5⟩:=hf it (by simp);exact wpAny_pyNext_range_end (I.ok.hd hc) st (by have:n<=i:=hg;omega) fun h' eb=>⟨rfl,I.turned (t':=s.toks) (fun b o hb e=>eb b o hb e) f0 f1 f3 f4 f5⟩
 self:=fun _ _ _ _ _ st h=>wpAny_pyIter_rangeiter st h
section
variable{X:Cx}{tg:Expr}
def Fl(K:PySem.W.Frag)(tl:TE):TI:=fun σ H R=>tl σ H fun x H1=>∃a,x=.ref a/\(∃xs,dF K H1 a xs)/\R (Hf K a) H1
def Hz(K:PySem.W.Frag)(tl:TE):TI:=fun σ H R=>tl σ H fun x H1=>∃a,x=.ref a/\(∃xs,sh K H1 a xs)/\R (IG K a) H1
theorem vx{l:Expr}{tl:TE}(hl:PE X l tl):PI X tg l (Fl X.K tl):=by
 intro pins s σ H R I h;refine bO (hl pins s σ H _ I h) fun v s1 ⟨x,H1,I1,r1,q1⟩=>?_;obtain⟨a,e,⟨xs,hq⟩,q⟩:=q1;subst e;cases r1;obtain⟨its,rv,p,hz⟩:=I1.list hq;refine wpAny_pyIter_list p.isList ?_;refine⟨s1.heap.objs.size,[s1.heap.objs.size],_,_,H1,rfl,I1.kept (t':=s1.toks) fun b o e=>Heap.get?_push_of_some _ e,wN a _,⟨_,Heap.get?_push_size _ rfl,rfl,rfl⟩,fun b hb=>?_,q⟩;have e:b=s1.heap.objs.size:=by simpa using hb
 subst e;exact I1.Ak (Nat.le_refl _) (I1.hok.fresh (Nat.le_refl _))
theorem DQ{l:Expr}{tl:TE}(hl:PE X l tl):PI X tg l (Hz X.K tl):=by
 intro pins s σ H R I h;refine bO (hl pins s σ H _ I h) fun v s1 ⟨x,H1,I1,r1,q1⟩=>?_;obtain⟨a,e,⟨xs,hq⟩,q⟩:=q1;subst e;cases r1;obtain⟨its,rv,p,hz⟩:=I1.tuple hq;refine wpAny_pyIter_tuple (show s1.heap.IsTuple a its.toArray from p) ?_;refine⟨s1.heap.objs.size,[s1.heap.objs.size],_,_,H1,rfl,I1.kept (t':=s1.toks) fun b o e=>Heap.get?_push_of_some _ e,uM a _,⟨_,Heap.get?_push_size _ rfl,rfl,rfl⟩,fun b hb=>?_,q⟩;have e:b=s1.heap.objs.size:=by simpa using hb
 subst e;exact I1.Ak (Nat.le_refl _) (I1.hok.fresh (Nat.le_refl _))
theorem r_{pins:List (Addr×Obj)}{σ:St}{H:Hp}{s:Shared}{R:It->Hp->Prop}{E:Value->Shared->Prop}{lo hi:Int}{t u v:Tok}{tk:Nat}(I:Inv X pins σ H s)(h1:-(2^62)<=lo)(h2:lo<2^62)(h3:-(2^62)<=hi)(h4:hi<2^62)
  (q:R (Em lo (hi-lo).toNat) H):wpAny (model X.prog X.w) X.A (pyIter (.ref s.heap.objs.size)) (Ia X pins σ tg R) E {s with heap:=s.heap.push {cls:=.type "range",data:=.fields #[.int lo t,.int hi u,.int 1 v]},toks:=tk}:=by
 refine wpAny_pyIter_range (IsRange.new ..) (small_one h1 h2 h3 h4) ?_;have I1:Inv X pins σ H {s with heap:=s.heap.push {cls:=.type "range",data:=.fields #[.int lo t,.int hi u,.int 1 v]},toks:=tk}:=I.kept fun b o e=>Heap.get?_push_of_some _ e
 refine ⟨(s.heap.push { cls:=.type "range",data:=.fields #[.int lo t,.int hi u,.int 1 v] }).objs.size,[(s.heap.push { cls:=.type "range",data:=.fields #[.int lo t,.int hi u,.int 1 v] }).objs.size],_,_,H,rfl,
  I1.kept (t':=tk) fun b o e=>Heap.get?_push_of_some _ e,uj _ lo (hi-lo).toNat,?_,fun b hb=>?_,q⟩
 .have e1:lo+((0:Nat):Int)*1=lo:=by simp
  have e2:(((hi-lo).toNat:Nat):Int)-((0:Nat):Int)=Builtin.Range.rangeSize lo hi 1:=by rw[rangeSize_one];split<;>omega
  show IsRangeIter _ _ (lo+((0:Nat):Int)*1) ((((hi-lo).toNat:Nat):Int)-((0:Nat):Int)) 1;rw[e1,e2];exact Heap.get?_push_size _ rfl
 .have e:b=(s.heap.push {cls:=.type "range",data:=.fields #[.int lo t,.int hi u,.int 1 v]}).objs.size:=by simpa using hb
  subst e;exact I1.Ak (Nat.le_refl _) (I1.hok.fresh (Nat.le_refl _))
def GO(ta:TA):TI:=fun σ H R=>ta σ H fun vs H1=>∃j:Int,vs=[.int j]/\-(2^62)<=j/\j<2^62/\R (Em 0 j.toNat) H1
def Gp(ta:TA):TI:=fun σ H R=>ta σ H fun vs H1=>∃i j:Int,vs=[.int i,.int j]/\(-(2^62)<=i/\i<2^62/\-(2^62)<=j/\j<2^62)/\R (Em i (j-i).toNat) H1
theorem wV{a:Expr}{ta:TA}{p pos:Pos}(hg:Gl X "range")(hm:X.mg "range"=none)(ha:PA X [a] ta)(hs:starEach [a] X.env=[(false,eval a X.env)]:=by rfl):PI X tg (.Call (.Name "range" p) [a] [] pos) (GO ta):=by
 intro pins s σ H R I h;refine Call_ (eO I hg hm boot_range (PyProof.Rows.callWith_type1 (bO (ha pos pins s σ H _ I h) fun us s1 ⟨vs,H1,I1,r1,q1⟩=>?_) hs rfl));obtain⟨j,e,q1,q2,q⟩:=q1;subst e;cases r1 with
 |cons r rr =>
  cases rr;obtain⟨t,rfl⟩:=r;exact call_range_1 (r_ I1 (by omega) (by omega) q1 q2 (by simpa using q))
theorem wM{a b:Expr}{ta:TA}{p pos:Pos}(hg:Gl X "range")(hm:X.mg "range"=none)(ha:PA X [a,b] ta)(hs:starEach [a,b] X.env=[(false,eval a X.env),(false,eval b X.env)]:=by rfl)(hs2:starEach [b] X.env=[(false,eval b X.env)]:=by rfl):
  PI X tg (.Call (.Name "range" p) [a,b] [] pos) (Gp ta):=by
 intro pins s σ H R I h;refine Call_ (eO I hg hm boot_range (PyProof.Rows.callWith_type1 (bO (ha pos pins s σ H _ I h) fun us s1 ⟨vs,H1,I1,r1,q1⟩=>?_) (by rw[hs,hs2]) (by rw[hs2];rfl)));obtain⟨i,j,e,⟨q1,q2,q3,q4⟩,q⟩:=q1;subst e;cases r1 with
 |cons r rr =>
  cases rr with
  |cons r' rr =>
   cases rr;obtain⟨t,rfl⟩:=r;obtain⟨t',rfl⟩:=r';exact call_range_2 (r_ I1 q1 q2 q3 q4 q)
def HN(wi:TI)(g:TG)(tb:TS):TS:=fun D σ H=>wi σ H fun J H1=>∃W:Nat->Nat->St->Hp->Prop,(∃m,W 0 m σ H1)/\∀i m σ H,W i m σ H ->
 (J.stop i H/\D.nx σ H)\/(J.go i H/\∃N:St->Hp->Prop,(∀σ' H',N σ' H'->∃m',m'<m/\W (i+1) m' σ' H')/\∀x H',J.yld i H x H'->g x σ H' fun σ2 H2=>tb {D with nx:=N,ct:=N,bk:=D.nx} σ2 H2)
def mM(fp:List Addr)(h:Heap):List (Addr×Obj):=fp.filterMap fun b=>(h.get? b).map fun o=>(b,o)
theorem gC{fp:List Addr}{h:Heap}{b:Addr}{o:Obj}(hb:b∈fp)(e:h.get? b=some o):(b,o)∈mM fp h:=List.mem_filterMap.mpr ⟨b,hb,by rw[e];rfl⟩
theorem wQ{fp:List Addr}{h:Heap}{p:Addr×Obj}(hp:p∈mM fp h):p.1∈fp/\h.get? p.1=some p.2:=by
 obtain⟨b,hb,e⟩:=List.mem_filterMap.mp hp;cases q:h.get? b with
 |none=>rw[q] at e;cases e
 |some o =>
  rw[q] at e;have e':(b,o)=p:=Option.some.inj e;subst e';exact⟨hb,q⟩
theorem Inv.pinned{pins:List (Addr×Obj)}{σ:St}{H:Hp}{s:Shared}{fp:List Addr}(I:Inv X pins σ H s)(hf:∀b∈fp,nK X pins H b)(ho:∀b∈fp,∃o,s.heap.get? b=some o/\∀v,o.data≠.cell v):Inv X (pins++mM fp s.heap) σ H s :=
 I.jQ fun p hp=>(List.mem_append.mp hp).elim (fun z=>I.pin p (List.mem_append_right _ z)) fun z=>by
  obtain⟨hb,e⟩:=wQ z;obtain⟨f0,f1,f2,_⟩:=hf p.1 hb;obtain⟨o,e',d⟩:=ho p.1 hb;rw[e] at e';cases e';exact⟨e,f0,f1,f2,d⟩
theorem Inv.jy{pins pl:List (Addr×Obj)}{σ:St}{H:Hp}{s:Shared}(I:Inv X (pins++pl) σ H s):Inv X pins σ H s:=I.jQ fun p hp=>I.pin p (List.mem_append_right _ (List.mem_append_left _ hp))
theorem nu{iter:Expr}{body:List Stmt}{wi:TI}{g:TG}{tb:TS}{pos:Pos}(hp:PassesOwn (model X.prog X.w) X.A X.env X.xe)(hc:X.calm=true)(hi:PI X tg iter wi)(hg:PG X tg g)(hb:nA X body tb)
  (hs:∀x,foldedSetIterable iter X.env x=pure x:=by intro _;rfl):PS X (.For tg iter body [] pos) (HN wi g tb):=by
 intro pins s σ H D I h;refine wpAny_For (bO (hi pins s σ H _ I h) fun v s1 h1=>bO h1 fun itv s2 h2=>?_) hs;obtain⟨it,fp,tn,J,H2,e,I2,T,st2,f2,W,⟨m0,w0⟩,turn⟩:=h2;subst e
 -- what stays true of the iterator's objects through the loop
 have stat:∀{H':Hp},(∀b∈fp,H' b=none)->∀b∈fp,nK X pins H' b:=fun hn b hb=>⟨hn b hb,(f2 b hb).2⟩;refine codeAny_forLoop_any (fun n s'=>∃i σ' H',Inv X pins σ' H' s'/\tn i s'.heap/\(∀b∈fp,H' b=none)/\W i n σ' H') ?_ m0 ⟨0,σ,H2,I2,st2,fun b hb=>(f2 b hb).1,w0⟩;rintro n s3 ⟨i,σ3,H3,I3,st3,fr3,w3⟩;rcases turn i n σ3 H3 w3 with⟨stop,qn⟩|⟨go,N,hN,step⟩
 .refine wpAny_passesOwn hp (bO (T.done X rfl rfl rfl hc i pins s3 σ3 H3 X.xe I3 (stat fr3) st3 stop) fun r s4 ⟨hr,I4⟩=>?_);subst hr;exact wpAny_execs_nil ⟨σ3,H3,I4,qn⟩
 .refine wpAny_passesOwn hp (bO (T.item X rfl rfl rfl hc i pins s3 σ3 H3 X.xe I3 (stat fr3) st3 go) fun r s4 ⟨u,hr,h4⟩=>?_);subst hr;refine wpAny_passesOwn hp (bO h4 fun _ s5 ⟨x,H5,I5,r5,y5,st5,fr5⟩=>?_);have I5':=I5.pinned (stat fr5) (T.obj _ _ st5);refine wpAny_passesOwn hp (bO (hg _ s5 σ3 H5 x u _ I5' r5 (step x H5 y5)) fun _ s6 ⟨σ6,H6,I6,q6⟩=>?_);refine wpAny_passesOwn hp (bO (hb _ s6 σ6 H6 _ I6 q6) fun f s7 q7=>?_)
  have again:∀{σ7:St} {H7:Hp},Inv X (pins++mM fp s5.heap) σ7 H7 s7->N σ7 H7->∃m,m<n/\∃i σ' H',Inv X pins σ' H' s7/\tn i s7.heap/\(∀b∈fp,H' b=none)/\W i m σ' H':=fun {σ7 H7} I7 n7=>by
   obtain⟨m',hm,w7⟩:=hN σ7 H7 n7;refine⟨m',hm,i+1,σ7,H7,I7.jy,T.keep _ _ _ st5 fun b hb o e=>(I7.pin (b,o) (List.mem_append_right _ (List.mem_append_right _ (gC hb e)))).1,fun b hb=>?_,w7⟩;obtain⟨o,e,d⟩:=T.obj _ _ st5 b hb;exact(I7.pin (b,o) (List.mem_append_right _ (List.mem_append_right _ (gC hb e)))).2.1
  cases f with
  |next=>obtain⟨σ7,H7,I7,n7⟩:=q7;exact again I7 n7
  |cont=>obtain⟨σ7,H7,I7,n7⟩:=q7;exact again I7 n7
  |brk=>obtain⟨σ7,H7,I7,q7⟩:=q7;exact⟨σ7,H7,I7.jy,q7⟩
  |ret v=>obtain⟨x7,σ7,H7,I7,r7,q7⟩:=q7;exact⟨x7,σ7,H7,I7.jy,r7,q7⟩
end
theorem zd{K:PySem.W.Frag}{a:Addr}{xs:List V}{g:TG}{tb:TS}{D:Ends}{σ:St}{H:Hp}(Pv:Nat->St->Hp->Prop)(h0:Pv 0 σ H)(hl:∀i σ H,i<=xs.length->Pv i σ H->dF K H a xs)
  (hs:∀i x σ H,xs[i]?=some x->Pv i σ H->g x σ H fun σ2 H2=>tb {D with nx:=Pv (i+1),ct:=Pv (i+1),bk:=D.nx} σ2 H2) (hd:∀σ H,Pv xs.length σ H->D.nx σ H):
  ∃W:Nat->Nat->St->Hp->Prop,(∃m,W 0 m σ H)/\∀i m σ H,W i m σ H ->
   ((Hf K a).stop i H/\D.nx σ H)\/((Hf K a).go i H/\∃N:St->Hp->Prop,(∀σ' H',N σ' H'->∃m',m'<m/\W (i+1) m' σ' H')/\∀x H',(Hf K a).yld i H x H'->g x σ H' fun σ2 H2=>tb {D with nx:=N,ct:=N,bk:=D.nx} σ2 H2):=by
 refine⟨fun i m σ H=>m=xs.length-i/\i<=xs.length/\Pv i σ H,⟨xs.length,by simp,Nat.zero_le _,h0⟩,?_⟩;rintro i m σ H ⟨rfl,hi,p⟩;have q:=hl i σ H hi p;by_cases hlt:i<xs.length
 .refine .inr ⟨⟨xs,xs[i],q,by simp[hlt]⟩,Pv (i+1),fun σ' H' p'=>⟨xs.length-(i+1),by omega,rfl,hlt,p'⟩,fun x H' y=>?_⟩;obtain⟨e,y⟩:=y;subst e;exact hs i x σ _ (y xs q) p
 .have e:i=xs.length:=by omega
  subst e;exact .inl ⟨⟨xs,q,Nat.le_refl _⟩,hd σ H p⟩
theorem oB{lo:Int}{n:Nat}{g:TG}{tb:TS}{D:Ends}{σ:St}{H:Hp}(Pv:Nat->St->Hp->Prop)(h0:Pv 0 σ H)
  (hs:∀i σ H,i<n->Pv i σ H->g (.int (lo+i)) σ H fun σ2 H2=>tb {D with nx:=Pv (i+1),ct:=Pv (i+1),bk:=D.nx} σ2 H2) (hd:∀σ H,Pv n σ H->D.nx σ H):
  ∃W:Nat->Nat->St->Hp->Prop,(∃m,W 0 m σ H)/\∀i m σ H,W i m σ H ->
   ((Em lo n).stop i H/\D.nx σ H)\/((Em lo n).go i H/\∃N:St->Hp->Prop,(∀σ' H',N σ' H'->∃m',m'<m/\W (i+1) m' σ' H')/\∀x H',(Em lo n).yld i H x H'->g x σ H' fun σ2 H2=>tb {D with nx:=N,ct:=N,bk:=D.nx} σ2 H2):=by
 refine⟨fun i m σ H=>m=n-i/\i<=n/\Pv i σ H,⟨n,by simp,Nat.zero_le _,h0⟩,?_⟩;rintro i m σ H ⟨rfl,hi,p⟩;by_cases hlt:i<n
 .refine .inr ⟨hlt,Pv (i+1),fun σ' H' p'=>⟨n-(i+1),by omega,rfl,hlt,p'⟩,fun x H' y=>?_⟩;obtain⟨e,y⟩:=y;subst e y;exact hs i σ _ hlt p
 .have e:i=n:=by omega
  subst e;exact .inl ⟨Nat.le_refl _,hd σ H p⟩
abbrev R2:=V->V->Hp->VK->Prop
def i7(X:Cx)(f:Value->Value->Sem Value)(r:R2):Prop :=
 ∀(pins:List (Addr×Obj)) (s:Shared) (σ:St) (H:Hp) (x y:V) (v u:Value) (Q:VK),Inv X pins σ H s->RelV x v->RelV y u->r x y H Q ->
  wpAny (model X.prog X.w) X.A (f v u) (EP X pins σ Q) X.xe s
def Iy(X:Cx)(f:Value->Sem Value)(r:V->Hp->VK->Prop):Prop :=
 ∀(pins:List (Addr×Obj)) (s:Shared) (σ:St) (H:Hp) (x:V) (v:Value) (Q:VK),Inv X pins σ H s->RelV x v->r x H Q ->
  wpAny (model X.prog X.w) X.A (f v) (EP X pins σ Q) X.xe s
def gO(X:Cx)(f:Value)(r:List V->Hp->VK->Prop):Prop :=
 ∀(pins:List (Addr×Obj)) (s:Shared) (σ:St) (H:Hp) (xs:List V) (us:List Value) (Q:VK),Inv X pins σ H s->Vals xs us->r xs H Q ->
  wpAny (model X.prog X.w) X.A (call f us) (EP X pins σ Q) X.xe s
def Ht(r:R2)(ta tb:TE):TE:=fun σ H Q=>ta σ H fun x H1=>tb σ H1 fun y H2=>r x y H2 Q
def Jo(r:V->Hp->VK->Prop)(ta:TE):TE:=fun σ H Q=>ta σ H fun x H1=>r x H1 Q
def rI(C:Int->Int->Prop)(g:Int->Int->V):R2:=fun x y H Q=>∃i j,x=.int i/\y=.int j/\C i j/\Q (g i j) H
def BF(g:Int->Int->V):R2:=fun x y H Q=>∃i j,x=.int i/\y=.int j/\Q (g i j) H
def rU(g:Int->V):V->Hp->VK->Prop:=fun x H Q=>∃i,x=.int i/\Q (g i) H
section
variable{X:Cx}{a b c:Expr}{ta tb tc:TE}{pos:Pos}
theorem El(ha:PE X a ta)(hb:PE X b tb){pins:List (Addr×Obj)}{s:Shared}{σ:St}{H:Hp}{R:V->V->Hp->Prop}(I:Inv X pins σ H s)
  (h:ta σ H fun x H1=>tb σ H1 fun y H2=>R x y H2) {Q:Value->Shared->Prop} {f:Value->Value->Sem Value}
  (hf:∀v u s2 x y H2,Inv X pins σ H2 s2->RelV x v->RelV y u->R x y H2->wpAny (model X.prog X.w) X.A (f v u) Q X.xe s2):
  wpAny (model X.prog X.w) X.A (eval a X.env) (fun v s₁=>wpAny (model X.prog X.w) X.A (eval b X.env) (fun u s₂=>wpAny (model X.prog X.w) X.A (f v u) Q X.xe s₂) X.xe s₁) X.xe s:=by
 refine bO (ha pins s σ H _ I h) fun v s1 ⟨x,H1,I1,r1,q1⟩=>?_;refine bO (hb pins s1 σ H1 _ I1 q1) fun u s2 ⟨y,H2,I2,r2,q2⟩=>?_;exact hf v u s2 x y H2 I2 r1 r2 q2
theorem yQ{op:Operator}{r:R2}(ho:i7 X (binaryOp op) r)(ha:PE X a ta)(hb:PE X b tb):PE X (.BinOp a op b pos) (Ht r ta tb):=by
 intro pins s σ H Q I h;exact wpAny_BinOp (El ha hb I h fun v u s2 x y H2 I2 rx ry q=>ho pins s2 σ H2 x y v u Q I2 rx ry q)
theorem FX{op:UnaryOp}{r:V->Hp->VK->Prop}(ho:Iy X (unaryOp op) r)(ha:PE X a ta):PE X (.UnaryOp op a pos) (Jo r ta):=by
 intro pins s σ H Q I h;exact UnaryOp_ (bO (ha pins s σ H _ I h) fun v s1 ⟨x,H1,I1,r1,q1⟩=>ho pins s1 σ H1 x v Q I1 r1 q1)
theorem Gv{f:Value->Value->Sem Value}{C:Int->Int->Prop}{g:Int->Int->Int}
  (rule:∀(i j:Int) (t u:Tok) (s:Shared) (Q:Value->Shared->Prop) (E:Value->Shared->Prop),C i j->Q (.int (g i j) s.toks) {s with toks:=s.toks+1}->wpAny (model X.prog X.w) X.A (f (.int i t) (.int j u)) Q E s):
  i7 X f (rI C fun i j=>.int (g i j)):=by
 intro pins s σ H x y v u Q I rx ry h;obtain⟨i,j,rfl,rfl,hc,q⟩:=h;obtain⟨t,rfl⟩:=rx;obtain⟨t',rfl⟩:=ry;exact rule i j t t' s _ _ hc ⟨.int (g i j),H,I.tok _,⟨_,rfl⟩,q⟩
theorem FP{f:Value->Value->Sem Value}{g:Int->Int->Int}
  (rule:∀(i j:Int) (t u:Tok) (s:Shared) (Q:Value->Shared->Prop) (E:Value->Shared->Prop),Q (.int (g i j) s.toks) {s with toks:=s.toks+1}->wpAny (model X.prog X.w) X.A (f (.int i t) (.int j u)) Q E s):
  i7 X f (BF fun i j=>.int (g i j)):=by
 intro pins s σ H x y v u Q I rx ry h;obtain⟨i,j,rfl,rfl,q⟩:=h;obtain⟨t,rfl⟩:=rx;obtain⟨t',rfl⟩:=ry;exact rule i j t t' s _ _ ⟨.int (g i j),H,I.tok _,⟨_,rfl⟩,q⟩
theorem AU{f:Value->Value->Sem Value}{g:Int->Int->Bool}
  (rule:∀(i j:Int) (t u:Tok) (s:Shared) (Q:Value->Shared->Prop) (E:Value->Shared->Prop),Q (.bool (g i j)) s->wpAny (model X.prog X.w) X.A (f (.int i t) (.int j u)) Q E s):
  i7 X f (BF fun i j=>.bl (g i j)):=by
 intro pins s σ H x y v u Q I rx ry h;obtain⟨i,j,rfl,rfl,q⟩:=h;obtain⟨t,rfl⟩:=rx;obtain⟨t',rfl⟩:=ry;exact rule i j t t' s _ _ ⟨.bl (g i j),H,I,rfl,q⟩
def z_(i j:Int):Prop:=0<=j/\j<=1000000/\i.natAbs<2^64
def By(i j:Int):Prop:=(-(2^64)<i/\i<2^64)\/(-(2^64)<j/\j<2^64)
theorem By.ok{i j:Int}(h:By i j):IntMulOk i j:=by
 rcases h with⟨h1,h2⟩|⟨h1,h2⟩
 .exact .of_left (intBits_le_64 h1 h2)
 .exact .of_right (intBits_le_64 h1 h2)
theorem EO:i7 X (binaryOp .Add) (BF fun i j=>.int (i+j)):=FP fun _ _ _ _ _ _ _ q=>add_int q
theorem EU:i7 X (binaryOp .Sub) (BF fun i j=>.int (i-j)):=FP fun _ _ _ _ _ _ _ q=>sub_int q
theorem BG:i7 X (binaryOp .Mod) (rI (fun _ j=>j≠0) fun i j=>.int (i.fmod j)):=Gv fun _ _ _ _ _ _ _ hc q=>mod_int' hc q
theorem Ds:i7 X (binaryOp .Pow) (rI z_ fun i j=>.int (i^j.toNat)):=Gv fun _ _ _ _ _ _ _ hc q=>pow_int_small hc.1 hc.2.1 hc.2.2 q
theorem Dy:i7 X (binaryOp .LShift) (rI z_ fun i j=>.int (i*2^j.toNat)):=Gv fun _ _ _ _ _ _ _ hc q=>lshift_int_small hc.1 hc.2.1 hc.2.2 q
theorem Jg{f:Value->Sem Value}{g:Int->Int}
  (rule:∀(i:Int) (t:Tok) (s:Shared) (Q:Value->Shared->Prop) (E:Value->Shared->Prop),Q (.int (g i) s.toks) {s with toks:=s.toks+1}->wpAny (model X.prog X.w) X.A (f (.int i t)) Q E s):
  Iy X f (rU fun i=>.int (g i)):=by
 intro pins s σ H x v Q I rx h;obtain⟨i,rfl,q⟩:=h;obtain⟨t,rfl⟩:=rx;exact rule i t s _ _ ⟨.int (g i),H,I.tok _,⟨_,rfl⟩,q⟩
theorem DM:Iy X (unaryOp .USub) (rU fun i=>.int (-i)):=Jg fun _ _ _ _ _ q=>neg_int q
end
def Fx:V->V->Bool
 |.non,.non=>true|.non,.int _=>true|.int _,.non=>true|.non,.bl _=>true|.bl _,.non=>true|.non,.str _=>true|.str _,.non=>true
 |.int _,.int _=>true|.bl _,.bl _=>true|.str _,.str _=>true|.byt _,.byt _=>true
 |.int _,.str _=>true|.str _,.int _=>true|.bl _,.str _=>true|.str _,.bl _=>true
 |_,_=>false
def Jd:R2:=fun x y H Q=>Fx x y=true/\Q (.bl (decide (x=y))) H
def Jn:R2:=fun x y H Q=>Fx x y=true/\Q (.bl (!decide (x=y))) H
theorem lu{i j:Int}:decide (V.int i=V.int j)=(i==j):=by
 rw[Bool.eq_iff_iff];simp
theorem zo{i j:Bool}:decide (V.bl i=V.bl j)=(i==j):=by
 rw[Bool.eq_iff_iff];simp
theorem uQ{i j:Str}:decide (V.str i=V.str j)=(i==j):=by
 rw[Bool.eq_iff_iff];simp
theorem vZ{i j:Array UInt8}:decide (V.byt i=V.byt j)=(i.toList==j.toList):=by
 rw[Bool.eq_iff_iff];cases i;cases j;simp
section
variable{X:Cx}{a b c:Expr}{ta tb tc:TE}{pos:Pos}
theorem aV{pins:List (Addr×Obj)}{σ:St}{H:Hp}{s:Shared}{Q:VK}{k k':Bool}(I:Inv X pins σ H s)(q:Q (.bl k) H)(e:k=k'):EP X pins σ Q (.bool k') s:=by
 subst e;exact⟨.bl k,H,I,rfl,q⟩
theorem Gh:i7 X (compareOp .Eq) Jd:=by
 intro pins s σ H x y v u Q I rx ry h;obtain⟨hs,q⟩:=h;cases x with
 |non =>
  cases rx;cases y with
  |non=>cases ry;exact PySem.EqNone.eq_none_none (aV I q (by simp))
  |bl j=>cases ry;exact PySem.EqNone.eq_none_bool (aV I q (by simp))
  |int j=>obtain⟨t',rfl⟩:=ry;exact PySem.EqNone.eq_none_int (aV I q (by simp))
  |str j=>obtain⟨t',rfl⟩:=ry;exact PySem.EqNone.eq_none_str (aV I q (by simp))
  |_=>exact absurd (show false=true from hs) Bool.false_ne_true
 |bl i =>
  cases rx;cases y with
  |non=>cases ry;exact PySem.EqNone.eq_bool_none (aV I q (by simp))
  |bl j=>cases ry;exact eq_bool (aV I q zo)
  |str j=>obtain⟨t',rfl⟩:=ry;exact PySem.EqMixed.eq_bool_str (aV I q (by simp))
  |_=>exact absurd (show false=true from hs) Bool.false_ne_true
 |int i =>
  obtain⟨t,rfl⟩:=rx;cases y with
  |non=>cases ry;exact PySem.EqNone.eq_int_none (aV I q (by simp))
  |int j=>obtain⟨t',rfl⟩:=ry;exact eq_int (aV I q lu)
  |str j=>obtain⟨t',rfl⟩:=ry;exact PySem.EqMixed.eq_int_str (aV I q (by simp))
  |_=>exact absurd (show false=true from hs) Bool.false_ne_true
 |str i =>
  obtain⟨t,rfl⟩:=rx;cases y with
  |non=>cases ry;exact PySem.EqNone.eq_str_none (aV I q (by simp))
  |bl j=>cases ry;exact PySem.EqMixed.eq_str_bool (aV I q (by simp))
  |int j=>obtain⟨t',rfl⟩:=ry;exact PySem.EqMixed.eq_str_int (aV I q (by simp))
  |str j=>obtain⟨t',rfl⟩:=ry;exact eq_str (aV I q uQ)
  |_=>exact absurd (show false=true from hs) Bool.false_ne_true
 |byt i =>
  obtain⟨t,rfl⟩:=rx;cases y with
  |byt j=>obtain⟨t',rfl⟩:=ry;exact PySem.W.eq_bytes (aV I q vZ)
  |_=>exact absurd (show false=true from hs) Bool.false_ne_true
 |_=>cases y<;>exact absurd (show false=true from hs) Bool.false_ne_true
theorem FC:i7 X (compareOp .NotEq) Jn:=by
 intro pins s σ H x y v u Q I rx ry h;obtain⟨hs,q⟩:=h;cases x with
 |non =>
  cases rx;cases y with
  |non=>cases ry;exact PySem.EqNone.ne_none_none (aV I q (by simp))
  |bl j=>cases ry;exact PySem.EqNone.ne_none_bool (aV I q (by simp))
  |int j=>obtain⟨t',rfl⟩:=ry;exact PySem.EqNone.ne_none_int (aV I q (by simp))
  |str j=>obtain⟨t',rfl⟩:=ry;exact PySem.EqNone.ne_none_str (aV I q (by simp))
  |_=>exact absurd (show false=true from hs) Bool.false_ne_true
 |bl i =>
  cases rx;cases y with
  |non=>cases ry;exact PySem.EqNone.ne_bool_none (aV I q (by simp))
  |bl j=>cases ry;exact ne_bool (aV I q (congrArg not zo))
  |str j=>obtain⟨t',rfl⟩:=ry;exact PySem.EqMixed.ne_bool_str (aV I q (by simp))
  |_=>exact absurd (show false=true from hs) Bool.false_ne_true
 |int i =>
  obtain⟨t,rfl⟩:=rx;cases y with
  |non=>cases ry;exact PySem.EqNone.ne_int_none (aV I q (by simp))
  |int j=>obtain⟨t',rfl⟩:=ry;exact ne_int (aV I q (congrArg not lu))
  |str j=>obtain⟨t',rfl⟩:=ry;exact PySem.EqMixed.ne_int_str (aV I q (by simp))
  |_=>exact absurd (show false=true from hs) Bool.false_ne_true
 |str i =>
  obtain⟨t,rfl⟩:=rx;cases y with
  |non=>cases ry;exact PySem.EqNone.ne_str_none (aV I q (by simp))
  |bl j=>cases ry;exact PySem.EqMixed.ne_str_bool (aV I q (by simp))
  |int j=>obtain⟨t',rfl⟩:=ry;exact PySem.EqMixed.ne_str_int (aV I q (by simp))
  |str j=>obtain⟨t',rfl⟩:=ry;exact ne_str (aV I q (congrArg not uQ))
  |_=>exact absurd (show false=true from hs) Bool.false_ne_true
 |byt i =>
  obtain⟨t,rfl⟩:=rx;cases y with
  |byt j=>obtain⟨t',rfl⟩:=ry;exact PySem.W.ne_bytes (aV I q (congrArg not vZ))
  |_=>exact absurd (show false=true from hs) Bool.false_ne_true
 |_=>cases y<;>exact absurd (show false=true from hs) Bool.false_ne_true
theorem F_:i7 X (compareOp .Lt) (BF fun i j=>.bl (decide (i<j))):=AU fun _ _ _ _ _ _ _ q=>lt_int q
theorem Hh:i7 X (compareOp .LtE) (BF fun i j=>.bl (decide (i<=j))):=AU fun _ _ _ _ _ _ _ q=>le_int q
theorem Fq:i7 X (compareOp .Gt) (BF fun i j=>.bl (decide (j<i))):=AU fun _ _ _ _ _ _ _ q=>gt_int q
theorem FY:i7 X (compareOp .GtE) (BF fun i j=>.bl (decide (j<=i))):=AU fun _ _ _ _ _ _ _ q=>ge_int q
theorem xR(b:Expr){op:CmpOp}(h:op≠.In:=by decide)(h2:op≠.NotIn:=by decide):behindInMarks op b=false:=by
 have e1:(op==CmpOp.In)=false:=by cases op<;>first|rfl|exact absurd rfl h
 have e2:(op==CmpOp.NotIn)=false:=by cases op<;>first|rfl|exact absurd rfl h2
 cases b<;>simp[behindInMarks,e1,e2]
theorem Bi{op:CmpOp}{r:R2}(ho:i7 X (compareOp op) r)(ha:PE X a ta)(hb:PE X b tb)(hm:behindInMarks op b=false):PE X (.Compare a [op] [b] pos) (Ht r ta tb):=by
 intro pins s σ H Q I h;exact wpAny_Compare1 (El ha hb I h fun v u s2 x y H2 I2 rx ry q=>ho pins s2 σ H2 x y v u Q I2 rx ry q) hm
def CT(t:TE):TT:=fun σ H Q=>t σ H fun x H'=>∃k,x=.bl k/\Q k H'
theorem A5{op:CmpOp}{r:R2}(ho:i7 X (compareOp op) r)(ha:PE X a ta)(hb:PE X b tb)(hm:behindInMarks op b=false):PT X (.Compare a [op] [b] pos) (CT (Ht r ta tb)):=by
 intro pins s σ H Q I h
 refine wpAny_isTrue_Compare1 (bO (ha pins s σ H _ I h) fun v s1 ⟨x,H1,I1,r1,q1⟩=>bO (hb pins s1 σ H1 _ I1 q1) fun u s2 ⟨y,H2,I2,r2,q2⟩ =>
  bO (ho pins s2 σ H2 x y v u _ I2 r1 r2 q2) fun c s3 ⟨z,H3,I3,r3,k,e,q3⟩=>?_) hm
 subst e;cases r3;exact wpAny_truthy_bool ⟨H3,I3,q3⟩
def C0(r r':R2)(ta tb tc:TE):TE:=fun σ H Q=>ta σ H fun x H1=>tb σ H1 fun y H2=>r x y H2 fun z H3=>∃k,z=.bl k /\
 (if k=true then tc σ H3 fun w' H4=>r' y w' H4 Q else Q (.bl false) H3)
theorem xD{op op':CmpOp}{r r':R2}(ho:i7 X (compareOp op) r)(ho':i7 X (compareOp op') r')(ha:PE X a ta)(hb:PE X b tb)(hc:PE X c tc)
  (hm:lastMarks [op,op'] [b,c]=false:=by with_unfolding_all rfl):PT X (.Compare a [op,op'] [b,c] pos) (CT (C0 r r' ta tb tc)):=by
 intro pins s σ H Q I h
 refine isTrue_chain (bO (ha pins s σ H _ I h) fun v s1 ⟨x,H1,I1,r1,q1⟩=>test_link (bO (hb pins s1 σ H1 _ I1 q1) fun u s2 ⟨y,H2,I2,r2,q2⟩ =>
  bO (ho pins s2 σ H2 x y v u _ I2 r1 r2 q2) fun d s3 ⟨z,H3,I3,r3,k,e,q3⟩=>?_)) hm
 subst e;cases r3;refine wpAny_truthy_bool ?_;cases k with
 |false =>
  obtain⟨k',e',q'⟩:=q3;cases e';exact ite_ff ⟨H3,I3,q'⟩
 |true =>
  refine ite_tt (test_last (bO (hc pins s3 σ H3 _ I3 q3) fun w' s4 ⟨z',H4,I4,r4,q4⟩=>bO (ho' pins s4 σ H4 y z' u w' _ I4 r2 r4 q4) fun d' s5 ⟨z2,H5,I5,r5,k2,e2,q5⟩=>?_));subst e2;cases r5;exact wpAny_truthy_bool ⟨H5,I5,q5⟩
theorem sJ:(sizeLine:Nat)<2^63:=by rw[sizeLine_eq];decide
theorem vals1{x:V}{us:List Value}(r:Vals [x] us):∃u,us=[u]/\RelV x u:=by
 cases r with
 |cons r1 r2=>cases r2;exact⟨_,rfl,r1⟩
theorem vals2{x y:V}{us:List Value}(r:Vals [x,y] us):∃u w',us=[u,w']/\RelV x u/\RelV y w':=by
 cases r with
 |cons r1 r2 =>
  cases r2 with
  |cons r3 r4=>cases r4;exact⟨_,_,rfl,r1,r3⟩
theorem zG:gO X (.builtin "abs") (fun xs H Q=>∃i,xs=[.int i]/\Q (.int (if i<0 then -i else i)) H):=by
 intro pins s σ H xs us Q I r h;obtain⟨i,rfl,q⟩:=h;obtain⟨u,rfl,t,rfl⟩:=vals1 r;exact call_abs_int fun u tk=>⟨.int (if i<0 then -i else i),H,I.tok _,⟨_,rfl⟩,q⟩
theorem xa(hc:X.calm=true):gO X (.builtin "max") (fun xs H Q=>∃i j,xs=[.int i,.int j]/\Q (.int (if j>i then j else i)) H):=by
 intro pins s σ H xs us Q I r h;obtain⟨i,j,rfl,q⟩:=h;obtain⟨u,w',rfl,⟨t,rfl⟩,⟨t',rfl⟩⟩:=vals2 r;refine max_two_ints (I.ok.hd hc) fun h' tk k=>⟨_,H,I.kept k,?_,q⟩;by_cases hj:j>i
 .rw[if_pos hj,if_pos hj];exact⟨_,rfl⟩
 .rw[if_neg hj,if_neg hj];exact⟨_,rfl⟩
theorem wB(hc:X.calm=true):gO X (.builtin "min") (fun xs H Q=>∃i j,xs=[.int i,.int j]/\Q (.int (if j<i then j else i)) H):=by
 intro pins s σ H xs us Q I r h;obtain⟨i,j,rfl,q⟩:=h;obtain⟨u,w',rfl,⟨t,rfl⟩,⟨t',rfl⟩⟩:=vals2 r;refine min_two_ints (I.ok.hd hc) fun h' tk k=>⟨_,H,I.kept k,?_,q⟩;by_cases hj:j<i
 .rw[if_pos hj,if_pos hj];exact⟨_,rfl⟩
 .rw[if_neg hj,if_neg hj];exact⟨_,rfl⟩
theorem xf:gO X (.type "int") (fun xs H Q=>(∃i,xs=[.int i]/\Q (.int i) H)\/∃k,xs=[.bl k]/\Q (.int (if k then 1 else 0)) H):=by
 intro pins s σ H xs us Q I r h;rcases h with⟨i,rfl,q⟩|⟨k,rfl,q⟩
 .obtain⟨u,rfl,t,rfl⟩:=vals1 r;exact call_int_int ⟨.int i,H,I,⟨_,rfl⟩,q⟩
 .obtain⟨u,rfl,r1⟩:=vals1 r;cases r1;exact call_int_bool ⟨.int (if k then 1 else 0),H,I.tok _,⟨_,rfl⟩,q⟩
end
structure Jv(h:Heap)(x dx C:Addr)(mA:Str->Option Value):Prop where
 obj:h.get? x=some (PySem.W.instObj C dx)
 ns:h.Ns1 dx mA
 ne:dx≠x
section
variable{prog:Program}{w:World}{A:Around}{E:Value->Shared->Prop}{s:Shared}{K:PySem.W.Frag}{x dx C f:Addr}{mA:Str->Option Value}{name:Str}{v:Value}
end
section
variable{P:Program}{w:World}{H H':Hp}{h h':Heap}{a C dx:Addr}{fs fs':List (Str×V)}
end
structure Jh(K:PySem.W.Frag)(C:Addr):Prop where
 pg:PySem.W.plainGet K C Str.empty=true
 hd:PySem.W.hasDictIn K C=true
 po:PySem.W.plainOver K C=true
 sa:PySem.W.findIn K (.ref C) "__setattr__"=some (some (.builtin "object.__setattr__"))
structure Jx(K:PySem.W.Frag)(C:Addr)(f:Str)(v:V)(u:Value):Prop where
 at_:PySem.W.findIn K (.ref C) f=some (some u)
 rel:RelV v u
 get:PySem.W.specialIn K u "__get__"=some none
 cp:PySem.W.copiedNames.contains f=false
structure Meth(K:PySem.W.Frag)(C:Addr)(m:Str)(f:Addr):Prop where
 at_:PySem.W.findIn K (.ref C) m=some (some (.ref f))
 fn:PySem.W.isFn K (.ref f)=true
 kp:PySem.W.keepIn K (.ref f)=true
section
variable{X:Cx}{pins:List (Addr×Obj)}{σ:St}{H:Hp}{s:Shared}{a C dx:Addr}{fs:List (Str×V)}{f:Str}{v:V}{A:Around}{E:Value->Shared->Prop}
end
section
variable{X:Cx}{o e value:Expr}{f:Str}{pos pos' tpos:Pos}{ta tv:TE}
end
section
variable{X:Cx}{pins:List (Addr×Obj)}{σ:St}{H:Hp}{s:Shared}{A:Around}{E:Value->Shared->Prop}{Q:Value->Shared->Prop}{c:Value}{b:Bool}
inductive mq(K:PySem.W.Frag)(H:Hp):V->Value->Prop where
 |non:mq K H .non (.type "NoneType")
 |bl (x:Bool):mq K H (.bl x) (.type "bool")
 |int (i:Int):mq K H (.int i) (.type "int")
 |str (x:Str):mq K H (.str x) (.type "str")
 |flt (x:UInt64):mq K H (.flt x) (.type "float")
 |lst {a:Addr} {xs:List V} (e:H a=some (.lst xs)):mq K H (.ref a) (.type "list")
 |frz {a:Addr} {o:Obj} {xs:List V} (e:H a=some (.frz o (.lst xs))):mq K H (.ref a) (.type "list")
 |tup {a:Addr} {xs:List V} (e:H a=some (.tup xs)):mq K H (.ref a) (.type "tuple")
 |dK {a:Addr} {kvs:List (Key×V)} (e:H a=some (.dK kvs)):mq K H (.ref a) (.type "dict")
 |dT {a:Addr} {kvs:List (List Key×V)} (e:H a=some (.dT kvs)):mq K H (.ref a) (.type "dict")
 |ins {a C dx:Addr} {fs:List (Str×V)} (e:H a=some (.ins C dx fs)) (cl:Jh K C) (ha:PySem.W.findIn K (.ref C) "__class__"=some (some (.builtin "object.__class__")))
   (hn:PySem.W.specialIn K (.builtin "object.__class__") "__get__"=some (some (.builtin "getset_descriptor.__get__"))) (htk:PySem.W.takesIn K (.builtin "object.__class__")=some true)
   (hm:PySem.W.mroIn K C (.type "object")=some true):mq K H (.ref a) (.ref C)
end
structure cM(k:Nat)(A:Around):Prop where
 hd:A.handled=none
 dp:A.depth+3*k+5<recursionLimit
 un:A.units+16*k+200<cLine
theorem cM.mono{j k:Nat}{A:Around}(r:cM k A)(h:j<=k):cM j A:=⟨r.hd,by have:=r.dp;omega,by have:=r.un;omega⟩
theorem cM.deeper{k:Nat}{A:Around}(r:cM (k+1) A)(env:Env):cM k (A.deeper env) :=
 ⟨r.hd,by have:=r.dp;show A.depth+1+3*k+5<_;omega,by have:=r.un;show A.units+3+16*k+200<_;omega⟩
theorem cM.depth{k:Nat}{A:Around}(r:cM k A):A.depth<recursionLimit:=by have:=r.dp;omega
def GH:TA:=fun _ H Q=>Q [] H
def Gg(ta:TE)(tr:TA):TA:=fun σ H Q=>ta σ H fun x H1=>tr σ H1 fun xs H2=>Q (x::xs) H2
section
variable{X:Cx}{e:Expr}{es:List Expr}{te:TE}{t:TA}{pos:Pos}
theorem aU:PA X [] GH:=fun _ _ _ _ H Q I h=>Calls.spliced_nil ⟨[],H,I,.nil,h⟩
theorem aA(ha:PE X e te)(hr:PA X es t)(hs:starEach (e::es) X.env=(false,eval e X.env)::starEach es X.env:=by rfl):PA X (e::es) (Gg te t):=by
 intro pos pins s σ H Q I h;rw[hs];show wpAny _ _ (spliced ((false,eval e X.env)::backTo pos (starEach es X.env))) _ _ s;refine Calls.spliced_cons (bO (ha pins s σ H _ I h) fun u s1 ⟨x,H1,I1,r1,q1⟩=>?_);exact bO (hr pos pins s1 σ H1 _ I1 q1) fun us s2 ⟨xs,H2,I2,r2,q2⟩=>⟨x::xs,H2,I2,.cons r1 r2,q2⟩
def IB(t:TA):TE:=fun σ H Q=>t σ H fun xs H1=>xs.length<=sizeLine/\∀p,H1 p=none->Q (.ref p) (upd H1 p (.tup xs))
def HB(t:TA):TE:=fun σ H Q=>t σ H fun xs H1=>xs.length<=sizeLine/\∀p,H1 p=none->Q (.ref p) (upd H1 p (.lst xs))
theorem yd{x1}(h:PA X es t):PE X (.Tuple es x1 pos) (IB t):=by
 intro pins s σ H Q I hq;refine wpAny_Tuple_spliced (bO (h pos pins s σ H _ I hq) fun us s1 ⟨xs,H1,I1,r,z,q⟩=>⟨by rw[<-r.length];exact z,?_⟩);have hf:H1 s1.heap.objs.size=none:=I1.hok.fresh (Nat.le_refl _);refine⟨.ref s1.heap.objs.size,upd H1 s1.heap.objs.size (.tup xs),I1.laid (t':=s1.toks) (fun b u e=>Heap.get?_push_of_some _ e) (Nat.le_refl _) ?_,rfl,q _ hf⟩;exact⟨z,us,r,⟨_,Heap.get?_push_size _ rfl,rfl,_,rfl⟩⟩
theorem tI(h:PA X es t):PE X (.List es pos) (HB t):=by
 intro pins s σ H Q I hq;refine wpAny_List_spliced (bO (h pos pins s σ H _ I hq) fun us s1 ⟨xs,H1,I1,r,z,q⟩=>⟨by rw[<-r.length];exact z,?_⟩);have hf:H1 s1.heap.objs.size=none:=I1.hok.fresh (Nat.le_refl _);refine⟨.ref s1.heap.objs.size,upd H1 s1.heap.objs.size (.lst xs),I1.laid (t':=s1.toks) (fun b u e=>Heap.get?_push_of_some _ e) (Nat.le_refl _) ?_,rfl,q _ hf⟩;exact⟨z,us,0,r,Heap.get?_push_size _ rfl⟩
end
abbrev Sp:=List V->Hp->VK->XK->Prop
abbrev wU:=List Env->Hp->Shared->XK->Value->Shared->Prop
structure Ap(P:Program)(w:World)(K:PySem.W.Frag)(mg:Str->Option Value)(base:Heap)(A:Around)(outer:List Env)(s:Shared)(H:Hp):Prop where
 frames:A.frames=some outer
 mod:Mod K mg base
 bs:∀b o,base.get? b=some o->s.heap.get? b=some o/\H b=none
 bsz:base.objs.size<=s.heap.objs.size
 kg:s.heap.FunFrames base outer
 frf:∀b∈si outer,H b=none
 hok:iN P w H s.heap
 bare:AllBare s.gens
def CE(outer:List Env)(P:Program)(w:World)(H:Hp)(s:Shared)(Q:VK)(u:Value)(s':Shared):Prop :=
 ∃v H',s'.os=s.os/\AllBare s'.gens/\Un (si outer) [] H H' s.heap s'.heap/\iN P w H' s'.heap/\RelV v u/\Q v H'
def CR(CX:wU)(outer:List Env)(P:Program)(w:World)(H:Hp)(s:Shared)(Q:VK)(E:XK)(r:Result)(s':Shared):Prop :=
 match r with
 |.ok (.ret u)=>CE outer P w H s Q u s'
 |.ok _=>False
 |.error e=>CX outer H s E e s'
structure fe(P:Program)(w:World)(K:PySem.W.Frag)(mg:Str->Option Value)(base:Heap)(CX:wU)(k:Nat)(f:Addr)(fd:FuncData)(ps:List Str)(sp:Sp):Prop where
 len:∀vs H Q E,sp vs H Q E->vs.length=ps.length
 run:∀(A:Around) (outer:List Env) (s:Shared) (H:Hp) (args:Args) (us:List Value) (vs:List V) (Q:VK) (E:XK),cM k A->Ap P w K mg base A outer s H->BindsTo s fd args (ps.zip us)->Vals vs us->sp vs H Q E ->
  codeAny (model P w) A (.call (.ref f) args) (CR CX outer P w H s Q E) s
section
variable{X:Cx}{pins:List (Addr×Obj)}{σ:St}{H:Hp}{s s':Shared}
theorem Inv.Im(I:Inv X pins σ H s):Ap X.prog X.w X.K X.mg X.base X.A X.stack s H :=
 ⟨I.ok.frames,I.ok.mod,I.bs,Nat.le_trans I.ok.bsz I.sz,I.stack,I.vg,I.hok,I.bare⟩
theorem Inv.after{Q:VK}{u:Value}(I:Inv X pins σ H s)(h:CE X.stack X.prog X.w H s Q u s'):EP X pins σ Q u s':=by
 obtain⟨v,H',os,bare,un,hok,r,q⟩:=h;obtain⟨hh,g,d,t,os'⟩:=s';obtain rfl:os'=s.os:=os;exact⟨v,H',I.call (h':=hh) (g':=g) (d':=d) (t':=t) (ch:=[]) un hok bare (fun b z=>absurd z (by simp)),r,q⟩
end
def Ci(sp:Sp)(dvs:List V)(E:XK)(t:TA):TE:=fun σ H Q=>t σ H fun vs H1=>sp (vs++dvs) H1 Q E
def Binds(K:PySem.W.Frag)(fd:FuncData)(ps:List Str)(ds:List Value):Prop :=
 ∀(s:Shared) (us:List Value),K.In s.heap->(us++ds).length=ps.length->BindsTo s fd ⟨us,[]⟩ (ps.zip (us++ds))
theorem Binds.all{K:PySem.W.Frag}{fd:FuncData}{ps:List Str}(h:∀us:List Value,us.length=ps.length->bindArgs fd ⟨us,[]⟩=pure (ps.zip us)):Binds K fd ps []:=fun s us _ hl=>by
 rw[List.append_nil] at hl ⊢;exact .of_eq (h us hl)
def Passes(CX:wU)(X:Cx)(E:XK):Prop:=∀(pins:List (Addr×Obj)) (σ:St) (H:Hp) (s:Shared) (e:Value) (s':Shared),Inv X pins σ H s->CX X.stack H s E e s'->X.xe e s'
section
variable{X:Cx}{CX:wU}{k:Nat}{f C:Addr}{fd:FuncData}{ps:List Str}{sp:Sp}{dvs:List V}{ds:List Value}{E:XK}{x m:Str}{p pos apos:Pos}{e o:Expr}{es:List Expr}{ta:TE}{t:TA}
theorem zP{pins:List (Addr×Obj)}{σ:St}{H:Hp}{s:Shared}{Q:VK}{us:List Value}{vs:List V}(F:fe X.prog X.w X.K X.mg X.base CX k f fd ps sp)(hr:cM k X.A)(hb:Binds X.K fd ps ds)(hd:Vals dvs ds)(hx:Passes CX X E)
  (I:Inv X pins σ H s) (r:Vals vs us) (h:sp (vs++dvs) H Q E):wpAny (model X.prog X.w) X.A (call (.ref f) us) (EP X pins σ Q) X.xe s:=by
 have r2:Vals (vs++dvs) (us++ds):=r.append hd;have hl:(us++ds).length=ps.length:=by rw[<-r2.length];exact F.len _ _ _ _ h
 refine wpAny_call (codeAny_mono (F.run X.A X.stack s H ⟨us,[]⟩ (us++ds) (vs++dvs) Q E hr I.Im (hb s us I.C3 hl) r2 h) fun r s' hq=>?_);cases r with
 |error e=>exact hx pins σ H s e s' I hq
 |ok fl =>
  cases fl with
  |ret u=>exact I.after hq
  |next=>exact False.elim hq
  |brk=>exact False.elim hq
  |cont=>exact False.elim hq
theorem d8(F:fe X.prog X.w X.K X.mg X.base CX k f fd ps sp)(hr:cM k X.A)(hg:Gl X x)(hm:X.mg x=some (.ref f))(hk:PySem.W.keepIn X.K (.ref f)=true)(hb:Binds X.K fd ps ds)(hd:Vals dvs ds)(hx:Passes CX X E)
  (ha:PA X (e::es) t) (hdb:(x==("__debug__":Str))=false:=by decide) (he:starEach (e::es) X.env=(false,eval e X.env)::starEach es X.env:=by rfl) (hpl:(backTo pos (starEach es X.env)).any (·.1)=false:=by rfl):
  PE X (.Call (.Name x p) (e::es) [] pos) (Ci sp dvs E t):=by
 intro pins s σ H Q I h;refine wpAny_Call_Name_kw (pA I hg hm ?_ hdb);refine PySem.W.callWith_K (h₀:=X.base) I.ok.mod.kin hk (bO (ha pos pins s σ H _ I h) fun us s1 ⟨vs,H1,I1,r,q⟩=>⟨I1.C3,?_⟩) he hpl;exact zP F hr hb hd hx I1 r q
theorem xK(F:fe X.prog X.w X.K X.mg X.base CX k f fd ps sp)(hr:cM k X.A)(hg:Gl X x)(hm:X.mg x=some (.ref f))(hk:PySem.W.keepIn X.K (.ref f)=true)(hb:Binds X.K fd ps ds)(hd:Vals dvs ds)(hx:Passes CX X E)
  (hdb:(x==("__debug__":Str))=false:=by decide):PE X (.Call (.Name x p) [] [] pos) (Ci sp dvs E GH):=by
 intro pins s σ H Q I h;refine wpAny_Call_Name_kw (pA I hg hm ?_ hdb);exact PySem.W.callWith_K0 I.C3 hk (zP (us:=[]) F hr hb hd hx I .nil h)
structure Mk(K:PySem.W.Frag)(C f:Addr):Prop where
 makes:PySem.W.makesIn K C=true
 init:PySem.W.findIn K (.ref C) "__init__"=some (some (.ref f))
 fn:PySem.W.isFn K (.ref f)=true
 kp:PySem.W.keepIn K (.ref C)=true
end
section
variable{X:Cx}{CX:wU}{k:Nat}{f C:Addr}{fd:FuncData}{ps ks:List Str}{sp:Sp}{E:XK}{x m:Str}{p pos apos kpos:Pos}{e o:Expr}{es:List Expr}{kws:List Keyword}{te ta:TE}{t tk:TA}{nm:Option Str}
structure HD(K:PySem.W.Frag)(fd:FuncData)(ps ks:List Str)(g:List Value->List Value->List Value)(gV:List V->List V->List V):Prop where
 to:∀(s:Shared) (us ws:List Value),K.In s.heap->(g us ws).length=ps.length->BindsTo s fd ⟨us,ks.zip ws⟩ (ps.zip (g us ws))
 rel:∀{vs:List V} {us:List Value} {zs:List V} {ws:List Value},Vals vs us->Vals zs ws->Vals (gV vs zs) (g us ws)
variable{g:List Value->List Value->List Value}{gV:List V->List V->List V}
end
structure ai(N P:List Str)(sc:Scope):Prop where
 kind:sc.kind=.function
 co:sc.isCoroutine=false
 gen:sc.isGenerator=false
 nd:N.Nodup
 pre:N.take P.length=P
 par:∀x∈P,sc.names.lookup x=some .local\/sc.names.lookup x=some .cell
 nofree:∀y∈sc.names,y.2≠.free
theorem ot{kindOf:Str->Option NameKind}{x:Str}:∀{binds:List (Str×Value)} {m:Str->Option Value},(∀v,(x,v)∉binds)->bindL kindOf binds m x=m x
 |[],_,_=>rfl
 |(n,v)::r,m,h=>by
  unfold bindL;rw[ot fun w hw=>h w (List.mem_cons_of_mem _ hw)];split
  .have:x≠n:=by rintro rfl;exact h v List.mem_cons_self
   simp[this]
  .rfl
theorem oo{kindOf:Str->Option NameKind}{x:Str}:∀{binds:List (Str×Value)} {m:Str->Option Value},(∀v,(x,v)∉binds)->bindC kindOf binds m x=m x
 |[],_,_=>rfl
 |(n,v)::r,m,h=>by
  unfold bindC;rw[oo fun w hw=>h w (List.mem_cons_of_mem _ hw)];split
  .rfl
  .have:x≠n:=by rintro rfl;exact h v List.mem_cons_self
   simp[this]
theorem oN{kindOf:Str->Option NameKind}{x:Str}{v:Value}:∀{P:List Str} {vs:List Value} {i:Nat} {m:Str->Option Value},P.Nodup->P[i]?=some x->vs[i]?=some v->kindOf x=some .local ->
  bindL kindOf (P.zip vs) m x=some v
 |[],_,_,_,_,h,_,_=>by simp at h
 |_::_,[],_,_,_,_,h,_=>by simp at h
 |p::P,w::vs,0,m,nd,h1,h2,hk=>by
  simp at h1 h2;subst h1;subst h2;show bindL kindOf ((p,w)::P.zip vs) m p=_;unfold bindL;rw[ot fun v hv=>(List.nodup_cons.mp nd).1 (List.of_mem_zip hv).1,if_pos hk];simp
 |p::P,w::vs,i+1,m,nd,h1,h2,hk=>by
  show bindL kindOf ((p,w)::P.zip vs) m x=_;unfold bindL;exact oN (i:=i) (List.nodup_cons.mp nd).2 (by simpa using h1) (by simpa using h2) hk
theorem oq{kindOf:Str->Option NameKind}{x:Str}{v:Value}:∀{P:List Str} {vs:List Value} {i:Nat} {m:Str->Option Value},P.Nodup->P[i]?=some x->vs[i]?=some v->kindOf x≠some .local ->
  bindC kindOf (P.zip vs) m x=some v
 |[],_,_,_,_,h,_,_=>by simp at h
 |_::_,[],_,_,_,_,h,_=>by simp at h
 |p::P,w::vs,0,m,nd,h1,h2,hk=>by
  simp at h1 h2;subst h1;subst h2;show bindC kindOf ((p,w)::P.zip vs) m p=_;unfold bindC;rw[oo fun v hv=>(List.nodup_cons.mp nd).1 (List.of_mem_zip hv).1,if_neg hk];simp
 |p::P,w::vs,i+1,m,nd,h1,h2,hk=>by
  show bindC kindOf ((p,w)::P.zip vs) m x=_;unfold bindC;exact oq (i:=i) (List.nodup_cons.mp nd).2 (by simpa using h1) (by simpa using h2) hk
def start(N:List Str)(vs:List V):St:=vs.map some++List.replicate (N.length-vs.length) none
def oX(CX:wU)(P:Program)(w:World)(K:PySem.W.Frag)(mg:Str->Option Value)(base:Heap)(N:List Str)(qual:Str)(scope:Scope)(f:Addr)(cd:Value)(A:Around)(outer:List Env)(s:Shared)(H:Hp)(E:XK):Cx where
 prog:=P
 w:=w
 K:=K
 mg:=mg
 base:=base
 A:=A.deeper (envOfC qual scope s.heap.objs.size f cd)
 N:=N
 s₀:=s
 H₀:=H
 env:=envOfC qual scope s.heap.objs.size f cd
 outer:=outer
 stack:=envOfC qual scope s.heap.objs.size f cd::outer
 ex:=[]
 calm:=true
 fn:=fun _=>true
 pn:=[]
 xe:=fun e s'=>wpAny (model P w) (A.deeper (envOfC qual scope s.heap.objs.size f cd)) (leaving (envOfC qual scope s.heap.objs.size f cd) e) (fun _ s''=>CX outer H s E e s'') (fun e' s''=>CX outer H s E e' s'') s'
theorem qM{sc:Scope}{n:Nat}{x:Str}(h:sc.names.lookup x=some .cell):∃c,(cellsFrom n sc.names []).lookup x=some c:=by
 have q:=PySem.W.cellsFrom_some sc.names n [] (.inl h);exact Option.isSome_iff_exists.mp q
theorem wL{CX:wU}{P:Program}{w:World}{K:PySem.W.Frag}{mg:Str->Option Value}{base:Heap}{N ps:List Str}{qual:Str}{scope:Scope}{f:Addr}{cd:Value}{A:Around}{outer:List Env}{s s1:Shared}{H:Hp}{E:XK}{us:List Value}{vs:List V}
  (S:ai N ps scope) (hd:A.handled=none) (e0:Ap P w K mg base A outer s H) (hl:vs.length=ps.length) (r:Vals vs us)
  (x:InCallC s s.heap.objs.size (bindL (envOfC qual scope s.heap.objs.size f cd).kindOf (ps.zip us) fun _=>none) (cellsFrom (s.heap.objs.size+1) scope.names []) (bindC (envOfC qual scope s.heap.objs.size f cd).kindOf (ps.zip us) fun _=>none) s1):
  Inv (oX CX P w K mg base N qual scope f cd A outer s H E) [] (start N vs) H s1:=by
 have hpl:ps.length<=N.length:=by have:=congrArg List.length S.pre;rw[List.length_take] at this;omega
 obtain⟨h1,tk,rfl,hk⟩:=x.done;have noA:∀b:Addr,b∉(oX CX P w K mg base N qual scope f cd A outer s H E).ex:=fun b z=>absurd (show b∈([]:List Addr) from z) (by simp)
 refine ⟨⟨e0.mod,S.kind,rfl,rfl,Nat.le_refl _,fun y z c h1 h2=>?_,fun y hy=>?_,fun y c _ h=>?_,fun _=>hd,Around.frames_deeper e0.frames,.inr ⟨rfl,rfl⟩,fun b z=>absurd z (noA b),e0.bs,e0.bsz,fun b _ _=>noA b,fun b z=>absurd z (noA b),e0.kg,e0.frf⟩,
  rfl,e0.bare,Un.kept hk,⟨_,x.toInCall.ns,fun i y v h1 h2 h3=>?_⟩,fun y c h=>⟨_,x.cell y c h⟩,e0.hok.fresh (Nat.le_refl _),fun y c h=>?_,fun p hp=>absurd (show p∈([]:List (Addr×Obj)) from hp) (by simp),e0.hok.kept hk,?_⟩
 .exact name_of_addr x.apart (PySem.mem_of_lookup h1) (PySem.mem_of_lookup h2)
 .have hy:scope.names.lookup y=some .cell\/scope.names.lookup y=some .free:=hy;rcases hy with hy|hy
  .exact qM hy
  .exact absurd rfl (S.nofree _ (PySem.mem_of_lookup hy))
 .exact Nat.le_of_lt (x.above y c (PySem.mem_of_lookup h))
 .have hi:i<vs.length:=by
   unfold start at h2;by_cases hi:i<vs.length
   .exact hi
   .rw[List.getElem?_append_right (by simpa using hi)] at h2;rw[List.getElem?_replicate] at h2;split at h2<;>cases h2
  have ha:vs[i]?=some v:=by
   unfold start at h2;rw[List.getElem?_append_left (by simpa using hi),List.getElem?_map] at h2;cases e:vs[i]? with
   |none=>rw[e] at h2;cases h2
   |some a=>rw[e] at h2;cases h2;rfl
  obtain⟨u,hu,rv⟩:=r.get ha
  have hp:ps[i]?=some y:=by
   rw[<-S.pre,List.getElem?_take_of_lt (by omega)];exact h1
  have ndP:ps.Nodup:=by rw[<-S.pre];exact S.nd.sublist (List.take_sublist _ _)
  refine⟨u,rv,?_⟩;rcases S.par y (List.mem_of_getElem? hp) with k|k
  .exact .inl ⟨k,oN ndP hp hu k⟩
  .obtain⟨c,e⟩:=qM (n:=s.heap.objs.size+1) k;refine .inr ⟨.inl k,c,e,?_⟩;have q:=x.cell y c e;rw[oq ndP hp hu (by show scope.names.lookup y≠_;rw[k];decide)] at q;exact q
 .exact e0.hok.fresh (Nat.le_of_lt (x.above y c (PySem.mem_of_lookup h)))
 .unfold start;show _=N.length;rw[List.length_append,List.length_map,List.length_replicate];omega
theorem F9{CX:wU}{P:Program}{w:World}{K:PySem.W.Frag}{mg:Str->Option Value}{base:Heap}{k:Nat}{f:Addr}{name qual:Str}{params:Arguments}{body:List Stmt}{scope:Scope}{dV kV doc pm cdv ct oc:Value}{an od:Option Addr}
  {osl:Array (Option Value)} {N ps:List Str} {sp:Sp} (lk:K.lookup f=some ⟨oc,od,.func (PySem.W.fnOf name qual params body scope dV kV doc pm an cdv ct),osl⟩) (hcd:PySem.W.codeIn K cdv qual=true) (S:ai N ps scope)
  (len:∀vs H Q E,sp vs H Q E->vs.length=ps.length)
  (hbody:∀ (A:Around) (outer:List Env) (s:Shared) (H:Hp) (vs:List V) (Q:VK) (E:XK),cM k (A.deeper (envOfC qual scope s.heap.objs.size f cdv))->sp vs H Q E ->
   ∃t,nA (oX CX P w K mg base N qual scope f cdv A outer s H E) body t/\t {nx:=fun _ H'=>Q .non H',rt:=Q} (start N vs) H):
  fe P w K mg base CX (k+1) f (PySem.W.fnOf name qual params body scope dV kV doc pm an cdv ct) ps sp:=by
 refine⟨len,fun A outer s H args us vs Q E hr e0 hb r hsp=>?_⟩;have hl:=len _ _ _ _ hsp;have KX:K.In s.heap:=e0.mod.kin.keeps fun b o e=>(e0.bs b o e).1;have lim:s.heap.NoLimit:=e0.mod.nolimit.keeps fun b o e=>(e0.bs b o e).1
 have hkind:∀y∈ps.zip us,scope.names.lookup y.1=some .local\/(scope.names.lookup y.1=some .cell/\((cellsFrom (s.heap.objs.size+1) scope.names []).lookup y.1).isSome=true):=fun⟨n,v⟩ hy=>by
  rcases S.par n (List.of_mem_zip hy).1 with q|q
  .exact .inl q
  .exact .inr ⟨q,PySem.W.cellsFrom_some _ _ _ (.inl q)⟩
 refine codeAny_call_function hr.depth (KX _ _ lk) rfl S.co S.gen rfl (PySem.W.codeRec_of KX hcd) (hb _ _ _ _ ?_);refine wpAny_newFunctionEnv_cells S.kind hkind fun env he s1 x=>?_;subst he;refine⟨lim.keeps x.toInCall.keep,codeAny_func ?_⟩;obtain⟨t,ht,hq⟩:=hbody A outer s H vs Q E (hr.deeper _) hsp;have I:Inv (oX CX P w K mg base N qual scope f cdv A outer s H E) [] (start N vs) H s1:=wL S hr.hd e0 hl r x;refine wpAny_mono (ht [] s1 (start N vs) H _ I hq) (fun fl s' hs=>?_) fun e s' hs=>hs
 have fin:∀{σ':St} {H':Hp} {v:V} {u:Value},Inv (oX CX P w K mg base N qual scope f cdv A outer s H E) [] σ' H' s'->RelV v u->Q v H'->CE outer P w H s Q u s' :=
  fun {σ' H' v u} J rv q=>⟨v,H',J.os,J.bare,J.base,J.hok,rv,q⟩
 cases fl with
 |ret u =>
  obtain⟨v,σ',H',J,rv,q⟩:=hs;exact fin J rv q
 |next =>
  obtain⟨σ',H',J,q⟩:=hs;exact fin (v:=V.non) (u:=Value.none) J rfl q
 |brk =>
  obtain⟨_,_,_,q⟩:=hs;exact False.elim q
 |cont =>
  obtain⟨_,_,_,q⟩:=hs;exact False.elim q
section
variable{X:Cx}{x:Str}{p pos:Pos}{e:Expr}{es:List Expr}{t:TA}{id T:String}{r:List V->Hp->VK->Prop}
def II(r:List V->Hp->VK->Prop)(t:TA):TE:=fun σ H Q=>t σ H fun vs H1=>r vs H1 Q
theorem dI(hc:gO X (.builtin id) r)(hg:Gl X x)(hm:X.mg x=none)(hv:bootBuiltins x=some (.builtin id))(ha:PA X (e::es) t)(hn:x≠"__name__":=by decide)(hdb:(x==("__debug__":Str))=false:=by decide)
  (he:starEach (e::es) X.env=(false,eval e X.env)::starEach es X.env:=by rfl) (hpl:(backTo pos (starEach es X.env)).any (·.1)=false:=by rfl):PE X (.Call (.Name x p) (e::es) [] pos) (II r t):=by
 intro pins s σ H Q I h;refine wpAny_Call_Name_kw (eO I hg hm hv ?_ hn hdb);exact PyProof.Rows.callWith_builtin1 (bO (ha pos pins s σ H _ I h) fun us s1 ⟨vs,H1,I1,r1,q1⟩=>hc pins s1 σ H1 vs us Q I1 r1 q1) he hpl
theorem ka(hc:gO X (.type T) r)(hg:Gl X x)(hm:X.mg x=none)(hv:bootBuiltins x=some (.type T))(ha:PA X (e::es) t)(hn:x≠"__name__":=by decide)(hdb:(x==("__debug__":Str))=false:=by decide)
  (he:starEach (e::es) X.env=(false,eval e X.env)::starEach es X.env:=by rfl) (hpl:(backTo pos (starEach es X.env)).any (·.1)=false:=by rfl):PE X (.Call (.Name x p) (e::es) [] pos) (II r t):=by
 intro pins s σ H Q I h;refine wpAny_Call_Name_kw (eO I hg hm hv ?_ hn hdb);exact PyProof.Rows.callWith_type1 (bO (ha pos pins s σ H _ I h) fun us s1 ⟨vs,H1,I1,r1,q1⟩=>hc pins s1 σ H1 vs us Q I1 r1 q1) he hpl
end
end L2
namespace HT
open PySem PyProof.Rows
section
open PySem.SeqAt
open PySem.AutoSeq1 (wpAny_loadPart')
open PySem.MeetsSeq PySem.MeetsSeq2 PySem.MeetsSeq3
end
section
variable{prog:Program}{w:World}{A:Around}{E:Value->Shared->Prop}{s:Shared}
def fN(n d:Nat):Option Int->Nat
 |none=>d
 |some v=>if v<0 then (v+(n:Int)).toNat else min v.toNat n
theorem xW(n d:Nat):fN n d none=d:=rfl
theorem u9(n d k:Nat):fN n d (some (k:Int))=min k n:=by
 show(if (k:Int)<0 then ((k:Int)+(n:Int)).toNat else min (k:Int).toNat n)=min k n;rw[if_neg (by omega),Int.toNat_natCast]
theorem EK(n d:Nat)(hd:d<=n)(o:Option Int):fN n d o<=n:=by
 cases o with
 |none=>exact hd
 |some v =>
  show(if v<0 then (v+(n:Int)).toNat else min v.toNat n)<=n;by_cases hv:v<0
  .rw[if_pos hv];omega
  .rw[if_neg hv];exact Nat.min_le_right _ _
theorem u_(v:Int)(n d:Nat):(if v<0 then max (v+(n:Int)) 0 else min v (n:Int))=((fN n d (some v):Nat):Int):=by
 show(if v<0 then max (v+(n:Int)) 0 else min v (n:Int))=(((if v<0 then (v+(n:Int)).toNat else min v.toNat n):Nat):Int);by_cases hv:v<0
 .simp only[if_pos hv];omega
 .simp only[if_neg hv];omega
theorem tQ(lo hi:Option Int)(n:Nat):Builtin.Slice.sliceAdjust lo hi 1 (n:Int)=(((fN n 0 lo:Nat):Int),((fN n n hi:Nat):Int)):=by
 have h1:¬((1:Int)<0):=by omega
 unfold Builtin.Slice.sliceAdjust;simp only[h1,if_false];refine Prod.ext ?_ ?_
 .cases lo with
  |none=>rfl
  |some v=>exact u_ v n 0
 .cases hi with
  |none=>rfl
  |some v=>exact u_ v n n
theorem sL(i j:Nat):Builtin.Slice.slicePlaces (i:Int) (j:Int) 1=j-i:=by
 unfold Builtin.Slice.slicePlaces;have h1:(1:Int)>0:=by omega
 simp only[h1,if_true,Int.ediv_one];split<;>omega
theorem mB{v:Value}{o:Option Int}{Q:Option Int->Shared->Prop}(p:IsPart v o)(h:Q o s):wpAny (model prog w) A (Builtin.Slice.slicePartIndex v) Q E s:=by
 cases p with
 |none=>exact slicePart_none h
 |int i t=>exact slicePart_int h
theorem ko{sl:Addr}{vl vu:Value}{lo hi:Option Int}{n:Nat}{Q:Int×Int×Nat->Shared->Prop}(hs:s.heap.IsSliceOf sl vl vu .none)(pl:IsPart vl lo)(pu:IsPart vu hi)
  (h:Q (((fN n 0 lo:Nat):Int),1,fN n n hi-fN n 0 lo) s):wpAny (model prog w) A (Builtin.Slice.sliceApplied (.ref sl) (pure (n:Int))) Q E s:=by
 obtain⟨os,hos,hcs,hds⟩:=id hs;unfold Builtin.Slice.sliceApplied Builtin.Slice.sliceFields;refine wpAny_bind (wpAny_bind (wpAny_field hos hds (x:=vl) rfl (wpAny_bind (wpAny_field hos hds (x:=vu) rfl (wpAny_bind (wpAny_field hos hds (x:=.none) rfl (wpAny_pure ?_)))))));refine wpAny_bind (slicePart_none ?_);show wpAny _ _ (if ((1:Int)==0)=true then _ else _) _ _ s;rw[if_neg (by decide)];refine wpAny_bind (mB pl (wpAny_bind (mB pu (wpAny_bind (wpAny_pure ?_)))));show wpAny _ _ (match Builtin.Slice.sliceAdjust lo hi 1 (n:Int) with|(lo,hi)=>pure (lo,(1:Int),Builtin.Slice.slicePlaces lo hi 1)) _ _ s;rw[tQ lo hi n];show wpAny _ _ (pure (((fN n 0 lo:Nat):Int),(1:Int),Builtin.Slice.slicePlaces ((fN n 0 lo:Nat):Int) ((fN n n hi:Nat):Int) 1)) _ _ s;rw[sL];exact wpAny_pure h
theorem zB(xs:Array Value)(i k:Nat):((List.range k).filterMap fun(m:Nat)=>xs[((i:Int)+(m:Int)*1).toNat]?).toArray=((xs.toList.drop i).take k).toArray:=by
 have e:(fun(m:Nat)=>xs[((i:Int)+(m:Int)*1).toNat]?)=fun m=>xs[i+m]?:=by
  funext m;have:((i:Int)+(m:Int)*1).toNat=i+m:=by omega
  rw[this]
 rw[e];have:=pick_run xs i k;rw[List.filterMap_map] at this;have e2:((fun x=>xs[x]?)∘fun x=>i+x)=fun m=>xs[i+m]?:=rfl;rw[e2] at this;rw[this]
theorem jo{t sl:Addr}{items:Array Value}{vl vu:Value}{lo hi:Option Int}{Q:Value->Shared->Prop}(ht:IsTup s.heap t items)(hs:s.heap.IsSliceOf sl vl vu .none)(pl:IsPart vl lo)(pu:IsPart vu hi)
  (hw:¬(fN items.size 0 lo=0/\fN items.size items.size hi=items.size))
  (h:Q (.ref s.heap.objs.size) {s with heap:=s.heap.push {cls:=.type "tuple",data:=.seq ((items.toList.drop (fN items.size 0 lo)).take (fN items.size items.size hi-fN items.size 0 lo)).toArray}})
  (hsz:items.size<=sizeLine):wpAny (model prog w) A (getItem (.ref t) (.ref sl)) Q E s:=by
 have htake:sizeOk (.seq ((items.toList.drop (fN items.size 0 lo)).take (fN items.size items.size hi-fN items.size 0 lo)).toArray):=by
  show((items.toList.drop (fN items.size 0 lo)).take (fN items.size items.size hi-fN items.size 0 lo)).toArray.size<=sizeLine;rw[List.size_toArray,List.length_take,List.length_drop,Array.length_toList];omega
 have hj:fN items.size items.size hi<=items.size:=EK _ _ (Nat.le_refl _) hi;obtain⟨os,hos,hcs,hds⟩:=id hs;have hTs:s.TypeIs (.ref sl) "slice":=⟨os,hos,hcs⟩;unfold getItem
 try with_reducible refine wpAny_holding ?_
 first|refine wpAny_bind (wpAny_pure ?_)|skip
 refine wpAny_bind (wpAny_sequenceKey ht.typeIs (by decide) ?_)
 refine wpAny_bind (wpAny_callSpecial?_slot (name:=Str.ofString "__getitem__") ht.typeIs PyProof.Rows.slot_tuple_getitem
  (wpAny_call_entry PyProof.Rows.slot_tuple_getitem ht.typeIs entry_tuple_getitem ?_ (args_tuple_getitem _ _)))
 show wpAny _ _ (Builtin.Tuple.tupleItemsOf (.ref t) >>= _) _ _ s;refine wpAny_bind (tupleItemsOf_ ht ?_);refine wpAny_bind (wpAny_typeOf hTs ?_);rw[if_pos (by decide)];refine wpAny_bind (ko hs pl pu ?_)
 have hno:¬((((fN items.size 0 lo:Nat):Int)==0&&(1:Int)==1&&(fN items.size items.size hi-fN items.size 0 lo)==items.size)=true):=by
  intro q;rw[Bool.and_eq_true,Bool.and_eq_true] at q;have q1:((fN items.size 0 lo:Nat):Int)=0:=eq_of_beq q.1.1;have q2:fN items.size items.size hi-fN items.size 0 lo=items.size:=eq_of_beq q.2;exact hw ⟨by omega,by omega⟩
 show wpAny _ _ (if (((fN items.size 0 lo:Nat):Int)==0&&(1:Int)==1&&(fN items.size items.size hi-fN items.size 0 lo)==items.size)=true then _ else _) _ _ s;rw[if_neg hno,zB]
 first
  |exact wpAny_bind (m:=Builtin.Tuple.tupleExact _) (wpAny_newObj_type (wpAny_pure ⟨_,rfl,wpAny_pure h⟩) htake)
  |exact wpAny_bind (m:=Builtin.Tuple.tupleExact _) (wpAny_newObj_type (wpAny_bind (wpAny_pure (wpAny_pure ⟨_,rfl,wpAny_pure h⟩))) htake)
  |exact wpAny_bind (wpAny_bind (m:=Builtin.Tuple.tupleExact _) (wpAny_newObj_type (wpAny_pure (wpAny_pure ⟨_,rfl,wpAny_pure h⟩)) htake))
  |exact wpAny_bind (wpAny_bind (m:=Builtin.Tuple.tupleExact _) (wpAny_newObj_type (wpAny_pure ⟨_,rfl,wpAny_pure h⟩) htake))
end
end HT
namespace L2
open PySem PySem.Spec PyProof.Rows
abbrev TO:=St->Hp->(Option Int->Hp->Prop)->Prop
def PO(X:Cx)(e:Option Expr)(t:TO):Prop :=
 ∀(pins:List (Addr×Obj)) (s:Shared) (σ:St) (H:Hp) (Q:Option Int->Hp->Prop),Inv X pins σ H s->t σ H Q ->
  wpAny (model X.prog X.w) X.A (evalPart e X.env) (fun u s'=>∃o H',Inv X pins σ H' s'/\IsPart u o/\Q o H') X.xe s
def BX:TO:=fun _ H Q=>Q none H
def Gj(t:TE):TO:=fun σ H Q=>t σ H fun x H1=>∃i,x=.int i/\Q (some i) H1
theorem intsAre_of{ns:List Int}:∀{us:List Value},Vals (ns.map V.int) us->IntsAre us ns:=by
 induction ns with
 |nil=>intro us r;rw[List.map_nil] at r;cases r;exact .nil
 |cons n ns ih =>
  intro us r;rw[List.map_cons] at r;cases r with
  |cons r1 r2 =>
   obtain⟨t,e⟩:=r1;subst e;exact .cons n t (ih r2)
section
variable{X:Cx}{e:Expr}{te:TE}{lo hi:Option Expr}{tl th:TO}{pos p2:Pos}
theorem Be:PO X none BX:=by
 intro pins s σ H Q I h;rw[evalPart_none];exact wpAny_pure ⟨none,H,I,.none,h⟩
theorem BH(h:PE X e te):PO X (some e) (Gj te):=by
 intro pins s σ H Q I hw;rw[evalPart_some];refine bO (h pins s σ H _ I hw) fun u s1 ⟨x,H1,I1,r1,q1⟩=>?_;obtain⟨i,rfl,q⟩:=q1;obtain⟨t,rfl⟩:=r1;exact⟨some i,H1,I1,.int i t,q⟩
def IP(X:Cx)(r:V->Option Int->Option Int->Hp->VK->Prop):Prop :=
 ∀(pins:List (Addr×Obj)) (s:Shared) (σ:St) (H:Hp) (x:V) (v vl vu:Value) (lo hi:Option Int) (sl:Addr) (Q:VK),Inv X pins σ H s->RelV x v->s.heap.IsSliceOf sl vl vu .none->IsPart vl lo->IsPart vu hi->r x lo hi H Q ->
  ∃T id,typeLookup (.type T) "__getitem__"=pure (some (.builtin id))/\s.TypeIs v T/\wpAny (model X.prog X.w) X.A (getItem v (.ref sl)) (EP X pins σ Q) X.xe s
def Jc(r:V->Option Int->Option Int->Hp->VK->Prop)(te:TE)(tl th:TO):TE:=fun σ H Q=>te σ H fun x H1=>tl σ H1 fun l H2=>th σ H2 fun u H3=>r x l u H3 Q
theorem y9{r:V->Option Int->Option Int->Hp->VK->Prop}(hr:IP X r)(he:PE X e te)(hl:PO X lo tl)(hu:PO X hi th):PE X (.Subscript e (.Slice lo hi none p2) pos) (Jc r te tl th):=by
 intro pins s σ H Q I h;refine Subscript_ (bO (he pins s σ H _ I h) fun v s1 ⟨x,H1,I1,r1,q1⟩=>?_);refine wpAny_Slice (bO (hl pins s1 σ H1 _ I1 q1) fun vl s2 ⟨l,H2,I2,pl,q2⟩=>bO (hu pins s2 σ H2 _ I2 q2) fun vu s3 ⟨u,H3,I3,pu,q3⟩=>?_);rw[evalPart_none];refine wpAny_pure ?_;have I4:Inv X pins σ H3 {s3 with heap:=s3.heap.push {cls:=.type "slice",data:=.fields #[vl,vu,.none]}}:=I3.kept (t':=s3.toks) fun b ob q=>Heap.get?_push_of_some _ q;obtain⟨T,id,hT,ht,hg⟩:=hr pins {s3 with heap:=s3.heap.push {cls:=.type "slice",data:=.fields #[vl,vu,.none]}} σ H3 x v vl vu l u s3.heap.objs.size Q I4 r1 (Heap.IsSliceOf.new ..) pl pu q3;show wpAny (model X.prog X.w) X.A (subscriptTail e (.Slice lo hi none p2) v (.ref s3.heap.objs.size)) (EP X pins σ Q) X.xe {s3 with heap:=s3.heap.push {cls:=.type "slice",data:=.fields #[vl,vu,.none]}};exact tail_any (ops:=[.ref s3.heap.objs.size,v]) ht hT hg (by with_unfolding_all rfl)
def sV(xs:List V)(lo hi:Option Int):List V:=(xs.drop (HT.fN xs.length 0 lo)).take (HT.fN xs.length xs.length hi-HT.fN xs.length 0 lo)
theorem rj(xs:List V)(lo hi:Option Int):(sV xs lo hi).length<=xs.length:=by
 unfold sV;rw[List.length_take,List.length_drop];omega
def Il(K:PySem.W.Frag):V->Option Int->Option Int->Hp->VK->Prop:=fun x lo hi H Q=>∃a xs,x=.ref a/\sh K H a xs /\
 ¬(HT.fN xs.length 0 lo=0/\HT.fN xs.length xs.length hi=xs.length)/\∀p,H p=none->Q (.ref p) (upd H p (.tup (sV xs lo hi)))
theorem DJ:IP X (Il X.K):=by
 intro pins s σ H x v vl vu lo hi sl Q I rx hs pl pu h;obtain⟨a,xs,rfl,hx,hw,q⟩:=h;cases rx;obtain⟨its,r,ht,hz⟩:=I.tuple hx;have hlen:its.toArray.size=xs.length:=by rw[List.size_toArray];exact r.length.symm
 refine⟨"tuple",_,PyProof.Rows.slot_tuple_getitem.lookup,ht.typeIs,?_⟩;refine HT.jo ht hs pl pu (by rw[hlen];exact hw) ?_ (by rw[hlen];exact hz);rw[hlen];refine⟨.ref s.heap.objs.size,_,I.laid (t':=s.toks) (o:=.tup (sV xs lo hi)) (fun b ob q=>Heap.get?_push_of_some _ q) (Nat.le_refl _) ?_,rfl,q _ (I.hok.fresh (Nat.le_refl _))⟩;exact⟨Nat.le_trans (rj xs lo hi) hz,_,(r.drop (HT.fN xs.length 0 lo)).take (HT.fN xs.length xs.length hi-HT.fN xs.length 0 lo),IsTup.new _ _⟩
end
def CG(n:Nat)(i:Int):Option Nat:=if 0<=i then (if i<n then some i.toNat else none) else if -(n:Int)<=i then some (i+n).toNat else none
def vJ{α:Type}(xs:List α)(i:Int):Option α:=(CG xs.length i).bind fun j=>xs[j]?
theorem pM{n:Nat}{i:Int}{j:Nat}(h:CG n i=some j):seqIndex? i n=some j/\j<n/\-(n:Int)<=i/\i<n:=by
 unfold CG at h;by_cases h0:0<=i
 .rw[if_pos h0] at h;by_cases h1:i<n
  .rw[if_pos h1] at h;have e:i.toNat=j:=Option.some.inj h;exact⟨by rw[seqIndex_of h0 h1,e],by omega,by omega,h1⟩
  .rw[if_neg h1] at h;cases h
 .rw[if_neg h0] at h;by_cases h1:-(n:Int)<=i
  .rw[if_pos h1] at h;have e:(i+n).toNat=j:=Option.some.inj h;exact⟨by rw[seqIndex_neg (by omega) h1,e],by omega,h1,by omega⟩
  .rw[if_neg h1] at h;cases h
theorem lN{α:Type}{xs:List α}{i:Int}{v:α}(h:vJ xs i=some v):∃j,seqIndex? i xs.length=some j/\xs[j]?=some v/\j<xs.length/\-(xs.length:Int)<=i/\i<xs.length:=by
 unfold vJ at h;cases e:CG xs.length i with
 |none=>rw[e] at h;cases h
 |some j =>
  rw[e] at h;obtain⟨h1,h2,h3,h4⟩:=pM e;exact⟨j,h1,h,h2,h3,h4⟩
theorem A_{α:Type}{xs:List α}{j:Nat}{v:α}(h:xs[j]?=some v):vJ xs (j:Int)=some v:=by
 have hj:j<xs.length:=(List.getElem?_eq_some_iff.mp h).1
 have e:CG xs.length (j:Int)=some j:=by
  unfold CG;rw[if_pos (by omega),if_pos (by omega)];simp
 unfold vJ;rw[e];exact h
def pS(b:Expr):Prop:=∀o i,subscripted b false o i=operate [o,i] (getItem o i)
def HZ(X:Cx)(r:R2):Prop :=
 ∀(value slice:Expr) (pins:List (Addr×Obj)) (s:Shared) (σ:St) (H:Hp) (x y:V) (v u:Value) (Q:VK),Inv X pins σ H s->RelV x v->RelV y u->r x y H Q ->
  subscripted slice false v u=operate [v,u] (getItem v u)->wpAny (model X.prog X.w) X.A (subscriptTail value slice v u) (EP X pins σ Q) X.xe s
def HF(X:Cx)(id:String)(r:V->List V->Hp->VK->Prop):Prop :=
 ∀(pins:List (Addr×Obj)) (s:Shared) (σ:St) (H:Hp) (x:V) (xs:List V) (v:Value) (us:List Value) (Q:VK),Inv X pins σ H s->RelV x v->Vals xs us->r x xs H Q ->
  wpAny (model X.prog X.w) X.A (call (.builtin id) (v::us)) (EP X pins σ Q) X.xe s
section
variable{X:Cx}{a b:Expr}{ta tb:TE}{pos:Pos}
theorem vX{r:R2}(hr:HZ X r)(ha:PE X a ta)(hb:PE X b tb)(hs:pS b):PE X (.Subscript a b pos) (Ht r ta tb):=by
 intro pins s σ H Q I h;exact Subscript_ (El ha hb I h fun v u s2 x y H2 I2 rx ry q=>hr a b pins s2 σ H2 x y v u Q I2 rx ry q (hs _ _))
def HP(K:PySem.W.Frag):R2:=fun x y H Q=>∃p xs i v,x=.ref p/\y=.int i/\dF K H p xs/\vJ xs i=some v/\Q v H
def IE(K:PySem.W.Frag):R2:=fun x y H Q=>∃p xs i v,x=.ref p/\y=.int i/\sh K H p xs/\vJ xs i=some v/\Q v H
theorem Bp:HZ X (HP X.K):=by
 intro value slice pins s σ H x y v u Q I rx ry h hs;obtain⟨p,xs,i,z,rfl,rfl,hq,he,q⟩:=h;cases rx;obtain⟨t,rfl⟩:=ry;obtain⟨its,r,pl,hz⟩:=I.list hq;obtain⟨j,h1,h2,h3,h4,h5⟩:=lN he;obtain⟨w,ew,rw'⟩:=r.get h2;have hl:=r.length;have hn:=sJ;have fin:EP X pins σ Q w s:=⟨z,H,I,rw',q⟩;by_cases h0:0<=i
 .have hj:i.toNat=j:=by
   rw[seqIndex_of h0 h5] at h1;exact Option.some.inj h1
  exact item_listR pl.isList h0 (by omega) (by rw[hj];simpa using ew) fin hs
 .have hj:(i+(its.toArray.size:Int)).toNat=j:=by
   rw[seqIndex_neg (by omega) h4] at h1;rw[List.size_toArray,<-hl];exact Option.some.inj h1
  exact subscriptTail_builtinR (x:=w) pl.isList.typeIs slot_list_getitem.lookup
   (wpAny_getItem_list_neg (Q:=fun r s'=>r=w/\EP X pins σ Q r s') pl.isList (by omega) (by rw[List.size_toArray]<;>omega) (by omega) (by rw[hj];simpa using ew) ⟨rfl,fin⟩) hs
theorem uF:HZ X (IE X.K):=by
 intro value slice pins s σ H x y v u Q I rx ry h hs;obtain⟨p,xs,i,z,rfl,rfl,hq,he,q⟩:=h;cases rx;obtain⟨t,rfl⟩:=ry;obtain⟨its,r,pl,hz⟩:=I.tuple hq;obtain⟨j,h1,h2,h3,h4,h5⟩:=lN he;obtain⟨w,ew,rw'⟩:=r.get h2;have hl:=r.length;have hn:=sJ;have fin:EP X pins σ Q w s:=⟨z,H,I,rw',q⟩
 exact subscriptTail_builtinR (x:=w) pl.typeIs slot_tuple_getitem.lookup
  (getItem_tuple (j:=j) (Q:=fun r s'=>r=w/\EP X pins σ Q r s') pl (by omega) (by omega) (by rw[List.size_toArray,<-hl];exact h1) (by simpa using ew) ⟨rfl,fin⟩) hs
def iS:V->Bool
 |.non=>true
 |.bl _=>true
 |.int _=>true
 |.str _=>true
 |_=>false
def Au:V->V->Bool
 |.non,.non=>true
 |.bl a,.bl b=>a==b
 |.bl a,.int b=>(if a then 1 else 0)==b
 |.int a,.bl b=>a==(if b then 1 else 0)
 |.int a,.int b=>a==b
 |.str a,.str b=>a==b
 |_,_=>false
theorem DI{A:Around}{s:Shared}{y x:V}{u v:Value}(ry:RelV y u)(rx:RelV x v)(fy:iS y=true)(fx:iS x=true):SeqAt.EqAt A s u v (Au y x):=by
 cases y with
 |non =>
  cases ry;cases x with
  |non=>cases rx;exact SeqAt.EqAt.same _
  |bl b=>cases rx;exact SeqAt.EqAt.none_bool b
  |int b=>obtain⟨t,rfl⟩:=rx;exact SeqAt.EqAt.none_int b t
  |str b=>obtain⟨t,rfl⟩:=rx;exact SeqAt.EqAt.none_str b t
  |_=>exact absurd (show false=true from fx) Bool.false_ne_true
 |bl a =>
  cases ry;cases x with
  |non=>cases rx;exact SeqAt.EqAt.bool_none a
  |bl b=>cases rx;exact SeqAt.EqAt.bool_bool a b
  |int b=>obtain⟨t,rfl⟩:=rx;exact SeqAt.EqAt.bool_int a b t
  |str b=>obtain⟨t,rfl⟩:=rx;exact SeqAt.EqAt.bool_str a b t
  |_=>exact absurd (show false=true from fx) Bool.false_ne_true
 |int a =>
  obtain⟨t',rfl⟩:=ry;cases x with
  |non=>cases rx;exact SeqAt.EqAt.int_none a t'
  |bl b=>cases rx;exact SeqAt.EqAt.int_bool a t' b
  |int b=>obtain⟨t,rfl⟩:=rx;exact SeqAt.EqAt.int_int a t' b t
  |str b=>obtain⟨t,rfl⟩:=rx;exact SeqAt.EqAt.int_str a t' b t
  |_=>exact absurd (show false=true from fx) Bool.false_ne_true
 |str a =>
  obtain⟨t',rfl⟩:=ry;cases x with
  |non=>cases rx;exact SeqAt.EqAt.str_none a t'
  |bl b=>cases rx;exact SeqAt.EqAt.str_bool a t' b
  |int b=>obtain⟨t,rfl⟩:=rx;exact SeqAt.EqAt.str_int a t' b t
  |str b=>obtain⟨t,rfl⟩:=rx;exact SeqAt.EqAt.str_str a t' b t
  |_=>exact absurd (show false=true from fx) Bool.false_ne_true
 |_=>exact absurd (show false=true from fy) Bool.false_ne_true
def ui(x:V)(u:Value):Bool:=match u with
 |.none=>Au .non x
 |.bool b=>Au (.bl b) x
 |.int i _=>Au (.int i) x
 |.str z _=>Au (.str z) x
 |_=>false
theorem y0{x y:V}{u:Value}(r:RelV y u)(f:iS y=true):ui x u=Au y x:=by
 cases y with
 |non=>cases r;rfl
 |bl b=>cases r;rfl
 |int i=>obtain⟨t,rfl⟩:=r;rfl
 |str z=>obtain⟨t,rfl⟩:=r;rfl
 |_=>exact absurd (show false=true from f) Bool.false_ne_true
theorem jO{x:V}:∀{xs:List V} {us:List Value},Vals xs us->xs.all iS=true->us.any (ui x)=xs.any fun y=>Au y x
 |_,_,.nil,_=>rfl
 |y::xs,u::us,.cons r t,f=>by
  rw[List.all_cons,Bool.and_eq_true] at f;rw[List.any_cons,List.any_cons,y0 r f.1,jO t f.2]
theorem gZ{A:Around}{s:Shared}{x:V}{v:Value}(rx:RelV x v)(fx:iS x=true):∀{xs:List V} {us:List Value},Vals xs us->xs.all iS=true->∀u∈us,SeqAt.EqAt A s u v (ui x u)
 |_,_,.nil,_=>fun u hu=>by cases hu
 |y::xs,u::us,.cons r t,f=>fun u' hu=>by
  rw[List.all_cons,Bool.and_eq_true] at f;rcases List.mem_cons.mp hu with rfl|hu
  .rw[y0 r f.1];exact DI r rx f.1 fx
  .exact gZ rx fx t f.2 u' hu
def Fd(x:V)(xs:List V):Bool:=xs.any fun y=>Au y x
def IH(K:PySem.W.Frag)(neg:Bool):R2:=fun x y H Q=>∃p xs,y=.ref p/\(dF K H p xs\/sh K H p xs)/\iS x=true/\xs.all iS=true/\Q (.bl (if neg then !Fd x xs else Fd x xs)) H
theorem nP:i7 X (compareOp .In) (IH X.K false):=by
 intro pins s σ H x y v u Q I rx ry h;obtain⟨p,xs,rfl,hq,fx,fs,q⟩:=h;cases ry;rcases hq with hq|hq
 .obtain⟨its,r,pl,hz⟩:=I.list hq;refine SeqAt.in_listAt (ui x) pl.isList (fun w hw=>gZ rx fx r fs w (by simpa using hw)) ⟨.bl _,H,I,rfl,?_⟩;rw[show its.toArray.any (ui x)=its.any (ui x) by simp,jO r fs];exact q
 .obtain⟨its,r,pl,hz⟩:=I.tuple hq;refine SeqAt.in_tupleAt (ui x) pl (fun w hw=>gZ rx fx r fs w (by simpa using hw)) ⟨.bl _,H,I,rfl,?_⟩;rw[show its.toArray.any (ui x)=its.any (ui x) by simp,jO r fs];exact q
theorem o3:i7 X (compareOp .NotIn) (IH X.K true):=by
 intro pins s σ H x y v u Q I rx ry h;obtain⟨p,xs,rfl,hq,fx,fs,q⟩:=h;cases ry;rcases hq with hq|hq
 .obtain⟨its,r,pl,hz⟩:=I.list hq;refine SeqAt.notIn_listAt (ui x) pl.isList (fun w hw=>gZ rx fx r fs w (by simpa using hw)) ⟨.bl _,H,I,rfl,?_⟩;rw[show its.toArray.any (ui x)=its.any (ui x) by simp,jO r fs];exact q
 .obtain⟨its,r,pl,hz⟩:=I.tuple hq;refine SeqAt.notIn_tupleAt (ui x) pl (fun w hw=>gZ rx fx r fs w (by simpa using hw)) ⟨.bl _,H,I,rfl,?_⟩;rw[show its.toArray.any (ui x)=its.any (ui x) by simp,jO r fs];exact q
theorem pR:gO X (.builtin "len") (fun xs H Q=>∃p ys,xs=[.ref p]/\(dF X.K H p ys\/sh X.K H p ys)/\Q (.int ys.length) H):=by
 intro pins s σ H xs us Q I r h;obtain⟨p,ys,rfl,hq,q⟩:=h;obtain⟨u,rfl,rx⟩:=vals1 r;cases rx;have hn:=sJ;rcases hq with hq|hq
 .obtain⟨its,r',pl,hz⟩:=I.list hq;have hlen:=r'.length;exact Calls.call_len_list pl.isList (by simp only[List.size_toArray]<;>omega) ⟨.int ys.length,H,I.tok _,⟨s.toks+1,by rw[List.size_toArray,hlen]⟩,q⟩
 .obtain⟨its,r',pl,hz⟩:=I.tuple hq;have hlen:=r'.length;exact len_tuple pl (by simp only[List.size_toArray]<;>omega) ⟨.int ys.length,H,I.tok _,⟨s.toks+1,by rw[List.size_toArray,hlen]⟩,q⟩
theorem jJ:gO X (.type "list") (fun xs H Q=>∃p ys,xs=[.ref p]/\(dF X.K H p ys\/sh X.K H p ys)/\∀l,H l=none->Q (.ref l) (upd H l (.lst ys))):=by
 intro pins s σ H xs us Q I r h;obtain⟨p,ys,rfl,hq,q⟩:=h;obtain⟨u,rfl,rx⟩:=vals1 r;cases rx
 have fin:∀(its:List Value),Vals ys its->ys.length<=sizeLine->∀(h':Heap) (c':Nat),(∀b o',s.heap.get? b=some o'->h'.get? b=some o') ->
   h'.get? s.heap.objs.size=some {cls:=.type "list",dict:=none,data:=.seq its.toArray c',slots:=#[]}->EP X pins σ Q (.ref s.heap.objs.size) {s with heap:=h'}:=fun its r' hz h' c' kp e =>
  ⟨.ref s.heap.objs.size,_,I.laid (t':=s.toks) kp (Nat.le_refl _) (show cb X.prog X.w _ h' _ (.lst ys) from ⟨hz,its,c',r',e⟩),rfl,q _ (I.hok.fresh (Nat.le_refl _))⟩
 rcases hq with hq|hq
 .obtain⟨its,r',pl,hz⟩:=I.list hq;have hlen:=r'.length;obtain⟨o,ho,hc,n,hd⟩:=pl.isList;exact call_list_seq p (.inl rfl) ho hc hd (fun h' c' kp e=>fin its r' hz h' c' kp e) (by simp only[List.size_toArray]<;>omega)
 .obtain⟨its,r',pl,hz⟩:=I.tuple hq;have hlen:=r'.length;obtain⟨o,ho,hc,n,hd⟩:=pl;exact call_list_seq p (.inr rfl) ho hc hd (fun h' c' kp e=>fin its r' hz h' c' kp e) (by simp only[List.size_toArray]<;>omega)
def Iv(K:PySem.W.Frag)(T:String)(x:V)(H:Hp):Prop:=match x with
 |.str _=>T="str"
 |.int _=>T="int"
 |.ref p=>(T="list"/\∃xs,dF K H p xs)\/(T="tuple"/\∃o,K.lookup p=some o/\o.cls=.type "tuple"/\o.dict=none) \/
   (T="dict"/\((∃kvs,H p=some (.dK kvs))\/∃kvs,H p=some (.dT kvs)))\/(T="set"/\∃S n,H p=some (.set S n))
 |_=>False
theorem zy{pins:List (Addr×Obj)}{σ:St}{H:Hp}{s:Shared}{T:String}{x:V}{v:Value}(I:Inv X pins σ H s)(r:RelV x v)(ty:Iv X.K T x H):
  s.TypeIs v T/\∀a,v=.ref a->∃ob,s.heap.get? a=some ob/\ob.dict=none:=by
 cases x with
 |str z =>
  obtain⟨t,rfl⟩:=r;cases (show T="str" from ty);exact⟨typeIs_str s z t,fun _ e=>nomatch e⟩
 |int i =>
  obtain⟨t,rfl⟩:=r;cases (show T="int" from ty);exact⟨typeIs_int s i t,fun _ e=>nomatch e⟩
 |ref p =>
  cases r;rcases ty with⟨rfl,xs,hq⟩|⟨rfl,o,hk,hc,hd⟩|⟨rfl,hk⟩|⟨rfl,S,n,hk⟩
  .obtain⟨its,_,pl,_⟩:=I.list hq;refine⟨pl.isList.typeIs,fun a e=>?_⟩;cases e;obtain⟨o,n,e,c,hd,_⟩:=pl;exact⟨o,e,hd⟩
  .refine⟨⟨o,I.C3 p o hk,hc⟩,fun a e=>?_⟩;cases e;exact⟨o,I.C3 _ o hk,hd⟩
  .have z:∃o,s.heap.get? p=some o/\o.ExactDict:=by
    rcases hk with⟨kvs,hk⟩|⟨kvs,hk⟩
    .obtain⟨_,_,_,_,o,_,_,e,ex,_⟩:=I.hok p _ hk;exact⟨o,e,ex⟩
    .obtain⟨_,_,_,_,o,_,_,e,ex,_⟩:=I.hok p _ hk;exact⟨o,e,ex⟩
   obtain⟨o,e,ex⟩:=z;refine⟨⟨o,e,ex.1⟩,fun a e2=>?_⟩;cases e2;exact⟨o,e,ex.2.1⟩
  .obtain⟨o,_,_,_,e,ex,_⟩:=I.hok p _ hk;refine⟨⟨o,e,ex.1⟩,fun a e2=>?_⟩;cases e2;exact⟨o,e,ex.2.1⟩
 |_=>exact False.elim ty
def Iw(K:PySem.W.Frag)(T:String)(r:V->List V->Hp->VK->Prop)(to:TE):TE:=fun σ H Q=>to σ H fun x H1=>Iv K T x H1/\r x [] H1 Q
def Jj(K:PySem.W.Frag)(T:String)(r:V->List V->Hp->VK->Prop)(to:TE)(t:TA):TE:=fun σ H Q=>to σ H fun x H1=>Iv K T x H1/\t σ H1 fun xs H2=>r x xs H2 Q
variable{o e:Expr}{es:List Expr}{to:TE}{t:TA}{name:Str}{apos cpos:Pos}{T id:String}{r:V->List V->Hp->VK->Prop}
theorem Dz(pa:PlainAttrs T)(slot:Slot T name id)(hty:typeOf (.builtin id)=pure (.type "method_descriptor"))(hm:HF X id r)(ho:PE X o to)
  (hbase:attributeBase o name X.env (eval o X.env)=eval o X.env:=by rfl) (hline:(apos.endLine==cpos.line)=true:=by rfl):PE X (.Call (.Attribute o name apos) [] [] cpos) (Iw X.K T r to):=by
 intro pins s σ H Q I h;refine wpAny_Call_method0_late hbase hline (bO (ho pins s σ H _ I h) fun v s1 ⟨x,H1,I1,r1,ty,q1⟩=>?_);obtain⟨h1,h2⟩:=zy I1 r1 ty;exact⟨T,id,pa,slot,hty,h1,h2,Calls.callWith_builtin rfl (PySem.evalArgs_none (hm pins s1 σ H1 x [] v [] Q I1 r1 .nil q1))⟩
theorem FW(pa:PlainAttrs T)(slot:Slot T name id)(hty:typeOf (.builtin id)=pure (.type "method_descriptor"))(hm:HF X id r)(ho:PE X o to)(ha:PA X (e::es) t)
  (hbase:attributeBase o name X.env (eval o X.env)=eval o X.env:=by rfl)
  (hfew:((backTo cpos (starEach (e :: es) X.env)).all (fun x=>!x.1) && (backToKw cpos (keywordEach [] X.env)).all (fun x=>x.1.isSome)
   && decide ((e::es).length+([]:List Keyword).length+(if ([]:List Keyword).isEmpty then 0 else 1)<30))=true:=by rfl)
  (hline:(apos.endLine==cpos.line)=true:=by rfl) (hs:starEach (e::es) X.env=(false,eval e X.env)::starEach es X.env:=by rfl) (hplain:(backTo cpos (starEach es X.env)).any (·.1)=false:=by rfl):
  PE X (.Call (.Attribute o name apos) (e::es) [] cpos) (Jj X.K T r to t):=by
 intro pins s σ H Q I h;refine wpAny_Call_method_late hbase hfew hline rfl (bO (ho pins s σ H _ I h) fun v s1 ⟨x,H1,I1,r1,ty,q1⟩=>?_);obtain⟨h1,h2⟩:=zy I1 r1 ty;refine⟨T,id,pa,slot,hty,h1,h2,?_⟩;have hA:=ha cpos pins s1 σ H1 _ I1 q1;rw[hs] at hA ⊢;refine Calls.callWith_builtin (by show(false || (backTo cpos (starEach es X.env)).any (·.1))=false;rw[hplain]<;>rfl) (Calls.evalArgs_plain ?_);exact bO hA fun us s2 ⟨vs,H2,I2,r2,q2⟩=>hm pins s2 σ H2 x vs v us Q I2 r1 r2 q2
end
def Jf(X:Cx)(id:String)(r:V->List V->Hp->VK->Prop):Prop :=
 ∀(pins:List (Addr×Obj)) (s:Shared) (σ:St) (H:Hp) (x:V) (xs:List V) (v:Value) (us:List Value) (Q:VK),Inv X pins σ H s->RelV x v->Vals xs us->r x xs H Q ->
  wpAny (model X.prog X.w) X.A (call (.builtin id) (v::us)) (EP X pins σ Q) X.xe s
theorem Vals.one:∀{x:V} {us:List Value},Vals [x] us->∃u,us=[u]/\RelV x u
 |_,_,.cons r .nil=>⟨_,rfl,r⟩
theorem Vals.rep{xs:List V}{us:List Value}(h:Vals xs us):∀k:Nat,Vals (List.replicate k xs).flatten (List.replicate k us).flatten
 |0=>.nil
 |k+1=>by
  rw[List.replicate_succ,List.replicate_succ,List.flatten_cons,List.flatten_cons];exact Vals.append h (Vals.rep h k)
theorem foldl_rep(its:List Value):∀(k:Nat) (acc:List Value),
  List.foldl (fun x1 x2=>x1++x2) acc.toArray (List.replicate k its.toArray)=(acc++(List.replicate k its).flatten).toArray
 |0,acc=>by simp
 |k+1,acc=>by
  have e:acc.toArray++its.toArray=(acc++its).toArray:=by simp
  have e2:(acc++its)++(List.replicate k its).flatten=acc++(List.replicate (k+1) its).flatten:=by
   rw[List.replicate_succ,List.flatten_cons,List.append_assoc]
  rw[<-e2,<-foldl_rep its k (acc++its),<-e,List.replicate_succ,List.foldl_cons]
section
variable{X:Cx}{pins:List (Addr×Obj)}{σ:St}{H:Hp}{s:Shared}{l b:Addr}{xs ys zs:List V}
theorem Inv.H_{its its':List Value}{n:Nat}{f:Array Value->Array Value}{t':Nat}(I:Inv X pins σ H s)(hH:H l=some (.lst xs))
  (e:s.heap.get? l=some {cls:=.type "list",data:=.seq its.toArray n}) (hf:f its.toArray=its'.toArray) (hv:Vals ys its') (hz:ys.length<=sizeLine):
  Inv X pins σ (upd H l (.lst ys)) {s with heap:=s.heap.update l (Obj.mapSeq f),toks:=t'}:=by
 have q:=PySem.IsL.update e f;rw[hf] at q;refine I.write (x:=l) (e:=l) (by rw[hH];exact trivial) (.inl rfl) (fun b' u hb hu=>(Heap.get?_update_other s.heap (Obj.mapSeq f) (Ne.symm hb)).trans hu) ⟨_,q⟩ ?_;exact⟨hz,its',_,hv,q⟩
theorem Inv.DO{its:List Value}{t':Nat}(I:Inv X pins σ H s)(hv:Vals ys its)(hz:ys.length<=sizeLine):
  Inv X pins σ (upd H s.heap.objs.size (.lst ys)) {s with heap:=s.heap.push {cls:=.type "list",data:=.seq its.toArray},toks:=t'} :=
 I.laid (fun _ _ q=>Heap.get?_push_of_some _ q) (Nat.le_refl _) ⟨hz,its,0,hv,Heap.get?_push_size _ rfl⟩
theorem Inv.fresh(I:Inv X pins σ H s):H s.heap.objs.size=none:=I.hok.fresh (Nat.le_refl _)
theorem Inv.A9(I:Inv X pins σ H s)(hH:H l=some (.lst xs)):xs.length<=sizeLine/\∃(its:List Value) (n:Nat),Vals xs its/\xs.length=its.length/\s.heap.get? l=some {cls:=.type "list",data:=.seq its.toArray n}:=by
 obtain⟨z,its,n,r,e⟩:=I.hok l _ hH;exact⟨z,its,n,r,r.length,e⟩
theorem yy{n:Nat}(h:n<=sizeLine):Builtin.List.listTooLong n=false:=by
 unfold Builtin.List.listTooLong;exact decide_eq_false (by omega)
end
section
variable{X:Cx}
def AF:V->List V->Hp->VK->Prop:=fun x vs H Q=>∃l xs y,x=.ref l/\vs=[y]/\H l=some (.lst xs)/\xs.length<sizeLine/\Q .non (upd H l (.lst (xs++[y])))
theorem n9:Jf X "list.append" AF:=by
 intro pins s σ H x vs v us Q I rx rv h;obtain⟨l,xs,y,rfl,rfl,hH,hz,q⟩:=h;cases rx;obtain⟨u,rfl,ru⟩:=rv.one;obtain⟨z,its,n,r,hl,e⟩:=I.A9 hH;refine call_meets F.slot_list_append ⟨_,e,rfl⟩ F.entry_list_append (F.args_list_append_2 _ _) (PySem.list_append l its.toArray n u (by rw[List.size_toArray];omega)) ⟨e,?_⟩;refine⟨.non,_,I.H_ (its':=its++[u]) hH e (by simp) (r.append (.cons ru .nil)) ?_,rfl,q⟩;rw[List.length_append,List.length_singleton];omega
def Ic:R2:=fun x y H Q=>∃l b xs zs,x=.ref l/\y=.ref b/\H l=some (.lst xs)/\H b=some (.lst zs)/\xs.length+zs.length<=sizeLine/\∀p,H p=none->Q (.ref p) (upd H p (.lst (xs++zs)))
theorem D4:i7 X (binaryOp .Add) Ic:=by
 intro pins s σ H x y v u Q I rx ry h;obtain⟨l,b,xs,zs,rfl,rfl,hH,hB,hz,q⟩:=h;cases rx;cases ry;obtain⟨z,its,n,r,hl,e⟩:=I.A9 hH;obtain⟨z2,its2,n2,r2,hl2,e2⟩:=I.A9 hB;refine PySem.P.add_list e e2 ?_ (by rw[List.size_toArray,List.size_toArray];omega);have ea:its.toArray++its2.toArray=(its++its2).toArray:=by simp
 rw[ea];exact⟨.ref _,_,I.DO (t':=s.toks) (r.append r2) (by rw[List.length_append];omega),rfl,q _ I.fresh⟩
def Ii:R2:=fun x y H Q=>∃l k xs,x=.ref l/\y=.int k/\H l=some (.lst xs)/\-(2^63)<=k/\k<2^63/\xs.length*k.toNat<=sizeLine /\
 ∀p,H p=none->Q (.ref p) (upd H p (.lst (List.replicate k.toNat xs).flatten))
theorem len_rep{α:Type}(xs:List α)(k:Nat):(List.replicate k xs).flatten.length=k*xs.length:=by
 induction k with
 |zero=>simp
 |succ k ih=>rw[List.replicate_succ,List.flatten_cons,List.length_append,ih,Nat.succ_mul,Nat.add_comm]
theorem EF:i7 X (binaryOp .Mult) Ii:=by
 intro pins s σ H x y v u Q I rx ry h;obtain⟨l,k,xs,rfl,rfl,hH,h1,h2,hz,q⟩:=h;cases rx;obtain⟨t,rfl⟩:=ry;obtain⟨z,its,n,r,hl,e⟩:=I.A9 hH;have hlen:its.toArray.size*k.toNat<=sizeLine:=by rw[List.size_toArray,<-hl];exact hz
 have hcap:¬its.toArray.size*k.toNat>(2^63-1)/8:=by
  have:(sizeLine:Nat)<=(2^63-1)/8:=by decide
  omega
 have hfit:¬(!Builtin.List.listFitsIndex k)=true:=by
  rw[fitsIndex_both h1 h2];exact Bool.false_ne_true
 have hlong:¬Builtin.List.listTooLong (its.toArray.size*k.toNat)=true:=by
  rw[yy hlen];exact Bool.false_ne_true
 have hnew:List.foldl (fun x1 x2=>x1++x2) #[] (List.replicate (if its.toArray.isEmpty=true then 0 else k.toNat) its.toArray)=(List.replicate k.toNat its).flatten.toArray:=by
  have f0:∀m:Nat,List.foldl (fun x1 x2=>x1++x2) #[] (List.replicate m its.toArray)=(List.replicate m its).flatten.toArray:=fun m=>by
   have:=foldl_rep its m [];rw[List.nil_append] at this;exact this
  rw[f0];cases its with
  |nil=>simp
  |cons a r'=>rw[if_neg (by simp)]
 refine wpAny_binaryOp_repeat_ref (T:="list") (U:="int") (by decide) ⟨_,e,rfl⟩ (fun s'=>typeIs_int s' k t) noFill_list_mul F.fills_int_mul F.slot_int_rmul repeat_list F.slot_int_index.lookup
  (call_meets F.slot_int_rmul (typeIs_int s k t) F.entry_int_rmul (F.args_int_rmul_2 _ _) (int___rmul___int_list k t l its.toArray n)
   ⟨e,rfl,⟨_,e,rfl⟩,call_meets F.slot_list_mul ⟨_,e,rfl⟩ F.entry_list_mul (F.args_list_mul_2 _ _) (AutoListH.list___mul___list_int_3 l its.toArray n k t hfit hcap hlong) ⟨e,?_⟩⟩)
 rw[hnew];exact⟨.ref _,_,I.DO (t':=s.toks) (r.rep k.toNat) (by rw[len_rep,Nat.mul_comm];exact hz),rfl,q _ I.fresh⟩
end
section
variable{prog:Program}{w:World}{A:Around}{E:Value->Shared->Prop}{s:Shared}
end
section
variable{X:Cx}
end
end L2
namespace Att
open PySem PySem.W PySem.Calls PyProof.Rows
theorem k5{P:Params}{h:Heap}:∀(ns:List Int) (vs:List Value),WellAll P h vs (ns.map WData.int)->IntsAre vs ns:=by
 intro ns
 induction ns with
 |nil =>
  intro vs w;rw[List.map_nil] at w;cases w;exact .nil
 |cons n ns ih =>
  intro vs w;rw[List.map_cons] at w;cases w with
  |cons a b =>
   cases a;exact .cons _ _ (ih _ b)
theorem xj{l:OpenLaw}{n:Nat}(hn:l.most=some n){P:Params}{h:Heap}{args:List WData}{vals:List Value}
  (hpre:l.row.toRowW.claim.pre args=true) (hwl:WellAll P h vals args):
  ∃a vs ns,vals=[Value.ref a]/\args=[WData.list (ns.map WData.int)]/\h.get? a=some {cls:=.type "list",data:=.seq vs.toArray}/\IntsAre vs ns/\ns.length<=n:=by
 have hsh:WShape.hasAll [] args [.list .int]=true:=(pre_splitW hpre).1;have hc:l.pre.holds [] {args:=args}=true:=(pre_splitW hpre).2;obtain⟨d,r,rfl,h1,h2⟩:=hasAllW_cons hsh;obtain rfl:=hasAllW_nil h2;obtain⟨xs,rfl,h3⟩:=hasW_list h1;obtain⟨ns,rfl⟩:=items_int h3
 have hlen:ns.length<=n:=by
  unfold OpenLaw.pre at hc
  have h4:(WTm.not (.lt (.lit (.int (n:Int))) (.len (.arg 0)))).holds [] {args:=[.list (ns.map .int)]}=true:=by
   have h4:=(holds_andW hc).1;rw[hn] at h4;exact h4
  have h5:=condW_of h4 (w_not (w_lt w_lit (w_len_list (w_arg rfl))));rw[List.length_map] at h5;refine Nat.le_of_not_lt fun q=>?_;have q':(n:Int)<((ns.length:Nat):Int):=by omega
  first
   |(rw[decide_eq_true q'] at h5;exact absurd h5 (by decide))
   |(simp at h5;omega)
 cases hwl with
 |cons w1 w2 =>
  cases w2;cases w1 with
  |list ho hall=>exact⟨_,_,ns,rfl,rfl,ho,k5 ns _ hall,hlen⟩
theorem wJ(l:OpenLaw)(args:List WData):l.row.toRowW.claim.post args (.bool true) args=true :=
 postW_of (r:=l.row.toRowW) (X:=(true==true))
  (show WShape.has [] (.bool true) .bool=true by first|rfl|decide|simp[WShape.has,WShape.arms,WShape.armsAll])
  (show(WTm.eq .res (.lit (.bool true))).value [] {args:=args,res:=some (.bool true),after:=args}=some (.bool (true==true)) from w_eq_bool (w_res rfl) w_lit) rfl
theorem qY{l:OpenLaw}{n:Nat}{q:Program}{loose:List Str}{XP:(Str->Option Value)->Heap->Prop}{YP:World->Heap->Prop}{d:DefRec}
  (hn:l.most=some n) (hdf:d.params.defaults=[])
  (call:∀ (w:World) (s₀ s₁:Shared) (mg mb:Str->Option Value) (fa:Addr) (o:Obj) (pm cd doc:Value) (a:Addr) (vs:List Value) (ns:List Int),
   Ground q loose [] XP w s₀ mg mb s₁.heap->YP w s₁.heap ->
   s₁.heap.get? fa=some o->o.data=.func (docDef d.name d.params d.body d.scope pm cd doc)->s₁.heap.CodeRec cd d.name->mg d.name=some (.ref fa) ->
   s₁.heap.get? a=some {cls:=.type "list",data:=.seq vs.toArray}->IntsAre vs ns->ns.length<=n->s₁.gens=#[] ->
   codeAny (model l.prog w) callerA (.call (.ref fa) ⟨[.ref a],[]⟩) (fun r s'=>r=.ok (.ret (.bool true))/\OldK s₁.heap s'.heap/\s'.os=s₁.os/\AllBare s'.gens) s₁):
  WalkO q loose XP YP l.row.toRowW d [] (fun f vs=>PySem.call f vs):=by
 intro w s₀ s₁ mg mb G Y fa o pm cd doc dV kV ho hd hcd hD hmg hg args vals as hpre hlay hrd hwl hlo;obtain rfl:dV=.none:=Dflts.none hD hdf;obtain rfl:kV=.none:=Dflts.noKw hD;obtain⟨a,vs,ns,rfl,rfl,hobj,hints,hlen⟩:=xj hn hpre hwl;refine enter_call (codeAny_mono (call w s₀ s₁ mg mb fa o pm cd doc a vs ns G Y ho (fd_plain hd) hcd hmg hobj hints hlen hg) fun r s' hq=>?_);obtain⟨rfl,h2,h3,h4⟩:=hq;exact⟨.inl ⟨.bool true,.bool true,[],rfl,fun _=>rfl,.bool true,wJ l _,fun _=>⟨List.Pairwise.nil,fun _ hm=>(nomatch hm)⟩⟩,h2,h3,h4⟩
section
variable{prog:Program}{w:World}{A:Around}{E:Value->Shared->Prop}{s:Shared}{K:Frag}
end
end Att
namespace L2
open PySem PySem.Spec PyProof.Rows
theorem oI:∀{vs:List Value} {ns:List Int},IntsAre vs ns->Vals (ns.map V.int) vs
 |_,_,.nil=>.nil
 |_,_,.cons n t h=>.cons ⟨t,rfl⟩ (oI h)
def BB(H:Hp):Prop:=∀b,H b=none\/∃o xs,H b=some (.frz o (.lst xs))
theorem yV{P:Program}{w:World}{K:PySem.W.Frag}{mg mb:Str->Option Value}{CX:wU}{k:Nat}{fa a:Addr}{fd:FuncData}{x:Str}{sp:Sp}{s₁:Shared}{vs:List Value}{ns:List Int}
  (KX:K.In s₁.heap) (hns:s₁.heap.Ns mainGlobals mg) (hb:s₁.heap.Ns builtinsNs mb) (hbb:∀x:Str,x≠"__name__"->mb x=bootBuiltins x) (hlim:s₁.heap.NoLimit) (hg:s₁.gens=#[])
  (ha:s₁.heap.get? a=some {cls:=.type "list",data:=.seq vs.toArray}) (hi:IntsAre vs ns) (hl:ns.length<=sizeLine) (hr:cM k callerA)
  (F:∀base:Heap,K.In base->base.Ns mainGlobals mg->fe P w K mg base CX k fa fd [x] sp) (hbind:∀(s:Shared) (u:Value),BindsTo s fd ⟨[u],[]⟩ [(x,u)])
  (hsp:∀H:Hp,BB H->dF K H a (ns.map V.int)->sp [.ref a] H (fun v _=>v=.bl true) fun _ _ _=>False)
  (hCX:∀H e s',CX [] H s₁ (fun _ _ _=>False) e s'->False):
  codeAny (model P w) callerA (.call (.ref fa) ⟨[.ref a],[]⟩) (fun r s'=>r=.ok (.ret (.bool true))/\OldK s₁.heap s'.heap/\s'.os=s₁.os/\AllBare s'.gens) s₁:=by
 have rv:=oI hi;have lenV:=hi.length
 -- from an abstract heap in which nothing but the script may be tracked
 have core:∀H:Hp,BB H->dF K H a (ns.map V.int)->iN P w H s₁.heap->(∀b,H b≠none->b=a)->(H a≠none->K.lookup a=none) ->
   codeAny (model P w) callerA (.call (.ref fa) ⟨[.ref a],[]⟩) (fun r s'=>r=.ok (.ret (.bool true))/\OldK s₁.heap s'.heap/\s'.os=s₁.os/\AllBare s'.gens) s₁:=by
  intro H hO hS hok hA hK;have base_of:∀{b:Addr} {o:Obj},s₁.heap.get? b=some o->H b=none->(oP s₁.heap H).get? b=some o:=fun e n=>Ag e n
  have noA:∀{b:Addr} {o:Obj} {es:Array DictEntry} {ep:Nat},s₁.heap.get? b=some o->o.data=.dict es ep->H b=none:=fun {b o es ep} e d=>by
   cases q:H b with
   |none=>rfl
   |some u =>
    have e':b=a:=hA b (by rw[q];simp);subst e';rw[ha] at e;cases e;have d':Data.seq vs.toArray _=Data.dict es ep:=d;cases d'
  have nsK:∀{b:Addr} {m:Str->Option Value},s₁.heap.Ns b m->(oP s₁.heap H).Ns b m:=fun {b m} ⟨o,es,ep,e,d,r⟩=>⟨o,es,ep,base_of e (noA e d),d,r⟩
  have hKb:K.In (oP s₁.heap H):=fun b o e=>base_of (KX b o e) (by
   cases q:H b with
   |none=>rfl
   |some u =>
    have e':b=a:=hA b (by rw[q];simp);subst e'
    rw[hK (by rw[q];simp)] at e;cases e)
  have hM:Mod K mg (oP s₁.heap H):=⟨hKb,nsK hns,⟨mb,nsK hb,hbb⟩,let ⟨mc,h1,h2⟩:=hlim;⟨mc,nsK h1,h2⟩⟩;have e0:Ap P w K mg (oP s₁.heap H) callerA [] s₁ H:=⟨rfl,hM,fun b o e=>A4 e,Nat.le_of_eq (wo _ _),trivial,fun b hb=>absurd (show b∈([]:List Addr) from hb) (by simp),hok,.of_eq hg⟩;refine codeAny_mono ((F _ hKb (nsK hns)).run callerA [] s₁ H ⟨[.ref a],[]⟩ [.ref a] [.ref a] _ _ hr e0 (hbind s₁ (.ref a)) (.cons rfl .nil) (hsp H hO hS)) fun r s' h=>?_;cases r with
  |error e=>exact(hCX H e s' h).elim
  |ok fl =>
   cases fl with
   |next=>exact False.elim h
   |brk=>exact False.elim h
   |cont=>exact False.elim h
   |ret u =>
    obtain⟨v,H',os,bare,un,hok',r',q⟩:=h;have q':v=.bl true:=q;subst q';obtain rfl:u=Value.bool true:=r';refine⟨rfl,OldK.of_keep fun b o e=>?_,os,bare⟩;cases q:H b with
    |none=>exact un.keep b o e q (by intro z;exact absurd (show b∈([]:List Addr) from z) (by simp)) (by simp)
    |some u =>
     rcases hO b with z|⟨ob,xs,z⟩
     .rw[q] at z;cases z
     .have z2:=un.frzs b ob _ z;obtain⟨e1,_⟩:=hok b _ z;obtain⟨e2,_⟩:=hok' b _ z2;rw[e] at e1;cases e1;exact e2
 cases hk:K.lookup a with
 |some o =>
  -- the script is one of the module's own objects
  have e:=KX a o hk;rw[ha] at e;cases e;refine core (fun _=>none) (fun _=>.inl rfl) (.inr ⟨_,vs.toArray,_,hk,rfl,rfl,rfl,by rw[List.size_toArray,lenV];exact hl,by simpa using rv⟩) (fun b u z=>by have z':(none:Option HO)=some u:=z;cases z') (fun b z=>absurd rfl z) fun z=>absurd rfl z
 |none =>
  refine core (fun b=>if b=a then some (.frz {cls:=.type "list",data:=.seq vs.toArray} (.lst (ns.map V.int))) else none) (fun b=>?_) (.inl (.inr ⟨{cls:=.type "list",data:=.seq vs.toArray},if_pos rfl⟩)) (fun b u z=>?_) (fun b z=>?_) fun _=>hk
  .by_cases hb:b=a
   .exact .inr ⟨_,_,if_pos hb⟩
   .exact .inl (if_neg hb)
  .by_cases hb:b=a
   .have z':=(if_pos hb).symm.trans z;cases z';subst hb;exact⟨ha,by rw[List.length_map];exact hl,vs,_,rv,ha⟩
   .have z':=(if_neg hb).symm.trans z;cases z'
  .by_cases hb:b=a
   .exact hb
   .exact absurd (if_neg hb) z
abbrev aT{K:PySem.W.Frag}{h:Heap}(_:K.In h):PySem.W.Frag:=K
theorem BP{l:PySem.W.OpenLaw}{n k:Nat}{q:Program}{loose:List Str}{XP:(Str->Option Value)->Heap->Prop}{YP:World->Heap->Prop}{d:DefRec}{K:Params->PySem.W.Frag}{CX:World->wU}{sp:World->Sp}{x:Str}
  (hn:l.most=some n) (hn2:n<=sizeLine) (hdf:d.params.defaults=[]) (hr:cM k callerA)
  (hY:∀(w:World) (h:Heap),YP w h->(K w.params).In h)
  (F:∀ (w:World) (mg:Str->Option Value) (fa:Addr) (h:Heap),(K w.params).In h->h.Ns mainGlobals mg->mg d.name=some (.ref fa) ->
   ∃fd:FuncData,(∀(s:Shared) (u:Value),BindsTo s fd ⟨[u],[]⟩ [(x,u)]) /\
    ∀base:Heap,(K w.params).In base->base.Ns mainGlobals mg->fe l.prog w (K w.params) mg base (CX w) k fa fd [x] (sp w))
  (hsp:∀(w:World) (H:Hp) (a:Addr) (ns:List Int),ns.length<=n->BB H->dF (K w.params) H a (ns.map V.int)->sp w [.ref a] H (fun v _=>v=.bl true) fun _ _ _=>False)
  (hCX:∀(w:World) (H:Hp) (s:Shared) (e:Value) (s':Shared),CX w [] H s (fun _ _ _=>False) e s'->False):
  PySem.W.WalkO q loose XP YP l.row.toRowW d [] (fun f vs=>PySem.call f vs):=by
 refine Att.qY hn hdf fun w s₀ s₁ mg mb fa o pm cd doc a vs ns G Y ho hd hcd hmg hobj hints hlen hg=>?_;have KX:=hY w _ Y;obtain⟨fd,hb,hF⟩:=F w mg fa _ KX G.T.g hmg;exact yV KX G.T.g G.T.b G.T.builtins G.T.nolimit hg hobj hints (Nat.le_trans hlen hn2) hr hF hb (fun H hO hS=>hsp w H a ns hlen hO hS) fun H e s'=>hCX w H s₁ e s'
theorem yD{l:PySem.W.OpenLaw}{n k:Nat}{q:Program}{loose:List Str}{XP:(Str->Option Value)->Heap->Prop}{YP:World->Heap->Prop}{d:DefRec}{K:Params->PySem.W.Frag}{CX:wU}{sp:PySem.W.Frag->Sp}{x:Str}
  (hn:l.most=some n) (hn2:n<=sizeLine) (hdf:d.params.defaults=[]) (hr:cM k callerA)
  (hY:∀(w:World) (h:Heap),YP w h->(K w.params).In h)
  (F:∀ (w:World) (mg:Str->Option Value) (fa:Addr) (h:Heap),(K w.params).In h->h.Ns mainGlobals mg->mg d.name=some (.ref fa) ->
   ∃fd:FuncData,(∀(s:Shared) (u:Value),BindsTo s fd ⟨[u],[]⟩ [(x,u)]) /\
    ∀base:Heap,(K w.params).In base->base.Ns mainGlobals mg->fe l.prog w (K w.params) mg base CX k fa fd [x] (sp (K w.params)))
  (hsp:∀(K:PySem.W.Frag) (H:Hp) (a:Addr) (ns:List Int),ns.length<=n->BB H->dF K H a (ns.map V.int)->sp K [.ref a] H (fun v _=>v=.bl true) fun _ _ _=>False)
  (hCX:∀(H:Hp) (s:Shared) (e:Value) (s':Shared),CX [] H s (fun _ _ _=>False) e s'->False):
  PySem.W.WalkO q loose XP YP l.row.toRowW d [] (fun f vs=>PySem.call f vs) :=
 BP (K:=K) (CX:=fun _=>CX) (sp:=fun w=>sp (K w.params)) hn hn2 hdf hr hY F (fun w H a ns h1 h2 h3=>hsp (K w.params) H a ns h1 h2 h3) fun _ H s e s'=>hCX H s e s'
def gD(s:Stmt):Arguments:=match s with
 |.FunctionDef _ a _ _ _ _ _ _ _ _=>a
 |_=>{posonlyargs:=[],args:=[],vararg:=none,kwonlyargs:=[],kw_defaults:=[],kwarg:=none,defaults:=[]}
def cL(s:Stmt):List Stmt:=match s with
 |.FunctionDef _ _ b _ _ _ _ _ _ _=>b
 |_=>[]
def af(s:Stmt):Scope:=match s with
 |.FunctionDef _ _ _ _ _ _ sc _ _ _=>sc
 |_=>{kind:=.function,names:=[],isGenerator:=false,isCoroutine:=false}
abbrev nC:wU:=fun _ _ _ _ _ _=>False
abbrev E0:XK:=fun _ _ _=>False
theorem iV{X:Cx}:Passes nC X E0:=fun _ _ _ _ _ _ _ h=>h.elim
structure sC(K:PySem.W.Frag)(x qual:Str)(st:Stmt)(f:Addr)(fd:FuncData):Prop where
 ex:∃(oc:Value) (od:Option Addr) (kV doc pm:Value) (an:Option Addr) (cdv ct:Value) (osl:Array (Option Value)),
  fd=PySem.W.fnOf x qual (gD st) (cL st) (af st) .none kV doc pm an cdv ct/\K.lookup f=some ⟨oc,od,.func fd,osl⟩/\PySem.W.codeIn K cdv qual=true
 kp:PySem.W.keepIn K (.ref f)=true
section
variable{P:Program}{w:World}{K:PySem.W.Frag}{mg:Str->Option Value}{base:Heap}
theorem sC.ok{x qual:Str}{st:Stmt}{f:Addr}{fd:FuncData}{N ps:List Str}{k:Nat}{sp:Sp}(F:sC K x qual st f fd)(S:ai N ps (af st))(len:∀vs H Q E,sp vs H Q E->vs.length=ps.length)
  (hbody:∀ (cdv:Value) (A:Around) (outer:List Env) (s:Shared) (H:Hp) (vs:List V) (Q:VK) (E:XK),cM k (A.deeper (envOfC qual (af st) s.heap.objs.size f cdv))->sp vs H Q E ->
   ∃t,nA (oX nC P w K mg base N qual (af st) f cdv A outer s H E).Ek (cL st) t/\t {nx:=fun _ H'=>Q .non H',rt:=Q} (start N vs) H):fe P w K mg base nC (k+1) f fd ps sp:=by
 obtain⟨oc,od,kV,doc,pm,an,cdv,ct,osl,rfl,lk,hcd⟩:=F.ex;refine F9 lk hcd S len fun A outer s H vs Q E hr hsp=>?_;obtain⟨t,h,q⟩:=hbody cdv A outer s H vs Q E hr hsp;exact⟨t,h.Ek,q⟩
theorem sC.binds{x qual:Str}{st:Stmt}{f:Addr}{fd:FuncData}{ps:List Str}(F:sC K x qual st f fd)
  (h:∀(kV doc pm:Value) (an:Option Addr) (cdv ct:Value) (us:List Value),us.length=ps.length->bindArgs (PySem.W.fnOf x qual (gD st) (cL st) (af st) .none kV doc pm an cdv ct) ⟨us,[]⟩=pure (ps.zip us)):Binds K fd ps []:=by
 obtain⟨oc,od,kV,doc,pm,an,cdv,ct,osl,rfl,lk,hcd⟩:=F.ex;exact .all (h kV doc pm an cdv ct)
theorem Dv{x qual:Str}{st:Stmt}{f:Addr}{oc:Value}{od an:Option Addr}{osl:Array (Option Value)}{kV doc pm cdv ct:Value}(l:K.lookup f=some ⟨oc,od,.func (PySem.W.fnOf x qual (gD st) (cL st) (af st) .none kV doc pm an cdv ct),osl⟩)
  (c:PySem.W.codeIn K cdv qual=true) (k:PySem.W.keepIn K (.ref f)=true):sC K x qual st f (PySem.W.fnOf x qual (gD st) (cL st) (af st) .none kV doc pm an cdv ct):=⟨⟨oc,od,kV,doc,pm,an,cdv,ct,osl,rfl,l,c⟩,k⟩
end
theorem cA{n:Nat}(h:n<=1000):n<sizeLine:=Nat.lt_of_le_of_lt h (by decide)
section
variable{X:Cx}
theorem pv(i:Nat){x:Str}{pos:Pos}(hN:X.N[i]?=some x:=by rfl)(hv:Ee X.env.scope x:=by first|exact Or.inl rfl|exact Or.inr (Or.inl rfl)|exact Or.inr (Or.inr rfl))(hd:(x==("__debug__":Str))=false:=by decide)
  (hcd:(x==("__classdict__":Str))=false:=by decide):PE X (.Name x pos) (G6 i):=Dp hN hv hd hcd
end
theorem pX{A B:Prop}(h:B):if false=true then A else B:=by
 rw[if_neg Bool.false_ne_true];exact h
theorem pU{A B:Prop}(h:A):if true=true then A else B:=by
 rw[if_pos rfl];exact h
def aB(H H':Hp):Prop:=∀b o,H b=some o->H' b=some o
theorem aB.refl(H:Hp):aB H H:=fun _ _ h=>h
theorem aB.trans{H H1 H2:Hp}(a:aB H H1)(b:aB H1 H2):aB H H2:=fun c o h=>b c o (a c o h)
theorem aB.free{H H':Hp}(e:aB H H'){l:Addr}(h:H' l=Option.none):H l=Option.none:=by
 cases q:H l with
 |none=>rfl
 |some o =>
  rw[e l o q] at h;cases h
theorem aB.seq{K:PySem.W.Frag}{H H':Hp}{a:Addr}{xs:List V}(e:aB H H')(h:dF K H a xs):dF K H' a xs:=by
 rcases h with(h|⟨o,h⟩)|h
 .exact .inl (.inl (e _ _ h))
 .exact .inl (.inr ⟨o,e _ _ h⟩)
 .exact .inr h
def Bq(acc:List (Str×Addr)):Prop:=∀x y c,acc.lookup x=some c->acc.lookup y=some c->x=y
theorem aQ{α:Type}{x n:Str}{a c:α}{r:List (Str×α)}(h:List.lookup x ((n,a)::r)=some c):(x=n/\a=c)\/(x≠n/\r.lookup x=some c):=by
 rw[List.lookup_cons] at h;cases hb:x==n with
 |true=>rw[hb] at h;cases h;exact .inl ⟨beq_iff_eq.mp hb,rfl⟩
 |false=>rw[hb] at h;exact .inr ⟨(fun z=>by(rw[z,beq_self_eq_true] at hb;cases hb)),h⟩
theorem vB:∀(names:List (Str×NameKind)) (n:Nat) (acc:List (Str×Addr)),Bq acc->(∀x c,acc.lookup x=some c->c<n) ->
  Bq (cellsFrom n names acc)/\∀x c,(cellsFrom n names acc).lookup x=some c->acc.lookup x=some c\/n<=c
 |[],_,_,hi,_=>⟨hi,fun _ _ h=>.inl h⟩
 |(y,k)::r,n,acc,hi,hb=>by
  unfold cellsFrom;by_cases hk:(k==NameKind.cell)=true
  .rw[if_pos hk]
   have h1:Bq ((y,n)::acc):=fun a b c e1 e2=>by
    rcases aQ e1 with⟨q1,q2⟩|⟨q1,q2⟩<;>rcases aQ e2 with⟨p1,p2⟩|⟨p1,p2⟩
    .rw[q1,p1]
    .exact absurd (hb _ _ p2) (by rw[<-q2];exact Nat.lt_irrefl _)
    .exact absurd (hb _ _ q2) (by rw[<-p2];exact Nat.lt_irrefl _)
    .exact hi a b c q2 p2
   have h2:∀x c,List.lookup x ((y,n)::acc)=some c->c<n+1:=fun x c e=>by
    rcases aQ e with⟨_,q2⟩|⟨_,q2⟩
    .rw[<-q2];exact Nat.lt_succ_self _
    .exact Nat.lt_succ_of_lt (hb _ _ q2)
   obtain⟨i1,i2⟩:=vB r (n+1) ((y,n)::acc) h1 h2;refine⟨i1,fun x c e=>?_⟩;rcases i2 x c e with q|q
   .rcases aQ q with⟨_,q2⟩|⟨_,q2⟩
    .exact .inr (Nat.le_of_eq q2)
    .exact .inl q2
   .exact .inr (Nat.le_of_succ_le q)
  .rw[if_neg hk];exact vB r n acc hi hb
theorem pF:∀(names:List (Str×NameKind)) (h:Heap) (acc:List (Str×Addr)) (x:Str) (c:Addr),(cellsFrom h.objs.size names acc).lookup x=some c->acc.lookup x=some c\/(pushCells h names).IsCell c none
 |[],_,_,_,_,e=>.inl e
 |(y,k)::r,h,acc,x,c,e=>by
  unfold cellsFrom at e;unfold pushCells;by_cases hk:(k==NameKind.cell)=true
  .rw[if_pos hk] at e ⊢;have e':(cellsFrom (h.push {cls:=.type "cell",data:=.cell none}).objs.size r ((y,h.objs.size)::acc)).lookup x=some c:=by rw[Heap.size_push];exact e
   rcases pF r (h.push {cls:=.type "cell",data:=.cell none}) ((y,h.objs.size)::acc) x c e' with q|q
   .rcases aQ q with⟨_,q2⟩|⟨_,q2⟩
    .refine .inr ?_;subst q2;exact⟨_,pushCells_keeps _ _ _ _ (Heap.get?_push_size _ rfl),rfl⟩
    .exact .inl q2
   .exact .inr q
  .rw[if_neg hk] at e ⊢;exact pF r h acc x c e
theorem p9:∀(names:List (Str×NameKind)) (n:Nat) (acc:List (Str×Addr)) (x:Str),(∀y∈names,y.1=x->y.2≠.cell)->(cellsFrom n names acc).lookup x=acc.lookup x
 |[],_,_,_,_=>rfl
 |(y,k)::r,n,acc,x,h=>by
  unfold cellsFrom;by_cases hk:(k==NameKind.cell)=true
  .rw[if_pos hk,p9 r (n+1) _ x fun z hz=>h z (List.mem_cons_of_mem _ hz),List.lookup_cons]
   have hx:(x==y)=false:=by
    cases hb:x==y with
    |false=>rfl
    |true=>exact absurd (by simpa using hk) (h (y,k) List.mem_cons_self (beq_iff_eq.mp hb).symm)
   rw[hx]
  .rw[if_neg hk];exact p9 r n acc x fun z hz=>h z (List.mem_cons_of_mem _ hz)
def dU(env:Env):List (Str×NameKind)->List (Str×Addr)->List (Str×Addr)
 |[],acc=>acc
 |(n,k)::r,acc=>dU env r (if k==.free then (n,(env.cells.lookup n).getD 0)::acc else acc)
theorem vN{env:Env}:∀(names:List (Str×NameKind)) (acc:List (Str×Addr)),(∀x∈names,x.2=.free->∃c,env.cells.lookup x.1=some c) ->
  (forIn names acc fun x cs=>(if (x.2==NameKind.free)=true then (do let a <-cellOf env x.1;pure (ForInStep.yield ((x.1,a)::cs))) else pure (ForInStep.yield cs):Sem (ForInStep (List (Str×Addr)))))=pure (dU env names acc)
 |[],_,_=>rfl
 |(n,k)::r,acc,h=>by
  rw[List.forIn_cons];have hr:=fun acc=>vN r acc fun x hx=>h x (List.mem_cons_of_mem _ hx);unfold dU;by_cases hk:(k==NameKind.free)=true
  .obtain⟨c,hc⟩:=h (n,k) List.mem_cons_self (by simpa using hk);have hc':env.cells.lookup n=some c:=hc;have e:cellOf env n=pure c:=by unfold cellOf;rw[hc']
   simp only[hk,if_true,e,hc',Option.getD_some,pure_bind];exact hr _
  .simp only[hk,if_false,pure_bind];exact hr _
theorem gR{env:Env}{scope:Scope}(h:∀x∈scope.names,x.2=.free->∃c,env.cells.lookup x.1=some c):closureFor scope env=pure (dU env scope.names []):=by
 have:=vN (env:=env) scope.names [] h;unfold closureFor;simp only[bind_pure_comp]
 first|exact this|simpa using this
theorem cv{env:Env}{x:Str}:∀(names:List (Str×NameKind)) (acc:List (Str×Addr)) (c:Addr),(∀y∈names,y.2=.free->∃c,env.cells.lookup y.1=some c)->(dU env names acc).lookup x=some c->acc.lookup x=some c\/env.cells.lookup x=some c
 |[],_,_,_,e=>.inl e
 |(n,k)::r,acc,c,h,e=>by
  unfold dU at e;have hr:=fun acc=>cv (x:=x) r acc c fun y hy=>h y (List.mem_cons_of_mem _ hy);by_cases hk:(k==NameKind.free)=true
  .rw[if_pos hk] at e;rcases hr _ e with q|q
   .rcases aQ q with⟨q1,q2⟩|⟨_,q2⟩
    .obtain⟨c',hc'⟩:=h (n,k) List.mem_cons_self (by simpa using hk);have hc2:env.cells.lookup n=some c':=hc';rw[hc2] at q2;right;rw[q1,hc2];exact congrArg some q2
    .exact .inl q2
   .exact .inr q
  .rw[if_neg hk] at e;exact hr _ e
theorem l4{env:Env}{x:Str}:∀(names:List (Str×NameKind)) (acc:List (Str×Addr)),((x,NameKind.free)∈names\/∃c,acc.lookup x=some c)->∃c,(dU env names acc).lookup x=some c
 |[],_,h=>h.elim (fun z=>nomatch z) id
 |(n,k)::r,acc,h=>by
  unfold dU;refine l4 r _ ?_;rcases h with h|⟨c,h⟩
  .rcases List.mem_cons.mp h with e|h
   .cases e;right;rw[if_pos (by decide)];exact⟨_,by rw[List.lookup_cons,beq_self_eq_true]⟩
   .exact .inl h
  .right;split
   .rw[List.lookup_cons];split
    .exact⟨_,rfl⟩
    .exact⟨c,h⟩
   .exact⟨c,h⟩
def gb(X:Cx)(N:List Str)(scope:Scope)(C:Addr)(s:Shared)(H:Hp)(fp:List Addr):Cx where
 prog:=X.prog
 w:=X.w
 K:=X.K
 mg:=X.mg
 base:=X.base
 A:=X.A
 N:=N
 s₀:=s
 H₀:=H
 env:={scope:=relabel scope X.env,locals:=C,globals:=X.env.globals,cells:=cellsFrom (C+1) scope.names (dU X.env scope.names []),qual:=X.env.qual,func:=none,code:=X.env.code,frame:=X.env.frame,builtins:=X.env.builtins}
 outer:=X.stack
 stack:=X.stack
 ex:=fp
 fn:=fun x=>match scope.names.lookup x with|some .cell=>true|_=>false
 calm:=X.calm
 pn:=[]
 xe:=fun _ _=>False
theorem dj{env:Env}:∀{names:List (Str×NameKind)} {x:Str} {k:NameKind},(names.map fun(n,k)=>if (k==NameKind.free&&env.scope.kind==.function&&env.kindOf n==some .cell) then (n,NameKind.cell) else (n,k)).lookup x=some k ->
  ∃k0,names.lookup x=some k0/\(k=k0\/k0=.free)
 |[],_,_,h=>by simp at h
 |(n,q)::r,x,k,h=>by
  rw[List.map_cons] at h;have h':List.lookup x ((if (q==NameKind.free&&env.scope.kind==.function&&env.kindOf n==some .cell)=true then (n,NameKind.cell) else (n,q))::_)=some k:=h;have fstn:∀b:Bool,(if b=true then (n,NameKind.cell) else (n,q))=(n,if b=true then NameKind.cell else q):=fun b=>by cases b<;>rfl
  rw[fstn] at h';rw[List.lookup_cons];rcases aQ h' with⟨e1,e2⟩|⟨e1,e2⟩
  .rw[e1,beq_self_eq_true];refine⟨q,rfl,?_⟩;rw[<-e2];by_cases hb:(q==NameKind.free&&env.scope.kind==.function&&env.kindOf n==some .cell)=true
   .right;have:=(Bool.and_eq_true_iff.mp (Bool.and_eq_true_iff.mp hb).1).1;simpa using this
   .left;rw[if_neg hb]
  .have hx:(x==n)=false:=by
    cases hb:x==n with
    |false=>rfl
    |true=>exact absurd (beq_iff_eq.mp hb) e1
   rw[hx];exact dj e2
structure eT(X:Cx)(scope:Scope)(tn:List Str)(js:List Nat):Prop where
 kind:scope.kind=.function
 loc:∀x∈scope.names,x.2=.local->scope.names.lookup x.1=some .local
 D9:∀x∈scope.names,x.2=.free->scope.names.lookup x.1=some .free/\(X.env.kindOf x.1=some .cell\/X.env.kindOf x.1=some .free)
 one:∀x∈scope.names,∀y∈scope.names,x.1=y.1->x.2=y.2
 js:∀j∈js,∃x,X.N[j]?=some x/\scope.names.lookup x=some .free
def cN(X:Cx)(tn:List Str)(js:List Nat):List Str:=tn++js.map fun j=>(X.N[j]?).getD ("":Str)
def cσ(σ:St)(tn:List Str)(js:List Nat):St:=tn.map (fun _=>none)++js.map fun j=>(σ[j]?).getD none
theorem aY{names:List (Str×NameKind)}{x:Str}{k:NameKind}(h:names.lookup x=some k):(x,k)∈names:=PySem.mem_of_lookup h
section
variable{X:Cx}{pins:List (Addr×Obj)}{σ:St}{H:Hp}{s:Shared}{scope:Scope}{tn:List Str}{js:List Nat}{fp:List Addr}
theorem dN(ok:X.Ok)(S:eT X scope tn js):∀x∈scope.names,x.2=.free->∃c,X.env.cells.lookup x.1=some c:=fun x hx hf=>ok.has x.1 (S.D9 x hx hf).2
theorem wu(ok:X.Ok)(S:eT X scope tn js){n:Nat}(hb:∀x c,X.env.cells.lookup x=some c->c<n):
  Bq (cellsFrom n scope.names (dU X.env scope.names []))/\∀x c,(cellsFrom n scope.names (dU X.env scope.names [])).lookup x=some c->X.env.cells.lookup x=some c\/n<=c:=by
 have hc:∀x c,(dU X.env scope.names []).lookup x=some c->X.env.cells.lookup x=some c:=fun x c e=>by
  rcases cv scope.names [] c (dN ok S) e with q|q
  .cases q
  .exact q
 obtain⟨h1,h2⟩:=vB scope.names n (dU X.env scope.names []) (fun x y c e1 e2=>ok.inj x y c (hc x c e1) (hc y c e2)) (fun x c e=>hb x c (hc x c e));exact⟨h1,fun x c e=>(h2 x c e).imp (hc x c) id⟩
theorem wA{h4:Heap}{m:Str->Option Value}{t':Nat}(I:Inv X pins σ H s)(S:eT X scope tn js)(hf:∀b∈fp,nK X pins H b/\b<s.heap.objs.size)(hns:h4.Ns s.heap.objs.size m)
  (hk:∀b o,s.heap.get? b=some o->h4.get? b=some o) (hcell:∀x c,(cellsFrom (s.heap.objs.size+1) scope.names (dU X.env scope.names [])).lookup x=some c->X.env.cells.lookup x=some c\/h4.IsCell c none):
  Inv (gb X (cN X tn js) scope s.heap.objs.size s H fp) [] (cσ σ tn js) H {s with heap:=h4,toks:=t'}:=by
 have hlt:∀x c,X.env.cells.lookup x=some c->c<s.heap.objs.size+1:=fun x c e=>by
  obtain⟨v,q⟩:=I.cell x c e;exact Nat.lt_succ_of_lt q.lt
 obtain⟨hinj,hcs⟩:=wu I.ok S hlt;have hC:H s.heap.objs.size=none:=I.hok.fresh (Nat.le_refl _)
 refine ⟨⟨I.ok.mod,S.kind,I.ok.glob,I.ok.blt,Nat.le_refl _,hinj,fun x hx=>?_,fun x c hx e=>?_,I.ok.hd,I.ok.frames,.inl rfl,fun b hb=>⟨Nat.ne_of_lt (hf b hb).2,fun x c e z=>?_⟩,I.bs,Nat.le_trans I.ok.bsz I.sz,fun b o e hb=>?_,fun b hb z=>?_,I.stack,I.vg⟩,
  rfl,I.bare,Un.kept hk,⟨m,hns,fun i x v h1 h2 h3=>?_⟩,fun x c e=>?_,hC,fun x c e=>?_,(fun p hp=>nomatch hp),I.hok.kept hk,?_⟩
 .-- has
  have hx':(relabel scope X.env).names.lookup x=some .cell\/(relabel scope X.env).names.lookup x=some .free:=hx
  have own:scope.names.lookup x=some .cell->∃c,(cellsFrom (s.heap.objs.size+1) scope.names (dU X.env scope.names [])).lookup x=some c:=fun q =>
   Option.isSome_iff_exists.mp (PySem.W.cellsFrom_some scope.names _ _ (.inl q))
  have D9:scope.names.lookup x=some .free->∃c,(cellsFrom (s.heap.objs.size+1) scope.names (dU X.env scope.names [])).lookup x=some c:=fun q =>
   Option.isSome_iff_exists.mp (PySem.W.cellsFrom_some scope.names _ _ (.inr (Option.isSome_iff_exists.mpr (l4 scope.names [] (.inl (aY q))))))
  rcases hx' with q|q
  .obtain⟨k0,q1,q2⟩:=dj q;rcases q2 with q2|q2
   .subst q2;exact own q1
   .subst q2;exact D9 q1
  .obtain⟨k0,q1,q2⟩:=dj q;rcases q2 with q2|q2
   .subst q2;exact D9 q1
   .subst q2;exact D9 q1
 .-- cab
  rcases hcs x c e with q|q
  .exfalso;have hx':(match scope.names.lookup x with|some .cell=>true|_=>false)=true:=hx;split at hx'
   .rename_i hl
    -- an own cell is new
    have hb:∀y c',(dU X.env scope.names []).lookup y=some c'->c'<s.heap.objs.size+1:=fun y c' e'=>by
     rcases cv scope.names [] c' (dN I.ok S) e' with z|z
     .cases z
     .exact hlt y c' z
    have nof:(dU X.env scope.names []).lookup x=none:=by
     cases z:(dU X.env scope.names []).lookup x with
     |none=>rfl
     |some c' =>
      exfalso
      have mem:∀(names:List (Str×NameKind)) (acc:List (Str×Addr)),(∃c',(dU X.env names acc).lookup x=some c')->(x,NameKind.free)∈names\/∃c',acc.lookup x=some c':=by
       intro names
       induction names with
       |nil=>exact fun acc z=>.inr z
       |cons p r ih =>
        obtain⟨n,k⟩:=p;intro acc z;unfold dU at z;rcases ih _ z with z|⟨c',z⟩
        .exact .inl (List.mem_cons_of_mem _ z)
        .split at z
         .rename_i hk;rcases aQ z with⟨e1,_⟩|⟨_,e2⟩
          .left;have:k=NameKind.free:=by simpa using hk
           rw[e1,this];exact List.mem_cons_self
          .exact .inr ⟨c',e2⟩
         .exact .inr ⟨c',z⟩
      rcases mem scope.names [] ⟨c',z⟩ with z|⟨_,z⟩
      .have:=S.one _ z _ (aY hl) rfl;cases this
      .cases z
    have hh:=vB scope.names (s.heap.objs.size + 1) (dU X.env scope.names []) (fun a b c' e1 e2=>by
     rcases cv scope.names [] c' (dN I.ok S) e1 with z|z
     .cases z
     .rcases cv scope.names [] c' (dN I.ok S) e2 with z'|z'
      .cases z'
      .exact I.ok.inj a b c' z z') hb
    rcases hh.2 x c e with z|z
    .rw[nof] at z;cases z
    .exact absurd (hlt x c q) (Nat.not_lt.mpr z)
   .cases hx'
  .exact Nat.le_of_succ_le q
 .-- exf
  obtain⟨⟨f0,f1,f2,f3,f4,f5⟩,hbl⟩:=hf b hb;rcases hcs x c e with q|q
  .exact f4 x c q z
  .rw[z] at q;exact absurd hbl (Nat.not_lt.mpr (Nat.le_of_succ_le q))
 .-- noex
  obtain⟨⟨f0,f1,f2,f3,f4,f5⟩,hbl⟩:=hf b hb;rcases f3 with q|q
  .exact I.ok.noex b o e q
  .exact absurd (Nat.lt_of_lt_of_le (Heap.lt_size e) (Nat.le_trans I.ok.bsz q)) (Nat.lt_irrefl _)
 .-- exfs
  obtain⟨⟨f0,f1,f2,f3,f4,f5⟩,hbl⟩:=hf b hb;rcases List.mem_cons.mp (I.pG b z) with q|q
  .exact f1 q
  .exact f2 q
 .-- the names
  have h2':(cσ σ tn js)[i]?=some (some v):=h2;have h1':(cN X tn js)[i]?=some x:=h1;unfold cσ at h2';unfold cN at h1';by_cases hi:i<tn.length
  .rw[List.getElem?_append_left (by simpa using hi),List.getElem?_map] at h2';cases q:tn[i]? with
   |none=>rw[q] at h2';cases h2'
   |some y=>rw[q] at h2';cases h2'
  .rw[List.getElem?_append_right (by simpa using hi),List.getElem?_map,List.length_map] at h2';rw[List.getElem?_append_right (by simpa using hi),List.getElem?_map] at h1';cases q:js[i-tn.length]? with
   |none=>rw[q] at h2';cases h2'
   |some j =>
    rw[q] at h2' h1';obtain⟨y,hy1,hy2⟩:=S.js j (List.mem_of_getElem? q)
    have exy:y=x:=by
     have:some ((X.N[j]?).getD ("":Str))=some x:=h1';rw[hy1] at this;exact Option.some.inj this
    subst exy
    have hv:σ[j]?=some (some v):=by
     have:some ((σ[j]?).getD none)=some (some v):=h2';cases z:σ[j]? with
     |none=>rw[z] at this;cases this
     |some o=>rw[z] at this;exact congrArg some (Option.some.inj this)
    have kfr:=(S.D9 _ (aY hy2) rfl).2;have vis:Ee X.env.scope y:=kfr.elim (fun z=>.inr (.inl z)) fun z=>.inr (.inr z);obtain⟨m0,hn0,hl0⟩:=I.loc;obtain⟨u,ru,lk⟩:=hl0 j y v hy1 hv vis;refine⟨u,ru,.inr ⟨?_,?_⟩⟩
    .have h3':(relabel scope X.env).names.lookup y=some .local\/(relabel scope X.env).names.lookup y=some .cell\/(relabel scope X.env).names.lookup y=some .free:=h3;rcases h3' with z|z|z
     .obtain⟨k0,z1,z2⟩:=dj z;rw[hy2] at z1;cases z1;rcases z2 with z2|z2
      .cases z2
      .exfalso
       -- free is relabelled to cell or stays
       have:=z
       have nolocal:∀{names:List (Str×NameKind)},(∀p∈names,p.1=y->p.2=.free)->(names.map fun(n,k)=>if (k==NameKind.free&&X.env.scope.kind==.function&&X.env.kindOf n==some .cell) then (n,NameKind.cell) else (n,k)).lookup y≠some .local:=by
        intro names
        induction names with
        |nil=>intro _ w;simp at w
        |cons p r ih =>
         obtain⟨n,k⟩:=p;intro hp w;rw[List.map_cons] at w;have w':List.lookup y ((if (k==NameKind.free&&X.env.scope.kind==.function&&X.env.kindOf n==some .cell)=true then (n,NameKind.cell) else (n,k))::_)=some .local:=w;have fstn:∀b:Bool,(if b=true then (n,NameKind.cell) else (n,k))=(n,if b=true then NameKind.cell else k):=fun b=>by cases b<;>rfl
         rw[fstn] at w';rcases aQ w' with⟨e1,e2⟩|⟨e1,e2⟩
         .have hk:k=.free:=hp (n,k) List.mem_cons_self e1.symm;subst hk;split at e2<;>cases e2
         .exact ih (fun p hp'=>hp p (List.mem_cons_of_mem _ hp')) e2
       exact nolocal (fun p hp e=>S.one p hp _ (aY hy2) e) z
     .exact .inl z
     .exact .inr z
    .have lk':∃c,X.env.cells.lookup y=some c/\s.heap.IsCell c (some u):=by
      rcases lk with⟨z,_⟩|⟨_,z⟩
      .exfalso;rcases kfr with q|q
       .rw[q] at z;cases z
       .rw[q] at z;cases z
      .exact z
     obtain⟨c,hc1,hc2⟩:=lk';refine⟨c,?_,hc2.keeps hk⟩;show(cellsFrom (s.heap.objs.size+1) scope.names (dU X.env scope.names [])).lookup y=some c;rw[p9 scope.names _ _ y fun p hp e=>by(rw[S.one p hp _ (aY hy2) e];intro z;cases z)];obtain⟨c',hc'⟩:=l4 (env:=X.env) scope.names [] (.inl (aY hy2));rcases cv scope.names [] c' (dN I.ok S) hc' with z|z
     .cases z
     .rw[hc1] at z;cases z;exact hc'
 .-- cells are there
  rcases hcell x c e with q|q
  .obtain⟨v,z⟩:=I.cell x c q;exact⟨v,z.keeps hk⟩
  .exact⟨none,q⟩
 .-- and free
  rcases hcs x c e with q|q
  .exact I.freeC x c q
  .exact I.hok.fresh (Nat.le_of_succ_le q)
 .show(cσ σ tn js).length=(cN X tn js).length;unfold cσ cN;simp
end
section
variable{M:Model}{A:Around}{E:Value->Shared->Prop}{s:Shared}
theorem qN{scope:Scope}{globals:Addr}{cl:List (Str×Addr)}{qual:Str}{env:Env}{Q:Env->Shared->Prop}
  (hQ:∀ h',h'.Ns s.heap.objs.size (fun _=>none)->(∀ b o,s.heap.get? b=some o->h'.get? b=some o)->(∀ x c,(cellsFrom (s.heap.objs.size + 1) scope.names cl).lookup x=some c->cl.lookup x=some c\/h'.IsCell c none) ->
   Q {scope,locals:=s.heap.objs.size,globals,cells:=cellsFrom (s.heap.objs.size+1) scope.names cl,qual,func:=none,code:=env.code,frame:=env.frame,builtins:=env.builtins} {s with heap:=h'}):
  wpAny M A (newFunctionEnv scope globals cl [] qual none .none (some env)) Q E s:=by
 simp only[newFunctionEnv,Option.isSome_some,if_true];refine wpAny_bind (wpAny_alloc ?_);refine wpAny_bind (wpAny_layCells _ (fun name kind cells=>by cases hkc:kind==NameKind.cell<;>simp[hkc]) _ _ _ _ ?_);rw[show({s with heap:=s.heap.push {cls:=.type "dict",data:=.dict #[]}}:Shared).heap.objs.size=s.heap.objs.size+1 from Heap.size_push ..];refine wpAny_bind ?_;rw[List.forIn_nil];refine wpAny_pure (wpAny_pure ?_);refine hQ _ ((Heap.Ns.new s.heap (.type "dict")).keeps (pushCells_keeps _ _)) (fun b o e=>pushCells_keeps _ _ b o (Heap.get?_push_of_some _ e)) fun x c e=>?_;refine pF scope.names _ cl x c ?_;rw[Heap.size_push];exact e
end
section
variable{prog:Program}{w:World}{A:Around}{R:Result->Shared->Prop}{s:Shared}
theorem wj{elt target iter:Expr}{ifs:List Expr}{scope:Scope}{pos:Pos}{it acc:Value}{env:Env}(I:Nat->Shared->Prop)
  (turn:∀ n s,I n s->wpAny (model prog w) A (pyNext it) (fun r s₁=>match r with
   |none=>R (.ok .next) s₁
   | some v=>wpAny (model prog w) A (letOwnedTupleGo target it v) (fun _ s₂'=>wpAny (model prog w) A (assign target env v) (fun _ s₂ =>
     wpAny (model prog w) A (forIn ifs true fun c r=>if r=true then do let ok <- isTrue c env (eval c env); pure (ForInStep.yield ok) else pure (ForInStep.yield r)) (fun ok s₃ =>
      if ok=true then wpAny (model prog w) A (eval elt env) (fun x s₄ =>
       wpAny (model prog w) A (call (.builtin "list.append") [acc,x]) (fun _ s₅=>∃m,m<n/\I m s₅) (fun _ _=>False) s₄) (fun _ _=>False) s₃
      else ∃m,m<n/\I m s₃) (fun _ _=>False) s₂) (fun _ _=>False) s₂') (fun _ _=>False) s₁) (fun _ _=>False) s)
  (n:Nat) (h:I n s):
  codeAny (model prog w) A (.compLoop (.ListComp elt [⟨target,iter,ifs,0⟩] scope pos) 0 it acc env) R s:=by
 refine codeAny_loop rfl I (fun n s hI=>?_) n h;show wpAny _ A ((compTurn (.ListComp elt [⟨target,iter,ifs,0⟩] scope pos) 0 it acc env).onRaise (fun x=>do noteFrame x env;theTreesLotGoes x)) _ _ s;refine wpAny_noted ?_;rw[compTurn_list];refine wpAny_bind (wpAny_standAt (wpAny_bind (wpAny_mono (turn n s hI) (fun r s₁ h₁=>?_) fun _ _ z=>z.elim)));cases r with
 |none=>exact wpAny_pure h₁
 |some v =>
  refine wpAny_bind (wpAny_mono h₁ (fun _ s₂' h₂'=>?_) fun _ _ z=>z.elim);refine wpAny_bind (wpAny_mono h₂' (fun _ s₂ h₂=>wpAny_bind (wpAny_mono h₂ (fun ok s₃ h₃=>?_) fun _ _ z=>z.elim)) fun _ _ z=>z.elim);cases ok with
  |false=>exact wpAny_pure ⟨rfl,h₃⟩
  |true =>
   exact wpAny_bind (wpAny_bind (wpAny_mono h₃ (fun x s₄ h₄=>wpAny_bind (wpAny_mono h₄ (fun _ s₅ h₅=>wpAny_pure (wpAny_pure ⟨rfl,h₅⟩)) fun _ _ z=>z.elim)) fun _ _ z=>z.elim))
end
def PF(X:Cx)(ifs:List Expr)(t:TT):Prop :=
 ∀(pins:List (Addr×Obj)) (s:Shared) (σ:St) (H:Hp) (Q:Bool->Hp->Prop),Inv X pins σ H s->t σ H Q ->
  wpAny (model X.prog X.w) X.A (forIn ifs true fun c r=>if r=true then do let ok <-isTrue c X.env (eval c X.env);pure (ForInStep.yield ok) else pure (ForInStep.yield r)) (TP X pins σ Q) X.xe s
theorem DX{X:Cx}:PF X [] (fun _ H Q=>Q true H):=fun pins s σ H Q I q=>wpAny_tests_nil ⟨H,I,q⟩
theorem EV{X:Cx}{c:Expr}{t:TT}(h:PT X c t):PF X [c] t:=fun pins s σ H Q I q=>wpAny_tests_one (h pins s σ H Q I q)
def uX(σ:St)(tn:List Str)(js:List Nat)(σ':St):Prop:=(∀(j:Nat) (v:V),tn.length<=j->(cσ σ tn js)[j]?=some (some v)->σ'[j]?=some (some v))/\σ'.length=(cσ σ tn js).length
def Hv(wi:TI)(tn:List Str)(js:List Nat)(g:TG)(tt:TT)(te:TE):TE:=fun σ H Q=>wi σ H fun J H1=>∀D,H1 D=none->∃W:Nat->Nat->Hp->List V->Prop,(∃m,W 0 m (upd H1 D (.lst [])) []) /\
 ∀ i m H xs,W i m H xs->H D=some (.lst xs)/\((J.stop i H/\Q (.ref D) H)\/(J.go i H/\∀ x H',J.yld i H x H'->g x (cσ σ tn js) H' fun σ2 H2=>uX σ tn js σ2/\tt σ2 H2 fun ok H3 =>
  if ok=true then te σ2 H3 fun y H4=>H4 D=some (.lst xs)/\xs.length<sizeLine/\∃m',m'<m/\W (i+1) m' (upd H4 D (.lst (xs++[y]))) (xs++[y])
  else ∃m',m'<m/\W (i+1) m' H3 xs))
section
variable{X:Cx}{pins:List (Addr×Obj)}{σ:St}{H:Hp}{s:Shared}{scope:Scope}{tn:List Str}{js:List Nat}{elt target iter:Expr}{ifs:List Expr}{pos:Pos}{wi:TI}{g:TG}{tt:TT}{te:TE}
theorem ov{Q:VK}{RR:Value->Addr->Result->Shared->Prop}(S:eT X scope tn js)(hc:X.calm=true)(hi:PI X target iter wi)
  (hb:∀C s H fp,PG (gb X (cN X tn js) scope C s H fp) target g/\PF (gb X (cN X tn js) scope C s H fp) ifs tt/\PE (gb X (cN X tn js) scope C s H fp) elt te)
  (I:Inv X pins σ H s) (h:Hv wi tn js g tt te σ H Q)
  (hRR:∀D C s' H' oC m,Inv X (pins++[(C,oC)]) σ H' s'->s'.heap.get? C=some oC->s'.heap.Ns C m->X.s₀.heap.objs.size<=C->C≠X.env.locals->(∀x c,X.env.cells.lookup x=some c->c≠C)->(∀p∈X.pn++pins,p.1≠C)->Q (.ref D) H'->RR (.ref D) C (.ok .next) s'):
  wpAny (model X.prog X.w) X.A (eval iter X.env) (fun x s₁=>wpAny (model X.prog X.w) X.A (pyIter x) (fun it s₂=>wpAny (model X.prog X.w) X.A (newList []) (fun acc s₃ =>
   wpAny (model X.prog X.w) X.A (newFunctionEnv scope X.env.globals (dU X.env scope.names []) [] X.env.qual none .none (some X.env)) (fun cenv s₄ =>
    codeAny (model X.prog X.w) X.A (.compStart (.ListComp elt [⟨target,iter,ifs,0⟩] scope pos) 0 it acc {cenv with scope:=relabel scope X.env}) (RR acc cenv.locals) s₄) X.xe s₃) X.xe s₂) X.xe s₁) X.xe s:=by
 refine bO (hi pins s σ H _ I h) fun v s1 h1=>bO h1 fun itv s2 h2=>?_;obtain⟨it,fp,tnn,J,H2,e,I2,T,st2,f2,hJ⟩:=h2;subst e;refine wpAny_newList ?_;have D0:H2 s2.heap.objs.size=none:=I2.hok.fresh (Nat.le_refl _);obtain⟨W,⟨m0,w0⟩,turn⟩:=hJ s2.heap.objs.size D0;have I3:Inv X pins σ (upd H2 s2.heap.objs.size (.lst [])) {s2 with heap:=s2.heap.push {cls:=.type "list",data:=.seq ([]:List Value).toArray},toks:=s2.toks}:=I2.DO .nil (Nat.zero_le _);generalize hs3:({s2 with heap:=s2.heap.push {cls:=.type "list",data:=.seq ([]:List Value).toArray},toks:=s2.toks}:Shared)=s3 at I3;have s3s:s3.heap.objs.size=s2.heap.objs.size+1:=by rw[<-hs3];exact Heap.size_push ..
 have k23:∀b o,s2.heap.get? b=some o->s3.heap.get? b=some o:=fun b o e=>by rw[<-hs3];exact Heap.get?_push_of_some _ e
 have u23:Un (si X.stack) fp H2 (upd H2 s2.heap.objs.size (.lst [])) s2.heap s3.heap:=Un.laid k23 (Nat.le_refl _) D0;generalize hH3:upd H2 s2.heap.objs.size (.lst [])=H3 at I3 u23 w0;generalize hD:s2.heap.objs.size=D at *
 have fpl:∀b∈fp,b<D:=fun b hb=>by
  obtain⟨o,e,_⟩:=T.obj 0 _ st2 b hb;rw[<-hD];exact Heap.lt_size e
 have f3:∀b∈fp,nK X pins H3 b/\b<s3.heap.objs.size:=fun b hb=>by
  obtain⟨q0,q⟩:=f2 b hb;refine⟨⟨?_,q⟩,by have:=fpl b hb;rw[s3s];exact Nat.lt_succ_of_lt this⟩;rw[<-hH3,aO (Nat.ne_of_lt (fpl b hb))];exact q0
 refine qN fun h4 hns hk hcell=>?_
 have cl0:∀x c,(dU X.env scope.names []).lookup x=some c->X.env.cells.lookup x=some c:=fun x c e=>by
  rcases cv scope.names [] c (dN I.ok S) e with q|q
  .cases q
  .exact q
 have I4:Inv (gb X (cN X tn js) scope s3.heap.objs.size s3 H3 fp) [] (cσ σ tn js) H3 {s3 with heap:=h4,toks:=s3.toks}:=wA I3 S f3 hns hk fun x c e=>(hcell x c e).imp (cl0 x c) id;have st4:tnn 0 h4:=T.keep 0 _ _ st2 fun b hb o e=>hk b o (k23 b o e)
 have fpk:∀{H':Hp},(∀b∈fp,H' b=none)->∀b∈fp,nK (gb X (cN X tn js) scope s3.heap.objs.size s3 H3 fp) [] H' b:=fun hn b hb=>by
  obtain⟨⟨q0,q1,q2,q3,q4,q5⟩,ql⟩:=f3 b hb;refine⟨hn b hb,Nat.ne_of_lt ql,fun z=>?_,.inl hb,fun x c e z=>?_,fun p hp=>nomatch hp⟩
  .rcases List.mem_cons.mp (I3.pG b z) with q|q
   .exact q1 q
   .exact q2 q
  .exact(I4.ok.exf b hb).2 x c e z
 have loop:codeAny (model X.prog X.w) X.A (.compLoop (.ListComp elt [⟨target,iter,ifs,0⟩] scope pos) 0 (.ref it) (.ref D) (gb X (cN X tn js) scope s3.heap.objs.size s3 H3 fp).env) (RR (.ref D) s3.heap.objs.size) {s3 with heap:=h4,toks:=s3.toks}:=by
  refine wj (fun n s'=>∃i σ' H' xs,Inv (gb X (cN X tn js) scope s3.heap.objs.size s3 H3 fp) [] σ' H' s'/\tnn i s'.heap/\(∀b∈fp,H' b=none)/\W i n H' xs/\uX σ tn js σ') ?_ m0
   ⟨0,_,H3,[],I4,st4,fun b hb=>(f3 b hb).1.1,w0,fun _ _ _ z=>z,rfl⟩
  rintro n s5 ⟨i,σ5,H5,xs,I5,st5,fr5,w5,kσ,lσ⟩
  -- the state with the targets forgotten
  have I5':Inv (gb X (cN X tn js) scope s3.heap.objs.size s3 H3 fp) [] (cσ σ tn js) H5 s5:=I5.weak lσ.symm fun j v e=>by
   by_cases hj:tn.length<=j
   .exact kσ j v hj e
   .exfalso;unfold cσ at e;rw[List.getElem?_append_left (by simpa using Nat.lt_of_not_le hj),List.getElem?_map] at e;cases q:tn[j]? with
    |none=>rw[q] at e;cases e
    |some y=>rw[q] at e;cases e
  obtain⟨hDx,hturn⟩:=turn i n H5 xs w5;rcases hturn with⟨stop,q⟩|⟨go,step⟩
  .refine bO (T.done (gb X (cN X tn js) scope s3.heap.objs.size s3 H3 fp) rfl rfl rfl hc i [] s5 _ H5 (fun _ _=>False) I5' (fpk fr5) st5 stop) fun r s6 ⟨hr,I6⟩=>?_;subst hr
   -- back to the def's own state
   have u36:Un (si X.stack) fp H3 H5 s3.heap s6.heap:=I6.base;have u26:Un (si X.stack) fp H2 H5 s2.heap s6.heap:=u23.trans u36;have I6X:Inv X pins σ H5 s6:=I2.F1 (I6.os.trans (show s3.os=s2.os by rw[<-hs3])) u26 I6.hok I6.bare fun b hb=>⟨(f2 b hb).2.2.2.1,(f2 b hb).2.1,(f2 b hb).2.2.2.2.1,(f2 b hb).2.2.2.2.2⟩;obtain⟨mm,hnn,_⟩:=I6.loc;obtain⟨oC,es,ep,hoC,rC⟩:=id hnn;have Cge:D<=s3.heap.objs.size:=by rw[s3s];exact Nat.le_succ _
   have lt2:∀{b:Addr} {o:Obj},s2.heap.get? b=some o->b≠s3.heap.objs.size:=fun e z=>absurd (Heap.lt_size e) (Nat.not_lt.mpr (by rw[hD,z];exact Cge))
   have cC:∀x c,X.env.cells.lookup x=some c->c≠s3.heap.objs.size:=fun x c e z=>by
    obtain⟨v,o,q1,_⟩:=I2.cell x c e;exact lt2 q1 z
   have pC:∀p∈X.pn++pins,p.1≠s3.heap.objs.size:=fun p hp=>lt2 (I2.pin p hp).1
   have lC:s3.heap.objs.size≠X.env.locals:=fun z=>by
    have:=I2.lt;rw[hD,<-z] at this;exact absurd this (Nat.not_lt.mpr Cge)
   refine hRR D s3.heap.objs.size s6 H5 oC mm (I6X.jQ fun p hp=>?_) hoC hnn (Nat.le_trans I2.sz (by rw[hD];exact Cge)) lC cC pC q;rcases List.mem_append.mp hp with hp|hp
   .exact I6X.pin p (List.mem_append_right _ hp)
   .have:p=(s3.heap.objs.size,oC):=by simpa using hp
    subst this;refine⟨hoC,I6.free,lC,fun z=>?_,fun v z=>?_⟩
    .have:=I2.ok.kg.mem z;have hz:=I2.kg.mem z;obtain⟨_,o,hz,_⟩:=hz;exact lt2 hz rfl
    .have:=rC.1;rw[z] at this;cases this
  .refine bO (T.item (gb X (cN X tn js) scope s3.heap.objs.size s3 H3 fp) rfl rfl rfl hc i [] s5 _ H5 (fun _ _=>False) I5' (fpk fr5) st5 go) fun r s6 ⟨u,hr,h6⟩=>?_;subst hr;refine bO h6 fun _ s7 ⟨x,H7,I7,r7,y7,st7,fr7⟩=>?_;have I7':=I7.pinned (fpk fr7) (T.obj _ _ st7);refine bO ((hb s3.heap.objs.size s3 H3 fp).1 _ s7 _ H7 x u _ I7' r7 (step x H7 y7)) fun _ s8 ⟨σ8,H8,I8,kc8,q8⟩=>?_
   -- what the pins say of the iterator,later
   have again:∀{σ':St} {H':Hp} {s':Shared} {xs':List V} {m':Nat},Inv (gb X (cN X tn js) scope s3.heap.objs.size s3 H3 fp) ([]++mM fp s7.heap) σ' H' s'->m'<n->W (i+1) m' H' xs'->uX σ tn js σ' ->
     ∃m,m<n/\∃i σ' H' xs,Inv (gb X (cN X tn js) scope s3.heap.objs.size s3 H3 fp) [] σ' H' s'/\tnn i s'.heap/\(∀b∈fp,H' b=none)/\W i m H' xs/\uX σ tn js σ':=fun {σ' H' s' xs' m'} I' hm w' k'=>by
    refine⟨m',hm,i+1,σ',H',xs',I'.jy,T.keep _ _ _ st7 fun b hb o e=>(I'.pin (b,o) (List.mem_append_right _ (List.mem_append_right _ (gC hb e)))).1,fun b hb=>?_,w',k'⟩;obtain⟨o,e,d⟩:=T.obj _ _ st7 b hb;exact(I'.pin (b,o) (List.mem_append_right _ (List.mem_append_right _ (gC hb e)))).2.1
   refine bO ((hb s3.heap.objs.size s3 H3 fp).2.1 _ s8 σ8 H8 _ I8 q8) fun ok s9 ⟨H9,I9,q9⟩=>?_;cases ok with
   |false =>
    have q9':∃m',m'<n/\W (i+1) m' H9 xs:=by
     have z:=q9;rw[if_neg Bool.false_ne_true] at z;exact z
    obtain⟨m',hm,w9⟩:=q9';exact again I9 hm w9 kc8
   |true =>
    rw[if_pos rfl] at q9 ⊢;refine bO ((hb s3.heap.objs.size s3 H3 fp).2.2 _ s9 σ8 H9 _ I9 q9) fun yv s10 ⟨y,H10,I10,r10,hD10,hz,m',hm,w10⟩=>?_
    exact bO (n9 _ s10 σ8 H10 (.ref D) [y] (.ref D) [yv] (fun _ H'=>H'=upd H10 D (.lst (xs++[y]))) I10 rfl (.cons r10 .nil) ⟨D,xs,y,rfl,rfl,hD10,hz,rfl⟩) fun _ s11 ⟨_,H11,I11,_,e11⟩=>by
     subst e11;exact again I11 hm w10 kc8
 exact codeAny_compStart_list loop (T.self _ 0 _ _ _ st4 loop)
theorem FA(S:eT X scope tn js)(hc:X.calm=true)(hi:PI X target iter wi)
  (hb:∀C s H fp,PG (gb X (cN X tn js) scope C s H fp) target g/\PF (gb X (cN X tn js) scope C s H fp) ifs tt/\PE (gb X (cN X tn js) scope C s H fp) elt te)
  (hs:∀x,foldedSetIterable iter X.env x=pure x:=by intro _;rfl):PE X (.ListComp elt [⟨target,iter,ifs,0⟩] scope pos) (Hv wi tn js g tt te):=by
 intro pins s σ H Q I h;rw[eval_ListComp];refine wpAny_comprehension_free (use:=none) rfl hs (gR (dN I.ok S)) S.kind S.loc ?_;refine ov (RR:=fun acc C=>compPost (model X.prog X.w) X.A X.xe none (EP X pins σ Q) acc C) S hc hi hb I h ?_;intro D C s' H' oC m I' hoC hn h1 h2 h3 h4 q;refine⟨m,hn,fun h' sb=>⟨.ref D,H',?_,rfl,q⟩⟩;have I2:Inv X pins σ H' s':=I'.jQ fun p hp=>I'.pin p (List.mem_append_right _ (List.mem_append_left _ hp));exact I2.turned (t':=s'.toks) (fun b o hb e=>sb.extBut b o hb e) (I'.pin (C,oC) (List.mem_append_right _ (List.mem_append_right _ (by simp)))).2.1 (Ne.symm (Ne.symm h2)) (.inr h1) h3 h4
theorem zQ{i:Nat}{y:Str}{py spos:Pos}(hN:X.N.Nodup)(hiN:X.N[i]?=some y)(hy:Loc X.env.scope y)(hf:X.fn y=true\/X.env.scope.names.lookup y=some .local)(S:eT X scope tn js)(hc:X.calm=true)(hi:PI X target iter wi)
  (hb:∀C s H fp,PG (gb X (cN X tn js) scope C s H fp) target g/\PF (gb X (cN X tn js) scope C s H fp) ifs tt/\PE (gb X (cN X tn js) scope C s H fp) elt te)
  (hsw:swapsWith (.ListComp elt [⟨target,iter,ifs,0⟩] scope pos) (some (.Name y py)) spos.line X.env=pure true)
  (hs:∀x,foldedSetIterable iter X.env x=pure x:=by intro _;rfl):PS X (.Assign [.Name y py] (.ListComp elt [⟨target,iter,ifs,0⟩] scope pos) spos) (fun D σ H=>Hv wi tn js g tt te σ H fun v H1=>D.nx (σ.set i (some v)) H1):=by
 intro pins s σ H De I h;rw[exec_Assign_Name_used _ _ _ _ hsw];refine wpAny_bind (wpAny_standAt (wpAny_bind ?_));show wpAny _ X.A (do let _ <-comprehension (.ListComp elt [⟨target,iter,ifs,0⟩] scope pos) scope X.env _ (newList []) false (eval iter X.env) (some (assign (.Name y py) X.env))) _ _ s;refine wpAny_bind (wpAny_mono (wpAny_comprehension_free (use:=some (assign (.Name y py) X.env)) (Q:=fun _ s'=>SP X pins De .next s') rfl hs (gR (dN I.ok S)) S.kind S.loc ?_) (fun _ s' hq=>wpAny_pure (wpAny_pure hq)) fun _ _ e=>e);refine ov (RR:=fun acc C=>compPost (model X.prog X.w) X.A X.xe (some (assign (.Name y py) X.env)) (fun _ s'=>SP X pins De .next s') acc C) S hc hi hb I h ?_;intro D C s' H' oC m I' hoC hn h1 h2 h3 h4 q;show wpAny _ X.A (assign (.Name y py) X.env (.ref D)) _ _ _;refine bO (de (pos:=py) hN hiN hy hf _ s' σ H' (.ref D) (.ref D) (fun σ2 H2=>σ2=σ.set i (some (.ref D))/\H2=H') I' rfl ⟨rfl,rfl⟩) fun _ s'' ⟨σ2,H2,I2,e1,e2⟩=>?_;subst e1 e2;obtain⟨g1,g2,_⟩:=I2.pin (C,oC) (List.mem_append_right _ (List.mem_append_right _ (by simp)));refine⟨m,hn.at' fun o e=>?_,fun h' sb=>?_⟩
 .rw[hoC] at e;cases e;exact g1
 .have I3:Inv X pins (σ.set i (some (.ref D))) H2 s'':=I2.jQ fun p hp=>I2.pin p (List.mem_append_right _ (List.mem_append_left _ hp));exact⟨_,H2,I3.turned (t':=s''.toks) (fun b o hb e=>sb.extBut b o hb e) g2 h2 (.inr h1) h3 h4,q⟩
end
section
variable{X:Cx}
theorem AG:i7 X (binaryOp .Mult) (rI IntMulOk fun i j=>.int (i*j)):=Gv fun _ _ _ _ _ _ _ hc q=>mul_int q hc
def vI(_ j:Int):Prop:=j≠0/\j.natAbs.log2<9000
theorem zj:i7 X (binaryOp .FloorDiv) (rI vI fun i j=>.int (i.fdiv j)):=Gv fun _ _ _ _ _ _ _ hc q=>floordiv_int hc.1 q (.inl (PyProof.noPylong_of_log2 hc.2))
def Fg(lo c:Int)(n:Nat):It:=⟨fun i _=>i<n,fun i H x H'=>H'=H/\x=.int (lo+i*c),fun i _=>n<=i⟩
theorem qT{P:Program}{w:World}{K:PySem.W.Frag}{tg:Expr}(it:Addr)(lo c:Int)(n:Nat):Turn P w K tg (Fg lo c n) [it] it (fun i h=>IsRangeIter h it (lo+(i:Nat)*c) ((n:Int)-(i:Nat)) c) where
 mem:=by simp
 obj:=fun i h st b hb=>by
  have e:b=it:=by simpa using hb
  subst e
  exact ⟨_,st,fun v z=>by
   have z':Data.fields _=Data.cell v:=z
   cases z'⟩
 keep:=fun i h h' st k=>k it (by simp) _ st
 item:=by
  intro X hP hw hK hc i pins s σ H E I hf st hg;subst hP hw hK;obtain⟨f0,f1,f2,f3,f4,f5⟩:=hf it (by simp);have W:=Walks.range (prog:=X.prog) (w:=X.w) (I.ok.hd hc) it lo c n;refine W.item i s _ _ hg st fun v h' tk hv st' kk=>?_;obtain⟨t,rfl⟩:=hv;have I1:Inv X pins σ H {s with heap:=h',toks:=tk}:=I.turned (fun b o hb e=>kk b o (by simpa using hb) e) f0 f1 f3 f4 f5;exact⟨_,rfl,vR (s:={s with heap:=h',toks:=tk}) (n:="range_iterator") st' rfl rfl (by decide) ⟨.int (lo+i*c),H,I1,⟨t,rfl⟩,⟨rfl,rfl⟩,st',fun b hb=>(hf b hb).1⟩⟩
 done:=by
  intro X hP hw hK hc i pins s σ H E I hf st hg;subst hP hw hK;obtain⟨f0,f1,f2,f3,f4,f5⟩:=hf it (by simp);exact wpAny_pyNext_range_end (I.ok.hd hc) st (by have:n<=i:=hg;omega) fun h' eb=>⟨rfl,I.turned (t':=s.toks) (fun b o hb e=>eb b o hb e) f0 f1 f3 f4 f5⟩
 self:=fun _ _ _ _ _ st h=>wpAny_pyIter_rangeiter st h
theorem B3{a b c:Int}(ha:-(2^62)<=a)(ha':a<2^62)(hb:-(2^62)<=b)(hb':b<2^62)(hc:c≠0)(hc1:-1000<=c)(hc2:c<=1000):Builtin.Range.small a b c=true:=by
 have h1:=rangeSize_toNat a b c;have h2:=rangeSize_toNat_le a b c;unfold Builtin.Range.small;generalize Builtin.Range.rangeSize a b c=r at *;simp only[Builtin.Range.rangeFitsLong,Bool.and_eq_true,Bool.or_eq_true,decide_eq_true_eq,beq_iff_eq];refine⟨⟨⟨⟨⟨by omega,by omega⟩,by omega,by omega⟩,by omega,by omega⟩,by omega,by omega⟩,?_⟩;right;split<;>simp only[Bool.and_eq_true,decide_eq_true_eq]<;>omega
variable{tg:Expr}
theorem wx{pins:List (Addr×Obj)}{σ:St}{H:Hp}{s:Shared}{R:It->Hp->Prop}{E:Value->Shared->Prop}{lo hi c:Int}{t u v:Tok}{tk:Nat}(I:Inv X pins σ H s)(h1:-(2^62)<=lo)(h2:lo<2^62)(h3:-(2^62)<=hi)(h4:hi<2^62)
  (c0:c≠0) (c1:-1000<=c) (c2:c<=1000)
  (q:R (Fg lo c (Builtin.Range.rangeSize lo hi c).toNat) H):wpAny (model X.prog X.w) X.A (pyIter (.ref s.heap.objs.size)) (Ia X pins σ tg R) E {s with heap:=s.heap.push {cls:=.type "range",data:=.fields #[.int lo t,.int hi u,.int c v]},toks:=tk}:=by
 refine wpAny_pyIter_range (IsRange.new ..) (B3 h1 h2 h3 h4 c0 c1 c2) ?_;have I1:Inv X pins σ H {s with heap:=s.heap.push {cls:=.type "range",data:=.fields #[.int lo t,.int hi u,.int c v]},toks:=tk}:=I.kept fun b o e=>Heap.get?_push_of_some _ e
 refine ⟨(s.heap.push { cls:=.type "range",data:=.fields #[.int lo t,.int hi u,.int c v] }).objs.size,[(s.heap.push { cls:=.type "range",data:=.fields #[.int lo t,.int hi u,.int c v] }).objs.size],_,_,H,rfl,
  I1.kept (t':=tk) fun b o e=>Heap.get?_push_of_some _ e,qT _ lo c (Builtin.Range.rangeSize lo hi c).toNat,?_,fun b hb=>?_,q⟩
 .have e1:lo+((0:Nat):Int)*c=lo:=by simp
  have e2:(((Builtin.Range.rangeSize lo hi c).toNat:Nat):Int)-((0:Nat):Int)=Builtin.Range.rangeSize lo hi c:=by have:=rangeSize_toNat lo hi c;omega
  show IsRangeIter _ _ (lo+((0:Nat):Int)*c) ((((Builtin.Range.rangeSize lo hi c).toNat:Nat):Int)-((0:Nat):Int)) c;rw[e1,e2];exact Heap.get?_push_size _ rfl
 .have e:b=(s.heap.push {cls:=.type "range",data:=.fields #[.int lo t,.int hi u,.int c v]}).objs.size:=by simpa using hb
  subst e;exact I1.Ak (Nat.le_refl _) (I1.hok.fresh (Nat.le_refl _))
def G9(ta:TA):TI:=fun σ H R=>ta σ H fun vs H1=>∃i j c:Int,vs=[.int i,.int j,.int c]/\(-(2^62)<=i/\i<2^62/\-(2^62)<=j/\j<2^62)/\(c≠0/\-1000<=c/\c<=1000)/\R (Fg i c (Builtin.Range.rangeSize i j c).toNat) H1
theorem xr{a b c:Expr}{ta:TA}{p pos:Pos}(hg:Gl X "range")(hm:X.mg "range"=none)(ha:PA X [a,b,c] ta)(he:starEach [a,b,c] X.env=(false,eval a X.env)::starEach [b,c] X.env:=by rfl)
  (hpl:(backTo pos (starEach [b,c] X.env)).any (·.1)=false:=by rfl):PI X tg (.Call (.Name "range" p) [a,b,c] [] pos) (G9 ta):=by
 intro pins s σ H R I h;refine Call_ (eO I hg hm boot_range (PyProof.Rows.callWith_type1 (bO (ha pos pins s σ H _ I h) fun us s1 ⟨vs,H1,I1,r1,q1⟩=>?_) he hpl));obtain⟨i,j,c,e,⟨q1,q2,q3,q4⟩,⟨c0,c1,c2⟩,q⟩:=q1;subst e;cases r1 with
 |cons r rr =>
  cases rr with
  |cons r' rr =>
   cases rr with
   |cons r'' rr =>
    cases rr;obtain⟨t,rfl⟩:=r;obtain⟨t',rfl⟩:=r';obtain⟨t'',rfl⟩:=r'';exact call_range_3 c0 (wx I1 q1 q2 q3 q4 c0 c1 c2 q) (.inl (PyProof.noPylong_small (by omega)))
theorem sT{lo c:Int}{n:Nat}{g:TG}{tb:TS}{D:Ends}{σ:St}{H:Hp}(Pv:Nat->St->Hp->Prop)(h0:Pv 0 σ H)
  (hs:∀i σ H,i<n->Pv i σ H->g (.int (lo+i*c)) σ H fun σ2 H2=>tb {D with nx:=Pv (i+1),ct:=Pv (i+1),bk:=D.nx} σ2 H2) (hd:∀σ H,Pv n σ H->D.nx σ H):
  ∃W:Nat->Nat->St->Hp->Prop,(∃m,W 0 m σ H)/\∀i m σ H,W i m σ H ->
   ((Fg lo c n).stop i H/\D.nx σ H)\/((Fg lo c n).go i H/\∃N:St->Hp->Prop,(∀σ' H',N σ' H'->∃m',m'<m/\W (i+1) m' σ' H')/\∀x H',(Fg lo c n).yld i H x H'->g x σ H' fun σ2 H2=>tb {D with nx:=N,ct:=N,bk:=D.nx} σ2 H2):=by
 refine⟨fun i m σ H=>m=n-i/\i<=n/\Pv i σ H,⟨n,by simp,Nat.zero_le _,h0⟩,?_⟩;rintro i m σ H ⟨rfl,hi,p⟩;by_cases hlt:i<n
 .refine .inr ⟨hlt,Pv (i+1),fun σ' H' p'=>⟨n-(i+1),by omega,rfl,hlt,p'⟩,fun x H' y=>?_⟩;obtain⟨e,y⟩:=y;subst e y;exact hs i σ _ hlt p
 .have e:i=n:=by omega
  subst e;exact .inl ⟨Nat.le_refl _,hd σ H p⟩
end
mutual
inductive DR(K:PySem.W.Frag)(H:Hp):V->PyData->Prop
 |non:DR K H .non .none
 |bl (b:Bool):DR K H (.bl b) (.bool b)
 |int (i:Int):DR K H (.int i) (.int i)
 |str (x:Str):DR K H (.str x) (.str x)
 |lst {a:Addr} {xs:List V} {ds:List PyData}:dF K H a xs->wW K H xs ds->DR K H (.ref a) (.list ds)
 |tup {a:Addr} {xs:List V} {ds:List PyData}:sh K H a xs->wW K H xs ds->DR K H (.ref a) (.tuple ds)
inductive wW(K:PySem.W.Frag)(H:Hp):List V->List PyData->Prop
 |nil:wW K H [] []
 |cons {x:V} {xs:List V} {d:PyData} {ds:List PyData}:DR K H x d->wW K H xs ds->wW K H (x::xs) (d::ds)
end
section
variable{X:Cx}{pins:List (Addr×Obj)}{σ:St}{H:Hp}{s:Shared}
mutual
theorem DR.reads(I:Inv X pins σ H s):∀{x:V} {d:PyData} {u:Value},DR X.K H x d->RelV x u->∃as,Reads s.heap u d as
 |_,_,_,.non,r=>by cases r;exact⟨_,.none⟩
 |_,_,_,.bl b,r=>by cases r;exact⟨_,.bool b⟩
 |_,_,_,.int i,r=>by obtain⟨t,rfl⟩:=r;exact⟨_,.int i t⟩
 |_,_,_,.str x,r=>by obtain⟨t,rfl⟩:=r;exact⟨_,.str x t⟩
 |_,_,_,.lst h hs,r=>by
  cases r;obtain⟨its,rv,p,_⟩:=I.list h;obtain⟨as,ra⟩:=wW.reads I hs rv;obtain⟨o,e1,e2,n,e3⟩:=p.isList;exact⟨_,.list e1 e2 e3 (by simpa using ra)⟩
 |_,_,_,.tup h hs,r=>by
  cases r;obtain⟨its,rv,p,_⟩:=I.tuple h;obtain⟨as,ra⟩:=wW.reads I hs rv;obtain⟨o,e1,e2,n,e3⟩:=p;exact⟨_,.tuple e1 e2 e3 (by simpa using ra)⟩
theorem wW.reads(I:Inv X pins σ H s):∀{xs:List V} {ds:List PyData} {us:List Value},wW X.K H xs ds->Vals xs us->∃as,ReadsAll s.heap us ds as
 |_,_,_,.nil,r=>by cases r;exact⟨_,.nil⟩
 |_,_,_,.cons h hs,r=>by
  cases r with
  |cons r1 r2 =>
   obtain⟨as,a⟩:=DR.reads I h r1;obtain⟨bs,b⟩:=wW.reads I hs r2;exact⟨_,.cons a b⟩
end
end
section
variable{X:Cx}
def Ir(K:PySem.W.Frag):R2:=fun x y H Q=>∃d e,DR K H x d/\DR K H y e/\d.canLay0=true/\e.canLay0=true/\d.depth<=60/\Q (.bl (PyData.eqv d e)) H
def HI(K:PySem.W.Frag):R2:=fun x y H Q=>∃d e,DR K H x d/\DR K H y e/\d.canLay0=true/\e.canLay0=true/\d.depth<=60/\Q (.bl (!PyData.eqv d e)) H
theorem Dl(hu:X.A.units+60<cLine):i7 X (compareOp .Eq) (Ir X.K):=by
 intro pins s σ H x y v u Q I rx ry h;obtain⟨d,e,hd,he,c1,c2,dp,q⟩:=h;obtain⟨as,ra⟩:=hd.reads I rx;obtain⟨bs,rb⟩:=he.reads I ry;exact SeqAt.compareEq_reads ra rb c1 c2 (by have:=Nat.min_le_left d.depth e.depth;omega) ⟨.bl _,H,I,rfl,q⟩
theorem Ef(hu:X.A.units+60<cLine):i7 X (compareOp .NotEq) (HI X.K):=by
 intro pins s σ H x y v u Q I rx ry h;obtain⟨d,e,hd,he,c1,c2,dp,q⟩:=h;obtain⟨as,ra⟩:=hd.reads I rx;obtain⟨bs,rb⟩:=he.reads I ry;exact SeqAt.compareNe_reads ra rb c1 c2 (by have:=Nat.min_le_left d.depth e.depth;omega) ⟨.bl _,H,I,rfl,q⟩
end
end L2
namespace L2.EP
open PySem PySem.Spec PyProof.Rows
open Classical in
noncomputable def off(H:Hp)(O:Addr->Prop):Hp:=fun b=>if O b then none else H b
theorem a7{H:Hp}{O:Addr->Prop}{b:Addr}(h:¬O b):off H O b=H b:=by unfold off;rw[if_neg h]
theorem pT{H:Hp}{O:Addr->Prop}{b:Addr}(h:O b):off H O b=none:=by unfold off;rw[if_pos h]
theorem g_{H:Hp}{O:Addr->Prop}{b:Addr}{o:HO}(h:off H O b=some o):¬O b/\H b=some o:=by
 by_cases hb:O b
 .rw[pT hb] at h;cases h
 .rw[a7 hb] at h;exact⟨hb,h⟩
theorem aj(H:Hp)(O:Addr->Prop):aB (off H O) H:=fun _ _ h=>(g_ h).2
theorem ag{H H':Hp}{O:Addr->Prop}(s:aB H H'):aB (off H O) (off H' O):=fun b o h=>by
 obtain⟨h1,h2⟩:=g_ h;rw[a7 h1];exact s _ _ h2
theorem jw{H:Hp}{O O':Addr->Prop}(l:∀b,O' b->O b):aB (off H O) (off H O'):=fun b o h=>by
 obtain⟨h1,h2⟩:=g_ h;rw[a7 fun z=>h1 (l _ z)];exact h2
theorem BQ(H:Hp):off H (fun _=>False)=H:=funext fun _=>a7 fun z=>z
theorem ph{H:Hp}{O:Addr->Prop}{p:Addr}{o:HO}(h:O p):off (upd H p o) O=off H O:=funext fun b=>by
 by_cases hb:O b
 .rw[pT hb,pT hb]
 .rw[a7 hb,a7 hb,aO];rintro rfl;exact hb h
theorem eQ{H:Hp}{p:Addr}(h:H p=none)(o:HO):aB H (upd H p o):=fun b u q=>by rw[aO (bz q h)];exact q
theorem aB.rd{H H':Hp}{a:Addr}{u:HO}(e:aB H H')(h:Rd H a u):Rd H' a u:=by
 rcases h with h|⟨o,h⟩
 .exact .inl (e _ _ h)
 .exact .inr ⟨o,e _ _ h⟩
def Rt(H:Hp)(p:Addr)(xs:List V):Prop:=H p=some (.tup xs)\/∃_:Empty,H p=some (.tup xs)
theorem Rt.pl{H:Hp}{p:Addr}{xs:List V}(h:Rt H p xs):H p=some (.tup xs):=by
 rcases h with h|⟨o,h⟩
 .exact h
 .exact h
theorem Rt.rd{H:Hp}{p:Addr}{xs:List V}(h:Rt H p xs):Rd H p (.tup xs):=.inl h.pl
theorem aB.rt{H H':Hp}{a:Addr}{u:List V}(e:aB H H')(h:Rt H a u):Rt H' a u:=.inl (e _ _ h.pl)
theorem kf{K:PySem.W.Frag}{H H':Hp}{p:Addr}{xs:List V}(e:aB H H')(h:Rt H p xs):sh K H' p xs:=.inl (aB.rt e h).rd
inductive Nn where
 |any
 |new (H0:Hp)
 |set (D:Addr->Prop)
inductive Mt where
 |inl (xs:List V)
 |inr (kvs:List (Key×V))
 |inT (kvs:List (List Key×V))
 |inB (kvs:List ((Int×Bool)×V))
def mo:Mt->HO
 |.inl xs=>.lst xs
 |.inr kvs=>.dK kvs
 |.inT kvs=>.dT kvs
 |.inB kvs=>.dB kvs
def Mo(K:PySem.W.Frag)(H:Hp)(p:Addr):Mt->Prop
 |.inl xs=>dF K H p xs
 |.inr kvs=>Rd H p (.dK kvs)
 |.inT kvs=>Rd H p (.dT kvs)
 |.inB kvs=>Rd H p (.dB kvs)
theorem Mo.mono{K:PySem.W.Frag}{H H':Hp}{p:Addr}{o:Mt}(s:aB H H')(h:Mo K H p o):Mo K H' p o:=by
 cases o with
 |inl xs=>exact s.seq h
 |inr kvs=>exact aB.rd s h
 |inT kvs=>exact aB.rd s h
 |inB kvs=>exact aB.rd s h
theorem Mo.of{K:PySem.W.Frag}{H:Hp}{p:Addr}{o:Mt}(h:H p=some (mo o)):Mo K H p o:=by
 cases o with
 |inl xs=>exact dF.of h
 |inr kvs=>exact .inl h
 |inT kvs=>exact .inl h
 |inB kvs=>exact .inl h
def Nn.has:Nn->Hp->Addr->Mt->Prop
 |.any,_,_,_=>True
 |.new H0,H,p,xs=>H0 p=none/\H p=some (mo xs)
 |.set D,H,p,xs=>D p/\H p=some (mo xs)
theorem Nn.mono{N:Nn}{H H':Hp}{p:Addr}{xs:Mt}(s:aB H H')(h:N.has H p xs):N.has H' p xs:=by
 cases N with
 |any=>exact True.intro
 |new H0=>exact⟨h.1,s _ _ h.2⟩
 |set D=>exact⟨h.1,s _ _ h.2⟩
class Py(α:Type) where
 rp:PySem.W.Frag->Nn->Hp->V->α->Prop
 tr:∀{K:PySem.W.Frag} {N N':Nn} {H H':Hp} {v:V} {a:α},(∀p (o:Mt),Mo K H p o->N.has H p o->Mo K H' p o/\N'.has H' p o)->(∀p xs,Rt H p xs->Rt H' p xs)->rp K N H v a->rp K N' H' v a
theorem aw{α:Type}[Py α]{K:PySem.W.Frag}{N:Nn}{H H':Hp}{v:V}{a:α}(s:aB H H')(h:Py.rp K N H v a):Py.rp K N H' v a :=
 Py.tr (fun _ _ q n=>⟨Mo.mono s q,Nn.mono s n⟩) (fun _ _ q=>aB.rt s q) h
theorem a9{α:Type}[Py α]{K:PySem.W.Frag}{N N':Nn}{H:Hp}{v:V}{a:α}(w:∀p (o:Mt),N.has H p o->N'.has H p o)(h:Py.rp K N H v a):Py.rp K N' H v a :=
 Py.tr (fun _ _ q n=>⟨q,w _ _ n⟩) (fun _ _ q=>q) h
instance:Py Int where
 rp _ _ _ v a:=v=.int a
 tr _ _ h:=h
instance:Py Bool where
 rp _ _ _ v a:=v=.bl a
 tr _ _ h:=h
instance:Py Unit where
 rp _ _ _ v _:=v=.non
 tr _ _ h:=h
instance:Py Str where
 rp _ _ _ v a:=v=.str a
 tr _ _ h:=h
structure Any where
instance:Py Any where
 rp _ _ _ _ _:=True
 tr _ _ h:=h
instance{α:Type}[Py α]:Py (Option α) where
 rp K N H v a:=match a with|none=>v=.non|some b=>Py.rp K N H v b
 tr {K N N' H H' v a} l t h:=by
  cases a with
  |none=>exact h
  |some b=>exact Py.tr (α:=α) l t h
instance{α β:Type}[Py α][Py β]:Py (α×β) where
 rp K N H v a:=∃p x y,v=.ref p/\Rt H p [x,y]/\Py.rp K N H x a.1/\Py.rp K N H y a.2
 tr l t h:=by
  obtain⟨p,x,y,e,s,h1,h2⟩:=h;exact⟨p,x,y,e,t _ _ s,Py.tr l t h1,Py.tr l t h2⟩
structure T3(α β γ:Type) where
 a:α
 b:β
 c:γ
 deriving DecidableEq
instance{α β γ:Type}[Py α][Py β][Py γ]:Py (T3 α β γ) where
 rp K N H v a:=∃p x y z,v=.ref p/\Rt H p [x,y,z]/\Py.rp K N H x a.a/\Py.rp K N H y a.b/\Py.rp K N H z a.c
 tr l t h:=by
  obtain⟨p,x,y,z,e,s,h1,h2,h3⟩:=h;exact⟨p,x,y,z,e,t _ _ s,Py.tr l t h1,Py.tr l t h2,Py.tr l t h3⟩
theorem bM{α β:Type}{F G:α->β->Prop}(f:∀a b,F a b->G a b):∀{l₁:List α} {l₂:List β},Paired F l₁ l₂->Paired G l₁ l₂
 |_,_,.nil=>.nil
 |_,_,.cons h t=>.cons (f _ _ h) (bM f t)
theorem bW{α β:Type}{F:α->β->Prop}:∀{l₁:List α} {l₂:List β},Paired F l₁ l₂->l₁.length=l₂.length
 |_,_,.nil=>rfl
 |_,_,.cons _ t=>congrArg (·+1) (bW t)
theorem i8{α β:Type}{F:α->β->Prop}:∀{l₁:List α} {l₂:List β} {i:Nat} {b:β},Paired F l₁ l₂->l₂[i]?=some b->∃a,l₁[i]?=some a/\F a b
 |_,_,_,_,.nil,e=>by simp at e
 |_,_,0,_,.cons h _,e=>by simp at e;subst e;exact⟨_,rfl,h⟩
 |_,_,i+1,_,.cons _ t,e=>by
  obtain⟨a,h1,h2⟩:=i8 (i:=i) t (by simpa using e);exact⟨a,by simpa using h1,h2⟩
theorem v8{α β:Type}{F:α->β->Prop}:∀{l₁:List α} {l₂:List β} {i:Nat} {a:α},Paired F l₁ l₂->l₁[i]?=some a->∃b,l₂[i]?=some b/\F a b
 |_,_,_,_,.nil,e=>by simp at e
 |_,_,0,_,.cons h _,e=>by simp at e;subst e;exact⟨_,rfl,h⟩
 |_,_,i+1,_,.cons _ t,e=>by
  obtain⟨a,h1,h2⟩:=v8 (i:=i) t (by simpa using e);exact⟨a,by simpa using h1,h2⟩
theorem qd{α β:Type}{F:α->β->Prop}:∀{l₁ m₁:List α} {l₂ m₂:List β},Paired F l₁ l₂->Paired F m₁ m₂->Paired F (l₁++m₁) (l₂++m₂)
 |_,_,_,_,.nil,h=>h
 |_,_,_,_,.cons h t,h'=>.cons h (qd t h')
theorem vH{α β:Type}{F:α->β->Prop}:∀{l₁:List α} {l₂:List β} (n:Nat),Paired F l₁ l₂->Paired F (l₁.drop n) (l₂.drop n)
 |_,_,0,h=>h
 |_,_,_+1,.nil=>.nil
 |_,_,n+1,.cons _ t=>vH n t
instance{α:Type}[Py α]:Py (List α) where
 rp K N H v a:=∃p xs,v=.ref p/\dF K H p xs/\N.has H p (.inl xs)/\Paired (fun x b=>Py.rp K N H x b) xs a
 tr l t h:=by
  obtain⟨p,xs,e,s,n,r⟩:=h;obtain⟨s',n'⟩:=l _ (.inl xs) s n;exact⟨p,xs,e,s',n',bM (fun _ _ q=>Py.tr l t q) r⟩
class PyD(α:Type) extends Py α where
 dat:α->PyData
 dr:∀{K:PySem.W.Frag} {N:Nn} {H:Hp} {v:V} {a:α},Py.rp K N H v a->DR K H v (dat a)
 lay:∀a,(dat a).canLay0=true
 dep:Nat
 depth:∀a,(dat a).depth<=dep
 eqv:∀a b,PyData.eqv (dat a) (dat b)=true↔a=b
instance:PyD Int where
 dat:=.int
 dr h:=by cases h;exact .int _
 lay _:=rfl
 dep:=0
 depth _:=Nat.le_refl _
 eqv a b:=by simp[PyData.eqv]
instance:PyD Bool where
 dat:=.bool
 dr h:=by cases h;exact .bl _
 lay _:=rfl
 dep:=0
 depth _:=Nat.le_refl _
 eqv a b:=by simp[PyData.eqv]
instance{α β:Type}[PyD α][PyD β]:PyD (α×β) where
 dat a:=.tuple [PyD.dat a.1,PyD.dat a.2]
 dr h:=by
  obtain⟨p,x,y,e,s,h1,h2⟩:=h;subst e;exact .tup (.inl s.rd) (.cons (PyD.dr h1) (.cons (PyD.dr h2) .nil))
 lay a:=by
  show PyData.canLayAll0 [PyD.dat a.1,PyD.dat a.2]=true;simp[PyData.canLayAll0,PyD.lay]
 dep:=max (PyD.dep α) (PyD.dep β)+1
 depth a:=by
  have h1:=PyD.depth a.1;have h2:=PyD.depth a.2;show PyData.depthAll [PyD.dat a.1,PyD.dat a.2]+1<=_;simp only[PyData.depthAll];omega
 eqv a b:=by
  rw[PyData.eqv];simp only[PyData.eqvAll,Bool.and_true,Bool.and_eq_true,PyD.eqv];exact⟨fun h=>Prod.ext h.1 h.2,fun h=>by subst h;exact⟨rfl,rfl⟩⟩
theorem lY{α:Type}[PyD α]{K:PySem.W.Frag}{N:Nn}{H:Hp}:∀{xs:List V} {as:List α},Paired (fun x b=>Py.rp K N H x b) xs as->wW K H xs (as.map PyD.dat)
 |_,_,.nil=>.nil
 |_,_,.cons h t=>.cons (PyD.dr h) (lY t)
theorem mH{α:Type}[PyD α]:∀as:List α,PyData.canLayAll0 (as.map PyD.dat)=true
 |[]=>rfl
 |a::as=>by simp[PyData.canLayAll0,PyD.lay,mH as]
theorem rS{α:Type}[PyD α]:∀as:List α,PyData.depthAll (as.map PyD.dat)<=PyD.dep α
 |[]=>Nat.zero_le _
 |a::as=>by
  have h1:=PyD.depth a;have h2:=rS as;simp only[List.map_cons,PyData.depthAll];omega
theorem rG{α:Type}[PyD α]:∀as bs:List α,PyData.eqvAll (as.map PyD.dat) (bs.map PyD.dat)=true↔as=bs
 |[],[]=>by simp[PyData.eqvAll]
 |[],_::_=>by simp[PyData.eqvAll]
 |_::_,[]=>by simp[PyData.eqvAll]
 |a::as,b::bs=>by simp[PyData.eqvAll,PyD.eqv,rG as bs]
instance{α:Type}[PyD α]:PyD (List α) where
 dat a:=.list (a.map PyD.dat)
 dr h:=by
  obtain⟨p,xs,e,s,n,r⟩:=h;subst e;exact .lst s (lY r)
 lay a:=mH a
 dep:=PyD.dep α+1
 depth a:=by
  show PyData.depthAll (a.map PyD.dat)+1<=_;have:=rS a;omega
 eqv a b:=by rw[PyData.eqv];exact rG a b
inductive Bd:Type 1
 |val {α:Type} [Py α] (b:Bool) (a:α):Bd
 |own {α:Type} [Py α] (b:Bool) (as:List α):Bd
 |dpo {α:Type} [Py α] (a:α):Bd
abbrev aC:=List (Option Bd)
def Nf(H0:Hp):Bool->Nn
 |true=>.new H0
 |false=>.any
theorem Nf.wk{H0 H:Hp}{b:Bool}{p:Addr}{xs:Mt}(h:H0 p=none)(hx:H p=some (mo xs)):(Nf H0 b).has H p xs:=by cases b;exact True.intro;exact⟨h,hx⟩
theorem Nf.le{H0 H:Hp}{b b':Bool}{p:Addr}{xs:Mt}(l:b'=true->b=true)(h:(Nf H0 b).has H p xs):(Nf H0 b').has H p xs:=by
 cases b' with
 |false=>exact True.intro
 |true=>rw[l rfl] at h;exact h
def Bd.ok(K:PySem.W.Frag)(H0:Hp)(O:Addr->Prop)(H:Hp)(v:V):Bd->Prop
 |@Bd.val _ _ b a=>Py.rp K (Nf H0 b) (off H O) v a
 |@Bd.own _ _ _ _=>False
 |@Bd.dpo _ _ _=>False
def Bd.tF(K:PySem.W.Frag)(H0:Hp)(O:Addr->Prop)(H:Hp)(D:Addr->Prop)(v:V):Bd->Prop
 |@Bd.val _ _ _ _=>False
 |@Bd.own _ _ b as=>∃p xs,v=.ref p/\D p/\H p=some (.lst xs)/\Paired (fun x a=>Py.rp K (Nf H0 b) (off H O) x a) xs as
 |@Bd.dpo _ _ a=>Py.rp K (.set D) H v a
def Bd.eY:Bd->Prop
 |@Bd.val _ _ _ _=>False
 |@Bd.own _ _ _ _=>True
 |@Bd.dpo _ _ _=>True
structure dw(K:PySem.W.Frag)(H0:Hp)(F O:Addr->Prop)(Γ:aC)(σ:St)(H:Hp):Prop where
 same:aB H0 H
 fo:∀p,F p->O p
 f0:∀p,F p->∃xs:Mt,H0 p=some (mo xs)
 own:∀p,O p->∃xs:Mt,H p=some (mo xs)
 len:σ.length=Γ.length
 at_:∀(i:Nat) (g:Bd),Γ[i]?=some (some g)->¬g.eY->∃v,σ[i]?=some (some v)/\g.ok K H0 O H v
 dis:∃D:Nat->Addr->Prop,(∀i j p,D i p->D j p->i=j)/\(∀i p,D i p->O p/\H0 p=none)/\∀(i:Nat) (g:Bd),Γ[i]?=some (some g)->g.eY->∃v,σ[i]?=some (some v)/\g.tF K H0 O H (D i) v
section
variable{K:PySem.W.Frag}{H0:Hp}{F O:Addr->Prop}{Γ:aC}{σ:St}{H H':Hp}
theorem Bd.go{v:V}{g:Bd}(s:aB H H')(h:g.ok K H0 O H v):g.ok K H0 O H' v:=by
 cases g with
 |val b a=>exact aw (ag s) h
 |own b as=>exact h
 |dpo a=>exact h
theorem Bd.FZ{v:V}{g:Bd}{D O':Addr->Prop}(h:g.tF K H0 O H D v)(hD:∀p (xs:Mt),D p->H p=some (mo xs)->H' p=some (mo xs))(so:aB (off H O) (off H' O'))(hO:∀p,D p->O p)(hOl:∀p,O p->∃xs:Mt,H p=some (mo xs)):g.tF K H0 O' H' D v:=by
 cases g with
 |val b a=>exact h
 |own b as =>
  obtain⟨p,xs,e,o,q,r⟩:=h;exact⟨p,xs,e,o,hD p (.inl xs) o q,bM (fun _ _ z=>aw so z) r⟩
 |dpo a =>
  have h':Py.rp K (.set D) H v a:=h;refine Py.tr (α:=_) (a:=a) (fun p xs q n=>?_) (fun p xs q=>?_) h'
  .obtain⟨n1,n2⟩:=n;have h2:=hD p xs n1 n2;exact⟨Mo.of h2,n1,h2⟩
  .have hp:∀u,(H p=some (.tup u)\/∃o,H p=some (.frz o (.tup u)))->¬O p:=fun u z hp=>by
    obtain⟨ys,w⟩:=hOl p hp;rcases z with z|⟨o,z⟩
    .rw[z] at w;rcases ys with ys|ys|ys<;>cases w
    .rw[z] at w;rcases ys with ys|ys|ys<;>cases w
   have hp':=hp xs q.rd;rcases q with q|⟨o,q⟩
   .exact .inl ((aj _ _) _ _ (so _ _ (by rw[a7 hp'];exact q)))
   .exact .inr ⟨o,(aj _ _) _ _ (so _ _ (by rw[a7 hp'];exact q))⟩
theorem dw.go(S:dw K H0 F O Γ σ H)(s:aB H H'):dw K H0 F O Γ σ H' where
 same:=S.same.trans s
 fo:=S.fo
 f0:=S.f0
 own:=fun p h=>let ⟨xs,q⟩:=S.own p h;⟨xs,s _ _ q⟩
 len:=S.len
 at_:=fun i g e n=>let ⟨v,q,r⟩:=S.at_ i g e n;⟨v,q,Bd.go s r⟩
 dis:=by
  obtain⟨D,d1,d2,d3⟩:=S.dis;refine⟨D,d1,d2,fun i g e o=>?_⟩;obtain⟨v,q,r⟩:=d3 i g e o;exact⟨v,q,Bd.FZ r (fun p xs _ z=>s _ _ z) (ag s) (fun p z=>(d2 i p z).1) S.own⟩
theorem dw.gQ(S:dw K H0 F O Γ σ H){p:Addr}(h:H p=none):H0 p=none:=S.same.free h
theorem dw.kC(S:dw K H0 F O Γ σ H){p:Addr}(h:H p=none):¬O p:=fun o=>by
 obtain⟨xs,q⟩:=S.own p o;rw[h] at q;cases q
theorem dw.back{α:Type}[Py α]{b:Bool}{v:V}{a:α}(S:dw K H0 F O Γ σ H)(h:Py.rp K (Nf H b) (off H' O) v a):Py.rp K (Nf H0 b) (off H' O) v a :=
 a9 (fun p xs n=>by cases b with|true=>exact⟨S.gQ n.1,n.2⟩|false=>exact True.intro) h
end
theorem get_set_ne.{u}{α:Type u}{l:List α}{i j:Nat}{a:α}(h:j≠i):(l.set i a)[j]?=l[j]?:=by
 rw[List.getElem?_set_ne (Ne.symm h)]
theorem get_set_eq.{u}{α:Type u}{l:List α}{i:Nat}{a:α}(h:i<l.length):(l.set i a)[i]?=some a:=by
 rw[List.getElem?_set_self h]
theorem get_set_some.{u}{α:Type u}{l:List (Option α)}{i:Nat}{a x:α}(h:(l.set i (some a))[i]?=some (some x)):i<l.length/\a=x:=by
 by_cases hl:i<l.length
 .rw[get_set_eq hl] at h;injection h with h;injection h with h;exact⟨hl,h⟩
 .rw[List.getElem?_eq_none (by rw[List.length_set];omega)] at h;cases h
theorem dw.set{K:PySem.W.Frag}{H0:Hp}{F O:Addr->Prop}{Γ:aC}{σ:St}{H:Hp}{α:Type}[Py α]{b:Bool}{a:α}{v:V}{i:Nat}(S:dw K H0 F O Γ σ H)(r:Py.rp K (Nf H0 b) (off H O) v a):
  dw K H0 F O (Γ.set i (some (.val b a))) (σ.set i (some v)) H where
 same:=S.same
 fo:=S.fo
 f0:=S.f0
 own:=S.own
 len:=by rw[List.length_set,List.length_set];exact S.len
 at_:=fun j g e n=>by
  by_cases hj:j=i
  .subst hj;obtain⟨hl,e'⟩:=get_set_some e;subst e';exact⟨v,get_set_eq (by rw[S.len];exact hl),r⟩
  .rw[get_set_ne hj] at e;obtain⟨w,q,z⟩:=S.at_ j g e n;exact⟨w,by rw[get_set_ne hj];exact q,z⟩
 dis:=by
  obtain⟨D,d1,d2,d3⟩:=S.dis;refine⟨D,d1,d2,fun j g e o=>?_⟩
  have hj:j≠i:=by
   rintro rfl;obtain⟨_,e'⟩:=get_set_some e;subst e';exact o
  rw[get_set_ne hj] at e;obtain⟨w,q,z⟩:=d3 j g e o;exact⟨w,by rw[get_set_ne hj];exact q,z⟩
def tV{α:Type}[Py α](K:PySem.W.Frag)(Γ:aC)(b:Bool)(a:α):TE:=fun σ H Q=>∃H0 F O,dw K H0 F O Γ σ H/\∀v H',aB H H'->Py.rp K (Nf H0 b) (off H' O) v a->Q v H'
@[irreducible] def E{α:Type}[Py α](X:Cx)(Γ:aC)(e:Expr)(b:Bool)(a:α):Prop:=PE X e (tV X.K Γ b a)
def EW(K:PySem.W.Frag)(Γ:aC)(c:Bool):TT:=fun σ H Q=>∃H0 F O,dw K H0 F O Γ σ H/\∀H',aB H H'->Q c H'
@[irreducible] def T(X:Cx)(Γ:aC)(e:Expr)(c:Bool):Prop:=PT X e (EW X.K Γ c)
@[irreducible] def TW(X:Cx)(Γ:aC)(e:Expr)(c:Bool):Prop:=PW X e (EW X.K Γ c)
theorem aF{X:Cx}{e:Expr}{t t':TE}(h:PE X e t)(w:∀σ H Q,t' σ H Q->t σ H Q):PE X e t':=fun pins s σ H Q I q=>h pins s σ H Q I (w _ _ _ q)
theorem lR{X:Cx}{e:Expr}{t t':TT}(h:PT X e t)(w:∀σ H Q,t' σ H Q->t σ H Q):PT X e t':=fun pins s σ H Q I q=>h pins s σ H Q I (w _ _ _ q)
theorem u5{X:Cx}{e:Expr}{t t':TT}(h:PW X e t)(w:∀σ H Q,t' σ H Q->t σ H Q):PW X e t':=fun wh pins s σ H Q I q=>h wh pins s σ H Q I (w _ _ _ q)
section
variable{X:Cx}{Γ:aC}{α β γ:Type}[Py α][Py β][Py γ]{e e1 e2 e3:Expr}{b b1 b2 b3:Bool}{pos:Pos}
theorem aa(i:Nat){a:α}{x:Str}(h:Γ[i]?=some (some (.val b a)):=by rfl)(hN:X.N[i]?=some x:=by rfl)(hv:Ee X.env.scope x:=by first|exact Or.inl rfl|exact Or.inr (Or.inl rfl)|exact Or.inr (Or.inr rfl))
  (hd:(x==("__debug__":Str))=false:=by decide) (hcd:(x==("__classdict__":Str))=false:=by decide):E X Γ (.Name x pos) b a:=by
 with_unfolding_all
  exact aF (pv i hN hv hd hcd) fun σ H Q ⟨H0,F,O,S,q⟩=>by
    obtain⟨v,h1,h2⟩:=S.at_ i _ h (fun z=>z);exact⟨v,h1,q v H (aB.refl _) h2⟩
theorem ae{i:Int}{j:Nat}:E X Γ (.Constant (.int i) j pos) true i:=by
 with_unfolding_all
  exact aF ya fun σ H Q ⟨H0,F,O,S,q⟩=>q _ H (aB.refl _) rfl
theorem ni{i:Bool}{j:Nat}:E X Γ (.Constant (.bool i) j pos) true i:=by
 with_unfolding_all
  exact aF Co fun σ H Q ⟨H0,F,O,S,q⟩=>q _ H (aB.refl _) rfl
theorem rB{j:Nat}:E X Γ (.Constant .none j pos) true (none:Option α):=by
 with_unfolding_all
  exact aF D_ fun σ H Q ⟨H0,F,O,S,q⟩=>q _ H (aB.refl _) rfl
theorem E.some{a:α}(h:E X Γ e b a):E X Γ e b (some a):=by
 with_unfolding_all
  exact aF h fun σ H Q ⟨H0,F,O,S,q⟩=>⟨H0,F,O,S,fun v H' s r=>q v H' s r⟩
theorem tY{op:Operator}{C:Int->Int->Prop}{g:Int->Int->Int}{i j:Int}(ho:i7 X (binaryOp op) (rI C fun i j=>.int (g i j)))(ha:E X Γ e1 b1 i)(hb:E X Γ e2 b2 j)(hc:C i j):E X Γ (.BinOp e1 op e2 pos) true (g i j):=by
 with_unfolding_all
  exact aF (yQ ho ha hb) fun σ H Q ⟨H0,F,O,S,q⟩=>⟨H0,F,O,S,fun v H1 s1 r1=>⟨H0,F,O,S.go s1,fun w H2 s2 r2=>⟨i,j,r1,r2,hc,q _ H2 (s1.trans s2) rfl⟩⟩⟩
theorem bg{i j:Int}(ha:E X Γ e1 b1 i)(hb:E X Γ e2 b2 j):E X Γ (.BinOp e1 .Add e2 pos) true (i+j):=by
 with_unfolding_all
  exact tY (C:=fun _ _=>True) (fun pins s σ H x y v u Q I rx ry ⟨i,j,h1,h2,_,q⟩=>EO pins s σ H x y v u Q I rx ry ⟨i,j,h1,h2,q⟩) ha hb True.intro
theorem cG{i j:Int}(ha:E X Γ e1 b1 i)(hb:E X Γ e2 b2 j):E X Γ (.BinOp e1 .Sub e2 pos) true (i-j):=by
 with_unfolding_all
  exact tY (C:=fun _ _=>True) (fun pins s σ H x y v u Q I rx ry ⟨i,j,h1,h2,_,q⟩=>EU pins s σ H x y v u Q I rx ry ⟨i,j,h1,h2,q⟩) ha hb True.intro
theorem aM{i j:Int}(ha:E X Γ e1 b1 i)(hb:E X Γ e2 b2 j)(hc:IntMulOk i j):E X Γ (.BinOp e1 .Mult e2 pos) true (i*j):=by
 with_unfolding_all
  exact tY AG ha hb hc
theorem aI{i j:Int}(ha:E X Γ e1 b1 i)(hb:E X Γ e2 b2 j)(hc:vI i j):E X Γ (.BinOp e1 .FloorDiv e2 pos) true (i.fdiv j):=by
 with_unfolding_all
  exact tY zj ha hb hc
theorem aG{i j:Int}(ha:E X Γ e1 b1 i)(hb:E X Γ e2 b2 j)(hc:j≠0):E X Γ (.BinOp e1 .Mod e2 pos) true (i.fmod j):=by
 with_unfolding_all
  exact tY BG ha hb hc
theorem FN{i j:Int}(ha:E X Γ e1 b1 i)(hb:E X Γ e2 b2 j)(hc:z_ i j):E X Γ (.BinOp e1 .Pow e2 pos) true (i^j.toNat):=by
 with_unfolding_all
  exact tY Ds ha hb hc
theorem iU{i:Int}(ha:E X Γ e1 b1 i):E X Γ (.UnaryOp .USub e1 pos) true (-i):=by
 with_unfolding_all
  exact aF (FX DM ha) fun σ H Q ⟨H0,F,O,S,q⟩=>⟨H0,F,O,S,fun v H1 s1 r1=>⟨i,r1,q _ H1 s1 rfl⟩⟩
def CV(X:Cx)(op:CmpOp)(x:α)(y:β)(c:Bool):Prop:=∃r,i7 X (compareOp op) r/\∀(N N':Nn) (H:Hp) (u v:V) (Q:VK),Py.rp X.K N H u x->Py.rp X.K N' H v y->Q (.bl c) H->r u v H Q
theorem v9{op:CmpOp}{g:Int->Int->Bool}(ho:i7 X (compareOp op) (BF fun i j=>.bl (g i j)))(i j:Int):CV X op i j (g i j):=⟨_,ho,fun N N' H u v Q h1 h2 q=>⟨i,j,h1,h2,q⟩⟩
theorem jU{i j:Int}:CV X .Lt i j (decide (i<j)):=v9 F_ i j
theorem CL{i j:Int}:CV X .LtE i j (decide (i<=j)):=v9 Hh i j
theorem cJ{i j:Int}:CV X .Gt i j (decide (j<i)):=v9 Fq i j
theorem CD{i j:Int}:CV X .GtE i j (decide (j<=i)):=v9 FY i j
theorem av{i j:Int}:CV X .Eq i j (decide (i=j)):=⟨_,Gh,fun N N' H u v Q h1 h2 q=>by
 cases h1;cases h2;refine⟨rfl,?_⟩
 rw[lu,Bool.beq_eq_decide_eq];exact q⟩
theorem eN{i j:Int}:CV X .NotEq i j (!decide (i=j)):=⟨_,FC,fun N N' H u v Q h1 h2 q=>by
 cases h1;cases h2;refine⟨rfl,?_⟩
 rw[lu,Bool.beq_eq_decide_eq];exact q⟩
theorem vT{α:Type}[PyD α][DecidableEq α]{x y:α}(hu:X.A.units+60<cLine)(hd:PyD.dep α<=60:=by decide):CV X .Eq x y (decide (x=y)):=⟨_,Dl hu,fun N N' H u v Q h1 h2 q=>by
 refine⟨_,_,PyD.dr h1,PyD.dr h2,PyD.lay _,PyD.lay _,Nat.le_trans (PyD.depth _) hd,?_⟩
 have e:PyData.eqv (PyD.dat x) (PyD.dat y)=decide (x=y):=by
  by_cases h:x=y
  .rw[decide_eq_true h];exact(PyD.eqv x y).mpr h
  .rw[decide_eq_false h];exact Bool.eq_false_iff.mpr fun z=>h ((PyD.eqv x y).mp z)
 rw[e];exact q⟩
theorem kH{α:Type}[PyD α][DecidableEq α]{x y:α}(hu:X.A.units+60<cLine)(hd:PyD.dep α<=60:=by decide):CV X .NotEq x y (!decide (x=y)):=⟨_,Ef hu,fun N N' H u v Q h1 h2 q=>by
 refine⟨_,_,PyD.dr h1,PyD.dr h2,PyD.lay _,PyD.lay _,Nat.le_trans (PyD.depth _) hd,?_⟩
 have e:PyData.eqv (PyD.dat x) (PyD.dat y)=decide (x=y):=by
  by_cases h:x=y
  .rw[decide_eq_true h];exact(PyD.eqv x y).mpr h
  .rw[decide_eq_false h];exact Bool.eq_false_iff.mpr fun z=>h ((PyD.eqv x y).mp z)
 rw[e];exact q⟩
theorem bx{op:CmpOp}{x:α}{y:β}{c:Bool}(hc:CV X op x y c)(ha:E X Γ e1 b1 x)(hb:E X Γ e2 b2 y)(hm:behindInMarks op e2=false:=by first|exact xR _|rfl):E X Γ (.Compare e1 [op] [e2] pos) true c:=by
 with_unfolding_all
  obtain⟨r,ho,hr⟩:=hc
  exact aF (Bi ho ha hb hm) fun σ H Q ⟨H0,F,O,S,q⟩=>⟨H0,F,O,S,fun v H1 s1 r1=>⟨H0,F,O,S.go s1,fun w H2 s2 r2 =>
   hr _ _ H2 v w _ (aw ((ag s2).trans (aj _ _)) r1) (aw (aj _ _) r2) (q _ H2 (s1.trans s2) rfl)⟩⟩
theorem ao{op:CmpOp}{x:α}{y:β}{c:Bool}(hc:CV X op x y c)(ha:E X Γ e1 b1 x)(hb:E X Γ e2 b2 y)(hm:behindInMarks op e2=false:=by first|exact xR _|rfl):T X Γ (.Compare e1 [op] [e2] pos) c:=by
 with_unfolding_all
  obtain⟨r,ho,hr⟩:=hc
  exact lR (A5 ho ha hb hm) fun σ H Q ⟨H0,F,O,S,q⟩=>⟨H0,F,O,S,fun v H1 s1 r1=>⟨H0,F,O,S.go s1,fun w H2 s2 r2 =>
   hr _ _ H2 v w _ (aw ((ag s2).trans (aj _ _)) r1) (aw (aj _ _) r2) ⟨c,rfl,q H2 (s1.trans s2)⟩⟩⟩
theorem Gs{x:Option α}{j:Nat}{p:Pos}(ha:E X Γ e1 b1 x)(hx:∀(K:PySem.W.Frag) (N:Nn) (H:Hp) (a:α),¬Py.rp K N H .non a):E X Γ (.Compare e1 [.Is] [.Constant .none j p] pos) true x.isNone:=by
 with_unfolding_all
  exact aF (DG (yH ha)) fun σ H Q ⟨H0,F,O,S,q⟩=>⟨H0,F,O,S,fun v H1 s1 r1=>by
    have:=q (.bl (decide (v=.non))) H1 s1;refine this ?_;cases x with
    |none=>cases r1;rfl
    |some a =>
     have hv:v≠.non:=by rintro rfl;exact hx _ _ _ a r1
     show V.bl (decide (v=.non))=.bl false
     rw[decide_eq_false hv]⟩
theorem yg{x:Option α}{j:Nat}{p:Pos}(ha:E X Γ e1 b1 x)(hx:∀(K:PySem.W.Frag) (N:Nn) (H:Hp) (a:α),¬Py.rp K N H .non a):T X Γ (.Compare e1 [.Is] [.Constant .none j p] pos) x.isNone:=by
 with_unfolding_all
  exact lR (zJ (yH ha)) fun σ H Q ⟨H0,F,O,S,q⟩=>⟨H0,F,O,S,fun v H1 s1 r1=>by
    refine⟨decide (v=.non),rfl,?_⟩
    have e:decide (v=.non)=x.isNone:=by
     cases x with
     |none=>cases r1;rfl
     |some a =>
      have hv:v≠.non:=by rintro rfl;exact hx _ _ _ a r1
      rw[decide_eq_false hv];rfl
    rw[e];exact q H1 s1⟩
theorem di{c:Bool}(h:E X Γ e b c)(he:∀whole,isTrue e X.env whole=(do let v <-whole;standAt e.pos;holding [v] (truthy v)):=by intro _;rfl):T X Γ e c:=by
 with_unfolding_all
  exact lR (Dg h he) fun σ H Q ⟨H0,F,O,S,q⟩=>⟨H0,F,O,S,fun v H1 s1 r1=>⟨c,r1,q H1 s1⟩⟩
theorem iR{c:Bool}(h:T X Γ e c):T X Γ (.UnaryOp .Not e pos) (!c):=by
 with_unfolding_all
  exact lR (CY h) fun σ H Q ⟨H0,F,O,S,q⟩=>⟨H0,F,O,S,fun H1 s1=>q H1 s1⟩
variable{rest:List Expr}
theorem iL{c:Bool}(h:T X Γ e c):TW X Γ (.BoolOp .And [e] pos) c:=by
 with_unfolding_all
  exact AL h
theorem fI{c:Bool}(h:T X Γ e c):TW X Γ (.BoolOp .Or [e] pos) c:=by
 with_unfolding_all
  exact Es h
theorem Cc:PW X e (fun _ _ _=>False):=fun _ _ _ _ _ _ _ h=>h.elim
theorem lS:PE X e (fun _ _ _=>False):=fun _ _ _ _ _ _ h=>h.elim
theorem h_{c c':Bool}(h:T X Γ e1 c)(h':c=true->TW X Γ (.BoolOp .And (e2::rest) pos) c'):TW X Γ (.BoolOp .And (e1::e2::rest) pos) (c&&c'):=by
 with_unfolding_all
  cases c with
  |true=>exact u5 (zu h (h' rfl)) fun σ H Q ⟨H0,F,O,S,q⟩=>⟨H0,F,O,S,fun H1 s1=>pU ⟨H0,F,O,S.go s1,fun H2 s2=>q H2 (s1.trans s2)⟩⟩
  |false=>exact u5 (zu h Cc) fun σ H Q ⟨H0,F,O,S,q⟩=>⟨H0,F,O,S,fun H1 s1=>pX (q H1 s1)⟩
theorem fV{c c':Bool}(h:T X Γ e1 c)(h':c=false->TW X Γ (.BoolOp .Or (e2::rest) pos) c'):TW X Γ (.BoolOp .Or (e1::e2::rest) pos) (c || c'):=by
 with_unfolding_all
  cases c with
  |false=>exact u5 (Cb h (h' rfl)) fun σ H Q ⟨H0,F,O,S,q⟩=>⟨H0,F,O,S,fun H1 s1=>pX ⟨H0,F,O,S.go s1,fun H2 s2=>q H2 (s1.trans s2)⟩⟩
  |true=>exact u5 (Cb h Cc) fun σ H Q ⟨H0,F,O,S,q⟩=>⟨H0,F,O,S,fun H1 s1=>pU (q H1 s1)⟩
theorem TW.t{c:Bool}(h:TW X Γ e c):T X Γ e c:=by
 with_unfolding_all
  exact h.pt
theorem u7{op:BoolOp}{a:α}(h:E X Γ e b a):E X Γ (.BoolOp op [e] pos) b a:=by
 with_unfolding_all
  exact DZ h
theorem BE{c c':Bool}(h:E X Γ e1 b1 c)(h':c=false->E X Γ (.BoolOp .Or (e2::rest) pos) b2 c'):E X Γ (.BoolOp .Or (e1::e2::rest) pos) true (c || c'):=by
 with_unfolding_all
  cases c with
  |false=>exact aF (CH h (h' rfl)) fun σ H Q ⟨H0,F,O,S,q⟩=>⟨H0,F,O,S,fun v H1 s1 r1=>⟨false,r1,pX ⟨H0,F,O,S.go s1,fun w H2 s2 r2=>q w H2 (s1.trans s2) r2⟩⟩⟩
  |true=>exact aF (CH h lS) fun σ H Q ⟨H0,F,O,S,q⟩=>⟨H0,F,O,S,fun v H1 s1 r1=>⟨true,r1,pU (q _ H1 s1 rfl)⟩⟩
theorem GA{c:Bool}(h:E X Γ e b c):E X Γ (.UnaryOp .Not e pos) true (!c):=by
 with_unfolding_all
  exact aF (EG h) fun σ H Q ⟨H0,F,O,S,q⟩=>⟨H0,F,O,S,fun v H1 s1 r1=>⟨c,r1,q _ H1 s1 rfl⟩⟩
theorem jg{c:Bool}{x y:α}(hc:T X Γ e c)(ha:c=true->E X Γ e1 b x)(hb:c=false->E X Γ e2 b y):E X Γ (.IfExp e e1 e2 pos) b (if c then x else y):=by
 with_unfolding_all
  cases c with
  |true=>exact aF (fP hc (ha rfl) lS) fun σ H Q ⟨H0,F,O,S,q⟩=>⟨H0,F,O,S,fun H1 s1=>pU ⟨H0,F,O,S.go s1,fun w H2 s2 r2=>q w H2 (s1.trans s2) r2⟩⟩
  |false=>exact aF (fP hc lS (hb rfl)) fun σ H Q ⟨H0,F,O,S,q⟩=>⟨H0,F,O,S,fun H1 s1=>pX ⟨H0,F,O,S.go s1,fun w H2 s2 r2=>q w H2 (s1.trans s2) r2⟩⟩
theorem vW{H0 H:Hp}{p:Addr}{xs:Mt}(h:(Nf H0 b1).has H p xs):(Nf H0 (b1&&b2)).has H p xs:=Nf.le (fun z=>(Bool.and_eq_true_iff.mp z).1) h
theorem vU{H0 H:Hp}{p:Addr}{xs:Mt}(h:(Nf H0 b2).has H p xs):(Nf H0 (b1&&b2)).has H p xs:=Nf.le (fun z=>(Bool.and_eq_true_iff.mp z).2) h
theorem mG{K:PySem.W.Frag}{H0 H:Hp}{F O:Addr->Prop}{Γ:aC}{σ:St}{p:Addr}{xs:List V}(S:dw K H0 F O Γ σ H)(hp:H p=none):aB H (upd H p (.tup xs))/\Rt (off (upd H p (.tup xs)) O) p xs:=by
 with_unfolding_all
  exact⟨eQ hp _,.inl (by rw[a7 (S.kC hp)];exact bq)⟩
theorem cI{K:PySem.W.Frag}{H0 H:Hp}{F O:Addr->Prop}{Γ:aC}{σ:St}{p:Addr}{xs:List V}(S:dw K H0 F O Γ σ H)(hp:H p=none):aB H (upd H p (.lst xs))/\off (upd H p (.lst xs)) O p=some (.lst xs):=by
 with_unfolding_all
  exact⟨eQ hp _,by rw[a7 (S.kC hp)];exact bq⟩
theorem bQ{x:α}{y:β}{k:Nat}(ha:E X Γ e1 b1 x)(hb:E X Γ e2 b2 y)(hs:starEach [e1,e2] X.env=(false,eval e1 X.env)::starEach [e2] X.env:=by rfl)(hs2:starEach [e2] X.env=(false,eval e2 X.env)::starEach [] X.env:=by rfl):
  E X Γ (.Tuple [e1,e2] k pos) (b1&&b2) (x,y):=by
 with_unfolding_all
  exact aF (yd (aA ha (aA hb aU hs2) hs)) fun σ H Q ⟨H0,F,O,S,q⟩=>⟨H0,F,O,S,fun v H1 s1 r1=>⟨H0,F,O,S.go s1,fun w H2 s2 r2=>⟨by show 2<=sizeLine; decide,fun p hp=>by
    obtain⟨z1,z2⟩:=mG (xs:=[v,w]) ((S.go s1).go s2) hp;refine q _ _ (s1.trans (s2.trans z1)) ⟨p,v,w,rfl,z2,?_,?_⟩
    .exact a9 (fun _ _ n=>vW n) (aw ((ag s2).trans (ag z1)) r1)
    .exact a9 (fun _ _ n=>vU n) (aw (ag z1) r2)⟩⟩⟩
@[irreducible] def EA(X:Cx)(Γ:aC)(es:List Expr)(b:Bool)(as:List α):Prop :=
 PA X es fun σ H Q=>∃H0 F O,dw X.K H0 F O Γ σ H/\∀vs H',aB H H'->Paired (fun x a=>Py.rp X.K (Nf H0 b) (off H' O) x a) vs as->Q vs H'
theorem CI{X:Cx}{es:List Expr}{t t':TA}(h:PA X es t)(w:∀σ H Q,t' σ H Q->t σ H Q):PA X es t':=fun p pins s σ H Q I q=>h p pins s σ H Q I (w _ _ _ q)
theorem bG:EA X Γ [] b ([]:List α):=by
 with_unfolding_all
  exact CI aU fun σ H Q ⟨H0,F,O,S,q⟩=>q [] H (aB.refl _) .nil
theorem aD{es:List Expr}{a:α}{as:List α}(h:E X Γ e b a)(h':EA X Γ es b as)(hs:starEach (e::es) X.env=(false,eval e X.env)::starEach es X.env:=by rfl):EA X Γ (e::es) b (a::as):=by
 with_unfolding_all
  exact CI (aA h h' hs) fun σ H Q ⟨H0,F,O,S,q⟩=>⟨H0,F,O,S,fun v H1 s1 r1=>⟨H0,F,O,S.go s1,fun vs H2 s2 r2=>q _ H2 (s1.trans s2) (.cons (aw (ag s2) r1) r2)⟩⟩
theorem dM{es:List Expr}{as:List α}(h:EA X Γ es b as)(hl:as.length<=1000):E X Γ (.List es pos) b as:=by
 with_unfolding_all
  exact aF (tI h) fun σ H Q ⟨H0,F,O,S,q⟩=>⟨H0,F,O,S,fun vs H1 s1 r1=>⟨by rw [bW r1]; exact Nat.le_of_lt (cA hl),fun p hp=>by
    obtain⟨z1,z2⟩:=cI (xs:=vs) (S.go s1) hp
    exact q _ _ (s1.trans z1) ⟨p,vs,rfl,dF.of z2,Nf.wk ((S.go s1).gQ hp) z2,bM (fun _ _ r=>aw (ag z1) r) r1⟩⟩⟩
theorem vi{xs:List α}{i:Int}{a:α}(ha:E X Γ e1 b xs)(hb:E X Γ e2 b2 i)(h:vJ xs i=some a)(hs:pS e2:=by intro _ _;rfl):E X Γ (.Subscript e1 e2 pos) b a:=by
 with_unfolding_all
  exact aF (vX Bp ha hb hs) fun σ H Q ⟨H0,F,O,S,q⟩=>⟨H0,F,O,S,fun v H1 s1 r1=>⟨H0,F,O,S.go s1,fun w H2 s2 r2=>by
    obtain⟨p,vs,e,sq,n,r⟩:=r1;obtain⟨j,h1,h2,h3,h4,h5⟩:=lN h;obtain⟨x,g1,g2⟩:=i8 r h2;refine⟨p,vs,i,x,e,r2,(aj _ _).seq ((ag s2).seq sq),?_,q x H2 (s1.trans s2) (aw (ag s2) g2)⟩;unfold vJ at h ⊢;rw[bW r];cases hx:CG xs.length i with
    |none=>rw[hx] at h;cases h
    |some k =>
     have hk:=(pM hx).1;rw[h1] at hk;cases hk
     exact g1⟩⟩
theorem bX{u:α×β}{j:Nat}{p':Pos}(ha:E X Γ e1 b u):E X Γ (.Subscript e1 (.Constant (.int 0) j p') pos) b u.1:=by
 with_unfolding_all
  exact aF (vX uF ha ae (fun _ _=>rfl)) fun σ H Q ⟨H0,F,O,S,q⟩=>⟨H0,F,O,S,fun v H1 s1 r1=>⟨H0,F,O,S.go s1,fun w H2 s2 r2=>by
    obtain⟨p,u,w',e,sq,g1,g2⟩:=r1
    exact⟨p,_,0,u,e,r2,kf (aj _ _) (aB.rt (ag s2) sq),rfl,q u H2 (s1.trans s2) (aw (ag s2) g1)⟩⟩⟩
theorem b7{u:α×β}{j:Nat}{p':Pos}(ha:E X Γ e1 b u):E X Γ (.Subscript e1 (.Constant (.int 1) j p') pos) b u.2:=by
 with_unfolding_all
  exact aF (vX uF ha ae (fun _ _=>rfl)) fun σ H Q ⟨H0,F,O,S,q⟩=>⟨H0,F,O,S,fun v H1 s1 r1=>⟨H0,F,O,S.go s1,fun w H2 s2 r2=>by
    obtain⟨p,u,w',e,sq,g1,g2⟩:=r1
    exact⟨p,_,1,w',e,r2,kf (aj _ _) (aB.rt (ag s2) sq),rfl,q w' H2 (s1.trans s2) (aw (ag s2) g2)⟩⟩⟩
theorem g6{i:Int}{p:Pos}(hg:Gl X "abs")(hm:X.mg "abs"=none)(ha:E X Γ e b i)(hs:starEach [e] X.env=(false,eval e X.env)::starEach [] X.env:=by rfl):E X Γ (.Call (.Name "abs" p) [e] [] pos) true (if i<0 then -i else i):=by
 with_unfolding_all
  exact aF (dI zG hg hm boot_abs (aA ha aU hs) (he:=hs)) fun σ H Q ⟨H0,F,O,S,q⟩=>⟨H0,F,O,S,fun v H1 s1 r1=>⟨i,by cases r1;rfl,q _ H1 s1 rfl⟩⟩
theorem Ck{i j:Int}{p:Pos}(hc:X.calm=true)(hg:Gl X "min")(hm:X.mg "min"=none)(ha:E X Γ e1 b1 i)(hb:E X Γ e2 b2 j)(hs:starEach [e1,e2] X.env=(false,eval e1 X.env)::starEach [e2] X.env:=by rfl)(hs2:starEach [e2] X.env=(false,eval e2 X.env)::starEach [] X.env:=by rfl)(hpl:(backTo pos (starEach [e2] X.env)).any (·.1)=false:=by rfl):
  E X Γ (.Call (.Name "min" p) [e1,e2] [] pos) true (if j<i then j else i):=by
 with_unfolding_all
  exact aF (dI (wB hc) hg hm boot_min (aA ha (aA hb aU hs2) hs) (he:=hs) (hpl:=hpl)) fun σ H Q ⟨H0,F,O,S,q⟩=>⟨H0,F,O,S,fun v H1 s1 r1=>⟨H0,F,O,S.go s1,fun w H2 s2 r2=>⟨i,j,by cases r1;cases r2;rfl,q _ H2 (s1.trans s2) rfl⟩⟩⟩
theorem Cq{i j:Int}{p:Pos}(hc:X.calm=true)(hg:Gl X "max")(hm:X.mg "max"=none)(ha:E X Γ e1 b1 i)(hb:E X Γ e2 b2 j)(hs:starEach [e1,e2] X.env=(false,eval e1 X.env)::starEach [e2] X.env:=by rfl)(hs2:starEach [e2] X.env=(false,eval e2 X.env)::starEach [] X.env:=by rfl)(hpl:(backTo pos (starEach [e2] X.env)).any (·.1)=false:=by rfl):
  E X Γ (.Call (.Name "max" p) [e1,e2] [] pos) true (if j>i then j else i):=by
 with_unfolding_all
  exact aF (dI (xa hc) hg hm boot_max (aA ha (aA hb aU hs2) hs) (he:=hs) (hpl:=hpl)) fun σ H Q ⟨H0,F,O,S,q⟩=>⟨H0,F,O,S,fun v H1 s1 r1=>⟨H0,F,O,S.go s1,fun w H2 s2 r2=>⟨i,j,by cases r1;cases r2;rfl,q _ H2 (s1.trans s2) rfl⟩⟩⟩
theorem fL{xs:List α}{p:Pos}(hg:Gl X "len")(hm:X.mg "len"=none)(ha:E X Γ e b xs)(hs:starEach [e] X.env=(false,eval e X.env)::starEach [] X.env:=by rfl):E X Γ (.Call (.Name "len" p) [e] [] pos) true (xs.length:Int):=by
 with_unfolding_all
  exact aF (dI pR hg hm PySem.boot_len (aA ha aU hs) (he:=hs)) fun σ H Q ⟨H0,F,O,S,q⟩=>⟨H0,F,O,S,fun v H1 s1 r1=>by
    obtain⟨p,vs,e,sq,n,r⟩:=r1;refine⟨p,vs,by rw[e],.inl ((aj _ _).seq sq),q _ H1 s1 ?_⟩;show V.int _=V.int _
    rw[bW r]⟩
theorem C6{c:Bool}{p:Pos}(hg:Gl X "int")(hm:X.mg "int"=none)(ha:E X Γ e b c)(hs:starEach [e] X.env=(false,eval e X.env)::starEach [] X.env:=by rfl):E X Γ (.Call (.Name "int" p) [e] [] pos) true (if c then (1:Int) else 0):=by
 with_unfolding_all
  exact aF (ka xf hg hm PyProof.Rows.boot_int (aA ha aU hs) (he:=hs)) fun σ H Q ⟨H0,F,O,S,q⟩=>⟨H0,F,O,S,fun v H1 s1 r1=>.inr ⟨c,by cases r1;rfl,q _ H1 s1 rfl⟩⟩
end
structure GD where
 nx:aC->Prop
 rt:Bd->Prop
 bk:aC->Prop:=fun _=>False
 ct:aC->Prop:=fun _=>False
def Bd.Jr(K:PySem.W.Frag)(H0:Hp)(F:Addr->Prop)(H:Hp)(v:V):Bd->Prop
 |@Bd.val _ _ b a=>Py.rp K (Nf H0 b) (off H F) v a
 |@Bd.own _ _ _ _=>False
 |@Bd.dpo _ _ _=>False
def tG(K:PySem.W.Frag)(Γ:aC)(D:GD):TS:=fun De σ H=>∃H0 F O,dw K H0 F O Γ σ H /\
 (∀Γ' σ' H' O',aB (off H O) (off H' O')->dw K H0 F O' Γ' σ' H'->D.nx Γ'->De.nx σ' H') /\
 (∀g v H',aB H0 H'->Bd.Jr K H0 F H' v g->D.rt g->De.rt v H') /\
 (∀Γ' σ' H' O',aB (off H O) (off H' O')->dw K H0 F O' Γ' σ' H'->D.bk Γ'->De.bk σ' H') /\
 (∀Γ' σ' H' O',aB (off H O) (off H' O')->dw K H0 F O' Γ' σ' H'->D.ct Γ'->De.ct σ' H')
@[irreducible] def S(X:Cx)(Γ:aC)(st:List Stmt)(D:GD):Prop:=nA X st (tG X.K Γ D)
@[irreducible] def S1(X:Cx)(Γ:aC)(st:Stmt)(D:GD):Prop:=PS X st (tG X.K Γ D)
theorem cR{X:Cx}{st:Stmt}{t t':TS}(h:PS X st t)(w:∀D σ H,t' D σ H->t D σ H):PS X st t':=fun pins s σ H D I q=>h pins s σ H D I (w _ _ _ q)
theorem ku{X:Cx}{st:List Stmt}{t t':TS}(h:nA X st t)(w:∀D σ H,t' D σ H->t D σ H):nA X st t':=fun pins s σ H D I q=>h pins s σ H D I (w _ _ _ q)
section
variable{X:Cx}{Γ:aC}{D:GD}{α β γ:Type}[Py α][Py β][Py γ]{e e1 e2 e3:Expr}{b b1 b2 b3:Bool}{pos:Pos}{st:Stmt}{rest body orelse:List Stmt}
theorem ay(h:D.nx Γ):S X Γ [] D:=by
 with_unfolding_all
  exact ku BW fun De σ H ⟨H0,F,O,Z,n,_⟩=>n Γ σ H O (aB.refl _) Z h
theorem zf{X:Cx}{st:List Stmt}{ι:Type 1}{P:ι->Prop}{t:ι->TS}(h:∀i,P i->nA X st (t i)):nA X st (fun D σ H=>∃i,P i/\t i D σ H):=fun pins s σ H D I ⟨i,p,q⟩=>h i p pins s σ H D I q
theorem cS(h:S1 X Γ st {D with nx:=fun Γ'=>S X Γ' rest D}):S X Γ (st::rest) D:=by
 with_unfolding_all
  exact ku (yC h (zf (ι:=aC) (P:=fun Γ'=>S X Γ' rest D) (t:=fun Γ'=>tG X.K Γ' D) fun _ q=>q)) fun De σ H ⟨H0,F,O,Z,n,r,bk,ct⟩ =>
    ⟨H0,F,O,Z,fun Γ' σ' H' O' sm Z' q=>⟨Γ',q,H0,F,O',Z',fun Γ2 σ2 H2 O2 sm2 Z2 q2=>n Γ2 σ2 H2 O2 (sm.trans sm2) Z2 q2,r,fun Γ2 σ2 H2 O2 sm2 Z2 q2=>bk Γ2 σ2 H2 O2 (sm.trans sm2) Z2 q2,
     fun Γ2 σ2 H2 O2 sm2 Z2 q2=>ct Γ2 σ2 H2 O2 (sm.trans sm2) Z2 q2⟩,r,bk,ct⟩
theorem ah(i:Nat){x:Str}{a:α}{p:Pos}(hN:X.N.Nodup)(he:E X Γ e b a)(h:S X (Γ.set i (some (.val b a))) rest D)(hi:X.N[i]?=some x:=by rfl)(hx:Loc X.env.scope x:=by first|exact Or.inl rfl|exact Or.inr rfl)
  (hs:swapsWith e (some (.Name x p)) pos.line X.env=pure false:=by rfl) (hf:X.fn x=true\/X.env.scope.names.lookup x=some .local:=by first|exact .inl rfl|exact .inr rfl):S X Γ (.Assign [.Name x p] e pos::rest) D:=by
 with_unfolding_all
  exact cS (cR (l_ hN hi hx he hs hf) fun De σ H ⟨H0,F,O,Z,n,_⟩=>⟨H0,F,O,Z,fun v H1 s1 r1=>n _ _ H1 O (ag s1) ((Z.go s1).set r1) h⟩)
theorem ax{a:α}(he:E X Γ e b a)(h:D.rt (.val b a)):S X Γ (.Return (some e) pos::rest) D:=by
 with_unfolding_all
  exact cS (cR (yL he) fun De σ H ⟨H0,F,O,Z,n,r,_⟩=>⟨H0,F,O,Z,fun v H1 s1 r1=>r (.val b a) v H1 ((Z.go s1).same) (aw (jw Z.fo) r1) h⟩)
theorem Hc{c:Bool}(hc:T X Γ e c)(h1:c=true->S X Γ body {D with nx:=fun Γ'=>S X Γ' rest D})(h2:c=false->S X Γ orelse {D with nx:=fun Γ'=>S X Γ' rest D}):S X Γ (.If e body orelse pos::rest) D:=by
 with_unfolding_all
  cases c with
  |true=>exact cS (cR (Ca hc (h1 rfl) oJ) fun De σ H ⟨H0,F,O,Z,n,r,bk,ct⟩=>⟨H0,F,O,Z,fun H1 s1=>pU ⟨H0,F,O,Z.go s1,fun Γ2 σ2 H2 O2 sm=>n Γ2 σ2 H2 O2 ((ag s1).trans sm),r,fun Γ2 σ2 H2 O2 sm=>bk Γ2 σ2 H2 O2 ((ag s1).trans sm),fun Γ2 σ2 H2 O2 sm=>ct Γ2 σ2 H2 O2 ((ag s1).trans sm)⟩⟩)
  |false=>exact cS (cR (Ca hc oJ (h2 rfl)) fun De σ H ⟨H0,F,O,Z,n,r,bk,ct⟩=>⟨H0,F,O,Z,fun H1 s1=>pX ⟨H0,F,O,Z.go s1,fun Γ2 σ2 H2 O2 sm=>n Γ2 σ2 H2 O2 ((ag s1).trans sm),r,fun Γ2 σ2 H2 O2 sm=>bk Γ2 σ2 H2 O2 ((ag s1).trans sm),fun Γ2 σ2 H2 O2 sm=>ct Γ2 σ2 H2 O2 ((ag s1).trans sm)⟩⟩)
theorem aL{c:Bool}(hc:T X Γ e c)(h1:c=true->S X Γ body {D with nx:=fun Γ'=>S X Γ' rest D})(h2:c=false->S X Γ rest D):S X Γ (.If e body [] pos::rest) D:=by
 with_unfolding_all
  exact Hc hc h1 fun z=>ay (h2 z)
def g8(X:Cx)(body:List Stmt):TS:=fun De σ H=>∃Γ',∃D',S X Γ' body D'/\tG X.K Γ' D' De σ H
theorem fY:nA X body (g8 X body):=by
 with_unfolding_all
  exact fun pins s σ H De I ⟨Γ',D',t,q⟩=>(show nA X body (tG X.K Γ' D') from t) pins s σ H De I q
theorem bJ{ι:Type}(J:ι->aC->Prop)(μ:ι->Nat)(i0:ι)(h0:J i0 Γ)(ht:∀i Γ',J i Γ'->∃c,T X Γ' e c/\(c=true->S X Γ' body {D with nx:=fun Γ2=>∃j,J j Γ2/\μ j<μ i,ct:=fun Γ2=>∃j,J j Γ2/\μ j<μ i,bk:=fun Γ2=>S X Γ2 rest D})/\(c=false->S X Γ' rest D))
  (hp:PassesOwn (model X.prog X.w) X.A X.env X.xe:=by exact PassesOwn.never):S X Γ (.While e body [] pos::rest) D:=by
 with_unfolding_all
  refine cS (cR (zh (tc:=fun σ H Q=>∃ Γ',∃ c,T X Γ' e c/\EW X.K Γ' c σ H Q) (tb:=g8 X body) hp
   (fun pins s σ H Q I ⟨Γ',c,t,q⟩=>(show PT X e (EW X.K Γ' c) from t) pins s σ H Q I q) fY) fun De σ H ⟨H0,F,O,Z,n,r,bk,ct⟩=>?_)
  refine⟨fun m σ' H'=>∃i Γ' O',aB (off H O) (off H' O')/\dw X.K H0 F O' Γ' σ' H'/\J i Γ'/\m=μ i,⟨_,i0,Γ,O,aB.refl _,Z,h0,rfl⟩,?_⟩;rintro m σ' H' ⟨i,Γ',O',sm,Z',j,rfl⟩;obtain⟨c,t,ht1,ht2⟩:=ht i Γ' j;refine⟨Γ',c,t,H0,F,O',Z',fun H1 s1=>?_⟩;cases c with
  |true =>
   refine pU ⟨fun σ2 H2=>∃i2 Γ2 O2,aB (off H O) (off H2 O2)/\dw X.K H0 F O2 Γ2 σ2 H2/\J i2 Γ2/\μ i2<μ i,fun σ2 H2 ⟨i2,Γ2,O2,sm2,Z2,j2,l⟩=>⟨μ i2,l,i2,Γ2,O2,sm2,Z2,j2,rfl⟩,Γ',_,ht1 rfl,H0,F,O',Z'.go s1,?_,r,?_,?_⟩
   .exact fun Γ2 σ2 H2 O2 sm2 Z2 ⟨i2,q1,q2⟩=>⟨i2,Γ2,O2,sm.trans ((ag s1).trans sm2),Z2,q1,q2⟩
   .exact fun Γ2 σ2 H2 O2 sm2 Z2 q=>n Γ2 σ2 H2 O2 (sm.trans ((ag s1).trans sm2)) Z2 q
   .exact fun Γ2 σ2 H2 O2 sm2 Z2 ⟨i2,q1,q2⟩=>⟨i2,Γ2,O2,sm.trans ((ag s1).trans sm2),Z2,q1,q2⟩
  |false=>exact pX (n Γ' σ' H1 O' (sm.trans (ag s1)) (Z'.go s1) (ht2 rfl))
def GP(g:TG)(α:Type)[Py α](put:Bool->α->aC->aC)(tc:Nat->Prop)(K:PySem.W.Frag):Prop :=
 ∀(b:Bool) (a:α) (H0:Hp) (F O:Addr->Prop) (Γ:aC) (σ:St) (H:Hp) (v:V) (Q:St->Hp->Prop),dw K H0 F O Γ σ H->Py.rp K (Nf H0 b) (off H O) v a ->
  (∀σ',dw K H0 F O (put b a Γ) σ' H->σ'.length=σ.length->(∀j,¬tc j->σ'[j]?=σ[j]?)->Q σ' H)->g v σ H Q
def G(X:Cx)(tg:Expr)(g:TG)(α:Type)[Py α](put:Bool->α->aC->aC)(tc:Nat->Prop):Prop:=PG X tg g/\GP g α put tc X.K
theorem b9(i:Nat){K:PySem.W.Frag}:GP (jr i) α (fun b a Γ=>Γ.set i (some (.val b a))) (·=i) K:=fun b a H0 F O Γ σ H v Q Z r q=>q _ (Z.set r) (List.length_set ..) fun j hj=>get_set_ne hj
theorem cQ(i:Nat){x:Str}(hN:X.N.Nodup)(hi:X.N[i]?=some x:=by rfl)(hx:Loc X.env.scope x:=by first|exact Or.inl rfl|exact Or.inr rfl)(hf:X.fn x=true\/X.env.scope.names.lookup x=some .local:=by first|exact .inl rfl|exact .inr rfl):
  G X (.Name x pos) (jr i) α (fun b a Γ=>Γ.set i (some (.val b a))) (·=i):=⟨de hN hi hx hf,b9 i⟩
end
section
variable{X:Cx}{Γ:aC}{D:GD}{α β γ δ:Type}[Py α][Py β][Py γ][Py δ]{e e1 e2 e3:Expr}{b b1 b2 b3:Bool}{pos:Pos}{st:Stmt}{rest body orelse:List Stmt}{tg:Expr}{g:TG}{tc:Nat->Prop}
theorem gF{put:Bool->Int->aC->aC}{n:Int}{p ps:Pos}(J:Nat->aC->Prop)(hg:Gl X "range")(hm:X.mg "range"=none)(hG:G X tg g Int put tc)(he:E X Γ e b n)(h1:-(2^62)<=n)(h2:n<2^62)(h0:J 0 Γ)
  (ht:∀(i:Nat) Γ',i<n.toNat->J i Γ'->S X (put true (i:Int) Γ') body {D with nx:=J (i+1),ct:=J (i+1),bk:=fun Γ2=>S X Γ2 rest D}) (hd:∀Γ',J n.toNat Γ'->S X Γ' rest D)
  (hc:X.calm=true:=by rfl) (hp:PassesOwn (model X.prog X.w) X.A X.env X.xe:=by exact PassesOwn.never) (hs:starEach [e] X.env=[(false,eval e X.env)]:=by rfl) (hs1:starEach [e] X.env=(false,eval e X.env)::starEach [] X.env:=by rfl)
  (hfs:∀x,foldedSetIterable (.Call (.Name "range" p) [e] [] ps) X.env x=pure x:=by intro _;rfl):S X Γ (.For tg (.Call (.Name "range" p) [e] [] ps) body [] pos::rest) D:=by
 with_unfolding_all
  refine cS (cR (nu hp hc (wV hg hm (aA he aU hs1) hs) hG.1 (tb:=g8 X body) fY hfs) fun De σ H ⟨H0,F,O,Z,nx,r,bk,ct⟩=>?_);refine⟨H0,F,O,Z,fun v H1 s1 r1=>⟨n,by cases r1;rfl,h1,h2,oB (lo:=0) (n:=n.toNat) (g:=g) (tb:=g8 X body) (D:=De) (fun i σ' H'=>∃Γ' O',aB (off H O) (off H' O')/\dw X.K H0 F O' Γ' σ' H'/\J i Γ') ⟨Γ,O,ag s1,Z.go s1,h0⟩ ?_ ?_⟩⟩
  .rintro i σ' H' hi ⟨Γ',O',sm,Z',j⟩;refine hG.2 true (i:Int) H0 F O' Γ' σ' H' _ _ Z' (by show V.int _=V.int _;rw[Int.zero_add]) fun σ2 Z2 _ _=>?_;refine⟨_,_,ht i Γ' hi j,H0,F,O',Z2,?_,r,?_,?_⟩
   .exact fun Γ2 σ2 H2 O2 sm2 Z2 q=>⟨Γ2,O2,sm.trans sm2,Z2,q⟩
   .exact fun Γ2 σ2 H2 O2 sm2 Z2 q=>nx Γ2 σ2 H2 O2 (sm.trans sm2) Z2 q
   .exact fun Γ2 σ2 H2 O2 sm2 Z2 q=>⟨Γ2,O2,sm.trans sm2,Z2,q⟩
  .rintro σ' H' ⟨Γ',O',sm,Z',j⟩;exact nx Γ' σ' H' O' sm Z' (hd Γ' j)
theorem ro{put:Bool->Int->aC->aC}{lo n:Int}{p ps:Pos}(J:Nat->aC->Prop)(hg:Gl X "range")(hm:X.mg "range"=none)(hG:G X tg g Int put tc)(he1:E X Γ e1 b1 lo)(he2:E X Γ e2 b2 n)(hb:-(2^62)<=lo/\lo<2^62/\-(2^62)<=n/\n<2^62)(h0:J 0 Γ)
  (ht:∀(i:Nat) Γ',i<(n-lo).toNat->J i Γ'->S X (put true (lo+i:Int) Γ') body {D with nx:=J (i+1),ct:=J (i+1),bk:=fun Γ2=>S X Γ2 rest D}) (hd:∀Γ',J (n-lo).toNat Γ'->S X Γ' rest D)
  (hc:X.calm=true:=by rfl) (hp:PassesOwn (model X.prog X.w) X.A X.env X.xe:=by exact PassesOwn.never) (hs:starEach [e1,e2] X.env=[(false,eval e1 X.env),(false,eval e2 X.env)]:=by rfl) (hs2:starEach [e2] X.env=[(false,eval e2 X.env)]:=by rfl)
  (hs3:starEach [e1,e2] X.env=(false,eval e1 X.env)::starEach [e2] X.env:=by rfl) (hs4:starEach [e2] X.env=(false,eval e2 X.env)::starEach [] X.env:=by rfl)
  (hfs:∀x,foldedSetIterable (.Call (.Name "range" p) [e1,e2] [] ps) X.env x=pure x:=by intro _;rfl):S X Γ (.For tg (.Call (.Name "range" p) [e1,e2] [] ps) body [] pos::rest) D:=by
 with_unfolding_all
  refine cS (cR (nu hp hc (wM hg hm (aA he1 (aA he2 aU hs4) hs3) hs hs2) hG.1 (tb:=g8 X body) fY hfs) fun De σ H ⟨H0,F,O,Z,nx,r,bk,ct⟩=>?_);refine⟨H0,F,O,Z,fun v H1 s1 r1=>⟨H0,F,O,Z.go s1,fun v' H1' s1' r1'=>⟨lo,n,by cases r1;cases r1';rfl,hb,oB (lo:=lo) (n:=(n-lo).toNat) (g:=g) (tb:=g8 X body) (D:=De) (fun i σ' H'=>∃Γ' O',aB (off H O) (off H' O')/\dw X.K H0 F O' Γ' σ' H'/\J i Γ') ⟨Γ,O,ag (s1.trans s1'),Z.go (s1.trans s1'),h0⟩ ?_ ?_⟩⟩⟩
  .rintro i σ' H' hi ⟨Γ',O',sm,Z',j⟩;refine hG.2 true (lo+i:Int) H0 F O' Γ' σ' H' _ _ Z' rfl fun σ2 Z2 _ _=>?_;refine⟨_,_,ht i Γ' hi j,H0,F,O',Z2,?_,r,?_,?_⟩
   .exact fun Γ2 σ2 H2 O2 sm2 Z2 q=>⟨Γ2,O2,sm.trans sm2,Z2,q⟩
   .exact fun Γ2 σ2 H2 O2 sm2 Z2 q=>nx Γ2 σ2 H2 O2 (sm.trans sm2) Z2 q
   .exact fun Γ2 σ2 H2 O2 sm2 Z2 q=>⟨Γ2,O2,sm.trans sm2,Z2,q⟩
  .rintro σ' H' ⟨Γ',O',sm,Z',j⟩;exact nx Γ' σ' H' O' sm Z' (hd Γ' j)
theorem qt{put:Bool->Int->aC->aC}{lo n c:Int}{p ps:Pos}(J:Nat->aC->Prop)(hg:Gl X "range")(hm:X.mg "range"=none)(hG:G X tg g Int put tc)(he1:E X Γ e1 b1 lo)(he2:E X Γ e2 b2 n)(he3:E X Γ e3 b3 c)(hb:-(2^62)<=lo/\lo<2^62/\-(2^62)<=n/\n<2^62)(hcc:c≠0/\-1000<=c/\c<=1000)(h0:J 0 Γ)
  (ht:∀(i:Nat) Γ',i<(Builtin.Range.rangeSize lo n c).toNat->J i Γ'->S X (put true (lo+i*c:Int) Γ') body {D with nx:=J (i+1),ct:=J (i+1),bk:=fun Γ2=>S X Γ2 rest D}) (hd:∀Γ',J (Builtin.Range.rangeSize lo n c).toNat Γ'->S X Γ' rest D)
  (hc:X.calm=true:=by rfl) (hp:PassesOwn (model X.prog X.w) X.A X.env X.xe:=by exact PassesOwn.never)
  (hs1:starEach [e1,e2,e3] X.env=(false,eval e1 X.env)::starEach [e2,e3] X.env:=by rfl) (hs2:starEach [e2,e3] X.env=(false,eval e2 X.env)::starEach [e3] X.env:=by rfl) (hs3:starEach [e3] X.env=(false,eval e3 X.env)::starEach [] X.env:=by rfl)
  (hpl:(backTo ps (starEach [e2,e3] X.env)).any (·.1)=false:=by rfl) (hfs:∀x,foldedSetIterable (.Call (.Name "range" p) [e1,e2,e3] [] ps) X.env x=pure x:=by intro _;rfl):S X Γ (.For tg (.Call (.Name "range" p) [e1,e2,e3] [] ps) body [] pos::rest) D:=by
 with_unfolding_all
  refine cS (cR (nu hp hc (xr hg hm (aA he1 (aA he2 (aA he3 aU hs3) hs2) hs1) hs1 hpl) hG.1 (tb:=g8 X body) fY hfs) fun De σ H ⟨H0,F,O,Z,nx,r,bk,ct⟩=>?_);refine⟨H0,F,O,Z,fun v H1 s1 r1=>⟨H0,F,O,Z.go s1,fun v' H2 s2 r2=>⟨H0,F,O,Z.go (s1.trans s2),fun v'' H3 s3 r3=>⟨lo,n,c,by cases r1;cases r2;cases r3;rfl,hb,hcc,sT (lo:=lo) (c:=c) (n:=(Builtin.Range.rangeSize lo n c).toNat) (g:=g) (tb:=g8 X body) (D:=De) (fun i σ' H'=>∃Γ' O',aB (off H O) (off H' O')/\dw X.K H0 F O' Γ' σ' H'/\J i Γ') ⟨Γ,O,ag (s1.trans (s2.trans s3)),Z.go (s1.trans (s2.trans s3)),h0⟩ ?_ ?_⟩⟩⟩⟩
  .rintro i σ' H' hi ⟨Γ',O',sm,Z',j⟩;refine hG.2 true (lo+i*c:Int) H0 F O' Γ' σ' H' _ _ Z' rfl fun σ2 Z2 _ _=>?_;refine⟨_,_,ht i Γ' hi j,H0,F,O',Z2,?_,r,?_,?_⟩
   .exact fun Γ2 σ2 H2 O2 sm2 Z2 q=>⟨Γ2,O2,sm.trans sm2,Z2,q⟩
   .exact fun Γ2 σ2 H2 O2 sm2 Z2 q=>nx Γ2 σ2 H2 O2 (sm.trans sm2) Z2 q
   .exact fun Γ2 σ2 H2 O2 sm2 Z2 q=>⟨Γ2,O2,sm.trans sm2,Z2,q⟩
  .rintro σ' H' ⟨Γ',O',sm,Z',j⟩;exact nx Γ' σ' H' O' sm Z' (hd Γ' j)
theorem km{put:Bool->α->aC->aC}{xs:List α}(J:Nat->aC->Prop)(hG:G X tg g α put tc)(he:E X Γ e b xs)(h0:J 0 Γ)
  (ht:∀(i:Nat) (a:α) Γ',xs[i]?=some a->J i Γ'->S X (put b a Γ') body {D with nx:=J (i+1),ct:=J (i+1),bk:=fun Γ2=>S X Γ2 rest D}) (hd:∀Γ',J xs.length Γ'->S X Γ' rest D)
  (hc:X.calm=true:=by rfl) (hp:PassesOwn (model X.prog X.w) X.A X.env X.xe:=by exact PassesOwn.never)
  (hfs:∀x,foldedSetIterable e X.env x=pure x:=by intro _;rfl):S X Γ (.For tg e body [] pos::rest) D:=by
 with_unfolding_all
  refine cS (cR (nu hp hc (vx he) hG.1 (tb:=g8 X body) fY hfs) fun De σ H ⟨H0,F,O,Z,nx,r,bk,ct⟩=>?_);refine⟨H0,F,O,Z,fun v H1 s1 r1=>?_⟩;obtain⟨p,vs,e,sq,nn,rr⟩:=r1;refine⟨p,e,⟨vs,(aj _ _).seq sq⟩,zd (K:=X.K) (a:=p) (xs:=vs) (g:=g) (tb:=g8 X body) (D:=De) (fun i σ' H'=>∃Γ' O',aB (off H1 O) (off H' O')/\dw X.K H0 F O' Γ' σ' H'/\J i Γ') ⟨Γ,O,aB.refl _,Z.go s1,h0⟩ ?_ ?_ ?_⟩
  .rintro i σ' H' hi ⟨Γ',O',sm,Z',j⟩;exact(aj _ _).seq (sm.seq sq)
  .rintro i x σ' H' hi ⟨Γ',O',sm,Z',j⟩;obtain⟨a,h1,h2⟩:=v8 rr hi;refine hG.2 b a H0 F O' Γ' σ' H' _ _ Z' (aw sm h2) fun σ2 Z2 _ _=>?_;refine⟨_,_,ht i a Γ' h1 j,H0,F,O',Z2,?_,r,?_,?_⟩
   .exact fun Γ2 σ2 H2 O2 sm2 Z2 q=>⟨Γ2,O2,sm.trans sm2,Z2,q⟩
   .exact fun Γ2 σ2 H2 O2 sm2 Z2 q=>nx Γ2 σ2 H2 O2 ((ag s1).trans (sm.trans sm2)) Z2 q
   .exact fun Γ2 σ2 H2 O2 sm2 Z2 q=>⟨Γ2,O2,sm.trans sm2,Z2,q⟩
  .rintro σ' H' ⟨Γ',O',sm,Z',j⟩;rw[bW rr] at j;exact nx Γ' σ' H' O' ((ag s1).trans sm) Z' (hd Γ' j)
end
structure aN(P:Program)(w:World)(K:PySem.W.Frag)(mg:Str->Option Value)(base:Heap)(k:Nat)(name:Str)(ps:List Str)(sp:Sp):Prop where
 ex:∃(f:Addr) (fd:FuncData),fe P w K mg base nC k f fd ps sp/\Binds K fd ps []/\PySem.W.keepIn K (.ref f)=true/\mg name=some (.ref f)
def kY(H:Hp)(O:Addr->Prop):Prop:=∀p,O p->∃xs:Mt,H p=some (mo xs)
def gS{α β:Type}[Py α][Py β](K:PySem.W.Frag)(pre:α->Prop)(b:Bool)(f:α->β):Sp:=fun vs H Q _=>∃O v a,kY H O/\vs=[v]/\Py.rp K .any (off H O) v a/\pre a/\∀r H',aB H H'->Py.rp K (Nf H b) (off H' O) r (f a)->Q r H'
def cT{α β γ:Type}[Py α][Py β][Py γ](K:PySem.W.Frag)(pre:α->β->Prop)(b:Bool)(f:α->β->γ):Sp:=fun vs H Q _=>∃O v w a c,kY H O/\vs=[v,w]/\Py.rp K .any (off H O) v a/\Py.rp K .any (off H O) w c/\pre a c/\∀r H',aB H H'->Py.rp K (Nf H b) (off H' O) r (f a c)->Q r H'
def kF{α β γ δ:Type}[Py α][Py β][Py γ][Py δ](K:PySem.W.Frag)(pre:α->β->γ->Prop)(b:Bool)(f:α->β->γ->δ):Sp:=fun vs H Q _=>∃O v w x a c d,kY H O/\vs=[v,w,x]/\Py.rp K .any (off H O) v a/\Py.rp K .any (off H O) w c/\Py.rp K .any (off H O) x d/\pre a c d/\∀r H',aB H H'->Py.rp K (Nf H b) (off H' O) r (f a c d)->Q r H'
def Hq{α β γ δ ε:Type}[Py α][Py β][Py γ][Py δ][Py ε](K:PySem.W.Frag)(pre:α->β->γ->δ->Prop)(b:Bool)(f:α->β->γ->δ->ε):Sp:=fun vs H Q _=>∃O v w x y a c d g,kY H O/\vs=[v,w,x,y]/\Py.rp K .any (off H O) v a/\Py.rp K .any (off H O) w c/\Py.rp K .any (off H O) x d/\Py.rp K .any (off H O) y g/\pre a c d g/\∀r H',aB H H'->Py.rp K (Nf H b) (off H' O) r (f a c d g)->Q r H'
theorem bf{H0 H:Hp}{b:Bool}:∀p xs,(Nf H0 b).has H p xs->Nn.any.has H p xs:=fun _ _ _=>True.intro
section
variable{X:Cx}{Γ:aC}{D:GD}{α β γ δ ε:Type}[Py α][Py β][Py γ][Py δ][Py ε]{e e1 e2 e3 e4:Expr}{b b1 b2 b3 b4:Bool}{p pos:Pos}{k:Nat}{name:Str}{ps:List Str}
theorem bh{pre:α->Prop}{f:α->β}{a:α}(C:aN X.prog X.w X.K X.mg X.base k name ps (gS X.K pre b f))(hr:cM k X.A)(hg:Gl X name)(h1:E X Γ e1 b1 a)(hp:pre a)
  (hs1:starEach [e1] X.env=(false,eval e1 X.env)::starEach [] X.env:=by rfl) (hdb:(name==("__debug__":Str))=false:=by decide) (hpl:(backTo pos (starEach [] X.env)).any (·.1)=false:=by rfl):
  E X Γ (.Call (.Name name p) [e1] [] pos) b (f a):=by
 with_unfolding_all
  obtain⟨fa,fd,F,B,kp,m⟩:=C.ex
  exact aF (d8 F hr hg m kp B .nil iV (aA h1 aU hs1) hdb hs1 hpl) fun σ H Q ⟨H0,F,O,S,q⟩=>⟨H0,F,O,S,fun v1 H1 s1 r1 =>
   ⟨O,v1,a,(S.go s1).own,rfl,a9 bf r1,hp,fun r H' s' z=>q r H' (s1.trans s') ((S.go s1).back z)⟩⟩
theorem aE{pre:α->β->Prop}{f:α->β->γ}{a:α}{c:β}(C:aN X.prog X.w X.K X.mg X.base k name ps (cT X.K pre b f))(hr:cM k X.A)(hg:Gl X name)(h1:E X Γ e1 b1 a)(h2:E X Γ e2 b2 c)(hp:pre a c)
  (hs1:starEach [e1,e2] X.env=(false,eval e1 X.env)::starEach [e2] X.env:=by rfl) (hs2:starEach [e2] X.env=(false,eval e2 X.env)::starEach [] X.env:=by rfl) (hdb:(name==("__debug__":Str))=false:=by decide) (hpl:(backTo pos (starEach [e2] X.env)).any (·.1)=false:=by rfl):
  E X Γ (.Call (.Name name p) [e1,e2] [] pos) b (f a c):=by
 with_unfolding_all
  obtain⟨fa,fd,F,B,kp,m⟩:=C.ex
  exact aF (d8 F hr hg m kp B .nil iV (aA h1 (aA h2 aU hs2) hs1) hdb hs1 hpl) fun σ H Q ⟨H0,F,O,S,q⟩=>⟨H0,F,O,S,fun v1 H1 s1 r1=>⟨H0,F,O,S.go s1,fun v2 H2 s2 r2 =>
   ⟨O,v1,v2,a,c,(S.go (s1.trans s2)).own,rfl,a9 bf (aw (ag s2) r1),a9 bf r2,hp,fun r H' s' z=>q r H' (s1.trans (s2.trans s')) ((S.go (s1.trans s2)).back z)⟩⟩⟩
theorem bS{pre:α->β->γ->Prop}{f:α->β->γ->δ}{a:α}{c:β}{d:γ}(C:aN X.prog X.w X.K X.mg X.base k name ps (kF X.K pre b f))(hr:cM k X.A)(hg:Gl X name)(h1:E X Γ e1 b1 a)(h2:E X Γ e2 b2 c)(h3:E X Γ e3 b3 d)(hp:pre a c d)
  (hs1:starEach [e1,e2,e3] X.env=(false,eval e1 X.env)::starEach [e2,e3] X.env:=by rfl) (hs2:starEach [e2,e3] X.env=(false,eval e2 X.env)::starEach [e3] X.env:=by rfl) (hs3:starEach [e3] X.env=(false,eval e3 X.env)::starEach [] X.env:=by rfl)
  (hdb:(name==("__debug__":Str))=false:=by decide) (hpl:(backTo pos (starEach [e2,e3] X.env)).any (·.1)=false:=by rfl):
  E X Γ (.Call (.Name name p) [e1,e2,e3] [] pos) b (f a c d):=by
 with_unfolding_all
  obtain⟨fa,fd,F,B,kp,m⟩:=C.ex
  exact aF (d8 F hr hg m kp B .nil iV (aA h1 (aA h2 (aA h3 aU hs3) hs2) hs1) hdb hs1 hpl) fun σ H Q ⟨H0,F,O,S,q⟩=>⟨H0,F,O,S,fun v1 H1 s1 r1=>⟨H0,F,O,S.go s1,fun v2 H2 s2 r2=>⟨H0,F,O,S.go (s1.trans s2),fun v3 H3 s3 r3 =>
   ⟨O,v1,v2,v3,a,c,d,(S.go (s1.trans (s2.trans s3))).own,rfl,a9 bf (aw ((ag s2).trans (ag s3)) r1),a9 bf (aw (ag s3) r2),a9 bf r3,hp,fun r H' s' z=>q r H' (s1.trans (s2.trans (s3.trans s'))) ((S.go (s1.trans (s2.trans s3))).back z)⟩⟩⟩⟩
theorem Bo{pre:α->β->γ->δ->Prop}{f:α->β->γ->δ->ε}{a:α}{c:β}{d:γ}{g:δ}(C:aN X.prog X.w X.K X.mg X.base k name ps (Hq X.K pre b f))(hr:cM k X.A)(hg:Gl X name)(h1:E X Γ e1 b1 a)(h2:E X Γ e2 b2 c)(h3:E X Γ e3 b3 d)(h4:E X Γ e4 b4 g)(hp:pre a c d g)
  (hs1:starEach [e1,e2,e3,e4] X.env=(false,eval e1 X.env)::starEach [e2,e3,e4] X.env:=by rfl) (hs2:starEach [e2,e3,e4] X.env=(false,eval e2 X.env)::starEach [e3,e4] X.env:=by rfl) (hs3:starEach [e3,e4] X.env=(false,eval e3 X.env)::starEach [e4] X.env:=by rfl) (hs4:starEach [e4] X.env=(false,eval e4 X.env)::starEach [] X.env:=by rfl)
  (hdb:(name==("__debug__":Str))=false:=by decide) (hpl:(backTo pos (starEach [e2,e3,e4] X.env)).any (·.1)=false:=by rfl):
  E X Γ (.Call (.Name name p) [e1,e2,e3,e4] [] pos) b (f a c d g):=by
 with_unfolding_all
  obtain⟨fa,fd,F,B,kp,m⟩:=C.ex
  exact aF (d8 F hr hg m kp B .nil iV (aA h1 (aA h2 (aA h3 (aA h4 aU hs4) hs3) hs2) hs1) hdb hs1 hpl) fun σ H Q ⟨H0,F,O,S,q⟩=>⟨H0,F,O,S,fun v1 H1 s1 r1=>⟨H0,F,O,S.go s1,fun v2 H2 s2 r2=>⟨H0,F,O,S.go (s1.trans s2),fun v3 H3 s3 r3=>⟨H0,F,O,S.go (s1.trans (s2.trans s3)),fun v4 H4 s4 r4 =>
   ⟨O,v1,v2,v3,v4,a,c,d,g,(S.go (s1.trans (s2.trans (s3.trans s4)))).own,rfl,a9 bf (aw ((ag s2).trans ((ag s3).trans (ag s4))) r1),a9 bf (aw ((ag s3).trans (ag s4)) r2),a9 bf (aw (ag s4) r3),a9 bf r4,hp,fun r H' s' z=>q r H' (s1.trans (s2.trans (s3.trans (s4.trans s')))) ((S.go (s1.trans (s2.trans (s3.trans s4)))).back z)⟩⟩⟩⟩⟩
end
def Ft(N:List Str)(gs:List Bd):aC:=gs.map some++List.replicate (N.length-gs.length) none
def RT{α:Type}[Py α](b:Bool)(a:α):GD:={nx:=fun _=>False,rt:=fun g=>g=.val b a}
inductive Args(K:PySem.W.Frag)(H:Hp):List V->List Bd->Prop
 |nil:Args K H [] []
 |cons {α:Type} [Py α] {v:V} {a:α} {vs:List V} {gs:List Bd}:Py.rp K .any H v a->Args K H vs gs->Args K H (v::vs) (.val false a::gs)
theorem Args.len{K:PySem.W.Frag}{H:Hp}:∀{vs:List V} {gs:List Bd},Args K H vs gs->vs.length=gs.length
 |_,_,.nil=>rfl
 |_,_,@Args.cons _ _ _ _ _ _ _ _ _ t=>congrArg (·+1) t.len
theorem Args.get{K:PySem.W.Frag}{H0 H:Hp}{O:Addr->Prop}:∀{vs:List V} {gs:List Bd} {i:Nat} {g:Bd},Args K (off H O) vs gs->gs[i]?=some g->∃v,vs[i]?=some v/\g.ok K H0 O H v/\¬g.eY
 |_,_,_,_,.nil,e=>by simp at e
 |_,_,0,_,@Args.cons _ _ _ _ _ _ _ _ h _,e=>by simp at e;subst e;exact⟨_,rfl,h,fun z=>z⟩
 |_,_,i+1,_,@Args.cons _ _ _ _ _ _ _ _ _ t,e=>by
  obtain⟨a,h1,h2⟩:=Args.get (i:=i) t (by simpa using e);exact⟨a,by simpa using h1,h2⟩
theorem om{K:PySem.W.Frag}{H:Hp}{O:Addr->Prop}{N:List Str}{vs:List V}{gs:List Bd}(ho:kY H O)(h:Args K (off H O) vs gs):dw K H O O (Ft N gs) (start N vs) H:=by
 have hl:=h.len
 have hget:∀(i:Nat) (g:Bd),(Ft N gs)[i]?=some (some g)->gs[i]?=some g:=fun i g e=>by
  unfold Ft at e;by_cases hi:i<(gs.map some).length
  .rw[List.getElem?_append_left hi,List.getElem?_map] at e;cases q:gs[i]? with
   |none=>rw[q] at e;cases e
   |some g'=>rw[q] at e;simpa using e
  .rw[List.getElem?_append_right (by omega)] at e;have:=List.mem_of_getElem? e;rw[List.mem_replicate] at this;cases this.2
 refine⟨aB.refl _,fun _ z=>z,ho,ho,by simp[Ft,start,hl],fun i g e _=>?_,⟨fun _ _=>False,fun _ _ _ z=>z.elim,fun _ _ z=>z.elim,fun i g e o=>?_⟩⟩
 .obtain⟨v,h1,h2,_⟩:=Args.get (H0:=H) h (hget i g e);refine⟨v,?_,h2⟩;unfold start
  have hi:i<(vs.map some).length:=by
   rw[List.length_map];exact(List.getElem?_eq_some_iff.mp h1).1
  rw[List.getElem?_append_left hi,List.getElem?_map,h1];rfl
 .obtain⟨_,_,_,no⟩:=Args.get (H0:=H) h (hget i g e);exact absurd o no
section
variable{P:Program}{w:World}{K:PySem.W.Frag}{mg:Str->Option Value}{base:Heap}{N ps:List Str}{k:Nat}{x qual:Str}{st:Stmt}{f:Addr}{fd:FuncData}
abbrev cx(P:Program)(w:World)(K:PySem.W.Frag)(mg:Str->Option Value)(base:Heap)(N:List Str)(qual:Str)(st:Stmt)(f:Addr)(cdv:Value)(A:Around)(outer:List Env)(s:Shared)(H:Hp)(E:XK):Cx:=(oX nC P w K mg base N qual (af st) f cdv A outer s H E).Ek
def Body(P:Program)(w:World)(K:PySem.W.Frag)(mg:Str->Option Value)(base:Heap)(N:List Str)(qual:Str)(st:Stmt)(f:Addr)(k:Nat)(gs:List Bd)(D:GD):Prop :=
 ∀(cdv:Value) (A:Around) (outer:List Env) (s:Shared) (H:Hp) (E:XK),cM k (A.deeper (envOfC qual (af st) s.heap.objs.size f cdv))->S (cx P w K mg base N qual st f cdv A outer s H E) (Ft N gs) (cL st) D
theorem jG{gs:List Bd}{vs:List V}{H:Hp}{O:Addr->Prop}{α:Type}[Py α]{b:Bool}{a:α}{Q:VK}{cdv:Value}{A:Around}{outer:List Env}{s:Shared}{E:XK}(B:Body P w K mg base N qual st f k gs (RT b a))(hr:cM k (A.deeper (envOfC qual (af st) s.heap.objs.size f cdv)))
  (ho:kY H O) (h:Args K (off H O) vs gs) (q:∀r H',aB H H'->Py.rp K (Nf H b) (off H' O) r a->Q r H'):
  ∃t,nA (oX nC P w K mg base N qual (af st) f cdv A outer s H E).Ek (cL st) t/\t {nx:=fun _ H'=>Q .non H',rt:=Q} (start N vs) H:=by
 with_unfolding_all
  refine⟨_,B cdv A outer s H E hr,H,O,O,om ho h,fun _ _ _ _ _ _ z=>z.elim,fun g v H' sm z e=>?_,fun _ _ _ _ _ _ z=>z.elim,fun _ _ _ _ _ _ z=>z.elim⟩;have e':g=.val b a:=e;subst e';exact q v H' sm z
theorem qj{α β:Type}[Py α][Py β]{pre:α->Prop}{b:Bool}{g:α->β}(F:sC K x qual st f fd)(sc:ai N ps (af st))(hl:ps.length=1)(B:∀a,pre a->Body P w K mg base N qual st f k [.val false a] (RT b (g a))):
  fe P w K mg base nC (k+1) f fd ps (gS K pre b g):=by
 with_unfolding_all
  refine F.ok sc (fun vs H Q E h=>?_) fun cdv A outer s H vs Q E hr h=>?_
  .obtain⟨O,v,a,_,rfl,_⟩:=h;rw[hl];rfl
  .obtain⟨O,v,a,ho,rfl,r,hp,q⟩:=h;exact jG (B a hp) hr ho (.cons r .nil) q
theorem ny{α β γ:Type}[Py α][Py β][Py γ]{pre:α->β->Prop}{b:Bool}{g:α->β->γ}(F:sC K x qual st f fd)(sc:ai N ps (af st))(hl:ps.length=2)(B:∀a c,pre a c->Body P w K mg base N qual st f k [.val false a,.val false c] (RT b (g a c))):
  fe P w K mg base nC (k+1) f fd ps (cT K pre b g):=by
 with_unfolding_all
  refine F.ok sc (fun vs H Q E h=>?_) fun cdv A outer s H vs Q E hr h=>?_
  .obtain⟨O,v,v2,a,c,_,rfl,_⟩:=h;rw[hl];rfl
  .obtain⟨O,v,v2,a,c,ho,rfl,r,r2,hp,q⟩:=h;exact jG (B a c hp) hr ho (.cons r (.cons r2 .nil)) q
theorem Aq{α β γ δ:Type}[Py α][Py β][Py γ][Py δ]{pre:α->β->γ->Prop}{b:Bool}{g:α->β->γ->δ}(F:sC K x qual st f fd)(sc:ai N ps (af st))(hl:ps.length=3)(B:∀a c d,pre a c d->Body P w K mg base N qual st f k [.val false a,.val false c,.val false d] (RT b (g a c d))):
  fe P w K mg base nC (k+1) f fd ps (kF K pre b g):=by
 with_unfolding_all
  refine F.ok sc (fun vs H Q E h=>?_) fun cdv A outer s H vs Q E hr h=>?_
  .obtain⟨O,v,v2,v3,a,c,d,_,rfl,_⟩:=h;rw[hl];rfl
  .obtain⟨O,v,v2,v3,a,c,d,ho,rfl,r,r2,r3,hp,q⟩:=h;exact jG (B a c d hp) hr ho (.cons r (.cons r2 (.cons r3 .nil))) q
theorem Jk{α β γ δ ε:Type}[Py α][Py β][Py γ][Py δ][Py ε]{pre:α->β->γ->δ->Prop}{b:Bool}{g:α->β->γ->δ->ε}(F:sC K x qual st f fd)(sc:ai N ps (af st))(hl:ps.length=4)(B:∀a c d y,pre a c d y->Body P w K mg base N qual st f k [.val false a,.val false c,.val false d,.val false y] (RT b (g a c d y))):
  fe P w K mg base nC (k+1) f fd ps (Hq K pre b g):=by
 with_unfolding_all
  refine F.ok sc (fun vs H Q E h=>?_) fun cdv A outer s H vs Q E hr h=>?_
  .obtain⟨O,v,v2,v3,v4,a,c,d,y,_,rfl,_⟩:=h;rw[hl];rfl
  .obtain⟨O,v,v2,v3,v4,a,c,d,y,ho,rfl,r,r2,r3,r4,hp,q⟩:=h;exact jG (B a c d y hp) hr ho (.cons r (.cons r2 (.cons r3 (.cons r4 .nil)))) q
end
section
variable{X:Cx}{Γ:aC}{α β:Type}[Py α][Py β]{e:Expr}{b:Bool}{p p2 pos:Pos}
theorem vM{a:α}{T:Str}{T':String}{c:Bool}(hg:Gl X "isinstance")(hm:X.mg "isinstance"=none)(hg2:Gl X T)(hm2:X.mg T=none)(hv:bootBuiltins T=some (.type T'))(ha:E X Γ e b a)
  (hk:∀(pins:List (Addr×Obj)) (s:Shared) (σ:St) (H:Hp) (N:Nn) (v:V) (u:Value) (Q:Value->Shared->Prop),Inv X pins σ H s->Py.rp X.K N H v a->RelV v u->(∀tk,Q (.bool c) {s with toks:=tk})->wpAny (model X.prog X.w) X.A (call (.builtin "isinstance") [u,.type T']) Q X.xe s)
  (hs:starEach [e,.Name T p2] X.env=(false,eval e X.env)::starEach [.Name T p2] X.env:=by rfl) (hs2:starEach [.Name T p2] X.env=(false,eval (.Name T p2) X.env)::starEach [] X.env:=by rfl) (hpl:(backTo pos (starEach [.Name T p2] X.env)).any (·.1)=false:=by rfl)
  (hn:T≠"__name__":=by decide) (hd:(T==("__debug__":Str))=false:=by decide):
  E X Γ (.Call (.Name "isinstance" p) [e,.Name T p2] [] pos) true c:=by
 with_unfolding_all
  have hc:gO X (.builtin "isinstance") (fun xs H Q=>∃N v,xs=[v,.ty T']/\Py.rp X.K N H v a/\Q (.bl c) H):=by
   intro pins s σ H xs us Q I r h;obtain⟨N,v,rfl,rv,q⟩:=h;obtain⟨u,w',rfl,rx,ry⟩:=vals2 r;cases ry;exact hk pins s σ H N v u _ I rv rx fun tk=>⟨.bl c,H,I.tok _,rfl,q⟩
  exact aF (dI hc hg hm boot_isinstance (aA ha (aA (AX (v:=.ty T') hg2 hm2 hv rfl hn hd) aU hs2) hs) (he:=hs) (hpl:=hpl)) fun σ H Q ⟨H0,F,O,S,q⟩=>⟨H0,F,O,S,fun v H1 s1 r1=>⟨_,v,rfl,aw (aj _ _) r1,q _ H1 s1 rfl⟩⟩
theorem DK{i:Int}(hg:Gl X "isinstance")(hm:X.mg "isinstance"=none)(hg2:Gl X "int")(hm2:X.mg "int"=none)(ha:E X Γ e b i)
  (hs:starEach [e,.Name "int" p2] X.env=(false,eval e X.env)::starEach [.Name "int" p2] X.env:=by rfl):E X Γ (.Call (.Name "isinstance" p) [e,.Name "int" p2] [] pos) true true:=by
 with_unfolding_all
  exact vM hg hm hg2 hm2 PyProof.Rows.boot_int ha (fun pins s σ H N v u Q I rv r q=>by
    cases rv;obtain⟨t,rfl⟩:=r
    exact IsiPair.int_int (q s.toks)) hs
theorem Er{i:Int}(hg:Gl X "isinstance")(hm:X.mg "isinstance"=none)(hg2:Gl X "bool")(hm2:X.mg "bool"=none)(ha:E X Γ e b i)
  (hs:starEach [e,.Name "bool" p2] X.env=(false,eval e X.env)::starEach [.Name "bool" p2] X.env:=by rfl):E X Γ (.Call (.Name "isinstance" p) [e,.Name "bool" p2] [] pos) true false:=by
 with_unfolding_all
  exact vM hg hm hg2 hm2 PyProof.Rows.boot_bool ha (fun pins s σ H N v u Q I rv r q=>by
    cases rv;obtain⟨t,rfl⟩:=r
    exact IsiPair.int_bool (q (s.toks+1))) hs
theorem Ei{i:Bool}(hg:Gl X "isinstance")(hm:X.mg "isinstance"=none)(hg2:Gl X "bool")(hm2:X.mg "bool"=none)(ha:E X Γ e b i)
  (hs:starEach [e,.Name "bool" p2] X.env=(false,eval e X.env)::starEach [.Name "bool" p2] X.env:=by rfl):E X Γ (.Call (.Name "isinstance" p) [e,.Name "bool" p2] [] pos) true true:=by
 with_unfolding_all
  exact vM hg hm hg2 hm2 PyProof.Rows.boot_bool ha (fun pins s σ H N v u Q I rv r q=>by
    cases rv;cases r
    exact IsiPair.bool_bool (q s.toks)) hs
theorem Et{xs:List α}(hg:Gl X "isinstance")(hm:X.mg "isinstance"=none)(hg2:Gl X "list")(hm2:X.mg "list"=none)(ha:E X Γ e b xs)
  (hs:starEach [e,.Name "list" p2] X.env=(false,eval e X.env)::starEach [.Name "list" p2] X.env:=by rfl):E X Γ (.Call (.Name "isinstance" p) [e,.Name "list" p2] [] pos) true true:=by
 with_unfolding_all
  exact vM hg hm hg2 hm2 PyProof.Rows.boot_list ha (fun pins s σ H N v u Q I rv r q=>by
    obtain⟨a,ys,rfl,sq,_,_⟩:=rv;cases r;obtain⟨its,rr,pl,_⟩:=I.list sq;obtain⟨o,h1,h2,n,h3⟩:=pl.isList
    exact call_isinstance (isinstance_true (Tx:="list") F.isi_meta_list AutoSeq1.sub_list_list) ⟨⟨o,h1,h2⟩,q s.toks⟩) hs
end
def Sm(n:Nat)(i:Int):Prop:=i.natAbs<2^n
theorem Sm.bits{n:Nat}{i:Int}(h:Sm n i):Builtin.Int.intBits i<=n:=by
 unfold Builtin.Int.intBits;split
 .exact Nat.zero_le _
 .rename_i hi
  have h0:i.natAbs≠0:=by
   intro z;apply hi;simp;omega
  have:=(Nat.log2_lt h0).mpr h;omega
theorem Sm.le{m n:Nat}{i:Int}(h:Sm m i)(l:m<=n):Sm n i:=Nat.lt_of_lt_of_le h (Nat.pow_le_pow_right (by decide) l)
theorem Sm.ok{m n:Nat}{i j:Int}(h:Sm m i)(h':Sm n j)(l:m<=1048576:=by decide)(l':n<=1048576:=by decide):IntMulOk i j:=IntMulOk.of_bits (Nat.le_trans h.bits (Nat.le_trans l (by decide))) (Nat.le_trans h'.bits (Nat.le_trans l' (by decide)))
theorem Sm.mul{m n:Nat}{i j:Int}(h:Sm m i)(h':Sm n j):Sm (m+n) (i*j):=by
 unfold Sm at *;rw[Int.natAbs_mul,Nat.pow_add];rcases Nat.eq_zero_or_pos j.natAbs with z|z
 .rw[z,Nat.mul_zero];exact Nat.mul_pos (Nat.two_pow_pos _) (Nat.two_pow_pos _)
 .exact Nat.mul_lt_mul_of_lt_of_le h (Nat.le_of_lt h') (Nat.two_pow_pos _)
theorem Sm.of_le{n:Nat}{i j:Int}(h:i.natAbs<=j.natAbs)(h':Sm n j):Sm n i:=Nat.lt_of_le_of_lt h h'
theorem Sm.div{n:Nat}{i j:Int}(h:Sm n j)(hj:j≠0)(l:n<=9000:=by decide):vI i j:=⟨hj,(Nat.log2_lt (by omega)).mpr (Nat.lt_of_lt_of_le h (Nat.pow_le_pow_right (by decide) l))⟩
theorem mulL{i j:Int}(h1:-(2^64)<i)(h2:i<2^64):IntMulOk i j:=By.ok (.inl ⟨h1,h2⟩)
theorem mulR{i j:Int}(h1:-(2^64)<j)(h2:j<2^64):IntMulOk i j:=By.ok (.inr ⟨h1,h2⟩)
theorem jk{i j:Int}(h:j≠0:=by decide)(h2:j.natAbs.log2<9000:=by decide):vI i j:=⟨h,h2⟩
theorem Ju{i j:Int}(h:0<=j:=by decide)(h2:j<=1000000:=by decide)(h3:i.natAbs<2^64:=by decide):z_ i j:=⟨h,h2,h3⟩
theorem i4{k:Nat}{A:Around}(hr:cM k A):A.units+60<cLine:=by have:=hr.un;omega
structure Bu(mg:Str->Option Value):Prop where
 abs:mg "abs"=none
 len:mg "len"=none
 min:mg "min"=none
 max:mg "max"=none
 range:mg "range"=none
 isinstance:mg "isinstance"=none
 int:mg "int"=none
 bool:mg "bool"=none
 list:mg "list"=none
 tuple:mg "tuple"=none
 sum:mg "sum"=none
 all:mg "all"=none
 zip:mg "zip"=none
 enumerate:mg "enumerate"=none
 any:mg "any"=none
 sorted:mg "sorted"=none
 set:mg "set"=none
 str:mg "str"=none
 reversed:mg "reversed"=none
theorem eL{a b:Int}(h:0<b):0<=a.fmod b/\a.fmod b<b:=⟨Int.fmod_nonneg_of_pos a h,Int.fmod_lt_of_pos a h⟩
def Df(K:PySem.W.Frag)(x:Str)(st:Stmt):Prop:=∃(f:Addr) (fd:FuncData),PySem.W.nsIn K mainGlobals x=some (some (.ref f))/\sC K x x st f fd
theorem Df.mk{K:PySem.W.Frag}{x:Str}{st:Stmt}{f:Addr}{oc:Value}{od an:Option Addr}{osl:Array (Option Value)}{kV doc pm cdv ct:Value}(a:PySem.W.nsIn K mainGlobals x=some (some (.ref f)))
  (l:K.lookup f=some ⟨oc,od,.func (PySem.W.fnOf x x (gD st) (cL st) (af st) .none kV doc pm an cdv ct),osl⟩) (c:PySem.W.codeIn K cdv x=true) (k:PySem.W.keepIn K (.ref f)=true):Df K x st:=⟨f,_,a,Dv l c k⟩
theorem F2{K:PySem.W.Frag}{h:Heap}{mg:Str->Option Value}(X:K.In h)(G:h.Ns mainGlobals mg)(z1:PySem.W.nsIn K mainGlobals "abs"=some none)(z2:PySem.W.nsIn K mainGlobals "len"=some none)(z3:PySem.W.nsIn K mainGlobals "min"=some none)(z4:PySem.W.nsIn K mainGlobals "max"=some none)
  (z5:PySem.W.nsIn K mainGlobals "range"=some none) (z6:PySem.W.nsIn K mainGlobals "isinstance"=some none) (z7:PySem.W.nsIn K mainGlobals "int"=some none) (z8:PySem.W.nsIn K mainGlobals "bool"=some none) (z9:PySem.W.nsIn K mainGlobals "list"=some none) (z10:PySem.W.nsIn K mainGlobals "tuple"=some none)
  (z11:PySem.W.nsIn K mainGlobals "sum"=some none) (z12:PySem.W.nsIn K mainGlobals "all"=some none) (z13:PySem.W.nsIn K mainGlobals "zip"=some none) (z14:PySem.W.nsIn K mainGlobals "enumerate"=some none) (z15:PySem.W.nsIn K mainGlobals "any"=some none) (z16:PySem.W.nsIn K mainGlobals "sorted"=some none) (z17:PySem.W.nsIn K mainGlobals "set"=some none) (z18:PySem.W.nsIn K mainGlobals "str"=some none) (z19:PySem.W.nsIn K mainGlobals "reversed"=some none):Bu mg :=
 ⟨PySem.W.mg_none_of X G z1,PySem.W.mg_none_of X G z2,PySem.W.mg_none_of X G z3,PySem.W.mg_none_of X G z4,PySem.W.mg_none_of X G z5,PySem.W.mg_none_of X G z6,PySem.W.mg_none_of X G z7,PySem.W.mg_none_of X G z8,PySem.W.mg_none_of X G z9,PySem.W.mg_none_of X G z10,PySem.W.mg_none_of X G z11,PySem.W.mg_none_of X G z12,PySem.W.mg_none_of X G z13,PySem.W.mg_none_of X G z14,PySem.W.mg_none_of X G z15,PySem.W.mg_none_of X G z16,PySem.W.mg_none_of X G z17,PySem.W.mg_none_of X G z18,PySem.W.mg_none_of X G z19⟩
section
variable{P:Program}{w:World}{K:PySem.W.Frag}{mg:Str->Option Value}{base h:Heap}{x:Str}{st:Stmt}{N ps:List Str}{k:Nat}
theorem Df.dt{sp:Sp}(D:Df K x st)(X:K.In h)(G:h.Ns mainGlobals mg)(hb:∀(kV doc pm:Value) (an:Option Addr) (cdv ct:Value) (us:List Value),us.length=ps.length->bindArgs (PySem.W.fnOf x x (gD st) (cL st) (af st) .none kV doc pm an cdv ct) ⟨us,[]⟩=pure (ps.zip us))
  (ok:∀f fd,sC K x x st f fd->fe P w K mg base nC k f fd ps sp):aN P w K mg base k x ps sp:=by
 obtain⟨f,fd,a,F⟩:=D;exact⟨f,fd,ok f fd F,F.binds hb,F.kp,PySem.W.mg_of X G a⟩
def qx(K:PySem.W.Frag):Sp:=gS K (fun(ns:List Int)=>ns.length<=63) true (fun _=>true)
theorem pL{K:PySem.W.Frag}{N:Nn}{H:Hp}:∀ns:List Int,Paired (fun x (b:Int)=>Py.rp K N H x b) (ns.map V.int) ns
 |[]=>.nil
 |_::r=>.cons rfl (pL r)
theorem xo(K:PySem.W.Frag)(H:Hp)(a:Addr)(ns:List Int)(hl:ns.length<=63)(hS:dF K H a (ns.map V.int)):qx K [.ref a] H (fun v _=>v=.bl true) fun _ _ _=>False :=
 ⟨fun _=>False,.ref a,ns,fun _ z=>z.elim,rfl,by rw[BQ];exact⟨a,_,rfl,hS,True.intro,pL ns⟩,hl,fun r H' _ z=>z⟩
theorem Bv{fa:Addr}{lp:Program}(D:Df K "law" st)(X:K.In h)(G:h.Ns mainGlobals mg)(hfa:mg "law"=some (.ref fa)){y:Str}
  (hb:∀(kV doc pm:Value) (an:Option Addr) (cdv ct:Value) (s:Shared) (u:Value),BindsTo s (PySem.W.fnOf "law" "law" (gD st) (cL st) (af st) .none kV doc pm an cdv ct) ⟨[u],[]⟩ [(y,u)])
  (ok:∀base,K.In base->base.Ns mainGlobals mg->∀f fd,sC K "law" "law" st f fd->fe lp w K mg base nC k f fd [y] (qx K)):
  ∃fd:FuncData,(∀(s:Shared) (u:Value),BindsTo s fd ⟨[u],[]⟩ [(y,u)])/\∀base:Heap,K.In base->base.Ns mainGlobals mg->fe lp w K mg base nC k fa fd [y] (qx K):=by
 obtain⟨f,fd,a,F⟩:=D;have e:=hfa.symm.trans (PySem.W.mg_of X G a);cases e;refine⟨fd,?_,fun base kb nb=>ok base kb nb _ fd F⟩;obtain⟨oc,od,kV,doc,pm,an,cdv,ct,osl,rfl,lk,hcd⟩:=F.ex;exact hb kV doc pm an cdv ct
end
def IS{α:Type}[Py α](K:PySem.W.Frag)(H0:Hp)(O:Addr->Prop)(b:Bool)(as:List α)(J:It)(H1:Hp):Prop :=
 ∀(H':Hp) (O':Addr->Prop),kY H' O'->aB (off H1 O) (off H' O')->(∀(i:Nat) (a:α),as[i]?=some a->J.go i H'/\∀x H'',J.yld i H' x H''->aB H' H''/\Py.rp K (Nf H0 b) (off H'' O') x a)/\J.stop as.length H'
def EI{α:Type}[Py α](X:Cx)(Γ:aC)(tg iter:Expr)(b:Bool)(as:List α):Prop:=∃wi,PI X tg iter wi /\
 ∀(σ:St) (H H0:Hp) (F O:Addr->Prop) (R:It->Hp->Prop),dw X.K H0 F O Γ σ H->(∀J H1,aB H H1->IS X.K H0 O b as J H1->R J H1)->wi σ H R
section
variable{X:Cx}{Γ:aC}{α β:Type}[Py α][Py β]{e e1 e2 e3 tg:Expr}{b b1 b2 b3:Bool}
theorem cD{xs:List α}(he:E X Γ e b xs):EI X Γ tg e b xs:=by
 with_unfolding_all
  exact ⟨_,vx he,fun σ H H0 F O R Z q=>⟨H0,F,O,Z,fun v H1 s1 r1=>by
   obtain⟨p,vs,e,sq,nn,rr⟩:=r1;refine⟨p,e,⟨vs,(aj _ _).seq sq⟩,q _ H1 s1 fun H' O' _ sm=>⟨fun i a ha=>?_,?_⟩⟩
   .obtain⟨x,h1,h2⟩:=i8 rr ha;refine⟨⟨vs,x,(aj _ _).seq (sm.seq sq),h1⟩,fun y H'' hy=>?_⟩;obtain⟨e',hy⟩:=hy;subst e';have:=hy vs ((aj _ _).seq (sm.seq sq));rw[h1] at this;cases this;exact⟨aB.refl _,aw sm h2⟩
   .exact⟨vs,(aj _ _).seq (sm.seq sq),by rw[bW rr];exact Nat.le_refl _⟩⟩⟩
theorem oA{D:GD}{pos:Pos}{rest body:List Stmt}{g:TG}{tc:Nat->Prop}{put:Bool->α->aC->aC}{as:List α}(J:Nat->aC->Prop)(hG:G X tg g α put tc)(he:EI X Γ tg e b as)(h0:J 0 Γ)
  (ht:∀(i:Nat) (a:α) Γ',as[i]?=some a->J i Γ'->S X (put b a Γ') body {D with nx:=J (i+1),ct:=J (i+1),bk:=fun Γ2=>S X Γ2 rest D}) (hd:∀Γ',J as.length Γ'->S X Γ' rest D)
  (hc:X.calm=true:=by rfl) (hp:PassesOwn (model X.prog X.w) X.A X.env X.xe:=by exact PassesOwn.never)
  (hfs:∀x,foldedSetIterable e X.env x=pure x:=by intro _;rfl):S X Γ (.For tg e body [] pos::rest) D:=by
 with_unfolding_all
  obtain⟨wi,hi,hw⟩:=he;refine cS (cR (nu hp hc hi hG.1 (tb:=g8 X body) fY hfs) fun De σ H ⟨H0,F,O,Z,nx,r,bk,ct⟩=>?_);refine hw σ H H0 F O _ Z fun Jt H1 s1 its=>?_;refine⟨fun i m σ' H'=>m=as.length-i/\i<=as.length/\∃Γ' O',aB (off H1 O) (off H' O')/\dw X.K H0 F O' Γ' σ' H'/\J i Γ',⟨_,rfl,Nat.zero_le _,Γ,O,aB.refl _,Z.go s1,h0⟩,?_⟩;rintro i m σ' H' ⟨rfl,hi',Γ',O',sm,Z',j⟩;obtain⟨t1,t2⟩:=its H' O' Z'.own sm;by_cases hlt:i<as.length
  .have ha:as[i]?=some as[i]:=List.getElem?_eq_getElem hlt;obtain⟨go,yl⟩:=t1 i _ ha;refine .inr ⟨go,fun σ2 H2=>∃Γ2 O2,aB (off H1 O) (off H2 O2)/\dw X.K H0 F O2 Γ2 σ2 H2/\J (i+1) Γ2,fun σ2 H2 q=>⟨as.length-(i+1),by omega,rfl,hlt,q⟩,fun x H'' hy=>?_⟩;obtain⟨s2,rx⟩:=yl x H'' hy;refine hG.2 b as[i] H0 F O' Γ' σ' H'' _ _ (Z'.go s2) rx fun σ2 Z2 _ _=>?_;refine⟨_,_,ht i _ Γ' ha j,H0,F,O',Z2,?_,r,?_,?_⟩
   .exact fun Γ2 σ2 H2 O2 sm2 Z2 q=>⟨Γ2,O2,sm.trans ((ag s2).trans sm2),Z2,q⟩
   .exact fun Γ2 σ2 H2 O2 sm2 Z2 q=>nx Γ2 σ2 H2 O2 ((ag s1).trans (sm.trans ((ag s2).trans sm2))) Z2 q
   .exact fun Γ2 σ2 H2 O2 sm2 Z2 q=>⟨Γ2,O2,sm.trans ((ag s2).trans sm2),Z2,q⟩
  .have ei:i=as.length:=by omega
   subst ei;exact .inl ⟨t2,nx Γ' σ' H' O' ((ag s1).trans sm) Z' (hd Γ' j)⟩
end
def cB:Option (Option Bd)->Option Bd
 |some (some (@Bd.val _ _ b a))=>some (.val b a)
 |_=>none
def cΓ(Γ:aC)(tn:List Str)(js:List Nat):aC:=tn.map (fun _=>none)++js.map fun j=>cB Γ[j]?
theorem Eg{o:Option (Option Bd)}{g:Bd}(h:cB o=some g):o=some (some g)/\¬g.eY:=by
 unfold cB at h;split at h
 .cases h;exact⟨rfl,fun z=>z⟩
 .cases h
theorem zF{Γ:aC}{σ:St}{tn:List Str}{js:List Nat}{i:Nat}{g:Bd}(h:(cΓ Γ tn js)[i]?=some (some g)):∃j,js[i-tn.length]?=some j/\tn.length<=i/\Γ[j]?=some (some g)/\¬g.eY/\(cσ σ tn js)[i]?=some ((σ[j]?).getD none):=by
 unfold cΓ at h;unfold cσ;by_cases hi:i<tn.length
 .rw[List.getElem?_append_left (by simpa using hi),List.getElem?_map] at h;cases q:tn[i]? with
  |none=>rw[q] at h;cases h
  |some y=>rw[q] at h;cases h
 .rw[List.getElem?_append_right (by simpa using hi),List.getElem?_map,List.length_map] at h;rw[List.getElem?_append_right (by simpa using hi),List.getElem?_map,List.length_map];cases q:js[i-tn.length]? with
  |none=>rw[q] at h;cases h
  |some j =>
   rw[q] at h;obtain⟨h1,h2⟩:=Eg (Option.some.inj h);exact⟨j,rfl,by omega,h1,h2,rfl⟩
section
variable{K:PySem.W.Frag}{H0:Hp}{F O:Addr->Prop}{Γ:aC}{σ:St}{H:Hp}
theorem dw.gb(Z:dw K H0 F O Γ σ H)(tn:List Str)(js:List Nat):dw K H0 F O (cΓ Γ tn js) (cσ σ tn js) H where
 same:=Z.same
 fo:=Z.fo
 f0:=Z.f0
 own:=Z.own
 len:=by unfold cΓ cσ;simp
 at_:=fun i g e n=>by
  obtain⟨j,h1,h2,h3,h4,h5⟩:=zF (σ:=σ) e;obtain⟨v,q1,q2⟩:=Z.at_ j g h3 n;exact⟨v,by rw[h5,q1];rfl,q2⟩
 dis:=⟨fun _ _=>False,fun _ _ _ z=>z.elim,fun _ _ z=>z.elim,fun i g e o=>by
  obtain⟨_,_,_,_,h4,_⟩:=zF (σ:=σ) e
  exact absurd o h4⟩
theorem dw.ownIn{H':Hp}{D:Addr}{xs:List V}(Z:dw K H0 F O Γ σ H)(hD:H D=none)(sm:aB H H')(hx:H' D=some (.lst xs)):dw K H0 F (fun p=>O p\/p=D) Γ σ H'/\aB (off H O) (off H' fun p=>O p\/p=D):=by
 have so:aB (off H O) (off H' fun p=>O p\/p=D):=fun b o h=>by
  obtain⟨h1,h2⟩:=g_ h;have hb:b≠D:=fun z=>by rw[z,hD] at h2;cases h2
  rw[a7 (by rintro(z|z);exact h1 z;exact hb z)];exact sm _ _ h2
 refine⟨⟨Z.same.trans sm,fun p h=>.inl (Z.fo p h),Z.f0,fun p h=>?_,Z.len,fun i g e n=>?_,?_⟩,so⟩
 .rcases h with h|h
  .obtain⟨ys,q⟩:=Z.own p h;exact⟨ys,sm _ _ q⟩
  .subst h;exact⟨.inl xs,hx⟩
 .obtain⟨v,q1,q2⟩:=Z.at_ i g e n;refine⟨v,q1,?_⟩;cases g with
  |val b a=>exact aw so q2
  |own b as=>exact q2
  |dpo a=>exact q2
 .obtain⟨D',d1,d2,d3⟩:=Z.dis;refine⟨D',d1,fun i p h=>⟨.inl (d2 i p h).1,(d2 i p h).2⟩,fun i g e o=>?_⟩;obtain⟨v,q1,q2⟩:=d3 i g e o;exact⟨v,q1,Bd.FZ q2 (fun p ys _ z=>sm _ _ z) so (fun p z=>(d2 i p z).1) Z.own⟩
end
section
variable{X:Cx}{Γ:aC}{D:GD}{α β:Type}[Py α][Py β]{elt target iter c:Expr}{b b':Bool}{pos:Pos}{scope:Scope}{tn:List Str}{js:List Nat}{g:TG}{tc:Nat->Prop}{put:Bool->α->aC->aC}{as:List α}{f:α->β}{p:α->Bool}{ifs:List Expr}
def I_(X:Cx)(tn:List Str)(js:List Nat)(scope:Scope)(elt:Expr)(β:Type)[Py β](b:Bool):TE:=fun σ H Q=>∃Γ',∃v:β,(∀C s H fp,E (gb X (cN X tn js) scope C s H fp) Γ' elt b v)/\tV X.K Γ' b v σ H Q
@[irreducible] def FT(X:Cx)(Γ:aC)(ifs:List Expr)(c:Bool):Prop:=PF X ifs (EW X.K Γ c)
def IT(X:Cx)(tn:List Str)(js:List Nat)(scope:Scope)(ifs:List Expr):TT:=fun σ H Q=>∃Γ' c,(∀C s H fp,FT (gb X (cN X tn js) scope C s H fp) Γ' ifs c)/\EW X.K Γ' c σ H Q
theorem xP:FT X Γ [] true:=by
 with_unfolding_all
  exact fun pins s σ H Q I ⟨H0,F,O,Z,q⟩=>DX pins s σ H Q I (q H (aB.refl _))
theorem jc{k:Bool}(h:T X Γ c k):FT X Γ [c] k:=by
 with_unfolding_all
  exact EV h
theorem v7{wi:TI}(hw:∀(σ:St) (H H0:Hp) (F O:Addr->Prop) (R:It->Hp->Prop),dw X.K H0 F O Γ σ H->(∀J H1,aB H H1->IS X.K H0 O b as J H1->R J H1)->wi σ H R)
  (hgp:GP g α put tc X.K) (htc:∀j,tc j->j<tn.length)
  (ht:∀(i:Nat) (a:α),as[i]?=some a->∀C s H fp,FT (gb X (cN X tn js) scope C s H fp) (put b a (cΓ Γ tn js)) ifs (p a))
  (hb:∀(i:Nat) (a:α),as[i]?=some a->p a=true->∀C s H fp,E (gb X (cN X tn js) scope C s H fp) (put b a (cΓ Γ tn js)) elt b' (f a)) (hl:as.length<=1000)
  {σ:St} {H:Hp} {Q:VK} {H0:Hp} {F O:Addr->Prop} (Z:dw X.K H0 F O Γ σ H) (q:∀v H',aB H H'->Py.rp X.K (Nf H0 b') (off H' O) v ((as.filter p).map f)->Q v H'):
  Hv wi tn js g (IT X tn js scope ifs) (I_ X tn js scope elt β b') σ H Q:=by
 with_unfolding_all
  refine hw σ H H0 F O _ Z fun J H1 s1 its D hD=>?_;have Z1:=Z.go s1
  refine ⟨fun i m H' xs=>m=as.length - i/\i<=as.length/\aB H1 H'/\H' D=some (.lst xs)/\Paired (fun x a=>Py.rp X.K (Nf H0 b') (off H' fun p=>O p\/p=D) x a) xs (((as.take i).filter p).map f),
   ⟨_,rfl,Nat.zero_le _,eQ hD _,bq,.nil⟩,?_⟩
  rintro i m H' xs ⟨rfl,hi,sm,hx,rr⟩;refine⟨hx,?_⟩;obtain⟨Z',so⟩:=Z1.ownIn hD sm hx;obtain⟨t1,t2⟩:=its H' _ Z'.own so;by_cases hlt:i<as.length
  .have ha:as[i]?=some as[i]:=List.getElem?_eq_getElem hlt;have htk:as.take (i+1)=as.take i++[as[i]]:=by rw[List.take_succ,ha];rfl
   obtain⟨go,yl⟩:=t1 i _ ha;refine .inr ⟨go,fun x H'' hy=>?_⟩;obtain⟨s2,rx⟩:=yl x H'' hy;refine hgp b as[i] H0 F _ (cΓ Γ tn js) (cσ σ tn js) H'' x _ ((Z'.go s2).gb tn js) rx fun σ2 Z2 l2 k2=>?_;refine⟨⟨fun j v hj e=>?_,l2⟩,_,_,ht i _ ha,H0,F,_,Z2,fun H3 s3=>?_⟩
   .rw[k2 j fun z=>absurd (htc j z) (Nat.not_lt.mpr hj)];exact e
   cases hp:p as[i] with
   |false =>
    refine pX ⟨as.length-(i+1),by omega,rfl,hlt,sm.trans (s2.trans s3),s3 _ _ (s2 _ _ hx),?_⟩;rw[htk,List.filter_append,List.filter_cons,hp];simp only[Bool.false_eq_true,if_false,List.filter_nil,List.append_nil];exact bM (fun _ _ z=>aw (ag (s2.trans s3)) z) rr
   |true =>
    refine pU ⟨_,_,hb i _ ha hp,H0,F,_,Z2.go s3,fun y H4 s4 ry=>?_⟩;have hx4:H4 D=some (.lst xs):=s4 _ _ (s3 _ _ (s2 _ _ hx));have hOD:(fun p=>O p\/p=D) D:=.inr rfl;refine⟨hx4,?_,as.length-(i+1),by omega,rfl,hlt,?_,bq,?_⟩
    .have:=bW rr;rw[List.length_map] at this;have h2:=List.length_filter_le p (as.take i);have h3:=List.length_take_le i as;exact Nat.lt_of_le_of_lt (by omega) (cA hl)
    .exact fun c o z=>by
      have hc:c≠D:=fun w=>by rw[w,hD] at z;cases z
      rw[aO hc];exact s4 _ _ (s3 _ _ (s2 _ _ (sm _ _ z)))
    .rw[ph hOD,htk,List.filter_append,List.filter_cons,hp];simp only[if_true,List.filter_nil,List.map_append,List.map_cons,List.map_nil];exact qd (bM (fun _ _ z=>aw (ag (s2.trans (s3.trans s4))) z) rr) (.cons ry .nil)
  .have ei:i=as.length:=by omega
   subst ei;rw[List.take_length] at rr;have hxo:off H' O D=some (.lst xs):=by rw[a7 (Z1.kC hD)];exact hx
   refine .inl ⟨t2,q _ H' (s1.trans sm) ⟨D,xs,rfl,dF.of hxo,Nf.wk (Z1.gQ hD) hxo,?_⟩⟩
   .exact bM (fun _ _ z=>aw (jw fun _ w=>.inl w) z) rr
theorem zW{C:Addr}{s:Shared}{H:Hp}{fp:List Addr}:PE (gb X (cN X tn js) scope C s H fp) elt (I_ X tn js scope elt β b'):=by
 with_unfolding_all
  exact fun pins s' σ H' Q I ⟨Γ',v,h,q⟩=>(show PE (gb X (cN X tn js) scope C s H fp) elt (tV X.K Γ' b' v) from h C s H fp) pins s' σ H' Q I q
theorem yX{C:Addr}{s:Shared}{H:Hp}{fp:List Addr}:PF (gb X (cN X tn js) scope C s H fp) ifs (IT X tn js scope ifs):=by
 with_unfolding_all
  exact fun pins s' σ H' Q I ⟨Γ',c,h,q⟩=>(show PF (gb X (cN X tn js) scope C s H fp) ifs (EW X.K Γ' c) from h C s H fp) pins s' σ H' Q I q
theorem gu(tn:List Str)(js:List Nat)(S:eT X scope tn js)(he:EI X Γ target iter b as)(hgp:GP g α put tc X.K)(hg:∀C s H fp,PG (gb X (cN X tn js) scope C s H fp) target g)(htc:∀j,tc j->j<tn.length)
  (ht:∀(i:Nat) (a:α),as[i]?=some a->∀C s H fp,FT (gb X (cN X tn js) scope C s H fp) (put b a (cΓ Γ tn js)) ifs (p a))
  (hb:∀(i:Nat) (a:α),as[i]?=some a->p a=true->∀C s H fp,E (gb X (cN X tn js) scope C s H fp) (put b a (cΓ Γ tn js)) elt b' (f a)) (hl:as.length<=1000) (hc:X.calm=true:=by rfl)
  (hs:∀x,foldedSetIterable iter X.env x=pure x:=by intro _;rfl):E X Γ (.ListComp elt [⟨target,iter,ifs,0⟩] scope pos) b' ((as.filter p).map f):=by
 with_unfolding_all
  obtain⟨wi,hi,hw⟩:=he;exact aF (FA S hc hi (fun C s H fp=>⟨hg C s H fp,yX,zW⟩) hs) fun σ H Q ⟨H0,F,O,Z,q⟩=>v7 hw hgp htc ht hb hl Z q
theorem pB(tn:List Str)(js:List Nat)(S:eT X scope tn js)(he:EI X Γ target iter b as)(hgp:GP g α put tc X.K)(hg:∀C s H fp,PG (gb X (cN X tn js) scope C s H fp) target g)(htc:∀j,tc j->j<tn.length)
  (hb:∀(i:Nat) (a:α),as[i]?=some a->∀C s H fp,E (gb X (cN X tn js) scope C s H fp) (put b a (cΓ Γ tn js)) elt b' (f a)) (hl:as.length<=1000) (hc:X.calm=true:=by rfl)
  (hs:∀x,foldedSetIterable iter X.env x=pure x:=by intro _;rfl):E X Γ (.ListComp elt [⟨target,iter,[],0⟩] scope pos) b' (as.map f):=by
 with_unfolding_all
  have h:=gu (pos:=pos) (p:=fun _=>true) tn js S he hgp hg htc (fun i a _ C s H fp=>xP) (fun i a ha _=>hb i a ha) hl hc hs;rw[List.filter_eq_self.mpr (fun _ _=>rfl)] at h;exact h
theorem vV(i:Nat){y:Str}{py spos:Pos}{rest:List Stmt}(hN:X.N.Nodup)(tn:List Str)(js:List Nat)(S':eT X scope tn js)(he:EI X Γ target iter b as)(hgp:GP g α put tc X.K)(hg:∀C s H fp,PG (gb X (cN X tn js) scope C s H fp) target g)(htc:∀j,tc j->j<tn.length)
  (ht:∀(i:Nat) (a:α),as[i]?=some a->∀C s H fp,FT (gb X (cN X tn js) scope C s H fp) (put b a (cΓ Γ tn js)) ifs (p a))
  (hb:∀(i:Nat) (a:α),as[i]?=some a->p a=true->∀C s H fp,E (gb X (cN X tn js) scope C s H fp) (put b a (cΓ Γ tn js)) elt b' (f a)) (hl:as.length<=1000)
  (h:S X (Γ.set i (some (.val b' ((as.filter p).map f)))) rest D) (hiN:X.N[i]?=some y:=by rfl) (hy:Loc X.env.scope y:=by first|exact Or.inl rfl|exact Or.inr rfl)
  (hf:X.fn y=true\/X.env.scope.names.lookup y=some .local:=by first|exact .inl rfl|exact .inr rfl) (hc:X.calm=true:=by rfl)
  (hsw:swapsWith (.ListComp elt [⟨target,iter,ifs,0⟩] scope pos) (some (.Name y py)) spos.line X.env=pure true:=by rfl)
  (hs:∀x,foldedSetIterable iter X.env x=pure x:=by intro _;rfl):EP.S X Γ (.Assign [.Name y py] (.ListComp elt [⟨target,iter,ifs,0⟩] scope pos) spos::rest) D:=by
 with_unfolding_all
  obtain⟨wi,hi,hw⟩:=he;exact cS (cR (zQ hN hiN hy hf S' hc hi (fun C s H fp=>⟨hg C s H fp,yX,zW⟩) hsw hs) fun De σ H ⟨H0,F,O,Z,n,_⟩=>v7 hw hgp htc ht hb hl Z fun v H1 s1 r1=>n _ _ H1 O (ag s1) ((Z.go s1).set r1) h)
theorem Ah(i:Nat){y:Str}{py spos:Pos}{rest:List Stmt}(hN:X.N.Nodup)(tn:List Str)(js:List Nat)(S':eT X scope tn js)(he:EI X Γ target iter b as)(hgp:GP g α put tc X.K)(hg:∀C s H fp,PG (gb X (cN X tn js) scope C s H fp) target g)(htc:∀j,tc j->j<tn.length)
  (hb:∀(i:Nat) (a:α),as[i]?=some a->∀C s H fp,E (gb X (cN X tn js) scope C s H fp) (put b a (cΓ Γ tn js)) elt b' (f a)) (hl:as.length<=1000)
  (h:S X (Γ.set i (some (.val b' (as.map f)))) rest D) (hiN:X.N[i]?=some y:=by rfl) (hy:Loc X.env.scope y:=by first|exact Or.inl rfl|exact Or.inr rfl)
  (hf:X.fn y=true\/X.env.scope.names.lookup y=some .local:=by first|exact .inl rfl|exact .inr rfl) (hc:X.calm=true:=by rfl)
  (hsw:swapsWith (.ListComp elt [⟨target,iter,[],0⟩] scope pos) (some (.Name y py)) spos.line X.env=pure true:=by rfl)
  (hs:∀x,foldedSetIterable iter X.env x=pure x:=by intro _;rfl):EP.S X Γ (.Assign [.Name y py] (.ListComp elt [⟨target,iter,[],0⟩] scope pos) spos::rest) D:=by
 with_unfolding_all
  refine vV (p:=fun _=>true) i hN tn js S' he hgp hg htc (fun i a _ C s H fp=>xP) (fun i a ha _=>hb i a ha) hl ?_ hiN hy hf hc hsw hs;rw[List.filter_eq_self.mpr (fun _ _=>rfl)];exact h
end
theorem qi:∀{bs:List Bool} {us:List Value},Vals (bs.map V.bl) us->LSm.BoolsAre us bs
 |[],_,h=>by cases h;exact .nil
 |b::r,_,h=>by
  cases h with
  |cons h1 h2=>cases h1;exact .cons b (qi h2)
section
variable{X:Cx}
end
theorem CQ{K:PySem.W.Frag}{N:Nn}{H:Hp}:∀{xs:List V} {bs:List Bool},Paired (fun x (b:Bool)=>Py.rp K N H x b) xs bs->xs=bs.map V.bl
 |_,_,.nil=>rfl
 |_,_,.cons h t=>by rw[show _=V.bl _ from h,CQ t];rfl
theorem pb{K:PySem.W.Frag}{N:Nn}{H:Hp}:∀{xs:List V} {bs:List Int},Paired (fun x (b:Int)=>Py.rp K N H x b) xs bs->xs=bs.map V.int
 |_,_,.nil=>rfl
 |_,_,.cons h t=>by rw[show _=V.int _ from h,pb t];rfl
section
variable{X:Cx}{Γ:aC}{α β γ:Type}[Py α][Py β][Py γ]{e e1 e2 e3:Expr}{b b1 b2 b3:Bool}{pos:Pos}
end
def IK(osc:Scope)(N:List Str)(scope:Scope)(js:List Nat):Bool :=
 (scope.kind==.function)&&scope.names.all (fun x=>(!(x.2==.local) || scope.names.lookup x.1==some .local)&&(!(x.2==.free) || (scope.names.lookup x.1==some .free&&(osc.names.lookup x.1==some .cell || osc.names.lookup x.1==some .free)))&&scope.names.all (fun y=>!(x.1==y.1) || x.2==y.2)) &&
  js.all (fun j=>match N[j]? with|some x=>scope.names.lookup x==some .free|none=>false)
theorem dD{X:Cx}{scope:Scope}{tn:List Str}{js:List Nat}(osc:Scope)(N:List Str)(h1:X.env.scope=osc)(h2:X.N=N)(h:IK osc N scope js=true):eT X scope tn js:=by
 subst h1 h2;unfold IK at h;simp only[Bool.and_eq_true,List.all_eq_true] at h;obtain⟨⟨hk,ha⟩,hj⟩:=h;refine⟨by simpa using hk,fun x hx e=>?_,fun x hx e=>?_,fun x hx y hy e=>?_,fun j hjm=>?_⟩
 .obtain⟨⟨h1,h2⟩,h3⟩:=ha x hx;simpa [e] using h1
 .obtain⟨⟨h1,h2⟩,h3⟩:=ha x hx;have h2':(scope.names.lookup x.1==some .free&&(X.env.scope.names.lookup x.1==some .cell || X.env.scope.names.lookup x.1==some .free))=true:=by simpa [e] using h2
  obtain⟨q1,q2⟩:=Bool.and_eq_true_iff.mp h2';refine⟨by simpa using q1,?_⟩;rcases Bool.or_eq_true_iff.mp q2 with z|z
  .exact .inl (show X.env.scope.names.lookup x.1=_ by simpa using z)
  .exact .inr (show X.env.scope.names.lookup x.1=_ by simpa using z)
 .obtain⟨⟨h1,h2⟩,h3⟩:=ha x hx;have:=h3 y hy;simpa [e] using this
 .have:=hj j hjm;split at this
  .rename_i x hx;exact⟨x,hx,by simpa using this⟩
  .cases this
theorem Am{env:Env}{x:Str}:∀(names:List (Str×NameKind)),(names.map fun(n,k)=>if (k==NameKind.free&&env.scope.kind==.function&&env.kindOf n==some .cell) then (n,NameKind.cell) else (n,k)).lookup x =
  (names.lookup x).map fun k=>if (k==NameKind.free&&env.scope.kind==.function&&env.kindOf x==some .cell) then NameKind.cell else k
 |[]=>rfl
 |(n,k)::r=>by
  have ih:=Am (env:=env) (x:=x) r;by_cases e:x=n
  .subst e
   cases hc:(k==NameKind.free&&env.scope.kind==.function&&env.kindOf x==some .cell) <;>
    simp only[hc,List.map_cons,List.lookup_cons,beq_self_eq_true,if_true,Option.map_some,Bool.false_eq_true,if_false]
  .have hn:(x==n)=false:=by simpa using e
   cases hc:(k==NameKind.free&&env.scope.kind==.function&&env.kindOf n==some .cell) <;>
    simp only[hc,hn,List.map_cons,List.lookup_cons,if_true,Bool.false_eq_true,if_false]<;>exact ih
theorem qe{env:Env}{names:List (Str×NameKind)}{x:Str}(h:names.lookup x=some .cell):(names.map fun(n,k)=>if (k==NameKind.free&&env.scope.kind==.function&&env.kindOf n==some .cell) then (n,NameKind.cell) else (n,k)).lookup x=some .cell:=by
 rw[Am,h];rfl
theorem fX{X:Cx}{scope:Scope}{tn:List Str}{js:List Nat}{C:Addr}{s:Shared}{H:Hp}{fp:List Addr}{x:Str}{pos:Pos}(i:Nat)(N:List Str)(h:cN X tn js=N:=by rfl)(hd:N.Nodup:=by decide +kernel)(hi:N[i]?=some x:=by rfl)
  (hl:scope.names.lookup x=some .local\/scope.names.lookup x=some .cell:=by first|exact .inl rfl|exact .inr rfl):PG (gb X (cN X tn js) scope C s H fp) (.Name x pos) (jr i):=by
 refine de (show(cN X tn js).Nodup by rw[h];exact hd) (show(cN X tn js)[i]?=some x by rw[h];exact hi) ?_ ?_
 .rcases hl with z|z
  .exact .inl (lookup_relabel_local z)
  .exact .inr (qe z)
 .rcases hl with z|z
  .exact .inr (lookup_relabel_local z)
  .refine .inl ?_;show(match scope.names.lookup x with|some .cell=>true|_=>false)=true;rw[z]
theorem bL{i n:Nat}(h:i<n:=by decide):∀j,j=i->j<n:=fun j e=>by rw[e];exact h
section
variable{K:PySem.W.Frag}{H0:Hp}{F O:Addr->Prop}{Γ:aC}{σ:St}{H H':Hp}
theorem dw.uK{v:V}{i:Nat}(Z:dw K H0 F O Γ σ H)(sm:aB H H')(N:Addr->Prop)(hN:∀q,N q->H q=none/\∃xs:Mt,H' q=some (mo xs))(g:Bd)(hg:g.eY)(hv:g.tF K H0 (fun p=>O p\/N p) H' N v):
  dw K H0 F (fun p=>O p\/N p) (Γ.set i (some g)) (σ.set i (some v)) H'/\aB (off H O) (off H' fun p=>O p\/N p):=by
 have so:aB (off H O) (off H' fun p=>O p\/N p):=fun b o h=>by
  obtain⟨h1,h2⟩:=g_ h;have hb:¬N b:=fun z=>by rw[(hN b z).1] at h2;cases h2
  rw[a7 (by rintro(z|z);exact h1 z;exact hb z)];exact sm _ _ h2
 refine⟨⟨Z.same.trans sm,fun p h=>.inl (Z.fo p h),Z.f0,fun p h=>?_,by rw[List.length_set,List.length_set];exact Z.len,fun j g' e n=>?_,?_⟩,so⟩
 .rcases h with h|h
  .obtain⟨ys,q⟩:=Z.own p h;exact⟨ys,sm _ _ q⟩
  .exact(hN p h).2
 .by_cases hj:j=i
  .subst hj;obtain⟨hl,e'⟩:=get_set_some e;subst e';exact absurd hg n
  .rw[get_set_ne hj] at e;obtain⟨w,q1,q2⟩:=Z.at_ j g' e n;refine⟨w,by rw[get_set_ne hj];exact q1,?_⟩;cases g' with
   |val b a=>exact aw so q2
   |own b as=>exact q2
   |dpo a=>exact q2
 .obtain⟨D,d1,d2,d3⟩:=Z.dis;refine⟨fun j q=>(j=i/\N q)\/(j≠i/\D j q),fun j k q h1 h2=>?_,fun j q h=>?_,fun j g' e o=>?_⟩
  .rcases h1 with⟨e1,n1⟩|⟨e1,n1⟩<;>rcases h2 with⟨e2,n2⟩|⟨e2,n2⟩
   .rw[e1,e2]
   .exact absurd (d2 k q n2).1 (Z.kC (hN q n1).1)
   .exact absurd (d2 j q n1).1 (Z.kC (hN q n2).1)
   .exact d1 j k q n1 n2
  .rcases h with⟨_,n⟩|⟨_,n⟩
   .exact⟨.inr n,Z.gQ (hN q n).1⟩
   .exact⟨.inl (d2 j q n).1,(d2 j q n).2⟩
  .by_cases hj:j=i
   .subst hj;obtain⟨hl,e'⟩:=get_set_some e;subst e';refine⟨v,get_set_eq (by rw[Z.len];exact hl),?_⟩;have:(fun q=>(j=j/\N q)\/(j≠j/\D j q))=N:=funext fun q=>propext ⟨fun z=>by rcases z with⟨_,z⟩|⟨z,_⟩;exact z;exact absurd rfl z,fun z=>.inl ⟨rfl,z⟩⟩;show Bd.tF K H0 (fun p=>O p\/N p) H' (fun q=>(j=j/\N q)\/(j≠j/\D j q)) v g;rw[this];exact hv
   .rw[get_set_ne hj] at e;obtain⟨w,q1,q2⟩:=d3 j g' e o;refine⟨w,by rw[get_set_ne hj];exact q1,?_⟩;have:(fun q=>(j=i/\N q)\/(j≠i/\D j q))=D j:=funext fun q=>propext ⟨fun z=>by rcases z with⟨z,_⟩|⟨_,z⟩;exact absurd z hj;exact z,fun z=>.inr ⟨hj,z⟩⟩;show Bd.tF K H0 (fun p=>O p\/N p) H' (fun q=>(j=i/\N q)\/(j≠i/\D j q)) w g';rw[this];exact Bd.FZ q2 (fun p ys _ z=>sm _ _ z) so (fun p z=>(d2 j p z).1) Z.own
theorem dw.uA{i:Nat}{g:Bd}(Z:dw K H0 F O Γ σ H)(hg:Γ[i]?=some (some g))(ho:g.eY):∃v D,σ[i]?=some (some v)/\g.tF K H0 O H D v/\(∀p,D p->O p/\H0 p=none) /\
  ∀(p:Addr) (ys:Mt) (g':Option Bd),D p->(∀g'',g'=some g''->g''.eY/\g''.tF K H0 O (upd H p (mo ys)) D v)->dw K H0 F O (Γ.set i g') σ (upd H p (mo ys))/\off (upd H p (mo ys)) O=off H O:=by
 obtain⟨D,d1,d2,d3⟩:=Z.dis;obtain⟨v,q1,q2⟩:=d3 i g hg ho;refine⟨v,D i,q1,q2,d2 i,fun p ys g' hp hok=>?_⟩;have hOp:=(d2 i p hp).1;have eo:=ph (H:=H) (o:=mo ys) hOp;refine⟨⟨fun b o z=>?_,Z.fo,Z.f0,fun b hb=>?_,by rw[List.length_set];exact Z.len,fun j g2 e n=>?_,D,d1,d2,fun j g2 e o=>?_⟩,eo⟩
 .have:b≠p:=fun w=>by rw[w,(d2 i p hp).2] at z;cases z
  rw[aO this];exact Z.same _ _ z
 .by_cases hbp:b=p
  .subst hbp;exact⟨ys,bq⟩
  .rw[aO hbp];exact Z.own b hb
 .by_cases hj:j=i
  .subst hj;have hl:j<Γ.length:=(List.getElem?_eq_some_iff.mp hg).1;rw[get_set_eq hl] at e;have e':g'=some g2:=Option.some.inj e;exact absurd (hok g2 e').1 n
  .rw[get_set_ne hj] at e;obtain⟨w,q3,q4⟩:=Z.at_ j g2 e n;refine⟨w,q3,?_⟩;cases g2 with
   |val b a =>
    show Py.rp K _ (off (upd H p _) O) w a;rw[eo];exact q4
   |own b as=>exact q4
   |dpo a=>exact q4
 .by_cases hj:j=i
  .subst hj;have hl:j<Γ.length:=(List.getElem?_eq_some_iff.mp hg).1;rw[get_set_eq hl] at e;have e':g'=some g2:=Option.some.inj e;exact⟨v,q1,(hok g2 e').2⟩
  .rw[get_set_ne hj] at e;obtain⟨w,q3,q4⟩:=d3 j g2 e o;refine⟨w,q3,Bd.FZ q4 (fun q xs hq z=>?_) (by rw[eo];exact aB.refl _) (fun q z=>(d2 j q z).1) Z.own⟩;have:q≠p:=fun w=>hj (d1 j i q hq (w▸hp));rw[aO this];exact z
theorem dw.write{i:Nat}{g:Bd}(Z:dw K H0 F O Γ σ H)(hg:Γ[i]?=some (some g))(ho:g.eY):∃v D,σ[i]?=some (some v)/\g.tF K H0 O H D v/\(∀p,D p->O p/\H0 p=none) /\
  ∀(p:Addr) (ys:List V) (g':Option Bd),D p->(∀g'',g'=some g''->g''.eY/\g''.tF K H0 O (upd H p (.lst ys)) D v)->dw K H0 F O (Γ.set i g') σ (upd H p (.lst ys))/\off (upd H p (.lst ys)) O=off H O:=by
 obtain⟨v,D,a,b,c,f⟩:=Z.uA hg ho;exact⟨v,D,a,b,c,fun p ys=>f p (.inl ys)⟩
theorem dw.freeze{i:Nat}{g g':Bd}(Z:dw K H0 F O Γ σ H)(hg:Γ[i]?=some (some g))(ho:g.eY)(hn:¬g'.eY)
  (hk:∀(D O':Addr->Prop) v,g.tF K H0 O H D v->(∀p,D p->H0 p=none/\¬O' p)->aB (off H O) (off H O')->(∀p xs,Rt H p xs->Rt (off H O') p xs)->g'.ok K H0 O' H v):
  ∃O',dw K H0 F O' (Γ.set i (some g')) σ H/\aB (off H O) (off H O'):=by
 obtain⟨D,d1,d2,d3⟩:=Z.dis;obtain⟨v,q1,q2⟩:=d3 i g hg ho;have so:aB (off H O) (off H fun p=>O p/\¬D i p):=jw fun p h=>h.1;refine⟨fun p=>O p/\¬D i p,⟨Z.same,fun p h=>⟨Z.fo p h,fun z=>?_⟩,Z.f0,fun p h=>Z.own p h.1,by rw[List.length_set];exact Z.len,fun j g2 e n=>?_,fun j q=>j≠i/\D j q,fun j k q h1 h2=>d1 j k q h1.2 h2.2,fun j q h=>⟨⟨(d2 j q h.2).1,fun z=>h.1 (d1 j i q h.2 z)⟩,(d2 j q h.2).2⟩,fun j g2 e o=>?_⟩,so⟩
 .obtain⟨xs,w⟩:=Z.f0 p h;rw[(d2 i p z).2] at w;cases w
 .by_cases hj:j=i
  .subst hj;obtain⟨_,e'⟩:=get_set_some e;subst e';refine⟨v,q1,hk (D j) _ v q2 (fun p z=>⟨(d2 j p z).2,fun w=>w.2 z⟩) so fun p xs q=>?_⟩
   have hp:∀u,(H p=some (.tup u)\/∃o,H p=some (.frz o (.tup u)))->¬(O p/\¬D j p):=fun u z w=>by
    obtain⟨ys,w'⟩:=Z.own p w.1;rcases z with z|⟨o,z⟩
    .rw[z] at w';rcases ys with ys|ys|ys<;>cases w'
    .rw[z] at w';rcases ys with ys|ys|ys<;>cases w'
   have hp':=hp xs q.rd;rcases q with q|⟨o,q⟩
   .exact .inl (by rw[a7 hp'];exact q)
   .exact .inr ⟨o,by rw[a7 hp'];exact q⟩
  .rw[get_set_ne hj] at e;obtain⟨w,q3,q4⟩:=Z.at_ j g2 e n;refine⟨w,q3,?_⟩;cases g2 with
   |val b a=>exact aw so q4
   |own b as=>exact q4
   |dpo a=>exact q4
 .have hj:j≠i:=by
   rintro rfl;obtain⟨_,e'⟩:=get_set_some e;subst e';exact hn o
  rw[get_set_ne hj] at e;obtain⟨w,q3,q4⟩:=d3 j g2 e o;refine⟨w,q3,?_⟩;have:(fun q=>j≠i/\D j q)=D j:=funext fun q=>propext ⟨fun z=>z.2,fun z=>⟨hj,z⟩⟩;show Bd.tF K H0 (fun p=>O p/\¬D i p) H (fun q=>j≠i/\D j q) w g2;rw[this];exact Bd.FZ q4 (fun p ys _ z=>z) so (fun p z=>(d2 j p z).1) Z.own
theorem C8{α:Type}[Py α]{b:Bool}{as:List α}{D O':Addr->Prop}{v:V}(h:(Bd.own b as).tF K H0 O H D v)(hD:∀p,D p->H0 p=none/\¬O' p)(so:aB (off H O) (off H O')):(Bd.val b as).ok K H0 O' H v:=by
 obtain⟨p,xs,e,o,q,r⟩:=h;have hx:off H O' p=some (.lst xs):=by rw[a7 (hD p o).2];exact q
 exact⟨p,xs,e,dF.of hx,Nf.wk (hD p o).1 hx,bM (fun _ _ z=>aw so z) r⟩
theorem yn{α:Type}[Py α]{a:α}{D O':Addr->Prop}{v:V}(h:(Bd.dpo a).tF K H0 O H D v)(hD:∀p,D p->H0 p=none/\¬O' p)(ht:∀p xs,Rt H p xs->Rt (off H O') p xs):(Bd.val true a).ok K H0 O' H v:=by
 refine Py.tr (fun p xs q n=>?_) ht h;obtain⟨n1,n2⟩:=n;have hx:off H O' p=some (mo xs):=by rw[a7 (hD p n1).2];exact n2
 exact⟨Mo.of hx,(hD p n1).1,hx⟩
end
section
variable{X:Cx}{Γ:aC}{D:GD}{α β γ:Type}[Py α][Py β][Py γ]{e e1 e2:Expr}{b b1 b2:Bool}{pos:Pos}{rest st:List Stmt}
theorem xU(i:Nat)(α:Type)[Py α]{x:Str}{p p2:Pos}(hN:X.N.Nodup)(h:S X (Γ.set i (some (.own true ([]:List α)))) rest D)(hi:X.N[i]?=some x:=by rfl)(hx:Loc X.env.scope x:=by first|exact Or.inl rfl|exact Or.inr rfl)
  (hs:swapsWith (.List [] p2) (some (.Name x p)) pos.line X.env=pure false:=by rfl) (hf:X.fn x=true\/X.env.scope.names.lookup x=some .local:=by first|exact .inl rfl|exact .inr rfl):S X Γ (.Assign [.Name x p] (.List [] p2) pos::rest) D:=by
 with_unfolding_all
  exact cS (cR (l_ hN hi hx (tI aU) hs hf) fun De σ H ⟨H0,F,O,Z,n,_⟩=>⟨Nat.zero_le _,fun q hq=>by
    obtain⟨Z',so⟩:=Z.uK (i:=i) (v:=.ref q) (eQ hq (.lst [])) (·=q) (fun r e=>by subst e;exact⟨hq,.inl [],bq⟩) (Bd.own true ([]:List α)) True.intro ⟨q,[],rfl,rfl,bq,.nil⟩
    exact n _ _ _ _ so Z' h⟩)
theorem fR(i:Nat){as:List α}{a:α}{x:Str}{p ap cp:Pos}(hg:Γ[i]?=some (some (.own b as)))(he:E X Γ e b a)(hl:as.length<=1000)(h:S X (Γ.set i (some (.own b (as++[a])))) rest D)(hi:X.N[i]?=some x:=by rfl)
  (hv:Ee X.env.scope x:=by first|exact Or.inl rfl|exact Or.inr (Or.inl rfl)|exact Or.inr (Or.inr rfl)) (hd:(x==("__debug__":Str))=false:=by decide) (hcd:(x==("__classdict__":Str))=false:=by decide)
  (hbase:attributeBase (.Name x p) "append" X.env (eval (.Name x p) X.env)=eval (.Name x p) X.env:=by rfl)
  (hfew:((backTo cp (starEach [e] X.env)).all (fun x=>!x.1) && (backToKw cp (keywordEach [] X.env)).all (fun x=>x.1.isSome)
   && decide (([e]:List Expr).length+([]:List Keyword).length+(if ([]:List Keyword).isEmpty then 0 else 1)<30))=true:=by rfl)
  (hline:(ap.endLine==cp.line)=true:=by rfl) (hs:starEach [e] X.env=(false,eval e X.env)::starEach [] X.env:=by rfl) (hplain:(backTo cp (starEach [] X.env)).any (·.1)=false:=by rfl)
  (hsw:swapsWith (.Call (.Attribute (.Name x p) "append" ap) [e] [] cp) none pos.line X.env=pure false:=by rfl):
  S X Γ (.Expr (.Call (.Attribute (.Name x p) "append" ap) [e] [] cp) pos::rest) D:=by
 with_unfolding_all
  exact cS (cR (Ba (FW PySem.F.plainAttrs_list PySem.F.slot_list_append PySem.F.type_list_append n9 (pv i hi hv hd hcd) (aA he aU hs) hbase hfew hline hs hplain) hsw) fun De σ H ⟨H0,F,O,Z,n,_⟩=>by
    obtain⟨v,Di,hv1,⟨q,xs,hq1,hq2,hq3,hq4⟩,_,_⟩:=Z.write hg True.intro;subst hq1;refine⟨.ref q,hv1,.inl ⟨rfl,xs,dF.of hq3⟩,H0,F,O,Z,fun y H2 s2 ry=>⟨q,xs,y,rfl,rfl,s2 _ _ hq3,?_,?_⟩⟩
    .rw[bW hq4];exact cA hl
    .obtain⟨v',D',hv2,⟨q',xs',w1,w2,w3,w4⟩,hO',wr⟩:=(Z.go s2).write hg True.intro;rw[hv1] at hv2;have ev:V.ref q=v':=by injection hv2 with z;injection z
     subst ev;cases w1
     have ex:xs'=xs:=by
      have:=s2 _ _ hq3;rw[w3] at this;cases this;rfl
     subst ex
     obtain⟨Z',eo⟩:=wr q (xs'++[y]) (some (.own b (as++[a]))) w2 fun g'' e'=>by
      cases e';refine⟨True.intro,q,_,rfl,w2,bq,?_⟩;rw[ph (hO' q w2).1];exact qd w4 (.cons ry .nil)
     exact n _ _ _ _ (by rw[eo];exact ag s2) Z' h)
theorem wc{g g':Bd}(i:Nat)(hg:Γ[i]?=some (some g))(ho:g.eY)(hn:¬g'.eY)
  (hk:∀(H0 H:Hp) (O D O':Addr->Prop) v,g.tF X.K H0 O H D v->(∀p,D p->H0 p=none/\¬O' p)->aB (off H O) (off H O')->(∀p xs,Rt H p xs->Rt (off H O') p xs)->g'.ok X.K H0 O' H v)
  (h:S X (Γ.set i (some g')) st D):S X Γ st D:=by
 with_unfolding_all
  exact ku h fun De σ H ⟨H0,F,O,Z,n,r,bk,ct⟩=>by
   obtain⟨O',Z',so⟩:=Z.freeze hg ho hn fun Di O' v=>hk H0 H O Di O' v;exact⟨H0,F,O',Z',fun Γ2 σ2 H2 O2 sm=>n Γ2 σ2 H2 O2 (so.trans sm),r,fun Γ2 σ2 H2 O2 sm=>bk Γ2 σ2 H2 O2 (so.trans sm),fun Γ2 σ2 H2 O2 sm=>ct Γ2 σ2 H2 O2 (so.trans sm)⟩
theorem ip(i:Nat){as:List α}(hg:Γ[i]?=some (some (.own b as)))(h:S X (Γ.set i (some (.val b as))) st D):S X Γ st D:=by
 with_unfolding_all
  exact wc (g':=.val b as) i hg True.intro (fun z=>z) (fun H0 H O Di O' v z1 z2 z3 _=>C8 z1 z2 z3) h
theorem DS(i:Nat){a:α}(hg:Γ[i]?=some (some (.dpo a)))(h:S X (Γ.set i (some (.val true a))) st D):S X Γ st D:=by
 with_unfolding_all
  exact wc (g':=.val true a) i hg True.intro (fun z=>z) (fun H0 H O Di O' v z1 z2 _ z4=>yn z1 z2 z4) h
theorem qB(i:Nat){a:α}{c:Bool}(hg:Γ[i]?=some (some (.dpo a)))(h:T X (Γ.set i (some (.val true a))) e c):T X Γ e c:=by
 with_unfolding_all
  exact lR h fun σ H Q ⟨H0,F,O,Z,q⟩=>by
   obtain⟨O',Z',so⟩:=Z.freeze hg True.intro (g':=.val true a) (fun z=>z) fun Di O' v z1 z2 _ z4=>yn z1 z2 z4;exact⟨H0,F,O',Z',q⟩
theorem sS(i j:Nat){x y:Str}{u:α×β}{p1 p2 p3:Pos}{k:Nat}(hN:X.N.Nodup)(he:E X Γ e b u)(h:S X ((Γ.set i (some (.val b u.1))).set j (some (.val b u.2))) rest D)(hc:X.calm=true:=by rfl)(hi:X.N[i]?=some x:=by rfl)(hj:X.N[j]?=some y:=by rfl)
  (hx:Loc X.env.scope x:=by first|exact Or.inl rfl|exact Or.inr rfl) (hy:Loc X.env.scope y:=by first|exact Or.inl rfl|exact Or.inr rfl)
  (hf:X.fn x=true\/X.env.scope.names.lookup x=some .local:=by first|exact .inl rfl|exact .inr rfl) (hf2:X.fn y=true\/X.env.scope.names.lookup y=some .local:=by first|exact .inl rfl|exact .inr rfl)
  (hs:swapsWithSole [.Tuple [.Name x p1,.Name y p2] k p3] e pos.line X.env=pure false:=by rfl) (hw:swappedStores [.Tuple [.Name x p1,.Name y p2] k p3] e X.env=pure none:=by rfl)
  (h1:(assignEach [.Tuple [.Name x p1,.Name y p2] k p3] X.env).map (·.2)=[assign (.Tuple [.Name x p1,.Name y p2] k p3) X.env]:=by rfl) (hn:(assignEach [.Name x p1,.Name y p2] X.env).length=2:=by rfl)
  (hst:(assignEach [.Name x p1,.Name y p2] X.env).findIdx? (·.1)=none:=by rfl) (ha1:assignEach [.Name x p1,.Name y p2] X.env=(false,assign (.Name x p1) X.env)::assignEach [.Name y p2] X.env:=by rfl) (ha2:assignEach [.Name y p2] X.env=(false,assign (.Name y p2) X.env)::assignEach [] X.env:=by rfl):
  S X Γ (.Assign [.Tuple [.Name x p1,.Name y p2] k p3] e pos::rest) D:=by
 with_unfolding_all
  exact cS (cR (xC he (tP hc (dO (de hN hi hx hf) (dO (de hN hj hy hf2) o5))) hs hw h1) fun De σ H ⟨H0,F,O,Z,n,_⟩=>⟨H0,F,O,Z,fun v H1 s1 r1=>by
    obtain⟨q,v1,v2,e',sq,g1,g2⟩:=r1;refine⟨q,_,e',kf (aj _ _) sq,rfl,v1,[v2],rfl,v2,[],rfl,rfl,?_⟩
    exact n _ _ H1 O (ag s1) (((Z.go s1).set g1).set g2) h⟩)
theorem D6(i j:Nat){K:PySem.W.Frag}:GP (ER K 2 (rT (jr i) (rT (jr j) E3))) (α×β) (fun b u Γ=>(Γ.set i (some (.val b u.1))).set j (some (.val b u.2))) (fun k=>k=i\/k=j) K:=fun b u H0 F O Γ σ H v Q Z r q=>by
 obtain⟨p,v1,v2,e',sq,g1,g2⟩:=r;refine⟨p,_,e',kf (aj _ _) sq,rfl,v1,[v2],rfl,v2,[],rfl,rfl,?_⟩;exact q _ ((Z.set g1).set g2) (by rw[List.length_set,List.length_set]) fun k hk=>by rw[get_set_ne fun z=>hk (.inr z),get_set_ne fun z=>hk (.inl z)]
end
end L2.EP
namespace L2
open PySem PySem.Spec PyProof.Rows
def Ih(K : PySem.W.Frag)(a b : Addr) : It :=
  ⟨fun i H => ∃ xs ys x y, dF K H a xs /\ dF K H b ys /\ xs[i]? = some x /\ ys[i]? = some y,
   fun i H v H'=>∃T x y,H T=none/\v=.ref T/\H'=upd H T (.tup [x,y])/\(∀xs,dF K H a xs->xs[i]?=some x)/\∀ys,dF K H b ys->ys[i]?=some y,
   fun i H=>∃xs ys,dF K H a xs/\dF K H b ys/\(xs.length<=i\/ys.length<=i)⟩
theorem cH{h:Heap}{a b:Addr}{o u:Obj}(e1:h.get? a=some o)(e2:h.get? b=some u)(d:o.cls≠u.cls):a≠b:=fun z=>by
 subst z;rw[e1] at e2;cases e2;exact d rfl
theorem nR{h:Heap}{z TI TO i1 i2 l1 l2:Addr}{f0 va vb wa wb:Value}{k1 k2:Nat}{xs ys:Array Value}(hz:IsZip h z TI TO f0)(hTI:IsPair h TI va vb)(hTO:IsPair h TO wa wb)(h1:h.IsListIter i1 l1 k1)(h2:h.IsListIter i2 l2 k2)
  (hl1:h.IsList l1 xs) (hl2:h.IsList l2 ys) (n1:TI≠TO) (n2:i1≠i2):ZipApart z TI TO i1 i2 l1 l2:=by
 obtain⟨o1,a1,b1,_⟩:=h1;obtain⟨o2,a2,b2,_⟩:=h2;obtain⟨p1,c1,d1,_⟩:=hl1;obtain⟨p2,c2,d2,_⟩:=hl2;have X:∀{s t:String},s≠t->Value.type s≠Value.type t:=fun ne e=>ne (by injection e)
 exact ⟨cH hTI hz (X (by decide)),cH hTO hz (X (by decide)),cH a1 hz (by rw [b1]; exact X (by decide)),cH a2 hz (by rw [b2]; exact X (by decide)),n1,cH hTI a1 (by rw [b1]; exact X (by decide)),cH hTI a2 (by rw [b2]; exact X (by decide)),
  cH hTO a1 (by rw[b1];exact X (by decide)),cH hTO a2 (by rw[b2];exact X (by decide)),n2,cH c1 hz (by rw[d1];exact X (by decide)),cH c1 hTO (by rw[d1];exact X (by decide)),cH c1 a1 (by rw[d1,b1];exact X (by decide)),cH c1 a2 (by rw[d1,b2];exact X (by decide)),
  cH c2 hz (by rw[d2];exact X (by decide)),cH c2 hTO (by rw[d2];exact X (by decide)),cH c2 a1 (by rw[d2,b1];exact X (by decide)),cH c2 a2 (by rw[d2,b2];exact X (by decide))⟩
section
variable{X:Cx}{pins:List (Addr×Obj)}{σ:St}{H H':Hp}{s:Shared}
theorem Inv.Bs{h':Heap}{t':Nat}{ch:List Addr}{T:Addr}{xs:List V}(I:Inv X pins σ H s)(hT:s.heap.objs.size<=T)(k:∀b o,b∉ch->s.heap.get? b=some o->h'.get? b=some o)(th:∀b o,s.heap.get? b=some o->∃o',h'.get? b=some o')(hf:∀b∈ch,nK X pins H b)
  (new:cb X.prog X.w (upd H T (.tup xs)) h' T (.tup xs)):Inv X pins σ (upd H T (.tup xs)) {s with heap:=h',toks:=t'}:=by
 with_unfolding_all
  have hn:H T=none:=I.hok.fresh hT;have nch:∀b u,H b=some u->b∉ch:=fun b u e z=>by rw[(hf b z).1] at e;cases e
  refine I.step (g':=s.gens) (d':=s.drawn) (ch:=ch) (fun b hb=>⟨(hf b hb).2.2.2.1,(hf b hb).2.1,(hf b hb).2.2.2.2.1,(hf b hb).2.2.2.2.2⟩) (fun b o _ _ hc e _=>k b o hc e) (fun b o _ _ hc e _=>⟨o.slots,k b o hc e⟩)
   (fun b o hc e n=>by rw[aO (Nat.ne_of_lt (Nat.lt_of_lt_of_le (Heap.lt_size e) hT))];exact n) (fun b o hc e=>⟨o,k b o hc e⟩) (fun b ys e=>by rw[aO (bz e hn)];exact e) (fun b u ys e=>by rw[aO (bz e hn)];exact e) (fun b ps e=>⟨#[],by rw[aO (bz e hn),e];simp⟩) (fun m hm=>?_) (fun b u e=>?_) I.bare
  .obtain⟨o,es,ep,ho,r⟩:=hm;exact⟨o,es,ep,k _ o (fun z=>(hf _ z).2.1 rfl) ho,r⟩
  .by_cases hb:b=T
   .subst hb;rw[bq] at e;cases e;exact new
   .rw[aO hb] at e;refine(I.hok b u e).tD (fun c v hc q=>k c v ?_ q) (fun c z=>?_) fun c ys z=>?_
    .rcases hc with z|z
     .rw[z];exact nch b u e
     .exact nch c _ z
    .rw[aO (bz z hn)];exact z
    .rw[aO (bz z hn)];exact z
end
theorem yz{P:Program}{w:World}{K:PySem.W.Frag}{elts:List Expr}{kk:Nat}{tp:Pos}(z TI TO i1 i2 a b:Addr)(n1:TI≠TO)(n2:i1≠i2):Turn P w K (.Tuple elts kk tp) (Ih K a b) [z,TI,TO,i1,i2] z
  (fun i h=>IsZip h z TI TO .none/\IsPair h TI (.ref i1) (.ref i2)/\(∃x y,IsPair h TO x y)/\h.IsListIter i1 a i/\h.IsListIter i2 b i) where
 mem:=by simp
 obj:=fun i h st c hc=>by
  obtain⟨hz,hTI,⟨x,y,hTO⟩,h1,h2⟩:=st;have hc':c=z\/c=TI\/c=TO\/c=i1\/c=i2:=by simpa using hc
  rcases hc' with e|e|e|e|e
  .subst e;exact⟨_,hz,fun v q=>by cases q⟩
  .subst e;exact⟨_,hTI,fun v q=>by cases q⟩
  .subst e;exact⟨_,hTO,fun v q=>by cases q⟩
  .subst e;obtain⟨o,q1,q2,q3⟩:=h1;exact⟨o,q1,fun v q=>by rw[q3] at q;cases q⟩
  .subst e;obtain⟨o,q1,q2,q3⟩:=h2;exact⟨o,q1,fun v q=>by rw[q3] at q;cases q⟩
 keep:=fun i h h' st k=>by
  obtain⟨hz,hTI,⟨x,y,hTO⟩,h1,h2⟩:=st;exact⟨k z (by simp) _ hz,k TI (by simp) _ hTI,⟨x,y,k TO (by simp) _ hTO⟩,h1.at fun o e=>k i1 (by simp) o e,h2.at fun o e=>k i2 (by simp) o e⟩
 item:=by
  intro X hP hw hK hc i pins s σ H E I hf st hg;subst hP hw hK;obtain⟨xs,ys,x,y,sx,sy,gx,gy⟩:=hg;obtain⟨hz,hTI,⟨wa,wb,hTO⟩,h1,h2⟩:=st;obtain⟨ix,rx,px,_⟩:=I.list sx;obtain⟨iy,ry,py,_⟩:=I.list sy;have D:=nR hz hTI hTO h1 h2 px.isList py.isList n1 n2;obtain⟨u,ux,uxr⟩:=rx.get gx;obtain⟨v,vy,vyr⟩:=ry.get gy;refine wpAny_pyNext_zip_item D hz hTI hTO h1 h2 px.isList py.isList (by simpa using ux) (by simpa using vy) fun h' a1 a2 a3 a4 a5 a6 hk=>?_;have hT0:H s.heap.objs.size=none:=I.hok.fresh (Nat.le_refl _)
  have I1:Inv X pins σ (upd H s.heap.objs.size (.tup [x,y])) {s with heap:=h',toks:=s.toks}:=by
   refine I.Bs (ch:=[z,TO,i1,i2]) (Nat.le_refl _) (fun c o hc' e=>hk c o (fun q=>hc' (by simp[q])) (fun q=>hc' (by simp[q])) (fun q=>hc' (by simp[q])) (fun q=>hc' (by simp[q])) e) (fun c o e=>?_) (fun c hc'=>hf c (by simp at hc' ⊢;rcases hc' with q|q|q|q<;>simp[q])) ?_
   .have hlt:=Heap.lt_size e;have:c<h'.objs.size:=by rw[a6];exact Nat.lt_succ_of_lt hlt
    by_cases q1:c=z
    .subst q1;exact⟨_,a1⟩
    by_cases q2:c=TO
    .subst q2;exact⟨_,a2⟩
    by_cases q3:c=i1
    .subst q3;obtain⟨o',q,_⟩:=a3;exact⟨o',q⟩
    by_cases q4:c=i2
    .subst q4;obtain⟨o',q,_⟩:=a4;exact⟨o',q⟩
    exact⟨o,hk c o q1 q2 q3 q4 e⟩
   .exact⟨by show 2<=sizeLine;decide,[u,v],.cons uxr (.cons vyr .nil),⟨_,a5,rfl,_,rfl⟩⟩
  refine⟨_,rfl,?_⟩;have fz:=hf z (by simp);refine wpAny_letOwnedTupleGo_zip a1 fun h2' hz' hs'=>?_;have zT:z≠s.heap.objs.size:=Nat.ne_of_lt (Heap.lt_size hz);have I2:Inv X pins σ (upd H s.heap.objs.size (.tup [x,y])) {({s with heap:=h',toks:=s.toks}:Shared) with heap:=h2',toks:=s.toks}:=I1.turned (fun c o hc' e=>hs'.extBut c o hc' e) (by rw[aO zT];exact fz.1) fz.2.1 fz.2.2.2.1 fz.2.2.2.2.1 fz.2.2.2.2.2;refine⟨.ref s.heap.objs.size,upd H s.heap.objs.size (.tup [x,y]),I2,rfl,⟨s.heap.objs.size,x,y,hT0,rfl,rfl,fun xs' sx'=>?_,fun ys' sy'=>?_⟩,⟨hz',hs'.extBut _ _ D.TIz (hk _ _ D.TIz D.TITO D.TIi1 D.TIi2 hTI),⟨_,_,hs'.extBut _ _ D.TOz a2⟩,a3.extBut hs'.extBut D.i1z,a4.extBut hs'.extBut D.i2z⟩,fun c hc'=>?_⟩
  .rw[I.mO sx' sx];exact gx
  .rw[I.mO sy' sy];exact gy
  .have hcl:c<s.heap.objs.size:=by
    have hc2:c=z\/c=TI\/c=TO\/c=i1\/c=i2:=by simpa using hc'
    rcases hc2 with e|e|e|e|e
    .subst e;exact Heap.lt_size hz
    .subst e;exact Heap.lt_size hTI
    .subst e;exact Heap.lt_size hTO
    .subst e;obtain⟨_,q,_⟩:=h1;exact Heap.lt_size q
    .subst e;obtain⟨_,q,_⟩:=h2;exact Heap.lt_size q
   rw[aO (Nat.ne_of_lt hcl)];exact(hf c hc').1
 done:=by
  intro X hP hw hK hc i pins s σ H E I hf st hg;subst hP hw hK;obtain⟨xs,ys,sx,sy,hend⟩:=hg;obtain⟨hz,hTI,⟨wa,wb,hTO⟩,h1,h2⟩:=st;obtain⟨ix,rx,px,_⟩:=I.list sx;obtain⟨iy,ry,py,_⟩:=I.list sy;have D:=nR hz hTI hTO h1 h2 px.isList py.isList n1 n2;refine wpAny_pyNext_zip_end (I.ok.hd hc) D hz hTI hTO h1 h2 px.isList py.isList ?_ fun h' hk=>⟨rfl,?_⟩
  .rcases hend with q|q
   .left;simp[<-rx.length];omega
   .right;simp[<-ry.length];omega
  .have fz:=hf z (by simp);have fo:=hf TO (by simp);have f1:=hf i1 (by simp);have f2:=hf i2 (by simp)
   refine I.step (g':=s.gens) (d':=s.drawn) (t':=s.toks) (ch:=[z,TO,i1,i2]) (fun b hb=>?_) (fun b o _ _ hc' e _=>hk b o (fun q=>hc' (by simp[q])) (fun q=>hc' (by simp[q])) (fun q=>hc' (by simp[q])) (fun q=>hc' (by simp[q])) e) (fun b o _ _ hc' e _=>⟨o.slots,hk b o (fun q=>hc' (by simp[q])) (fun q=>hc' (by simp[q])) (fun q=>hc' (by simp[q])) (fun q=>hc' (by simp[q])) e⟩) (fun _ _ _ _ n=>n)
    (fun b o hc' e=>⟨o,hk b o (fun q=>hc' (by simp[q])) (fun q=>hc' (by simp[q])) (fun q=>hc' (by simp[q])) (fun q=>hc' (by simp[q])) e⟩) (fun _ _ e=>e) (fun _ _ _ e=>e) (fun b ps e=>⟨#[],by rw[e];simp⟩) (fun m hm=>?_) (fun b u e=>?_) I.bare
   .have q:=hf b (by simp at hb ⊢;rcases hb with q|q|q|q<;>simp[q]);exact⟨q.2.2.2.1,q.2.1,q.2.2.2.2.1,q.2.2.2.2.2⟩
   .obtain⟨o,es,ep,ho,r⟩:=hm;exact⟨o,es,ep,hk _ o (Ne.symm fz.2.1) (Ne.symm fo.2.1) (Ne.symm f1.2.1) (Ne.symm f2.2.1) ho,r⟩
   .have nn:∀c v,H c=some v->c≠z/\c≠TO/\c≠i1/\c≠i2:=fun c v e=>⟨(fun q=>by(rw[q,fz.1] at e;cases e)),(fun q=>by(rw[q,fo.1] at e;cases e)),(fun q=>by(rw[q,f1.1] at e;cases e)),(fun q=>by(rw[q,f2.1] at e;cases e))⟩;refine(I.hok b u e).tD (fun c v hc' q=>?_) (fun _ q=>q) fun _ _ q=>q;have:=nn c;rcases hc' with e'|e'
    .subst e';obtain⟨w1,w2,w3,w4⟩:=nn c _ e;exact hk c v w1 w2 w3 w4 q
    .obtain⟨w1,w2,w3,w4⟩:=nn c _ e';exact hk c v w1 w2 w3 w4 q
 self:=fun _ _ _ _ _ st h=>wpAny_pyIter_zip st.1 h
section
variable{X:Cx}{elts:List Expr}{kk:Nat}{tp:Pos}
def IA(K:PySem.W.Frag)(ta:TA):TI:=fun σ H R=>ta σ H fun vs H1=>∃a b,vs=[.ref a,.ref b]/\(∃xs,dF K H1 a xs)/\(∃ys,dF K H1 b ys)/\R (Ih K a b) H1
theorem E4{e1 e2:Expr}{ta:TA}{p pos:Pos}(hg:Gl X "zip")(hm:X.mg "zip"=none)(ha:PA X [e1,e2] ta)(he:starEach [e1,e2] X.env=(false,eval e1 X.env)::starEach [e2] X.env:=by rfl)
  (hpl:(backTo pos (starEach [e2] X.env)).any (·.1)=false:=by rfl):PI X (.Tuple elts kk tp) (.Call (.Name "zip" p) [e1,e2] [] pos) (IA X.K ta):=by
 intro pins s σ H R I h;refine Call_ (eO I hg hm PyProof.Rows.boot_zip (PyProof.Rows.callWith_type1 (bO (ha pos pins s σ H _ I h) fun us s1 ⟨vs,H1,I1,r1,q1⟩=>?_) he hpl));obtain⟨a,b,e,⟨xs,sx⟩,⟨ys,sy⟩,q⟩:=q1;subst e;obtain⟨u,w',rfl,ra,rb⟩:=vals2 r1;cases ra;cases rb;obtain⟨ix,rx,px,_⟩:=I1.list sx;obtain⟨iy,ry,py,_⟩:=I1.list sy;refine call_zip_2 px.isList py.isList fun h' z1 z2 z3 z4 z5 z6 hk=>?_;have I2:Inv X pins σ H1 {s1 with heap:=h',toks:=s1.toks}:=I1.kept hk;refine wpAny_pyIter_zip (s:={s1 with heap:=h'}) z1 ?_;refine⟨s1.heap.objs.size+4,[s1.heap.objs.size+4,s1.heap.objs.size+2,s1.heap.objs.size+3,s1.heap.objs.size,s1.heap.objs.size+1],_,Ih X.K a b,H1,rfl,I2,yz (s1.heap.objs.size+4) (s1.heap.objs.size+2) (s1.heap.objs.size+3) s1.heap.objs.size (s1.heap.objs.size+1) a b (Nat.ne_of_lt (Nat.lt_succ_self _)) (Nat.ne_of_lt (Nat.lt_succ_self _)),⟨z1,z2,⟨_,_,z3⟩,z4,z5⟩,fun c hc=>?_,q⟩
 have hge:s1.heap.objs.size<=c:=by
  simp at hc;rcases hc with e|e|e|e|e<;>subst e<;>omega
 exact I1.Ak hge (I1.hok.fresh hge)
end
end L2
namespace L2.EP
open PySem PySem.Spec PyProof.Rows
section
variable{X:Cx}{Γ:aC}{α β:Type}[Py α][Py β]{e1 e2:Expr}{b1 b2:Bool}{elts:List Expr}{kk:Nat}{tp p ps:Pos}
theorem sZ{xs:List α}{ys:List β}(hg:Gl X "zip")(hm:X.mg "zip"=none)(h1:E X Γ e1 b1 xs)(h2:E X Γ e2 b2 ys)(hs1:starEach [e1,e2] X.env=(false,eval e1 X.env)::starEach [e2] X.env:=by rfl)(hs2:starEach [e2] X.env=(false,eval e2 X.env)::starEach [] X.env:=by rfl)
  (hpl:(backTo ps (starEach [e2] X.env)).any (·.1)=false:=by rfl):EI X Γ (.Tuple elts kk tp) (.Call (.Name "zip" p) [e1,e2] [] ps) (b1&&b2) (xs.zip ys):=by
 with_unfolding_all
  exact ⟨_,E4 hg hm (aA h1 (aA h2 aU hs2) hs1) hs1 hpl,fun σ H H0 F O R Z q=>⟨H0,F,O,Z,fun v H1 s1 r1=>⟨H0,F,O,Z.go s1,fun w H2 s2 r2=>by
    obtain⟨a,va,ea,sa,na,ra⟩:=r1;obtain⟨c,vc,ec,sc,nc,rc⟩:=r2;have sa2:=(ag (O:=O) s2).seq sa;refine⟨a,c,by rw[ea,ec],⟨va,(aj _ _).seq sa2⟩,⟨vc,(aj _ _).seq sc⟩,q _ H2 (s1.trans s2) fun H' O' hO' sm=>⟨fun i u hu=>?_,?_⟩⟩
    .obtain⟨hx,hy⟩:=List.getElem?_zip_eq_some.mp hu;obtain⟨x,gx,rx⟩:=i8 ra hx;obtain⟨y,gy,ry⟩:=i8 rc hy;have sa':=(aj _ _).seq (sm.seq sa2);have sc':=(aj _ _).seq (sm.seq sc);refine⟨⟨va,vc,x,y,sa',sc',gx,gy⟩,fun v' H'' hv=>?_⟩;obtain⟨T,x',y',hT,rfl,rfl,f1,f2⟩:=hv;have ex:=f1 va sa';have ey:=f2 vc sc';rw[gx] at ex;cases ex;rw[gy] at ey;cases ey
     have hTO:¬O' T:=fun z=>by
      obtain⟨zs,w⟩:=hO' T z;rw[hT] at w;cases w
     refine⟨eQ hT _,T,x,y,rfl,.inl (by rw[a7 hTO];exact bq),?_,?_⟩
     .exact a9 (fun _ _ n=>vW n) (aw ((ag s2).trans (sm.trans (ag (eQ hT _)))) rx)
     .exact a9 (fun _ _ n=>vU n) (aw (sm.trans (ag (eQ hT _))) ry)
    .refine⟨va,vc,(aj _ _).seq (sm.seq sa2),(aj _ _).seq (sm.seq sc),?_⟩;rw[bW ra,bW rc,List.length_zip]
     omega⟩⟩⟩
end
class PyT(β:Type)[Py β]:Prop where
 free:∀{K:PySem.W.Frag} {N N':Nn} {H H':Hp} {v:V} {b:β},(∀p xs,Rt H p xs->Rt H' p xs)->Py.rp K N H v b->Py.rp K N' H' v b
 nl:∀{K:PySem.W.Frag} {N:Nn} {H:Hp} {q:Addr} {b:β} {xs:List V},Py.rp K N H (.ref q) b->H q=some (.lst xs)->False
instance:PyT Int where
 free _ h:=h
 nl h _:=nomatch h
instance:PyT Bool where
 free _ h:=h
 nl h _:=nomatch h
instance{α β:Type}[Py α][Py β][PyT α][PyT β]:PyT (α×β) where
 free t h:=by
  obtain⟨p,x,y,e,s,h1,h2⟩:=h;exact⟨p,x,y,e,t _ _ s,PyT.free t h1,PyT.free t h2⟩
 nl h e:=by
  obtain⟨p,x,y,e',s,h1,h2⟩:=h;cases e';rcases s with s|⟨o,s⟩
  .rw[e] at s;cases s
  .rw[e] at s;cases s
def tN{α:Type}[Py α](K:PySem.W.Frag)(Γ:aC)(a:α):TE:=fun σ H Q=>∃H0 F O,dw K H0 F O Γ σ H/\∀v H',aB H H'->Py.rp K (.new H) (off H' O) v a->Q v H'
@[irreducible] def EN{α:Type}[Py α](X:Cx)(Γ:aC)(e:Expr)(a:α):Prop:=PE X e (tN X.K Γ a)
theorem l6{α:Type}[Py α]{K:PySem.W.Frag}{H H1 Hx:Hp}{v:V}{a:α}(s:aB H H1)(h:Py.rp K (.new H1) Hx v a):Py.rp K (.new H) Hx v a:=a9 (N:=.new H1) (N':=.new H) (fun _ _ n=>⟨s.free n.1,n.2⟩) h
section
variable{X:Cx}{Γ:aC}{D:GD}{α β γ:Type}[Py α][Py β][Py γ]{e e1 e2:Expr}{b b1 b2:Bool}{pos p:Pos}{rest st:List Stmt}{k:Nat}{name:Str}{ps:List Str}
theorem tj(i:Nat){x:Str}{a:α}{p:Pos}(hN:X.N.Nodup)(he:EN X Γ e a)(h:S X (Γ.set i (some (.dpo a))) rest D)(hi:X.N[i]?=some x:=by rfl)(hx:Loc X.env.scope x:=by first|exact Or.inl rfl|exact Or.inr rfl)
  (hs:swapsWith e (some (.Name x p)) pos.line X.env=pure false:=by rfl) (hf:X.fn x=true\/X.env.scope.names.lookup x=some .local:=by first|exact .inl rfl|exact .inr rfl):S X Γ (.Assign [.Name x p] e pos::rest) D:=by
 with_unfolding_all
  exact cS (cR (l_ hN hi hx he hs hf) fun De σ H ⟨H0,F,O,Z,n,_⟩=>⟨H0,F,O,Z,fun v H1 s1 r1=>by
    obtain ⟨Z',so⟩:=Z.uK (i:=i) (v:=v) s1 (fun q=>H q=none/\∃ xs:Mt,H1 q=some (mo xs)) (fun q z=>z) (Bd.dpo a) True.intro (by
     refine Py.tr (fun q xs sq nn=>?_) (fun q xs sq=>aB.rt (aj _ _) sq) r1;have:=(aj _ _) _ _ nn.2
     exact⟨Mo.of this,⟨nn.1,xs,this⟩,this⟩)
    exact n _ _ _ _ so Z' h⟩)
end
section
variable{X:Cx}{Γ:aC}{α:Type}[Py α]{e:Expr}{b b':Bool}{pos:Pos}
theorem E.up[PyT α]{a:α}(h:E X Γ e b a):E X Γ e b' a:=by
 with_unfolding_all
  exact aF h fun σ H Q ⟨H0,F,O,S,q⟩=>⟨H0,F,O,S,fun v H' s r=>q v H' s (PyT.free (fun _ _ z=>z) r)⟩
theorem gT[PyT α]{a:α}(h:E X Γ e b a):E X Γ e b' a:=by
 with_unfolding_all
  exact E.up h
theorem A8[PyT α]{xs:List α}{p:Pos}(hg:Gl X "list")(hm:X.mg "list"=none)(ha:E X Γ e b xs)(hs:starEach [e] X.env=(false,eval e X.env)::starEach [] X.env:=by rfl):E X Γ (.Call (.Name "list" p) [e] [] pos) true xs:=by
 with_unfolding_all
  exact aF (ka jJ hg hm PyProof.Rows.boot_list (aA ha aU hs) (he:=hs)) fun σ H Q ⟨H0,F,O,S,q⟩=>⟨H0,F,O,S,fun v H1 s1 r1=>by
    obtain⟨p,vs,e,sq,n,r⟩:=r1;refine⟨p,vs,by rw[e],.inl ((aj _ _).seq sq),fun l hl=>?_⟩;obtain⟨z1,z2⟩:=cI (xs:=vs) (S.go s1) hl
    exact q _ _ (s1.trans z1) ⟨l,vs,rfl,dF.of z2,Nf.wk ((S.go s1).gQ hl) z2,bM (fun _ _ z=>PyT.free (fun _ _ t=>aB.rt (ag z1) t) z) r⟩⟩
end
theorem j0{α β:Type}{g:β->α->β}{z:β}{us:List α}{i:Nat}{a:α}(h:us[i]?=some a):(us.take (i+1)).foldl g z=g ((us.take i).foldl g z) a:=by
 rw[List.take_add_one,h,List.foldl_append];rfl
end L2.EP
namespace Q
theorem rH(a b:Int):Int.gcd b (a.fmod b)=Int.gcd a b:=by
 rw[Int.fmod_def,Int.gcd_comm a b];exact Int.gcd_sub_mul_left_right ..
theorem we(a b:Int)(hb:b≠0):(a.fmod b).natAbs<b.natAbs:=by
 rcases Int.lt_or_gt_of_ne hb with h|h
 .have e:=Int.neg_fmod_neg a b;have h':(0:Int) < -b:=by omega
  have h1:=Int.fmod_nonneg_of_pos (-a) h';have h2:=Int.fmod_lt_of_pos (-a) h';omega
 .have h1:=Int.fmod_nonneg_of_pos a h;have h2:=Int.fmod_lt_of_pos a h;omega
def fd(t b:Int):Int:=if b<0 then -(Int.gcd t b:Int) else (Int.gcd t b:Int)
def fr(t b:Int):Int×Int:=(t.fdiv (fd t b),b.fdiv (fd t b))
theorem FE{t b:Int}(hb:b≠0):fd t b≠0:=by
 have h:Int.gcd t b≠0:=by
  intro h;rw[Int.gcd_eq_zero_iff] at h;exact hb h.2
 unfold fd;split<;>omega
theorem Dw(t b:Int):(fd t b).natAbs=Int.gcd t b:=by
 unfold fd;split<;>omega
theorem GR{t b:Int}(hb:b≠0):(fd t b).natAbs<=b.natAbs:=by
 rw[Dw];exact Nat.le_of_dvd (by omega) (Int.natAbs_dvd_natAbs.mpr (Int.gcd_dvd_right t b))
theorem tw{α:Type}{P:α->Prop}(hu:∀a b,P a->P b->a=b){a:α}(h:P a):a=@Classical.epsilon α ⟨a⟩ P :=
 hu _ _ h (@Classical.epsilon_spec α P ⟨a,h⟩)
def pP:Nat->Nat
 |0=>0
 |n+1=>if (pP n+1)*(pP n+1)<=n+1 then pP n+1 else pP n
theorem zV:∀n,pP n*pP n<=n
 |0=>Nat.le_refl _
 |n+1=>by
  have:=zV n;unfold pP;split<;>omega
theorem yw:∀n,n<(pP n+1)*(pP n+1)
 |0=>by decide
 |n+1=>by
  have h:=yw n;unfold pP;split
  .have:(pP n+1)*(pP n+1)<(pP n+1+1)*(pP n+1+1):=Nat.mul_lt_mul'' (by omega) (by omega);omega
  .omega
def rt(k:Int):Int:=(pP k.toNat:Int)
theorem eI(k:Int):0<=rt k:=by unfold rt;omega
theorem vE{k:Int}(h:0<=k):rt k*rt k<=k:=by
 have:=zV k.toNat;unfold rt;have e:((pP k.toNat*pP k.toNat:Nat):Int)<=((k.toNat:Nat):Int):=by omega
 rw[Int.natCast_mul] at e;omega
theorem CA{k:Int}(h:0<=k):k<(rt k+1)*(rt k+1):=by
 have:=yw k.toNat;unfold rt;have e:((k.toNat:Nat):Int)<(((pP k.toNat+1)*(pP k.toNat+1):Nat):Int):=by omega
 rw[Int.natCast_mul] at e;simp only[Int.natCast_add,Int.natCast_one] at e;omega
theorem rD{a b:Int}(h0:0<=a)(h:a*a<b*b)(hb:0<=b):a<b:=by
 apply Classical.byContradiction;intro hn;have:b*b<=a*a:=Int.mul_le_mul (by omega) (by omega) hb h0;omega
theorem yB{a b:Int}(h0:0<=a)(h:a<=b):a*a<=b*b:=Int.mul_le_mul h h h0 (by omega)
theorem f9{k r:Int}(h0:0<=r)(h1:r*r<=k)(h2:k<(r+1)*(r+1)):r=rt k:=by
 have hk:0<=k:=Int.le_trans (Int.mul_nonneg h0 h0) h1;have a:=vE hk;have b:=CA hk;have c:=eI k;have:=rD h0 (show r*r<(rt k+1)*(rt k+1) by omega) (by omega);have:=rD c (show rt k*rt k<(r+1)*(r+1) by omega) (by omega);omega
theorem rq{d k:Int}(h:0<=k)(hd:0<=d):d<rt k+1↔d*d<=k:=by
 constructor
 .intro z;exact Int.le_trans (yB hd (by omega)) (vE h)
 .intro z;exact rD hd (by have:=CA h;omega) (by have:=eI k;omega)
theorem yP{k r:Int}(hk:0<=k)(hr:0<r)(h:k<r*r):0<=(r+k.fdiv r).fdiv 2/\(r+k.fdiv r).fdiv 2<r/\k<((r+k.fdiv r).fdiv 2+1)*((r+k.fdiv r).fdiv 2+1):=by
 rw[Int.fdiv_eq_ediv_of_nonneg k (by omega),Int.fdiv_eq_ediv_of_nonneg _ (by decide)];have e:=Int.mul_ediv_add_emod k r;have m0:=Int.emod_nonneg k (show r≠0 by omega);have m1:=Int.emod_lt_of_pos k hr;have q0:0<=k/r:=Int.ediv_nonneg hk (by omega);have q1:k/r<r:=Int.ediv_lt_of_lt_mul hr h;generalize k/r=q at *;generalize k%r=m at *;have n1:2*((r+q)/2)<=r+q:=by omega
 have n2:r+q+1<=2*((r+q)/2)+2:=by omega
 refine⟨by omega,by omega,?_⟩;generalize (r+q)/2=n at *;have s1:(r+q+1)*(r+q+1)<=(2*n+2)*(2*n+2):=yB (by omega) n2
 have s2:0<=(r-(q+1))*(r-(q+1)):=by
  rcases Int.le_total 0 (r-(q+1)) with z|z
  .exact Int.mul_nonneg z z
  .exact Int.mul_nonneg_of_nonpos_of_nonpos z z
 grind
def o8(k:Int):Prop:=∀d:Int,3<=d->d*d<=k->d%2=1->¬d∣k
open Classical in
noncomputable def aR(k:Int):Bool:=decide (k=2\/(3<=k/\k%2=1/\o8 k))
open Classical in
theorem bC{k:Int}:aR k=true↔k=2\/(3<=k/\k%2=1/\o8 k):=by unfold aR;exact decide_eq_true_iff
theorem au{k:Int}(h:aR k=true):2<=k:=by rcases bC.mp h with h|h<;>omega
def qF(n:Nat)(m:Nat):Bool:=@Nat.rec (fun _=>Bool) true (fun i ih=>cond (Nat.beq (n%(2*i+3)) 0) false ih) m
theorem se{n:Nat}:∀{m:Nat},qF n m=true->∀i,i<m->n%(2*i+3)≠0
 |0,_,i,hi=>absurd hi (Nat.not_lt_zero _)
 |m+1,h,i,hi=>by
  have h':cond (Nat.beq (n%(2*m+3)) 0) false (qF n m)=true:=h;cases hb:Nat.beq (n%(2*m+3)) 0 with
  |true=>rw[hb] at h';cases h'
  |false =>
   rw[hb] at h';rcases Nat.lt_succ_iff_lt_or_eq.mp hi with z|z
   .exact se h' i z
   .subst z;intro e;rw[e] at hb;cases hb
theorem uv{n m:Nat}(h:qF n m=true)(hm:n<(2*m+3)*(2*m+3)):o8 (n:Int):=by
 intro d h3 hd ho hdv
 have hlt:d < (2 * m + 3:Int):=rD (by omega) (by
  have:(n:Int)<(((2*m+3)*(2*m+3):Nat):Int):=by omega
  rw[Int.natCast_mul] at this;simp only[Int.natCast_add,Int.natCast_mul] at this
  exact Int.lt_of_le_of_lt hd this) (by omega)
 have z:=se h ((d.toNat-3)/2) (by omega);have e:2*((d.toNat-3)/2)+3=d.toNat:=by omega
 rw[e] at z;obtain⟨c,hc⟩:=hdv;apply z
 have hdn:d.toNat∣n:=by
  have:(d.toNat:Int)∣(n:Int):=⟨c,by rw[hc];congr 1;omega⟩;exact Int.natCast_dvd_natCast.mp this
 exact Nat.mod_eq_zero_of_dvd hdn
theorem gm{n m:Nat}(h:qF n m=true)(h3:3<=n)(ho:n%2=1)(hm:n<(2*m+3)*(2*m+3)):aR (n:Int)=true :=
 bC.mpr (.inr ⟨by omega,by omega,uv h hm⟩)
def PB:Int:=1070000011
theorem nh:aR PB=true:=gm (n:=1070000011) (m:=16384) (by decide +kernel) (by decide) (by decide) (by decide)
noncomputable def Cf:Nat->Int->Int
 |0,k=>k
 |n+1,k=>if aR k then k else Cf n (k+2)
noncomputable def pf(k:Int):Int:=if k<3 then 2 else Cf 1073741824 (k+1-k%2)
theorem mT:∀(n:Nat) (k p:Int),aR p=true->k<=p->(p-k)%2=0->p-k<=2*n->aR (Cf n k)=true/\k<=Cf n k/\Cf n k<=p/\(Cf n k-k)%2=0
 |0,k,p,hp,h1,h2,h3=>by
  have:k=p:=by omega
  subst this;exact⟨hp,Int.le_refl _,Int.le_refl _,by unfold Cf;omega⟩
 |n+1,k,p,hp,h1,h2,h3=>by
  unfold Cf;split
  .rename_i h;exact⟨h,Int.le_refl _,h1,by omega⟩
  .rename_i h;have hne:k≠p:=by rintro rfl;exact h hp
   obtain⟨a,b,c,d⟩:=mT n (k+2) p hp (by omega) (by omega) (by omega);exact⟨a,by omega,c,by omega⟩
theorem cX:aR 2=true:=bC.mpr (.inl rfl)
theorem nj{k:Int}(h:k<=PB):aR (pf k)=true:=by
 unfold pf;split
 .exact cX
 .exact(mT _ _ PB nh (by unfold PB at *;omega) (by unfold PB at *;omega) (by unfold PB at *;omega)).1
theorem He{k:Int}(h:k<=PB):pf k<=PB:=by
 unfold pf;split
 .decide
 .exact(mT _ _ PB nh (by unfold PB at *;omega) (by unfold PB at *;omega) (by unfold PB at *;omega)).2.2.1
theorem nv{k p:Int}(hp:aR p=true)(h:k<=p)(ho:p%2=1)(hb:p<=PB)(h3:3<=k):pf k<=p:=by
 unfold pf;rw[if_neg (by omega)];exact(mT _ _ p hp (by omega) (by omega) (by unfold PB at *;omega)).2.2.1
theorem ue{k:Int}(h:k<=PB)(h3:3<=k):pf k%2=1/\k<=pf k:=by
 unfold pf;rw[if_neg (by omega)];obtain⟨a,b,c,d⟩:=mT 1073741824 (k+1-k%2) PB nh (by unfold PB at *;omega) (by unfold PB at *;omega) (by unfold PB at *;omega);omega
def xv(k b m:Int)(r:Option Int):Prop:=match r with
 |none=>∀d,b<=d->d<m->(d-b)%2=0->¬d∣k
 |some d=>b<=d/\d<m/\(d-b)%2=0/\d∣k/\∀d',b<=d'->d'<d->(d'-b)%2=0->¬d'∣k
theorem xv.uniq{k b m:Int}:∀r r',xv k b m r->xv k b m r'->r=r'
 |none,none,_,_=>rfl
 |none,some d,h,h'=>absurd h'.2.2.2.1 (h d h'.1 h'.2.1 h'.2.2.1)
 |some d,none,h,h'=>absurd h.2.2.2.1 (h' d h.1 h.2.1 h.2.2.1)
 |some d,some d',h,h'=>by
  rcases Int.lt_trichotomy d d' with z|z|z
  .exact absurd h.2.2.2.1 (h'.2.2.2.2 d h.1 z h.2.2.1)
  .rw[z]
  .exact absurd h'.2.2.2.1 (h.2.2.2.2 d' h'.1 z h'.2.2.1)
theorem xv.ex(k b m:Int):∀n:Nat,(∃d,xv k b m (some d))\/∀d,b<=d->d<m->d<b+2*n->(d-b)%2=0->¬d∣k
 |0=>.inr fun d h1 h2 h3=>by omega
 |n+1=>by
  rcases xv.ex k b m n with h|h
  .exact .inl h
  .by_cases hm:b+2*n<m/\(b+2*n:Int)∣k
   .exact .inl ⟨b+2*n,by omega,hm.1,by omega,hm.2,fun d' h1 h2 h3=>h d' h1 (by omega) h2 h3⟩
   .refine .inr fun d h1 h2 h3 h4 hd=>?_;by_cases e:d=b+2*n
    .subst e;exact hm ⟨h2,hd⟩
    .exact h d h1 h2 (by omega) h4 hd
noncomputable def Fn(k b m:Int):Option Int:=Classical.epsilon (xv k b m)
theorem pY{k b m:Int}{r:Option Int}(h:xv k b m r):r=Fn k b m:=tw xv.uniq h
theorem tf(k b m:Int):xv k b m (Fn k b m):=by
 rcases xv.ex k b m (m-b).toNat with⟨d,h⟩|h
 .rw[<-pY h];exact h
 .have z:xv k b m none:=fun d h1 h2 h3=>h d h1 h2 (by omega) h3;rw[<-pY z];exact z
noncomputable def kE(k b e:Int):Option Int:=Fn k b (if rt k+1<e then rt k+1 else e)
theorem dm{d k:Int}:k.fmod d=0↔d∣k:=⟨Int.dvd_of_fmod_eq_zero,Int.fmod_eq_zero_of_dvd⟩
theorem AH{k:Int}(h3:3<=k)(ho:k%2=1):(kE k 3 k).isNone=aR k:=by
 have hz:=tf k 3 (if rt k+1<k then rt k+1 else k)
 have hk:rt k+1<=k:=by
  have:=(rq (show 0<=k by omega) (show 0<=k by omega)).mp;apply Classical.byContradiction;intro hn;have z:=this (by omega);have:3*k<=k*k:=Int.mul_le_mul h3 (Int.le_refl k) (by omega) (by omega);omega
 have hm:(if rt k+1<k then rt k+1 else k)=rt k+1:=by split<;>omega
 rw[hm] at hz;unfold kE;rw[hm];cases hr:Fn k 3 (rt k+1) with
 |none =>
  rw[hr] at hz;symm;refine bC.mpr (.inr ⟨h3,ho,fun d h1 h2 h4=>hz d h1 ((rq (by omega) (by omega)).mpr h2) (by omega)⟩)
 |some d =>
  rw[hr] at hz;symm;show aR k=false;cases hp:aR k with
  |false=>rfl
  |true =>
   rcases bC.mp hp with z|⟨_,_,z⟩
   .omega
   .have h1:3<=d:=hz.1;exact absurd hz.2.2.2.1 (z d hz.1 ((rq (by omega) (by omega)).mp hz.2.1) (by have:=hz.2.2.1;omega))
theorem fk{p d:Int}(hp:aR p=true)(hd:0<d)(h:d∣p):d=1\/d=p:=by
 obtain⟨e,he⟩:=h;have hp2:=au hp
 have he0:0<e:=by
  apply Classical.byContradiction;intro hn;have:d*e<=0:=Int.mul_nonpos_of_nonneg_of_nonpos (by omega) (by omega);omega
 rcases bC.mp hp with h2|⟨h3,ho,hf⟩
 .have:d<=2:=by
   have:=Int.le_of_dvd (show(0:Int)<2 by decide) (⟨e,by omega⟩:d∣2);omega
  omega
 .apply Classical.byContradiction;intro hn;have hd1:d≠1:=fun z=>hn (.inl z);have hd2:d≠p:=fun z=>hn (.inr z);have he1:e≠1:=by rintro rfl;omega
  have dodd:d%2=1:=by
   rcases Int.emod_two_eq d with z|z
   .obtain⟨c,hc⟩:=Int.dvd_of_emod_eq_zero z;rw[hc,Int.mul_assoc] at he;omega
   .exact z
  have eodd:e%2=1:=by
   rcases Int.emod_two_eq e with z|z
   .obtain⟨c,hc⟩:=Int.dvd_of_emod_eq_zero z;rw[hc,Int.mul_left_comm] at he;omega
   .exact z
  rcases Int.le_total d e with z|z
  .exact hf d (by omega) (by rw[he];exact Int.mul_le_mul_of_nonneg_left z (by omega)) dodd ⟨e,he⟩
  .exact hf e (by omega) (by rw[he];exact Int.mul_le_mul_of_nonneg_right z (by omega)) eodd ⟨d,by rw[he,Int.mul_comm]⟩
theorem euclid{p a b:Int}(hp:aR p=true)(h:p∣a*b):p∣a\/p∣b:=by
 have hp2:=au hp
 have hg:(0:Int)<(Int.gcd p a:Nat):=by
  have:=Int.gcd_pos_of_ne_zero_left a (show p≠0 by omega);omega
 rcases fk hp hg (Int.gcd_dvd_left p a) with z|z
 .right
  have hc:Nat.Coprime p.natAbs a.natAbs:=by
   show Nat.gcd p.natAbs a.natAbs=1;have:Int.gcd p a=1:=by omega
   exact this
  have:=Int.natAbs_dvd_natAbs.mpr h;rw[Int.natAbs_mul] at this;exact Int.natAbs_dvd_natAbs.mp (hc.dvd_of_dvd_mul_left this)
 .left;rw[<-z];exact Int.gcd_dvd_right p a
theorem EZ{m a b:Int}:a%m=b%m↔m∣a-b:=by
 rw[Int.emod_eq_emod_iff_emod_sub_eq_zero];exact⟨Int.dvd_of_emod_eq_zero,Int.emod_eq_zero_of_dvd⟩
theorem fW(x m:Int):∀n:Nat,(x%m)^n%m=x^n%m
 |0=>by rw[Int.pow_zero,Int.pow_zero]
 |n+1=>by rw[Int.pow_succ,Int.pow_succ,Int.mul_emod,fW x m n,Int.emod_emod_of_dvd _ (Int.dvd_refl m),<-Int.mul_emod]
theorem y6{M L:List Int}(hn:M.Nodup)(hs:∀x,x∈M->x∈L):∃L',L.Perm (M++L'):=by
 induction M generalizing L with
 |nil=>exact⟨L,List.Perm.refl _⟩
 |cons x M ih =>
  have hx:x∈L:=hs x (List.mem_cons_self ..);have hn':=List.nodup_cons.mp hn;obtain⟨L',h⟩:=ih (L:=L.erase x) hn'.2 fun y hy=>(List.mem_erase_of_ne (by rintro rfl;exact hn'.1 hy)).mpr (hs y (List.mem_cons_of_mem _ hy));exact⟨L',(List.perm_cons_erase hx).trans (List.Perm.cons x h)⟩
def cf:List Int->Int
 |[]=>1
 |x::l=>x*cf l
theorem mI{l l':List Int}(h:l.Perm l'):cf l=cf l':=by
 induction h with
 |nil=>rfl
 |cons x _ ih=>show x*_=x*_;rw[ih]
 |swap x y l=>show y*(x*_)=x*(y*_);rw[Int.mul_left_comm]
 |trans _ _ h1 h2=>exact h1.trans h2
theorem oh{p a:Int}:∀l:List Int,p∣cf (l.map fun x=>a*x%p)-a^l.length*cf l
 |[]=>⟨0,by simp[cf]⟩
 |x::l=>by
  obtain⟨c,hc⟩:=oh (p:=p) (a:=a) l;have e:=Int.emod_def (a*x) p;have e1:cf (List.map (fun x=>a*x%p) (x::l))=(a*x%p)*cf (l.map fun x=>a*x%p):=rfl;have e2:cf (x::l)=x*cf l:=rfl;rw[e1,e2,List.length_cons,Int.pow_succ];generalize cf (l.map fun x=>a*x%p)=u at *;generalize a*x/p=q at *;generalize a*x%p=r at *;generalize a^l.length=t at *;generalize cf l=v at *;have hu:u=t*v+p*c:=by omega
  exact⟨a*x*c-q*u,by rw[e];grind⟩
theorem fH{p:Int}(hp:aR p=true):∀l:List Int,(∀x,x∈l->¬p∣x)->¬p∣cf l
 |[],_=>fun h=>by
  have:=au hp;have:=Int.le_of_dvd (by decide) (show p∣(1:Int) from h);omega
 |x::l,hl=>fun h=>by
  rcases euclid hp (show p∣x*cf l from h) with z|z
  .exact hl x (List.mem_cons_self ..) z
  .exact fH hp l (fun y hy=>hl y (List.mem_cons_of_mem _ hy)) z
theorem cF{p x:Int}(h:p∣x)(h1:-p<x)(h2:x<p):x=0:=by
 obtain⟨c,rfl⟩:=h;have hp:0<p:=by omega
 by_cases hc:c=0
 .rw[hc,Int.mul_zero]
 .rcases Int.lt_or_gt_of_ne hc with z|z
  .have:p*c<=p*(-1):=Int.mul_le_mul_of_nonneg_left (by omega) (by omega);omega
  .have:p*1<=p*c:=Int.mul_le_mul_of_nonneg_left (by omega) (by omega);omega
theorem ED{p a:Int}(hp:aR p=true)(ha:¬p∣a):p∣a^(p-1).toNat-1:=by
 have hp2:=au hp;let L:List Int:=(List.range (p-1).toNat).map fun i:Nat=>(i:Int)+1
 have hL:∀x,x∈L↔1<=x/\x<p:=by
  intro x;simp only[L,List.mem_map,List.mem_range];constructor
  .rintro⟨i,h,rfl⟩;omega
  .rintro⟨h1,h2⟩;exact⟨(x-1).toNat,by omega,by omega⟩
 have hnL:L.Nodup:=by
  refine List.pairwise_map.mpr (List.Pairwise.imp_of_mem ?_ (List.nodup_range (n:=(p-1).toNat)));intro i j _ _ hij;omega
 have hlen:L.length=(p-1).toNat:=by simp[L]
 clear_value L
 have hnd:∀x,x∈L->¬p∣x:=fun x hx hd=>by
  have:=(hL x).mp hx;have:=cF hd (by omega) (by omega);omega
 have hM:(L.map fun x=>a*x%p).Nodup:=by
  refine List.pairwise_map.mpr (List.Pairwise.imp_of_mem ?_ hnL);intro x y hx hy hxy he;have h1:p∣a*(x-y):=by rw[Int.mul_sub];exact EZ.mp he
  rcases euclid hp h1 with z|z
  .exact ha z
  .have:=(hL x).mp hx;have:=(hL y).mp hy;have:=cF z (by omega) (by omega);omega
 have hs:∀x,x∈(L.map fun x=>a*x%p)->x∈L:=by
  intro y hy;obtain⟨x,hx,rfl⟩:=List.mem_map.mp hy;have h0:=Int.emod_nonneg (a*x) (show p≠0 by omega);have h1:=Int.emod_lt_of_pos (a*x) (show 0<p by omega);refine(hL _).mpr ⟨?_,h1⟩;apply Classical.byContradiction;intro hn;have hz:a*x%p=0:=by omega
  rcases euclid hp (Int.dvd_of_emod_eq_zero hz) with z|z
  .exact ha z
  .exact hnd x hx z
 obtain⟨L',hperm⟩:=y6 hM hs
 have hL':L'=[]:=by
  have:=hperm.length_eq;rw[List.length_append,List.length_map] at this;exact List.eq_nil_of_length_eq_zero (by omega)
 rw[hL',List.append_nil] at hperm;have hpr:=oh (p:=p) (a:=a) L;rw[<-mI hperm,hlen] at hpr
 have h2:p∣(a^(p-1).toNat-1)*cf L:=by
  obtain⟨c,hc⟩:=hpr;exact⟨-c,by rw[Int.sub_mul,Int.one_mul,Int.mul_neg];omega⟩
 rcases euclid hp h2 with z|z
 .exact z
 .exact absurd z (fH hp L hnd)
theorem GZ{p a:Int}(hp:aR p=true)(h2:p≠2)(ha:¬p∣a):p∣a^((p-1)/2).toNat-1\/p∣a^((p-1)/2).toNat+1:=by
 have ho:p%2=1:=by rcases bC.mp hp with z|z<;>omega
 have hp2:=au hp;have hf:=ED hp ha;rw[show(p-1).toNat=((p-1)/2).toNat+((p-1)/2).toNat by omega,Int.pow_add] at hf;generalize a^((p-1)/2).toNat=y at *;exact euclid hp (show p∣(y-1)*(y+1) by rw[show(y-1)*(y+1)=y*y-1 by grind];exact hf)
def bA(k p:Int):Int:=if k%p=0 then 0 else if p=2 then 1 else if (k%p)^((p-1)/2).toNat%p=1 then 1 else -1
theorem g5{k p:Int}(h:p∣k):bA k p=0:=if_pos (Int.emod_eq_zero_of_dvd h)
theorem BY(k p:Int):bA (k%p) p=bA k p:=by unfold bA;rw[Int.emod_emod_of_dvd _ (Int.dvd_refl p)]
theorem yh{k l p:Int}(h:k%p=l%p):bA k p=bA l p:=by unfold bA;rw[h]
theorem df{k p:Int}(hp:aR p=true)(h2:p≠2)(hk:¬p∣k):bA k p=1↔p∣k^((p-1)/2).toNat-1:=by
 have hp2:=au hp;unfold bA;rw[if_neg (fun z=>hk (Int.dvd_of_emod_eq_zero z)),if_neg h2,fW,<-EZ,Int.emod_eq_of_lt (show(0:Int)<=1 by decide) (show(1:Int)<p by omega)];split
 .rename_i h;exact⟨fun _=>h,fun _=>rfl⟩
 .rename_i h;exact⟨fun z=>absurd z (by decide),fun z=>absurd z h⟩
theorem dh{k p:Int}(hk:¬p∣k):bA k p=1\/bA k p=-1:=by
 unfold bA;rw[if_neg (fun z=>hk (Int.dvd_of_emod_eq_zero z))];split
 .exact .inl rfl
 .split
  .exact .inl rfl
  .exact .inr rfl
theorem fq{k p:Int}(hp:aR p=true)(h2:p≠2)(hk:¬p∣k):bA k p=-1↔p∣k^((p-1)/2).toNat+1:=by
 have hp2:=au hp;have e:=df hp h2 hk;rcases GZ hp h2 hk with z|z
 .rw[e.mpr z];refine⟨fun w=>absurd w (by decide),fun w=>?_⟩
  have:p∣2:=by
   obtain⟨c,hc⟩:=z;obtain⟨d,hd⟩:=w;exact⟨d-c,by rw[Int.mul_sub];omega⟩
  have:=Int.le_of_dvd (by decide) this;omega
 .refine⟨fun _=>z,fun _=>?_⟩;rcases dh hk with w|w
  .have:p∣2:=by
    obtain⟨c,hc⟩:=e.mp w;obtain⟨d,hd⟩:=z;exact⟨d-c,by rw[Int.mul_sub];omega⟩
   have:=Int.le_of_dvd (by decide) this;omega
  .exact w
theorem vS{p:Int}(hp:aR p=true)(a b:Int):bA (a*b) p=bA a p*bA b p:=by
 have hp2:=au hp;by_cases ha:p∣a
 .rw[g5 ha,Int.zero_mul,g5 (Int.dvd_trans ha ⟨b,rfl⟩)]
 by_cases hb:p∣b
 .rw[g5 hb,Int.mul_zero,g5 (Int.dvd_trans hb ⟨a,Int.mul_comm ..⟩)]
 have hab:¬p∣a*b:=fun z=>by rcases euclid hp z with z|z<;>contradiction
 by_cases h2:p=2
 .subst h2;have e:∀k:Int,¬(2:Int)∣k->bA k 2=1:=fun k hk=>by unfold bA;rw[if_neg (fun z=>hk (Int.dvd_of_emod_eq_zero z)),if_pos rfl]
  rw[e _ ha,e _ hb,e _ hab];rfl
 have hm:(a*b)^((p-1)/2).toNat=a^((p-1)/2).toNat*b^((p-1)/2).toNat:=Int.mul_pow ..;rcases dh ha with ea|ea<;>rcases dh hb with eb|eb<;>rw[ea,eb]
 .refine(df hp h2 hab).mpr ?_;obtain⟨c,hc⟩:=(df hp h2 ha).mp ea;obtain⟨d,hd⟩:=(df hp h2 hb).mp eb;rw[hm];exact⟨c*d*p+c+d,by grind⟩
 .refine(fq hp h2 hab).mpr ?_;obtain⟨c,hc⟩:=(df hp h2 ha).mp ea;obtain⟨d,hd⟩:=(fq hp h2 hb).mp eb;rw[hm];exact⟨c*d*p-c+d,by grind⟩
 .refine(fq hp h2 hab).mpr ?_;obtain⟨c,hc⟩:=(fq hp h2 ha).mp ea;obtain⟨d,hd⟩:=(df hp h2 hb).mp eb;rw[hm];exact⟨c*d*p+c-d,by grind⟩
 .refine(df hp h2 hab).mpr ?_;obtain⟨c,hc⟩:=(fq hp h2 ha).mp ea;obtain⟨d,hd⟩:=(fq hp h2 hb).mp eb;rw[hm];exact⟨c*d*p-c-d,by grind⟩
def sf(k d:Int)(r:Int×Int):Prop:=0<=r.1/\k=r.2*d^r.1.toNat/\¬d∣r.2
theorem sf.lt{k d:Int}(hd:2<=d){r r':Int×Int}(h:sf k d r)(h':sf k d r')(hl:r.1<r'.1):False:=by
 obtain⟨a1,a2,a3⟩:=h;obtain⟨b1,b2,b3⟩:=h';have e:r'.1.toNat=(r'.1.toNat-r.1.toNat-1)+1+r.1.toNat:=by omega
 rw[e,Int.pow_add,Int.pow_succ] at b2;have hp:d^r.1.toNat≠0:=Int.pow_ne_zero (by omega);have z:r.2*d^r.1.toNat=(r'.2*d^(r'.1.toNat-r.1.toNat-1)*d)*d^r.1.toNat:=by rw[<-a2,b2];grind
 have w:=Int.eq_of_mul_eq_mul_right hp z;exact a3 ⟨r'.2*d^(r'.1.toNat-r.1.toNat-1),by rw[w,Int.mul_comm]⟩
theorem sf.uniq{k d:Int}(hd:2<=d)(r r':Int×Int)(h:sf k d r)(h':sf k d r'):r=r':=by
 have h1:r.1=r'.1:=by
  rcases Int.lt_trichotomy r.1 r'.1 with z|z|z
  .exact(sf.lt hd h h' z).elim
  .exact z
  .exact(sf.lt hd h' h z).elim
 have hp:d^r.1.toNat≠0:=Int.pow_ne_zero (by omega)
 have h2:r.2=r'.2:=by
  have:=h.2.1.symm.trans h'.2.1;rw[<-h1] at this;exact Int.eq_of_mul_eq_mul_right hp this
 exact Prod.ext h1 h2
theorem sf.ex{d:Int}(hd:2<=d):∀(n:Nat) (k:Int),k≠0->k.natAbs<=n->∃r,sf k d r
 |0,k,h0,hn=>by omega
 |n+1,k,h0,hn=>by
  by_cases h:d∣k
  .obtain⟨c,hc⟩:=h;have hc0:c≠0:=by rintro rfl;rw[Int.mul_zero] at hc;exact h0 hc
   have hlt:c.natAbs<k.natAbs:=by
    rw[hc,Int.natAbs_mul];have:2*c.natAbs<=d.natAbs*c.natAbs:=Nat.mul_le_mul_right _ (by omega);omega
   obtain⟨r,h1,h2,h3⟩:=sf.ex hd n c hc0 (by omega);refine⟨(r.1+1,r.2),by dsimp only;omega,?_,h3⟩;dsimp only;rw[show(r.1+1).toNat=r.1.toNat+1 by omega,Int.pow_succ,hc];rw[show d*c=d*(r.2*d^r.1.toNat) by rw[<-h2]];grind
  .exact⟨(0,k),Int.le_refl 0,by dsimp only;rw[show(0:Int).toNat=0 from rfl,Int.pow_zero,Int.mul_one],h⟩
noncomputable def aZ(k d:Int):Int×Int:=Classical.epsilon (sf k d)
theorem ie{k d:Int}(hd:2<=d){r:Int×Int}(h:sf k d r):aZ k d=r:=(tw (sf.uniq hd) h).symm
theorem gK{k d:Int}(hd:2<=d)(h:k≠0):sf k d (aZ k d):=by
 obtain⟨r,hr⟩:=sf.ex hd k.natAbs k h (Nat.le_refl _);rw[ie hd hr];exact hr
theorem lJ{k d:Int}{v:Nat}(hd:2<=d)(h:¬d∣k):aZ (k*d^v) d=((v:Int),k) :=
 ie hd ⟨by dsimp only;omega,by dsimp only;rw[Int.toNat_natCast],h⟩
theorem B_{a b p:Int}(hp:aR p=true)(ha:a≠0)(hb:b≠0):aZ (a*b) p=((aZ a p).1+(aZ b p).1,(aZ a p).2*(aZ b p).2):=by
 have hd:=au hp;obtain⟨a1,a2,a3⟩:=gK hd ha;obtain⟨b1,b2,b3⟩:=gK hd hb;refine ie hd ⟨by dsimp only;omega,?_,fun z=>by rcases euclid hp z with w|w<;>contradiction⟩;dsimp only;rw[show((aZ a p).1+(aZ b p).1).toNat=(aZ a p).1.toNat+(aZ b p).1.toNat by omega,Int.pow_add];generalize (aZ a p).1.toNat=m at *;generalize (aZ b p).1.toNat=n at *;generalize (aZ a p).2=u at *;generalize (aZ b p).2=v at *;rw[a2,b2];generalize p^m=x;generalize p^n=y;grind
theorem rN{k d:Int}(hd:2<=d)(h:d∣k)(h0:k≠0):k.fdiv d*d=k/\k.fdiv d≠0/\(k.fdiv d).natAbs<k.natAbs:=by
 obtain⟨c,rfl⟩:=h;have e:(d*c).fdiv d=c:=Int.mul_fdiv_cancel_left c (by omega);rw[e];have hc:c≠0:=by rintro rfl;simp at h0
 refine⟨Int.mul_comm ..,hc,?_⟩;rw[Int.natAbs_mul];have:2*c.natAbs<=d.natAbs*c.natAbs:=Nat.mul_le_mul_right _ (by omega);omega
noncomputable def cls(k p:Int):Int×Int:=((aZ k p).1%2,if p=2 then (aZ k p).2%8 else bA (aZ k p).2 p)
def b1(c:Bool):Int:=if c then 1 else 0
def fc(x y:Int×Int):Bool:=decide ((b1 (decide (x.2%4=3)&&decide (y.2%4=3))+b1 (decide (x.1=1)&&(decide (y.2=3) || decide (y.2=5)))+b1 (decide (y.1=1)&&(decide (x.2=3) || decide (x.2=5))))%2=0)
def xm(x y:Int×Int)(p:Int):Bool:=decide ((if x.1=1 then y.2 else 1)*(if y.1=1 then x.2 else 1)*(if x.1=1/\y.1=1 then bA (-1) p else 1)=1)
noncomputable def aq(a b p:Int):Bool:=if p=0 then decide (0<a) || decide (0<b) else if p=2 then fc (cls a p) (cls b p) else xm (cls a p) (cls b p) p
def fS(x y:Int×Int)(p:Int):Int×Int:=((x.1+y.1)%2,if p=2 then x.2*y.2%8 else x.2*y.2)
theorem eF{p a b:Int}(hp:aR p=true)(ha:a≠0)(hb:b≠0):cls (a*b) p=fS (cls a p) (cls b p) p:=by
 unfold cls fS;rw[B_ hp ha hb];dsimp only;by_cases h:p=2
 .rw[if_pos h,if_pos h,if_pos h,if_pos h];exact Prod.ext (by dsimp only;omega) (Int.mul_emod ..)
 .rw[if_neg h,if_neg h,if_neg h,if_neg h];exact Prod.ext (by dsimp only;omega) (vS hp ..)
def CO:List (Int×Int):=[(0,1),(0,-1),(1,1),(1,-1)]
def C2:List (Int×Int):=[(0,1),(0,3),(0,5),(0,7),(1,1),(1,3),(1,5),(1,7)]
theorem c9{p a:Int}(hp:2<=p)(h2:p≠2)(ha:a≠0):cls a p∈CO:=by
 obtain⟨_,_,hn⟩:=gK hp ha;unfold cls;rw[if_neg h2];rcases Int.emod_two_eq (aZ a p).1 with z|z<;>rcases dh hn with w|w<;>rw[z,w]<;>decide
theorem cV{a:Int}(ha:a≠0):cls a 2∈C2:=by
 obtain⟨_,_,hn⟩:=gK (d:=2) (by decide) ha;have h':(aZ a 2).2%2≠0:=fun z=>hn (Int.dvd_of_emod_eq_zero z);have:(aZ a 2).2%8=1\/(aZ a 2).2%8=3\/(aZ a 2).2%8=5\/(aZ a 2).2%8=7:=by omega
 unfold cls;rw[if_pos rfl];rcases Int.emod_two_eq (aZ a 2).1 with z|z<;>rcases this with w|w|w|w<;>rw[z,w]<;>decide
theorem rR{p:Int}(hp:2<=p):bA (-1) p∈[(1:Int),-1]:=by
 have:¬p∣-1:=fun z=>by
  have:=Int.le_of_dvd (by decide) ((Int.dvd_neg).mp z);omega
 rcases dh this with w|w<;>rw[w]<;>decide
def i5(x y:Int×Int)(m:Int):Bool:=decide ((if x.1=1 then y.2 else 1)*(if y.1=1 then x.2 else 1)*(if x.1=1/\y.1=1 then m else 1)=1)
theorem Eb(x y:Int×Int)(p:Int):xm x y p=i5 x y (bA (-1) p):=rfl
theorem GU:∀x∈CO,∀y∈CO,∀m∈[(1:Int),-1],i5 x y m=i5 y x m:=by decide
theorem DV:∀x∈C2,∀y∈C2,fc x y=fc y x:=by decide
theorem Fu:∀x∈CO,∀y∈CO,∀z∈CO,∀m∈[(1:Int),-1],i5 x (fS y z 3) m=(i5 x y m==i5 x z m):=by decide +kernel
theorem C7:∀x∈C2,∀y∈C2,∀z∈C2,fc x (fS y z 2)=(fc x y==fc x z):=by decide +kernel
theorem HK:∀x∈CO,∀y∈CO,fS (fS x y 3) y 3=x:=by decide
theorem Gm:∀x∈C2,∀y∈C2,fS (fS x y 2) y 2=x:=by decide
theorem FH:∀x∈CO,∀m∈[(1:Int),-1],i5 x (fS (0,m) x 3) m=true:=by decide
theorem C1:∀x∈C2,fc x (fS (0,7) x 2)=true:=by decide
theorem Gy:∀x∈CO,∀y∈CO,∀m∈[(1:Int),-1],i5 x (fS y y 3) m=true:=by decide
theorem C5:∀x∈C2,∀y∈C2,fc x (fS y y 2)=true:=by decide
theorem iq{x y:Int×Int}{p:Int}(h:p≠2):fS x y p=fS x y 3:=by unfold fS;rw[if_neg h,if_neg (by decide)]
def Pl(p:Int):Prop:=p=0\/aR p=true
theorem aH{a b:Int}:aq a b 0=(decide (0<a) || decide (0<b)):=if_pos rfl
theorem aS{a b:Int}:aq a b 2=fc (cls a 2) (cls b 2):=by unfold aq;rw[if_neg (by decide),if_pos rfl]
theorem ba{a b p:Int}(h0:p≠0)(h2:p≠2):aq a b p=i5 (cls a p) (cls b p) (bA (-1) p):=by unfold aq;rw[if_neg h0,if_neg h2,Eb]
theorem Pl.cases{p:Int}(h:Pl p){Q:Prop}(h0:p=0->Q)(h2:p=2->Q)(ho:aR p=true->p≠2->p≠0->2<=p->Q):Q:=by
 rcases h with z|z
 .exact h0 z
 .have:=au z;by_cases w:p=2
  .exact h2 w
  .exact ho z w (by omega) this
theorem e9{a b p:Int}(h:Pl p)(ha:a≠0)(hb:b≠0):aq b a p=aq a b p:=by
 refine h.cases (fun z=>?_) (fun z=>?_) (fun hp h2 h0 h3=>?_)
 .subst z;rw[aH,aH,Bool.or_comm]
 .subst z;rw[aS,aS];exact DV _ (cV hb) _ (cV ha)
 .rw[ba h0 h2,ba h0 h2];exact GU _ (c9 h3 h2 hb) _ (c9 h3 h2 ha) _ (rR h3)
theorem dP{b c:Int}(hb:b≠0)(hc:c≠0):0<b*c↔(0<b↔0<c):=by
 rcases Int.lt_or_gt_of_ne hb with z|z<;>rcases Int.lt_or_gt_of_ne hc with w|w
 .have:=Int.mul_pos_of_neg_of_neg z w;constructor<;>intro<;>omega
 .have:=Int.mul_neg_of_neg_of_pos z w;constructor<;>intro<;>omega
 .have:=Int.mul_neg_of_pos_of_neg z w;constructor<;>intro<;>omega
 .have:=Int.mul_pos z w;constructor<;>intro<;>omega
theorem il{a b c p:Int}(h:Pl p)(ha:a≠0)(hb:b≠0)(hc:c≠0):aq a (b*c) p=(aq a b p==aq a c p):=by
 refine h.cases (fun z=>?_) (fun z=>?_) (fun hp h2 h0 h3=>?_)
 .subst z;rw[aH,aH,aH];have:=dP hb hc;by_cases w:0<a
  .simp[w]
  .by_cases x:0<b<;>by_cases y:0<c<;>simp[w,x,y,this]
 .subst z;rw[aS,aS,aS,eF cX hb hc];exact C7 _ (cV ha) _ (cV hb) _ (cV hc)
 .rw[ba h0 h2,ba h0 h2,ba h0 h2,eF hp hb hc,iq h2];exact Fu _ (c9 h3 h2 ha) _ (c9 h3 h2 hb) _ (c9 h3 h2 hc) _ (rR h3)
theorem tE{a r p:Int}(hp:aR p=true)(ha:a≠0)(hr:r≠0):cls (a*r*r) p=cls a p:=by
 rw[eF hp (Int.mul_ne_zero ha hr) hr,eF hp ha hr];have h3:=au hp;by_cases h2:p=2
 .subst h2;exact Gm _ (cV ha) _ (cV hr)
 .rw[iq h2,iq h2];exact HK _ (c9 h3 h2 ha) _ (c9 h3 h2 hr)
theorem B5{a b r p:Int}(h:Pl p)(ha:a≠0)(hr:r≠0):aq (a*r*r) b p=aq a b p:=by
 refine h.cases (fun z=>?_) (fun z=>?_) (fun hp h2 h0 h3=>?_)
 .subst z;rw[aH,aH]
  have e:0<a*r*r↔0<a:=by
   rw[Int.mul_assoc,dP ha (Int.mul_ne_zero hr hr)];have:0<r*r:=(dP hr hr).mpr Iff.rfl;constructor
   .intro z;exact z.mpr this
   .intro z;exact⟨fun _=>this,fun _=>z⟩
  rw[decide_eq_decide.mpr e]
 .subst z;rw[aS,aS,tE cX ha hr]
 .rw[ba h0 h2,ba h0 h2,tE hp ha hr]
theorem zz{p:Int}(hp:aR p=true):cls (-1) p=(0,if p=2 then 7 else bA (-1) p):=by
 have h3:=au hp
 have hn:¬p∣-1:=fun z=>by
  have:=Int.le_of_dvd (by decide) ((Int.dvd_neg).mp z);omega
 have e:aZ (-1) p=(0,-1):=ie h3 ⟨Int.le_refl 0,by dsimp only;rw[show(0:Int).toNat=0 from rfl,Int.pow_zero,Int.mul_one],hn⟩;unfold cls;rw[e];rfl
theorem y_{a p:Int}(h:Pl p)(ha:a≠0):aq a (0-a) p=true:=by
 have en:0-a=-1*a:=by omega
 refine h.cases (fun z=>?_) (fun z=>?_) (fun hp h2 h0 h3=>?_)
 .subst z;rw[aH];simp;omega
 .subst z;rw[aS,en,eF cX (by decide) ha,zz cX,if_pos rfl];exact C1 _ (cV ha)
 .rw[ba h0 h2,en,eF hp (by decide) ha,zz hp,if_neg h2,iq h2];exact FH _ (c9 h3 h2 ha) _ (rR h3)
theorem ma{a r p:Int}(h:Pl p)(ha:a≠0)(hr:r≠0):aq a (r*r) p=true:=by
 refine h.cases (fun z=>?_) (fun z=>?_) (fun hp h2 h0 h3=>?_)
 .subst z;rw[aH];have:0<r*r:=(dP hr hr).mpr Iff.rfl;simp[this]
 .subst z;rw[aS,eF cX hr hr];exact C5 _ (cV ha) _ (cV hr)
 .rw[ba h0 h2,eF hp hr hr,iq h2];exact Gy _ (c9 h3 h2 ha) _ (c9 h3 h2 hr) _ (rR h3)
theorem jm{a p:Int}(hp:2<=p)(h:¬p∣a):aZ a p=(0,a) :=
 ie hp ⟨Int.le_refl 0,by dsimp only;rw[show(0:Int).toNat=0 from rfl,Int.pow_zero,Int.mul_one],h⟩
theorem fQ{a b p:Int}(hp:aR p=true)(h2:p≠2)(ha:¬p∣a)(hb:¬p∣b):aq a b p=true:=by
 have h3:=au hp;rw[ba (by omega) h2];unfold cls;rw[jm h3 ha,jm h3 hb];rfl
theorem nq{a p:Int}(hp:aR p=true)(h2:p≠2)(h:p∣a-1):bA a p=1:=by
 have h3:=au hp;rw[yh (l:=1) (EZ.mpr h)];unfold bA;rw[Int.emod_eq_of_lt (by decide) (by omega),if_neg (by decide),if_neg h2,Int.one_pow,Int.emod_eq_of_lt (by decide) (by omega),if_pos rfl]
noncomputable def xc(e:Int):Nat->List (Int×Int)->Int->Int->List (Int×Int)×Int
 |0,fs,l,_=>(fs,l)
 |n+1,fs,l,b=>match kE l b e with
  |none=>(fs,l)
  |some d=>xc e n (fs++[(d,(aZ l d).1)]) (aZ l d).2 (d+2)
noncomputable def qQ(k:Int):List (Int×Int):=if 0<(aZ k 2).1 then [(2,(aZ k 2).1)] else []
noncomputable def aW(k e:Int):List (Int×Int)×Int:=xc e k.toNat (qQ k) (aZ k 2).2 3
theorem gX{l b e d:Int}(hl:0<=l)(hb:1<=b)(h:kE l b e=some d):b<=d/\d<e/\d*d<=l/\(d-b)%2=0/\d∣l/\∀d',b<=d'->d'<d->(d'-b)%2=0->¬d'∣l:=by
 have z:=tf l b (if rt l+1<e then rt l+1 else e);unfold kE at h;rw[h] at z;obtain⟨z1,z2,z3,z4,z5⟩:=z;have h1:d<rt l+1/\d<e:=by split at z2<;>omega
 exact⟨z1,h1.2,(rq hl (by omega)).mp h1.1,z3,z4,z5⟩
theorem rh{l b e:Int}(hl:0<=l)(hb:1<=b)(h:kE l b e=none):∀d,b<=d->d<e->d*d<=l->(d-b)%2=0->¬d∣l:=by
 have z:=tf l b (if rt l+1<e then rt l+1 else e);unfold kE at h;rw[h] at z;intro d h1 h2 h3 h4;have:=(rq hl (by omega)).mpr h3;exact z d h1 (by split<;>omega) h4
theorem t_{l d:Int}(hd:2<=d)(hl:0<l)(h:d∣l):0<(aZ l d).2/\2*(aZ l d).2<=l/\1<=(aZ l d).1/\(aZ l d).2∣l:=by
 obtain⟨h1,h2,h3⟩:=gK hd (show l≠0 by omega)
 have h1':1<=(aZ l d).1:=by
  apply Classical.byContradiction;intro hn;have e:(aZ l d).1.toNat=0:=by omega
  rw[e,Int.pow_zero,Int.mul_one] at h2;exact h3 (h2▸h)
 have hp:(2:Int)<=d^(aZ l d).1.toNat:=by
  have e:(aZ l d).1.toNat=((aZ l d).1.toNat-1)+1:=by omega
  rw[e,Int.pow_succ];have:(0:Int)<d^((aZ l d).1.toNat-1):=Int.pow_pos (by omega);have:1*2<=d^((aZ l d).1.toNat-1)*d:=Int.mul_le_mul (by omega) hd (by decide) (by omega);omega
 generalize (aZ l d).2=x at *;generalize d^(aZ l d).1.toNat=t at *
 have hx:0<x:=by
  apply Classical.byContradiction;intro hn;have:x*t<=0:=Int.mul_nonpos_of_nonpos_of_nonneg (by omega) (by omega);omega
 have:x*2<=x*t:=Int.mul_le_mul_of_nonneg_left hp (by omega);exact⟨hx,by omega,h1',⟨t,h2⟩⟩
def pp:List (Int×Int)->Int
 |[]=>1
 |u::us=>u.1^u.2.toNat*pp us
theorem lx(u:Int×Int):∀us,pp (us++[u])=pp us*u.1^u.2.toNat
 |[]=>by show _*1=1*_;rw[Int.mul_one,Int.one_mul]
 |v::us=>by
  show v.1^v.2.toNat*pp (us++[u])=v.1^v.2.toNat*pp us*_;rw[lx u us,Int.mul_assoc]
def e_:Int->List (Int×Int)->Int->Prop
 |a,[],b=>a<b
 |a,u::us,b=>a<u.1/\aR u.1=true/\1<=u.2/\e_ u.1 us b
theorem e_.snoc{b b':Int}{u:Int×Int}(hu:aR u.1=true)(h1:1<=u.2)(hb:b<=u.1)(hb':u.1<b'):∀{a us},e_ a us b->e_ a (us++[u]) b'
 |_,[],h=>⟨Int.lt_of_lt_of_le h hb,hu,h1,hb'⟩
 |_,_::_,h=>⟨h.1,h.2.1,h.2.2.1,e_.snoc hu h1 hb hb' h.2.2.2⟩
structure uC(k:Int)(fs:List (Int×Int))(l b:Int):Prop where
 rise:e_ 1 fs b
 prod:pp fs*l=k
 pos:0<l
 odd:l%2=1
 b3:3<=b
 bo:b%2=1
 free:∀d,3<=d->d<b->d%2=1->¬d∣l
theorem uC.prime{k:Int}{fs:List (Int×Int)}{l b e d:Int}(I:uC k fs l b)(h:kE l b e=some d):aR d=true:=by
 obtain⟨h1,h2,h3,h4,h5,h6⟩:=gX (Int.le_of_lt I.pos) (by have:=I.b3;omega) h;have hb:=I.b3;have hbo:=I.bo;refine bC.mpr (.inr ⟨by omega,by omega,fun f g1 g2 g3 g4=>?_⟩);have hfl:f∣l:=Int.dvd_trans g4 h5
 have hfd:f<d:=by
  have:f*3<=f*f:=Int.mul_le_mul_of_nonneg_left g1 (by omega);omega
 rcases Int.lt_or_le f b with z|z
 .exact I.free f g1 z g3 hfl
 .exact h6 f z hfd (by omega) hfl
theorem uC.step{k:Int}{fs:List (Int×Int)}{l b e d:Int}(I:uC k fs l b)(h:kE l b e=some d):uC k (fs++[(d,(aZ l d).1)]) (aZ l d).2 (d+2):=by
 obtain⟨h1,h2,h3,h4,h5,h6⟩:=gX (Int.le_of_lt I.pos) (by have:=I.b3;omega) h;have hb:=I.b3;have hbo:=I.bo;obtain⟨t1,t2,t3,t4⟩:=t_ (show 2<=d by omega) I.pos h5;obtain⟨s1,s2,s3⟩:=gK (show 2<=d by omega) (show l≠0 by have:=I.pos;omega);refine⟨I.rise.snoc (I.prime h) t3 h1 (by omega),?_,t1,?_,by omega,by omega,fun f g1 g2 g3 g4=>?_⟩
 .rw[lx,Int.mul_assoc,Int.mul_comm (d^_),<-s2,I.prod]
 .have ho:=I.odd;obtain⟨c,hc⟩:=t4;rcases Int.emod_two_eq (aZ l d).2 with z|z
  .obtain⟨y,hy⟩:=Int.dvd_of_emod_eq_zero z;rw[hy,Int.mul_assoc] at hc;omega
  .exact z
 .have hfl:f∣l:=Int.dvd_trans g4 t4;rcases Int.lt_trichotomy f d with z|z|z
  .rcases Int.lt_or_le f b with y|y
   .exact I.free f g1 y g3 hfl
   .exact h6 f y z (by omega) hfl
  .rw[z] at g4;exact s3 g4
  .omega
theorem zc{k e:Int}:∀(n:Nat) (fs:List (Int×Int)) (l b:Int),uC k fs l b->l<=n->∃b',uC k (xc e n fs l b).1 (xc e n fs l b).2 b'/\kE (xc e n fs l b).2 b' e=none
 |0,fs,l,b,I,h=>by have:=I.pos;omega
 |n+1,fs,l,b,I,h=>by
  unfold xc;cases hn:kE l b e with
  |none=>exact⟨b,I,hn⟩
  |some d =>
   obtain⟨h1,h2,h3,h4,h5,h6⟩:=gX (Int.le_of_lt I.pos) (by have:=I.b3;omega) hn;obtain⟨t1,t2,t3,t4⟩:=t_ (show 2<=d by have:=I.b3;omega) I.pos h5;exact zc n _ _ _ (I.step hn) (by omega)
theorem ke{k:Int}(hk:1<=k):uC k (qQ k) (aZ k 2).2 3/\(aZ k 2).2<=k:=by
 obtain⟨s1,s2,s3⟩:=gK (show(2:Int)<=2 by decide) (show k≠0 by omega);have hodd:(aZ k 2).2%2=1:=by omega
 have hp:(0:Int)<2^(aZ k 2).1.toNat:=Int.pow_pos (by decide)
 have hpos:0<(aZ k 2).2:=by
  apply Classical.byContradiction;intro hn;have:(aZ k 2).2*2^(aZ k 2).1.toNat<=0:=Int.mul_nonpos_of_nonpos_of_nonneg (by omega) (by omega);omega
 have hle:(aZ k 2).2<=k:=by
  have:(aZ k 2).2*1<=(aZ k 2).2*2^(aZ k 2).1.toNat:=Int.mul_le_mul_of_nonneg_left (by omega) (by omega);omega
 refine⟨⟨?_,?_,hpos,hodd,by decide,by decide,fun d h1 h2=>by omega⟩,hle⟩
 .unfold qQ;split
  .exact⟨by show(1:Int)<2;decide,cX,by dsimp only;omega,by show(2:Int)<3;decide⟩
  .show(1:Int)<3;decide
 .unfold qQ;split
  .show(2^(aZ k 2).1.toNat*1)*_=k;rw[Int.mul_one,Int.mul_comm];exact s2.symm
  .have e:(aZ k 2).1.toNat=0:=by omega
   rw[e,Int.pow_zero,Int.mul_one] at s2;show 1*_=k;rw[Int.one_mul];exact s2.symm
theorem iJ{k e:Int}(hk:1<=k):∃b,uC k (aW k e).1 (aW k e).2 b/\kE (aW k e).2 b e=none:=by
 obtain⟨I,h⟩:=ke hk;exact zc k.toNat _ _ 3 I (by omega)
noncomputable def nM(k:Int):List (Int×Int):=(aW k (k+1)).1++(if 1<(aW k (k+1)).2 then [((aW k (k+1)).2,1)] else [])
theorem gh:∀{us:List (Int×Int)} {a b:Int},0<=a->e_ a us b->0<pp us
 |[],_,_,_,_=>by show(0:Int)<1;decide
 |u::us,a,b,ha,h=>Int.mul_pos (Int.pow_pos (by have:=h.1;omega)) (gh (by have:=h.1;omega) h.2.2.2)
theorem uE{k:Int}(hk:1<=k):(∃b,e_ 1 (nM k) b)/\pp (nM k)=k:=by
 obtain⟨b,I,hn⟩:=iJ (e:=k+1) hk
 have hle:(aW k (k+1)).2<=k:=by
  have h1:=I.prod;have h2:=gh (by decide) I.rise;have h3:=I.pos;have:1*(aW k (k+1)).2<=pp (aW k (k+1)).1*(aW k (k+1)).2:=Int.mul_le_mul_of_nonneg_right (by omega) (by omega);omega
 unfold nM;generalize aW k (k+1)=r at *;split
 .rename_i hl;have hodd:=I.odd;have hb3:=I.b3;have hbo:=I.bo
  have hlb:b<=r.2:=by
   rcases Int.lt_or_le r.2 b with z|z
   .exact absurd (Int.dvd_refl r.2) (I.free r.2 (by omega) z hodd)
   .exact z
  have hpr:aR r.2=true:=by
   refine bC.mpr (.inr ⟨by omega,hodd,fun f g1 g2 g3 g4=>?_⟩);rcases Int.lt_or_le f b with z|z
   .exact I.free f g1 z g3 g4
   .refine rh (by omega) (by omega) hn f z ?_ g2 (by omega) g4;have:f*3<=f*f:=Int.mul_le_mul_of_nonneg_left g1 (by omega);omega
  refine⟨⟨r.2+1,I.rise.snoc hpr (Int.le_refl 1) hlb (by dsimp only;omega)⟩,?_⟩;rw[lx];show pp r.1*r.2^(1:Int).toNat=k;rw[show(1:Int).toNat=1 from rfl,Int.pow_succ,Int.pow_zero,Int.one_mul];exact I.prod
 .have:r.2=1:=by have:=I.pos;omega
  rw[List.append_nil];refine⟨⟨b,I.rise⟩,?_⟩;have:=I.prod;rw[‹r.2=1›,Int.mul_one] at this;exact this
def bu:List Int->Int
 |[]=>0
 |x::l=>x+bu l
theorem nY{l l':List Int}(h:l.Perm l'):bu l=bu l':=by
 induction h with
 |nil=>rfl
 |cons x _ ih=>show x+_=x+_;rw[ih]
 |swap x y l=>show y+(x+_)=x+(y+_);omega
 |trans _ _ h1 h2=>exact h1.trans h2
def gr(a p k:Int):Int:=a*k%p
def pV(a p k:Int):Int:=if gr a p k<=(p-1)/2 then 0 else 1
def gs(a p k:Int):Int:=if gr a p k<=(p-1)/2 then gr a p k else p-gr a p k
def jY(n:Int):Int:=if n%2=0 then 1 else -1
theorem uU(m n:Int):jY (m+n)=jY m*jY n:=by
 unfold jY;rcases Int.emod_two_eq m with a|a<;>rcases Int.emod_two_eq n with b|b
 .rw[if_pos (by omega),if_pos a,if_pos b];rfl
 .rw[if_neg (by omega),if_pos a,if_neg (by omega)];rfl
 .rw[if_neg (by omega),if_neg (by omega),if_pos b];rfl
 .rw[if_pos (by omega),if_neg (by omega),if_neg (by omega)];rfl
theorem rg{m n:Int}(h:m%2=n%2):jY m=jY n:=by unfold jY;rw[h]
def Hl(p:Int):List Int:=(List.range ((p-1)/2).toNat).map fun i:Nat=>(i:Int)+1
theorem i_{p x:Int}:x∈Hl p↔1<=x/\x<=(p-1)/2:=by
 unfold Hl;simp only[List.mem_map,List.mem_range];constructor
 .rintro⟨i,h,rfl⟩;omega
 .rintro⟨h1,h2⟩;exact⟨(x-1).toNat,by omega,by omega⟩
theorem yS(p:Int):(Hl p).Nodup:=by
 refine List.pairwise_map.mpr (List.Pairwise.imp_of_mem ?_ (List.nodup_range (n:=((p-1)/2).toNat)));intro i j _ _ hij;omega
theorem Ed(p:Int):(Hl p).length=((p-1)/2).toNat:=by simp[Hl]
section
variable{p a:Int}(hp:aR p=true)(h2:p≠2)(ha:¬p∣a)
include hp h2 in
theorem fj:p%2=1/\3<=p:=by
 have:=au hp;rcases bC.mp hp with z|z<;>omega
include hp h2 ha in
theorem F0{k:Int}(hk:k∈Hl p):1<=gr a p k/\gr a p k<p:=by
 have ho:=fj hp h2;have hk':=i_.mp hk;have h0:=Int.emod_nonneg (a*k) (show p≠0 by omega);have h1:=Int.emod_lt_of_pos (a*k) (show 0<p by omega);refine⟨?_,h1⟩;apply Classical.byContradiction;intro hn;have hz:a*k%p=0:=by unfold gr at hn;omega
 rcases euclid hp (Int.dvd_of_emod_eq_zero hz) with z|z
 .exact ha z
 .have:=cF z (by omega) (by omega);omega
include hp h2 ha in
theorem GB{k:Int}(hk:k∈Hl p):gs a p k∈Hl p:=by
 have ho:=fj hp h2;have:=F0 hp h2 ha hk;unfold gs;split
 .exact i_.mpr ⟨this.1,by assumption⟩
 .exact i_.mpr ⟨by omega,by omega⟩
theorem DL(a p k:Int):p∣a*k-gr a p k:=by
 have:=Int.emod_add_mul_ediv (a*k) p;exact⟨a*k/p,by unfold gr;omega⟩
theorem sM(a p k:Int):p∣a*k-jY (pV a p k)*gs a p k:=by
 obtain⟨c,hc⟩:=DL a p k;unfold pV gs jY;split
 .exact⟨c,by simp;omega⟩
 .exact⟨c+1,by rw[Int.mul_add];simp;omega⟩
include hp h2 ha in
theorem pN:(Hl p).Perm ((Hl p).map (gs a p)):=by
 have ho:=fj hp h2
 have hnd:((Hl p).map (gs a p)).Nodup:=by
  refine List.pairwise_map.mpr (List.Pairwise.imp_of_mem ?_ (yS p));intro x y hx hy hxy he;have hx':=i_.mp hx;have hy':=i_.mp hy;obtain⟨c,hc⟩:=sM a p x;obtain⟨d,hd⟩:=sM a p y;rw[<-he] at hd;have e1:jY (pV a p x)=1\/jY (pV a p x)=-1:=by unfold jY;split<;>simp
  have e2:jY (pV a p y)=1\/jY (pV a p y)=-1:=by unfold jY;split<;>simp
  have key:p∣a*(x-y)\/p∣a*(x+y):=by
   rcases e1 with z|z<;>rcases e2 with w|w<;>rw[z] at hc<;>rw[w] at hd
   .exact .inl ⟨c-d,by rw[Int.mul_sub,Int.mul_sub];omega⟩
   .exact .inr ⟨c+d,by rw[Int.mul_add,Int.mul_add];omega⟩
   .exact .inr ⟨c+d,by rw[Int.mul_add,Int.mul_add];omega⟩
   .exact .inl ⟨c-d,by rw[Int.mul_sub,Int.mul_sub];omega⟩
  rcases key with z|z
  .rcases euclid hp z with w|w
   .exact ha w
   .have:=cF w (by omega) (by omega);omega
  .rcases euclid hp z with w|w
   .exact ha w
   .have:=cF w (by omega) (by omega);omega
 have hs:∀x,x∈(Hl p).map (gs a p)->x∈Hl p:=by
  intro y hy;obtain⟨x,hx,rfl⟩:=List.mem_map.mp hy;exact GB hp h2 ha hx
 obtain⟨L',hperm⟩:=y6 hnd hs
 have hL':L'=[]:=by
  have:=hperm.length_eq;rw[List.length_append,List.length_map] at this;exact List.eq_nil_of_length_eq_zero (by omega)
 rw[hL',List.append_nil] at hperm;exact hperm
theorem yc(a p:Int):∀l:List Int,p∣a^l.length*cf l-jY (bu (l.map (pV a p)))*cf (l.map (gs a p))
 |[]=>⟨0,by simp[cf,bu,jY]⟩
 |k::l=>by
  obtain⟨c,hc⟩:=yc a p l;obtain⟨d,hd⟩:=sM a p k;show p∣a^(l.length+1)*(k*cf l)-jY (pV a p k+bu (l.map (pV a p)))*(gs a p k*cf (l.map (gs a p)));rw[uU,Int.pow_succ];generalize jY (pV a p k)=e1 at *;generalize jY (bu (l.map (pV a p)))=e2 at *;generalize cf (l.map (gs a p))=v at *;generalize cf l=u at *;generalize a^l.length=t at *;generalize gs a p k=g at *;have h1:t*u=e2*v+p*c:=by omega
  have h2:a*k=e1*g+p*d:=by omega
  exact⟨a*k*c+d*(e2*v),by grind⟩
include hp h2 ha in
theorem xF:bA a p=jY (bu ((Hl p).map (pV a p))):=by
 have ho:=fj hp h2;have hg:=yc a p (Hl p);rw[<-mI (pN hp h2 ha),Ed] at hg;have hd:p∣(a^((p-1)/2).toNat-jY (bu ((Hl p).map (pV a p))))*cf (Hl p):=by rw[Int.sub_mul];exact hg
 rcases euclid hp hd with z|z
 .unfold jY at *;split
  .rename_i h;rw[if_pos h] at z;exact(df hp h2 ha).mpr z
  .rename_i h;rw[if_neg h] at z;exact(fq hp h2 ha).mpr (by rw[show a^((p-1)/2).toNat+1=a^((p-1)/2).toNat - -1 by omega];exact z)
 .refine absurd z (fH hp _ fun x hx hdv=>?_);have:=i_.mp hx;have:=cF hdv (by omega) (by omega);omega
theorem GK{a p k:Int}(ho:p%2=1):(a*k-a*k/p-gs a p k-pV a p k)%2=0:=by
 have e:=Int.emod_add_mul_ediv (a*k) p;have hpq:∃c,p=2*c+1:=⟨p/2,by omega⟩;obtain⟨c,hc⟩:=hpq
 have hq:p*(a*k/p)=2*(c*(a*k/p))+a*k/p:=by
  rw[hc];generalize a*k/(2*c+1)=z;grind
 unfold gs pV gr;generalize a*k/p=q at *;generalize c*q=y at *;split<;>omega
theorem xM{a p:Int}(ho:p%2=1):∀l:List Int,(a*bu l-bu (l.map fun k=>a*k/p)-bu (l.map (gs a p))-bu (l.map (pV a p)))%2=0
 |[]=>by simp[bu]
 |k::l=>by
  have h1:=xM (a:=a) ho l;have h2:=GK (a:=a) (k:=k) ho;show(a*(k+bu l)-(a*k/p+bu (l.map fun k=>a*k/p))-(gs a p k+bu (l.map (gs a p)))-(pV a p k+bu (l.map (pV a p))))%2=0;rw[Int.mul_add];generalize a*bu l=x1 at *;generalize a*k=x2 at *;omega
include hp h2 ha in
theorem CN(ho:a%2=1):bu ((Hl p).map (pV a p))%2=bu ((Hl p).map fun k=>a*k/p)%2:=by
 have h:=xM (a:=a) (fj hp h2).1 (Hl p);rw[<-nY (pN hp h2 ha)] at h;have hq:∃c,a=2*c+1:=⟨a/2,by omega⟩;obtain⟨c,hc⟩:=hq
 have:a*bu (Hl p)=2*(c*bu (Hl p))+bu (Hl p):=by
  rw[hc];generalize bu (Hl p)=z;grind
 generalize c*bu (Hl p)=y at *;omega
end
theorem EY(n:Nat):2*bu ((List.range n).map fun i:Nat=>(i:Int)+1)=(n:Int)*(n+1):=by
 have ap:∀(l:List Int) (x:Int),bu (l++[x])=bu l+x:=fun l x=>by
  induction l with
  |nil=>show x+0=0+x;omega
  |cons y l ih=>show y+bu (l++[x])=y+bu l+x;omega
 induction n with
 |zero=>rfl
 |succ n ih =>
  rw[List.range_succ,List.map_append,List.map_cons,List.map_nil,ap,Int.mul_add,ih];have:((n+1:Nat):Int)=(n:Int)+1:=by omega
  rw[this];generalize (n:Int)=x;grind
theorem BZ{p:Int}(hp:aR p=true)(h2:p≠2):bA 2 p=if p%8=1\/p%8=7 then 1 else -1:=by
 have ho:=fj hp h2
 have ha:¬p∣2:=fun z=>by
  have:=Int.le_of_dvd (by decide) z;omega
 rw[xF hp h2 ha];have h:=xM (a:=2) ho.1 (Hl p);rw[<-nY (pN hp h2 ha)] at h
 have hf:∀l:List Int,(∀k,k∈l->k∈Hl p)->bu (l.map fun k=>2*k/p)=0:=fun l=>by
  induction l with
  |nil=>intro _;rfl
  |cons k l ih =>
   intro hl;have hk:=i_.mp (hl k (List.mem_cons_self ..));have h0:2*k/p=0:=Int.ediv_eq_zero_of_lt (by omega) (by omega);show 2*k/p+bu (l.map fun k=>2*k/p)=0;rw[h0,ih fun y hy=>hl y (List.mem_cons_of_mem _ hy)];rfl
 rw[hf _ fun _ z=>z] at h;have hs:=EY ((p-1)/2).toNat;have hT:bu (Hl p)=bu ((List.range ((p-1)/2).toNat).map fun i:Nat=>(i:Int)+1):=rfl;rw[<-hT] at hs;have hM:(((p-1)/2).toNat:Int)=(p-1)/2:=by omega
 rw[hM] at hs;have hc:∃c r,p=8*c+r/\(r=1\/r=3\/r=5\/r=7):=⟨p/8,p%8,by omega,by omega⟩;obtain⟨c,r,hpc,hr⟩:=hc;have key:∀x:Int,(p-1)/2=x->2*bu (Hl p)=x*(x+1):=fun x hx=>by rw[<-hx];exact hs
 rcases hr with rfl|rfl|rfl|rfl
 .have k:=key (4*c) (by omega)
  have:bu (Hl p)=2*(c*(4*c+1)):=by
   have:4*c*(4*c+1)=2*(2*(c*(4*c+1))):=by grind
   omega
  rw[if_pos (by omega)];unfold jY;rw[if_pos (by omega)]
 .have k:=key (4*c+1) (by omega)
  have:bu (Hl p)=2*(4*(c*c)+3*c)+1:=by
   have:(4*c+1)*(4*c+1+1)=2*(2*(4*(c*c)+3*c)+1):=by grind
   omega
  rw[if_neg (by omega)];unfold jY;rw[if_neg (by omega)]
 .have k:=key (4*c+2) (by omega)
  have:bu (Hl p)=2*(4*(c*c)+5*c+1)+1:=by
   have:(4*c+2)*(4*c+2+1)=2*(2*(4*(c*c)+5*c+1)+1):=by grind
   omega
  rw[if_neg (by omega)];unfold jY;rw[if_neg (by omega)]
 .have k:=key (4*c+3) (by omega)
  have:bu (Hl p)=2*(4*(c*c)+7*c+3):=by
   have:(4*c+3)*(4*c+3+1)=2*(2*(4*(c*c)+7*c+3)):=by grind
   omega
  rw[if_pos (by omega)];unfold jY;rw[if_pos (by omega)]
theorem oE{p:Int}(hp:aR p=true)(h2:p≠2):bA (-1) p=if p%4=3 then -1 else 1:=by
 have ho:=fj hp h2
 have ha:¬p∣-1:=fun z=>by
  have:=Int.le_of_dvd (by decide) ((Int.dvd_neg).mp z);omega
 have pw:∀n:Nat,(-1:Int)^(2*n)=1:=fun n=>by rw[Int.pow_mul,show(-1:Int)^2=1 from rfl,Int.one_pow]
 split
 .refine(fq hp h2 ha).mpr ?_;have e:((p-1)/2).toNat=2*(((p-1)/2).toNat/2)+1:=by omega
  rw[e,Int.pow_succ,pw];exact⟨0,by omega⟩
 .refine(df hp h2 ha).mpr ?_;have e:((p-1)/2).toNat=2*(((p-1)/2).toNat/2):=by omega
  rw[e,pw];exact⟨0,by omega⟩
def sm(n:Nat)(f:Nat->Int):Int:=bu ((List.range n).map f)
theorem c8(n:Nat)(f:Nat->Int):sm (n+1) f=sm n f+f n:=by
 have ap:∀(l:List Int) (x:Int),bu (l++[x])=bu l+x:=fun l x=>by
  induction l with
  |nil=>show x+0=0+x;omega
  |cons y l ih=>show y+bu (l++[x])=y+bu l+x;omega
 unfold sm;rw[List.range_succ,List.map_append,List.map_cons,List.map_nil,ap]
theorem sP(n:Nat)(f g:Nat->Int):sm n (fun i=>f i+g i)=sm n f+sm n g:=by
 induction n with
 |zero=>rfl
 |succ n ih=>rw[c8,c8,c8,ih];omega
theorem lH{n:Nat}{f g:Nat->Int}(h:∀i,i<n->f i=g i):sm n f=sm n g:=by
 induction n with
 |zero=>rfl
 |succ n ih=>rw[c8,c8,ih fun i hi=>h i (by omega),h n (by omega)]
theorem BL(n:Nat):sm n (fun _=>0)=0:=by
 induction n with
 |zero=>rfl
 |succ n ih=>rw[c8,ih];rfl
theorem BN(m n:Nat)(f:Nat->Nat->Int):sm m (fun i=>sm n (f i))=sm n (fun j=>sm m fun i=>f i j):=by
 induction m with
 |zero=>rw[show(fun j=>sm 0 fun i=>f i j)=fun _=>0 from rfl,BL];rfl
 |succ m ih =>
  rw[c8,ih,show(fun j=>sm (m+1) fun i=>f i j)=fun j=>(sm m fun i=>f i j)+f m j from funext fun j=>c8 m _,sP]
theorem D7(n:Nat):sm n (fun _=>1)=n:=by
 induction n with
 |zero=>rfl
 |succ n ih=>rw[c8,ih];omega
theorem cnt{n:Nat}{x:Int}(h0:0<=x):sm n (fun j=>if (j:Int)+1<=x then 1 else 0)=if x<=n then x else n:=by
 induction n with
 |zero=>show(0:Int)=_;split<;>omega
 |succ n ih =>
  rw[c8,ih];split<;>split<;>split<;>omega
theorem below{p t:Int}{n:Nat}(hp:0<p)(ht:0<=t)(hd:¬p∣t)(hn:t/p<=n):sm n (fun j=>if p*((j:Int)+1)<t then 1 else 0)=t/p:=by
 have h0:0<=t/p:=Int.ediv_nonneg ht (by omega);have e:=cnt (n:=n) h0;rw[if_pos hn] at e;rw[<-e];refine lH fun j _=>?_
 have hiff:p*((j:Int)+1)<t↔(j:Int)+1<=t/p:=by
  rw[Int.le_ediv_iff_mul_le hp,Int.mul_comm];constructor
  .intro z;omega
  .intro z;rcases Int.lt_or_eq_of_le z with w|w
   .exact w
   .exact absurd ⟨_,by rw[<-w,Int.mul_comm]⟩ hd
 by_cases z:p*((j:Int)+1)<t
 .rw[if_pos z,if_pos (hiff.mp z)]
 .rw[if_neg z,if_neg fun w=>z (hiff.mpr w)]
theorem Cu{p q:Int}(hp:aR p=true)(h2:p≠2)(hq:aR q=true)(hq2:q≠2)(hne:p≠q):
  bu ((Hl p).map fun k=>q*k/p)=sm ((p-1)/2).toNat fun i=>sm ((q-1)/2).toNat fun j=>if p*((j:Int)+1)<q*((i:Int)+1) then 1 else 0:=by
 have ho:=fj hp h2;have hoq:=fj hq hq2
 have hpq:¬p∣q:=fun z=>by
  rcases fk hq (show 0<p by omega) z with w|w<;>omega
 unfold Hl sm;rw[List.map_map];show sm ((p-1)/2).toNat _=sm ((p-1)/2).toNat _;refine lH fun i hi=>?_;show q*((i:Int)+1)/p=sm _ _;refine(below (by omega) (Int.mul_nonneg (by omega) (by omega)) (fun z=>?_) ?_).symm
 .rcases euclid hp z with w|w
  .exact hpq w
  .have:=cF w (by omega) (by omega);omega
 .have h1:q*((i:Int)+1)<((q-1)/2+1)*p:=by
   have hi':2*((i:Int)+1)<=p-1:=by omega
   have:q*(2*((i:Int)+1))<=q*(p-1):=Int.mul_le_mul_of_nonneg_left hi' (by omega);have e2:2*((q-1)/2+1)=q+1:=by omega
   have e3:2*(((q-1)/2+1)*p)=(q+1)*p:=by rw[<-Int.mul_assoc,e2]
   have e4:q*(2*((i:Int)+1))=2*(q*((i:Int)+1)):=by grind
   have e5:q*(p-1)=q*p-q:=by grind
   have e6:(q+1)*p=q*p+p:=by grind
   omega
  have:=Int.ediv_lt_of_lt_mul (show 0<p by omega) h1;omega
theorem BS{p q:Int}(hp:aR p=true)(h2:p≠2)(hq:aR q=true)(hq2:q≠2)(hne:p≠q):
  bu ((Hl p).map fun k=>q*k/p)+bu ((Hl q).map fun k=>p*k/q)=(p-1)/2*((q-1)/2):=by
 have ho:=fj hp h2;have hoq:=fj hq hq2
 have hpq:¬p∣q:=fun z=>by
  rcases fk hq (show 0<p by omega) z with w|w<;>omega
 rw[Cu hp h2 hq hq2 hne,Cu hq hq2 hp h2 (fun z=>hne z.symm),BN ((q-1)/2).toNat,<-sP]
 have e1:sm ((p-1)/2).toNat (fun i=>(sm ((q-1)/2).toNat fun j=>if p*((j:Int)+1)<q*((i:Int)+1) then 1 else 0)+sm ((q-1)/2).toNat fun i_1=>if q*((i:Int)+1)<p*((i_1:Int)+1) then 1 else 0)=sm ((p-1)/2).toNat fun _=>(((q-1)/2).toNat:Int):=by
  refine lH fun i hi=>?_;rw[<-sP,<-D7 ((q-1)/2).toNat];refine lH fun j hj=>?_
  have hne':p*((j:Int)+1)≠q*((i:Int)+1):=fun z=>by
   rcases euclid hp (show p∣q*((i:Int)+1) from ⟨_,z.symm⟩) with w|w
   .exact hpq w
   .have:=cF w (by omega) (by omega);omega
  generalize p*((j:Int)+1)=x at *;generalize q*((i:Int)+1)=y at *;split<;>split<;>omega
 rw[e1]
 have e2:∀(n:Nat) (c:Int),sm n (fun _=>c)=n*c:=fun n c=>by
  induction n with
  |zero=>show(0:Int)=_;simp
  |succ n ih=>rw[c8,ih];simp[Int.add_mul]
 rw[e2];rw[show(((p-1)/2).toNat:Int)=(p-1)/2 by omega,show(((q-1)/2).toNat:Int)=(q-1)/2 by omega]
theorem xH{p q:Int}(hp:aR p=true)(h2:p≠2)(hq:aR q=true)(hq2:q≠2)(hne:p≠q):bA q p*bA p q=if p%4=3/\q%4=3 then -1 else 1:=by
 have ho:=fj hp h2;have hoq:=fj hq hq2
 have hpq:¬p∣q:=fun z=>by
  rcases fk hq (show 0<p by omega) z with w|w<;>omega
 have hqp:¬q∣p:=fun z=>by
  rcases fk hp (show 0<q by omega) z with w|w<;>omega
 rw[xF hp h2 hpq,xF hq hq2 hqp,rg (CN hp h2 hpq hoq.1),rg (CN hq hq2 hqp ho.1),<-uU,BS hp h2 hq hq2 hne];unfold jY;have hm:=Int.mul_emod ((p-1)/2) ((q-1)/2) 2;rw[hm];by_cases a:p%4=3<;>by_cases b:q%4=3
 .rw[show(p-1)/2%2=1 by omega,show(q-1)/2%2=1 by omega];simp[a,b]
 .rw[show(p-1)/2%2=1 by omega,show(q-1)/2%2=0 by omega];simp[a,b]
 .rw[show(p-1)/2%2=0 by omega];simp[a]
 .rw[show(p-1)/2%2=0 by omega];simp[a]
def Cg(p a b:Int):Prop:=p∣a-b
theorem ur(p a:Int):Cg p (a%p) a:=by
 have:=Int.emod_add_mul_ediv a p;exact⟨-(a/p),by rw[Int.mul_neg];omega⟩
def CC(p k:Int):Prop:=2<=k/\bA k p=-1/\∀j,2<=j->j<k->bA j p≠-1
theorem CC.uniq{p:Int}(a b:Int)(ha:CC p a)(hb:CC p b):a=b:=by
 rcases Int.lt_trichotomy a b with z|z|z
 .exact absurd ha.2.1 (hb.2.2 a ha.1 z)
 .exact z
 .exact absurd hb.2.1 (ha.2.2 b hb.1 z)
noncomputable def qf(p:Int):Int:=Classical.epsilon (CC p)
theorem CZ{p k:Int}(h:CC p k):k=qf p:=tw CC.uniq h
def NR(p:Int):Prop:=∃g,2<=g/\bA g p=-1
theorem oU{p:Int}(h:NR p):CC p (qf p):=by
 obtain⟨g,h1,h3⟩:=h
 have:∀n:Nat,(∃k,CC p k)\/∀j:Int,2<=j->j<2+(n:Int)->bA j p≠-1:=fun n=>by
  induction n with
  |zero=>exact .inr fun j a b=>by omega
  |succ n ih =>
   rcases ih with z|z
   .exact .inl z
   .by_cases w:bA (2+(n:Int)) p=-1
    .exact .inl ⟨2+(n:Int),by omega,w,fun j a b=>z j a b⟩
    .refine .inr fun j a b=>?_;by_cases e:j=2+(n:Int)
     .rw[e];exact w
     .exact z j a (by omega)
 rcases this (g-1).toNat with⟨k,z⟩|z
 .rw[<-CZ z];exact z
 .exact absurd h3 (z g h1 (by omega))
structure JB(p k t r e m:Int):Prop where
 r0:0<=r/\r<p
 e0:0<=e/\e<p
 m0:0<=m/\m<p
 t1:1<=t
 rr:Cg p (r*r) (k*e)
 ee:Cg p (e^2^(t-1).toNat) 1
 mm:e≠1->Cg p (m^2^(t-1).toNat) (-1)
theorem d7{k n m:Int}(h:k∣n*m)(hg:Int.gcd k m=1):k∣n:=by
 have:=Int.dvd_mul_gcd_iff_dvd_mul.mpr h;rw[hg] at this;simpa using this
def iP(n:Int):Prop:=n≠0/\∀d:Int,2<=d->¬d*d∣n
theorem iB:iP 1:=⟨by decide,fun d hd h=>by
 have:=Int.le_of_dvd (by decide) h;have:2*2<=d*d:=Int.mul_le_mul hd hd (by decide) (by omega)
 omega⟩
theorem qc{n:Int}(h:iP n):iP (-n):=⟨by have:=h.1;omega,fun d hd z=>h.2 d hd (Int.dvd_neg.mp z)⟩
theorem oS{n m:Int}(h:iP n)(hd:m∣n):iP m:=⟨by rintro rfl;exact h.1 (Int.zero_dvd.mp hd),fun d h2 z=>h.2 d h2 (Int.dvd_trans z hd)⟩
theorem iD{p d:Int}(hp:aR p=true)(h:¬p∣d):Int.gcd d p=1:=by
 have hp2:=au hp
 have h1:=fk hp (d:=(Int.gcd d p:Int)) (by
  have:0<Int.gcd d p:=Int.gcd_pos_of_ne_zero_right _ (by omega)
  omega) (Int.gcd_dvd_right ..)
 rcases h1 with h1|h1
 .omega
 .exact absurd (by rw[<-h1];exact Int.gcd_dvd_left ..) h
theorem fG{n p:Int}(h:iP n)(hp:aR p=true)(hn:¬p∣n):iP (n*p):=⟨Int.mul_ne_zero h.1 (by have:=au hp;omega),fun d hd z=>by
 have hp2:=au hp;by_cases hpd:p∣d
 .obtain⟨c,rfl⟩:=hpd;have:p*p∣n*p:=Int.dvd_trans ⟨c*c,by grind⟩ z;exact hn (Int.dvd_of_mul_dvd_mul_right (by omega) this)
 .exact h.2 d hd (d7 z (iD hp fun w=>by rcases euclid hp w with w|w<;>exact hpd w))⟩
theorem Ez{r s:Int}(hg:Int.gcd r s=1):Int.gcd (s*s) (r*r)=1:=by
 have a:Int.gcd s (r*r)=1:=by rw[Int.gcd_mul_right_right_of_gcd_eq_one (by rw[Int.gcd_comm];exact hg),Int.gcd_comm];exact hg
 rw[Int.gcd_mul_right_left_of_gcd_eq_one a];exact a
theorem vm{f r s:Int}(hf:iP f)(hs:0<s)(hg:Int.gcd r s=1)(h:s*s∣f*(r*r)):s=1:=by
 have h2:s*s∣f:=d7 h (Ez hg);rcases Int.lt_or_le s 2 with z|z
 .omega
 .exact absurd h2 (hf.2 s z)
theorem qp{n f r s:Int}(hn:iP n)(hf:iP f)(hr:0<r)(hs:0<s)(e:n*(r*r)=f*(s*s)):n=f/\r=s:=by
 obtain⟨g,r',s',hg,hgr,er,es⟩:∃g r' s':Int,0<g/\Int.gcd r' s'=1/\r=g*r'/\s=g*s':=by
  have h0:0<Int.gcd r s:=Int.gcd_pos_of_ne_zero_left _ (by omega);refine⟨Int.gcd r s,r/Int.gcd r s,s/Int.gcd r s,by omega,?_,(Int.mul_ediv_cancel' (Int.gcd_dvd_left ..)).symm,(Int.mul_ediv_cancel' (Int.gcd_dvd_right ..)).symm⟩;rw[Int.gcd_ediv_gcd_ediv_gcd h0]
 subst er es
 have hr':0<r':=by
  rcases Int.lt_or_le 0 r' with z|z
  .exact z
  .have:=Int.mul_nonpos_of_nonneg_of_nonpos (Int.le_of_lt hg) z;omega
 have hs':0<s':=by
  rcases Int.lt_or_le 0 s' with z|z
  .exact z
  .have:=Int.mul_nonpos_of_nonneg_of_nonpos (Int.le_of_lt hg) z;omega
 have e':n*(r'*r')=f*(s'*s'):=by
  have:(g*g)*(n*(r'*r'))=(g*g)*(f*(s'*s')):=by grind
  exact Int.eq_of_mul_eq_mul_left (Int.mul_ne_zero (by omega) (by omega)) this
 have h1:s'=1:=vm hn hs' hgr ⟨f,by grind⟩;have h2:r'=1:=vm hf hr' (by rw[Int.gcd_comm];exact hgr) ⟨n,by grind⟩;subst h1 h2;exact⟨by omega,rfl⟩
def ug(A:Int):Prop:=∀q,aR q=true->q∣A->q<32768
def BV(l:Int):Prop:=∀q,aR q=true->q∣l->32768<=q
theorem fT{k:Int}(h:2<=k):∃q,aR q=true/\q∣k:=by
 obtain⟨⟨b,hr⟩,hp⟩:=uE (k:=k) (by omega);cases hq:nM k with
 |nil=>rw[hq] at hp;simp only[pp] at hp;omega
 |cons u us =>
  rw[hq] at hr hp;refine⟨u.1,hr.2.1,?_⟩;rw[<-hp,pp];have h1:=hr.2.2.1;obtain⟨m,hm⟩:∃m,u.2.toNat=m+1:=⟨u.2.toNat-1,by omega⟩;rw[hm,Int.pow_succ];exact⟨u.1^m*pp us,by grind⟩
theorem ki{a b:Int}(h:∀q,aR q=true->q∣a->¬q∣b)(ha:a≠0):Int.gcd a b=1:=by
 have h0:0<Int.gcd a b:=Int.gcd_pos_of_ne_zero_left _ ha;rcases Nat.lt_or_ge (Int.gcd a b) 2 with z|z
 .omega
 .obtain⟨q,h1,h2⟩:=fT (k:=(Int.gcd a b:Int)) (by omega);exact absurd (Int.dvd_trans h2 (Int.gcd_dvd_right ..)) (h q h1 (Int.dvd_trans h2 (Int.gcd_dvd_left ..)))
theorem pO{A l:Int}(ha:ug A)(hl:BV l)(h0:l≠0):Int.gcd l A=1:=ki (fun q h1 h2 h3=>by have:=ha q h1 h3;have:=hl q h1 h2;omega) h0
theorem jK{A B:Int}(ha:ug A)(hb:ug B):ug (A*B):=fun q h1 h2=>by rcases euclid h1 h2 with z|z;exact ha q h1 z;exact hb q h1 z
theorem BC{A B:Int}(ha:BV A)(hb:BV B):BV (A*B):=fun q h1 h2=>by rcases euclid h1 h2 with z|z;exact ha q h1 z;exact hb q h1 z
theorem zi{A:Int}(h0:0<A)(h:A<32768):ug A:=fun q _ h2=>by have:=Int.le_of_dvd h0 h2;omega
theorem Bb:BV 1:=fun q h1 h2=>by have:=Int.le_of_dvd (by decide) h2;have:=au h1;omega
theorem vp{q:Int}(hq:aR q=true)(h:q<32768):∀n:Nat,ug (q^n)
 |0=>fun r h1 h2=>by rw[Int.pow_zero] at h2;have:=Int.le_of_dvd (by decide) h2;have:=au h1;omega
 |n+1=>by
  rw[Int.pow_succ];exact jK (vp hq h n) fun r h1 h2=>by have:=Int.le_of_dvd (by have:=au hq;omega) h2;omega
theorem jI{l b:Int}(hl:0<l)(ho:l%2=1)(b3:3<=b)(bo:b%2=1)(hf:∀d,3<=d->d<b->d%2=1->¬d∣l)(hn:kE l b 32768=none):∀d,3<=d->d<32768->d*d<=l->d%2=1->¬d∣l:=fun d h1 h2 h3 h4=>by
 rcases Int.lt_or_le d b with z|z
 .exact hf d h1 z h4
 .exact rh (by omega) (by omega) hn d z h2 h3 (by omega)
theorem mR{k b l:Int}{fs:List (Int×Int)}(I:uC k fs l b)(hn:kE l b 32768=none)(h1:1<l)(h2:l<1073741824):aR l=true/\b<=l:=by
 have hf:=jI I.pos I.odd I.b3 I.bo I.free hn;have ho:=I.odd;refine⟨bC.mpr (.inr ⟨by omega,ho,fun d a1 a2 a3=>hf d a1 ?_ a2 a3⟩),?_⟩
 .rcases Int.lt_or_le d 32768 with z|z
  .exact z
  .have:32768*32768<=d*d:=Int.mul_le_mul z z (by decide) (by omega);omega
 .rcases Int.lt_or_le l b with z|z
  .exact absurd (Int.dvd_refl l) (I.free l (by omega) z ho)
  .exact z
theorem mD{k b l:Int}{fs:List (Int×Int)}(I:uC k fs l b)(hn:kE l b 32768=none)(h:1073741824<=l):BV l:=fun q h1 h2=>by
 have hf:=jI I.pos I.odd I.b3 I.bo I.free hn;rcases Int.lt_or_le q 32768 with z|z
 .rcases bC.mp h1 with w|⟨w1,w2,w3⟩
  .subst w;have:=I.odd;omega
  .have:q*q<=32768*32768:=Int.mul_le_mul (by omega) (by omega) (by omega) (by decide);exact absurd h2 (hf q w1 z (by omega) w2)
 .exact z
theorem oe{k e:Int}:∀(n:Nat) (fs:List (Int×Int)) (l b:Int),uC k fs l b->(∀u∈fs,u.1<e)->∀u∈(xc e n fs l b).1,u.1<e
 |0,fs,l,b,I,h=>h
 |n+1,fs,l,b,I,h=>by
  unfold xc;cases hd:kE l b e with
  |none=>exact h
  |some d =>
   refine oe n _ _ _ (I.step hd) fun u hu=>?_;rcases List.mem_append.mp hu with z|z
   .exact h u z
   .have:=gX (Int.le_of_lt I.pos) (by have:=I.b3;omega) hd;simp only[List.mem_singleton] at z;subst z;exact this.2.1
theorem lV{k e:Int}(hk:1<=k)(he:2<e):∀u∈(aW k e).1,u.1<e:=by
 refine oe _ _ _ _ (ke hk).1 fun u hu=>?_;unfold qQ at hu;split at hu
 .simp only[List.mem_singleton] at hu;subst hu;exact he
 .cases hu
theorem ir:∀{us:List (Int×Int)} {a b:Int},e_ a us b->∀u∈us,aR u.1=true/\1<=u.2
 |u::us,a,b,h,v,hv=>by
  rcases List.mem_cons.mp hv with z|z
  .subst z;exact⟨h.2.1,h.2.2.1⟩
  .exact ir h.2.2.2 v z
theorem t8:∀{us:List (Int×Int)},(∀u∈us,aR u.1=true/\u.1<32768)->ug (pp us)
 |[],_=>fun q h1 h2=>by have h3:q∣1:=h2;have:=Int.le_of_dvd (by decide) h3;have:=au h1;omega
 |u::us,h=>jK (vp (h u (List.mem_cons_self ..)).1 (h u (List.mem_cons_self ..)).2 _) (t8 fun v hv=>h v (List.mem_cons_of_mem _ hv))
theorem tW{s:Int}(hs:1<=s):∃A L,ug A/\BV L/\0<A/\0<L/\s=A*L:=by
 obtain⟨b,I,hn⟩:=iJ (k:=s) (e:=32768) hs;have hs':ug (pp (aW s 32768).1):=t8 fun u hu=>⟨(ir I.rise u hu).1,lV hs (by decide) u hu⟩;have hp:=gh (by decide) I.rise;have hl:=I.pos;by_cases h1:(aW s 32768).2<32768
 .exact⟨s,1,by rw[<-I.prod];exact jK hs' (zi hl h1),Bb,by omega,by decide,by omega⟩
 .refine⟨_,_,hs',?_,hp,hl,I.prod.symm⟩;by_cases h2:(aW s 32768).2<1073741824
  .have:=mR I hn (by omega) h2;intro q q1 q2;rcases fk this.1 (by have:=au q1;omega) q2 with z|z
   .have:=au q1;omega
   .omega
  .exact mD I hn (by omega)
theorem DD{A B l L:Int}(hA:ug A)(hB:ug B)(hl:BV l)(hL:BV L)(h0:0<l)(h1:0<L)(e:A*l=B*L):l=L:=by
 have d1:l∣L:=d7 (k:=l) (n:=L) (m:=B) ⟨A,by grind⟩ (pO hB hl (by omega));have d2:L∣l:=d7 (k:=L) (n:=l) (m:=A) ⟨B,by grind⟩ (pO hA hL (by omega));have:=Int.le_of_dvd h1 d1;have:=Int.le_of_dvd h0 d2;omega
def Tame(k:Int):Prop:=(∃f s,ug f/\0<f/\1<=s/\k=f*(s*s))\/(∃f P,ug f/\0<f/\aR P=true/\P<1073741824/\k=f*P)
theorem wq{k b l:Int}{fs:List (Int×Int)}(h:Tame k)(hk:1<=k)(I:uC k fs l b)(hf:∀u∈fs,u.1<32768)(hn:kE l b 32768=none):l<1073741824\/rt l*rt l=l:=by
 rcases Int.lt_or_le l 1073741824 with z|z
 .exact .inl z
 have hl:=mD I hn z;have hs':ug (pp fs):=t8 fun u hu=>⟨(ir I.rise u hu).1,hf u hu⟩;have hpr:=I.prod;rcases h with⟨f,s,h1,h2,h3,h4⟩|⟨f,P,h1,h2,h3,h4,h5⟩
 .obtain⟨A,L,a1,a2,a3,a4,a5⟩:=tW h3;have e:l=L*L:=DD hs' (jK h1 (jK a1 a1)) hl (BC a2 a2) (by omega) (Int.mul_pos a4 a4) (by rw[hpr,h4,a5];grind);right;have:L=rt l:=f9 (by omega) (by omega) (by rw[e];grind);rw[<-this,e]
 .have d1:l∣P:=d7 (k:=l) (n:=P) (m:=f) ⟨pp fs,by grind⟩ (pO h1 hl (by omega));have:=Int.le_of_dvd (by have:=au h3;omega) d1;omega
def jM(c:Int×Int)(u:Int×Int):Int×Int:=(if u.2%2=1 then c.1*u.1 else c.1,c.2*u.1^(u.2/2).toNat)
theorem uH:∀{us:List (Int×Int)} {a b:Int} {c:Int×Int},e_ a us b->iP c.1->(∀q,aR q=true->a<q->¬q∣c.1)->0<c.2 ->
  iP (us.foldl jM c).1/\0<(us.foldl jM c).2/\(us.foldl jM c).1*((us.foldl jM c).2*(us.foldl jM c).2)=c.1*(c.2*c.2)*pp us
 |[],a,b,c,_,hs,_,h0=>⟨hs,h0,by simp[pp]⟩
 |u::us,a,b,c,hr,hs,hq,h0=>by
  obtain⟨r1,r2,r3,r4⟩:=hr;have hu2:=au r2;have hpow:0<u.1^(u.2/2).toNat:=Int.pow_pos (by omega)
  have hS:iP (jM c u).1:=by
   unfold jM;dsimp only;split
   .exact fG hs r2 (hq _ r2 r1)
   .exact hs
  have hQ:∀q,aR q=true->u.1<q->¬q∣(jM c u).1:=fun q h1 h2 h3=>by
   unfold jM at h3;dsimp only at h3;split at h3
   .rcases euclid h1 h3 with z|z
    .exact hq q h1 (by omega) z
    .have:=Int.le_of_dvd (by omega) z;omega
   .exact hq q h1 (by omega) h3
  have hP:0<(jM c u).2:=Int.mul_pos h0 hpow;obtain⟨i1,i2,i3⟩:=uH (c:=jM c u) r4 hS hQ hP;refine⟨i1,i2,?_⟩;rw[List.foldl_cons,i3,pp]
  have hpw:(if u.2%2=1 then u.1 else 1)*(u.1^(u.2/2).toNat*u.1^(u.2/2).toNat)=u.1^u.2.toNat:=by
   rw[<-Int.pow_add];by_cases z:u.2%2=1
   .rw[if_pos z,show u.2.toNat=((u.2/2).toNat+(u.2/2).toNat)+1 by omega,Int.pow_succ,Int.mul_comm]
   .rw[if_neg z,Int.one_mul,show u.2.toNat=(u.2/2).toNat+(u.2/2).toNat by omega]
  unfold jM;dsimp only;rw[<-hpw];generalize u.1^(u.2/2).toNat=y;split<;>grind
noncomputable def kZ(k:Int):List (Int×Int)×Int :=
 if 1<(aW k 32768).2/\(aW k 32768).2<1073741824 then ((aW k 32768).1++[((aW k 32768).2,1)],1) else ((aW k 32768).1,rt (aW k 32768).2)
theorem s_{k:Int}(hk:1<=k)(ht:Tame k):(1<(aW k 32768).2/\(aW k 32768).2<1073741824\/rt (aW k 32768).2*rt (aW k 32768).2=(aW k 32768).2)/\(∃b,e_ 1 (kZ k).1 b)/\0<(kZ k).2/\pp (kZ k).1*((kZ k).2*(kZ k).2)=k:=by
 obtain⟨b,I,hn⟩:=iJ (k:=k) (e:=32768) hk;have hl:=wq ht hk I (lV hk (by decide)) hn;have hpos:=I.pos;have hprod:=I.prod;unfold kZ;by_cases h1:1<(aW k 32768).2/\(aW k 32768).2<1073741824
 .rw[if_pos h1];obtain⟨p1,p2⟩:=mR I hn h1.1 h1.2;refine⟨.inl h1,⟨_,e_.snoc p1 (by dsimp only;decide) p2 (b':=(aW k 32768).2+1) (by dsimp only;omega) I.rise⟩,by dsimp only;decide,?_⟩;dsimp only;rw[lx];dsimp only;rw[show(1:Int).toNat=1 from rfl,Int.pow_succ,Int.pow_zero,Int.one_mul,Int.mul_one,Int.mul_one,hprod]
 .rw[if_neg h1]
  have hsq:rt (aW k 32768).2*rt (aW k 32768).2=(aW k 32768).2:=by
   rcases hl with z|z
   .have e1:(aW k 32768).2=1:=by omega
    rw[e1];have:(1:Int)=rt 1:=f9 (by decide) (by decide) (by decide);rw[<-this];rfl
   .exact z
  have h0:=eI (aW k 32768).2;refine⟨.inr hsq,⟨b,I.rise⟩,?_,?_⟩
  .dsimp only;rcases Int.lt_or_eq_of_le h0 with z|z
   .exact z
   .rw[<-z] at hsq;omega
  .dsimp only;rw[hsq,hprod]
noncomputable def C9(t b:Int):Int×Int:=(kZ (t.natAbs*b)).1.foldl jM (if 0<t then 1 else -1,(kZ (t.natAbs*b)).2)
theorem Eo{t b f s:Int}(ht:t≠0)(hb:0<b)(htm:Tame (t.natAbs*b))(hf:iP f)(hs:0<s)(e:t*b=f*(s*s)):C9 t b=(f,s):=by
 have hk:1<=(t.natAbs:Int)*b:=by
  have:0<(t.natAbs:Int)*b:=Int.mul_pos (by omega) hb;omega
 obtain⟨_,⟨b',hr⟩,h0,hp⟩:=s_ hk htm;have hS:iP (if 0<t then (1:Int) else -1):=by split;exact iB;exact qc iB
 have hQ:∀q,aR q=true->1<q->¬q∣(if 0<t then (1:Int) else -1):=fun q h1 h2 h3=>by
  split at h3
  .have:=Int.le_of_dvd (by decide) h3;omega
  .have:=Int.le_of_dvd (by decide) (Int.dvd_neg.mp h3);omega
 obtain⟨a1,a2,a3⟩:=uH (c:=(if 0<t then (1:Int) else -1,(kZ (t.natAbs*b)).2)) hr hS hQ h0
 have a4:(C9 t b).1*((C9 t b).2*(C9 t b).2)=f*(s*s):=by
  show((kZ (t.natAbs*b)).1.foldl jM _).1*(((kZ (t.natAbs*b)).1.foldl jM _).2*((kZ (t.natAbs*b)).1.foldl jM _).2)=_;rw[a3,<-e];dsimp only;rw[show(if 0<t then (1:Int) else -1)*((kZ (t.natAbs*b)).2*(kZ (t.natAbs*b)).2)*pp (kZ (t.natAbs*b)).1=(if 0<t then (1:Int) else -1)*(pp (kZ (t.natAbs*b)).1*((kZ (t.natAbs*b)).2*(kZ (t.natAbs*b)).2)) by grind,hp];by_cases z:0<t
  .rw[if_pos z,show(t.natAbs:Int)=t by omega];omega
  .rw[if_neg z,show(t.natAbs:Int)=-t by omega];grind
 obtain⟨u1,u2⟩:=qp a1 hf a2 hs a4;exact Prod.ext u1 u2
theorem iA{a p:Int}(hp:2<=p)(h:¬p∣a):cls a p=(0,if p=2 then a%8 else bA a p):=by
 unfold cls;rw[jm hp h];rfl
theorem FO{u:Int}(h:u%2=1):u%8∈[(1:Int),3,5,7]:=by
 have:u%8=1\/u%8=3\/u%8=5\/u%8=7:=by omega
 rcases this with z|z|z|z<;>rw[z]<;>decide
theorem rZ{a b r p:Int}(h:Pl p)(ha:a≠0)(hb:b≠0)(hr:r≠0):aq a (b*r*r) p=aq a b p:=by
 rw[e9 h (Int.mul_ne_zero (Int.mul_ne_zero hb hr) hr) ha,B5 h hb hr,e9 h ha hb]
theorem ou{a p:Int}(h:Pl p)(ha:a≠0):aq a a p=aq a (-1) p:=by
 have h1:=y_ h ha;rw[show(0:Int)-a=-1*a by omega,il h ha (by decide) ha] at h1;have:=eq_of_beq h1;exact this.symm
def ev:List Int->Int->Int
 |[],_=>0
 |c::cs,x=>c+x*ev cs x
def qo(r:Int):List Int->List Int
 |[]=>[]
 |[_]=>[]
 |_::d::cs=>ev (d::cs) r::qo r (d::cs)
theorem Af(r:Int):∀(c:Int) (cs:List Int),(qo r (c::cs)).length=cs.length
 |_,[]=>rfl
 |_,d::cs=>by simp only[qo,List.length_cons];rw[Af r d cs]
theorem vq(r:Int):∀(c d:Int) (cs:List Int),(qo r (c::d::cs)).getLast?=(c::d::cs).getLast?
 |c,d,[]=>by simp[qo,ev]
 |c,d,e::cs=>by
  have ih:=vq r d e cs;have h1:qo r (c::d::e::cs)=ev (d::e::cs) r::qo r (d::e::cs):=rfl;rw[h1,List.getLast?_cons_cons,<-ih];have h2:qo r (d::e::cs)=ev (e::cs) r::qo r (e::cs):=rfl;rw[h2,List.getLast?_cons_cons]
theorem Cz(r x:Int):∀cs:List Int,ev cs x-ev cs r=(x-r)*ev (qo r cs) x
 |[]=>by simp[ev,qo]
 |[c]=>by simp[ev,qo]
 |c::d::cs=>by
  have ih:=Cz r x (d::cs);have h1:qo r (c::d::cs)=ev (d::cs) r::qo r (d::cs):=rfl;rw[h1];have e1:ev (c::d::cs) x=c+x*ev (d::cs) x:=rfl;have e2:ev (c::d::cs) r=c+r*ev (d::cs) r:=rfl;have e3:ev (ev (d::cs) r::qo r (d::cs)) x=ev (d::cs) r+x*ev (qo r (d::cs)) x:=rfl;rw[e1,e2,e3];generalize ev (d::cs) x=u at *;generalize ev (d::cs) r=v at *;generalize ev (qo r (d::cs)) x=t at *;grind
theorem Hg{p:Int}(hp:aR p=true):∀(rs cs:List Int),cs.length<=rs.length->rs.Pairwise (fun a b=>¬p∣a-b)->(∀r∈rs,p∣ev cs r)->∀c,cs.getLast?=some c->p∣c
 |_,[],_,_,_,c,hc=>by simp at hc
 |[],_::_,h,_,_,_,_=>by simp at h
 |r::rs,[c],_,_,hr,d,hd=>by
  have:=hr r (List.mem_cons_self ..);simp[ev] at this;simp at hd;rw[<-hd];exact this
 |r::rs,c::d::cs,hl,hpw,hr,e,he=>by
  obtain⟨h1,h2⟩:=List.pairwise_cons.mp hpw;refine Hg hp rs (qo r (c::d::cs)) (by rw[Af];simpa using hl) h2 (fun s hs=>?_) e (by rw[vq];exact he);have a1:=hr s (List.mem_cons_of_mem _ hs);have a2:=hr r (List.mem_cons_self ..);have a3:=Int.dvd_sub a1 a2;rw[Cz] at a3;rcases euclid hp a3 with z|z
  .exact absurd (by rw[show r-s=-(s-r) by omega];exact Int.dvd_neg.mpr z) (h1 s hs)
  .exact z
def xn(n:Nat):List Int:=-1::(List.replicate n 0++[1])
theorem zK(x:Int):∀n:Nat,ev (List.replicate n 0++[1]) x=x^n
 |0=>by simp[ev]
 |n+1=>by
  rw[List.replicate_succ,List.cons_append];show 0+x*ev (List.replicate n 0++[1]) x=_;rw[zK x n,Int.pow_succ,Int.mul_comm];omega
theorem Ct{p:Int}(hp:aR p=true)(h2:p≠2):∃g,2<=g/\g<p/\bA g p=-1:=by
 have ho:=fj hp h2;have hp2:=au hp;apply Classical.byContradiction;intro hn
 have hall:∀g:Int,1<=g->g<p->p∣g^((p-1)/2).toNat-1:=fun g g1 g2=>by
  have hd:¬p∣g:=fun z=>by have:=Int.le_of_dvd (by omega) z;omega
  refine(df hp h2 hd).mp ?_;rcases dh hd with z|z
  .exact z
  .refine absurd ⟨g,?_,g2,z⟩ hn;rcases Int.lt_or_le g 2 with w|w
   .have:g=1:=by omega
    subst this;rw[nq hp h2 ⟨0,by omega⟩] at z;cases z
   .exact w
 obtain⟨m,hm⟩:∃m:Nat,((p-1)/2).toNat=m+1:=⟨((p-1)/2).toNat-1,by omega⟩
 have h1:=Hg hp ((List.range (p - 1).toNat).map fun i:Nat=>(i:Int) + 1) (xn m) (by simp [xn]; omega) (by
   rw[List.pairwise_map];refine List.Pairwise.imp_of_mem ?_ (List.nodup_range (n:=(p-1).toNat));intro a b ha hb hab z;have ha':=List.mem_range.mp ha;have hb':=List.mem_range.mp hb;have:=cF z (by omega) (by omega)
   exact hab (by omega)) (fun r hr=>by
   obtain⟨i,hi,rfl⟩:=List.mem_map.mp hr;have hi':=List.mem_range.mp hi;have:=hall ((i:Int)+1) (by omega) (by omega);rw[hm] at this;show p∣-1+((i:Int)+1)*ev (List.replicate m 0++[1]) _;rw[zK,Int.mul_comm,<-Int.pow_succ];rw[show -1+((i:Int)+1)^(m+1)=((i:Int)+1)^(m+1)-1 by omega]
   exact this) 1 (by show((-1::List.replicate m 0)++[1]).getLast?=some 1;exact List.getLast?_concat)
 have:=Int.le_of_dvd (by decide) h1;omega
def IQ:List Int->Int->Int
 |[],_=>1
 |q::qs,c=>(if c%2=1 then q else 1)*IQ qs (c/2)
def P8:List Int:=[2,3,5,7,11,13,17,19]
theorem mU:∀r∈P8,aR r=true:=by
 intro r hr;simp only[P8,List.mem_cons,List.not_mem_nil,or_false] at hr;rcases hr with rfl|rfl|rfl|rfl|rfl|rfl|rfl|rfl
 .exact cX
 .exact gm (m:=0) (n:=3) (by decide) (by decide) (by decide) (by decide)
 .exact gm (m:=0) (n:=5) (by decide) (by decide) (by decide) (by decide)
 .exact gm (m:=0) (n:=7) (by decide) (by decide) (by decide) (by decide)
 .exact gm (m:=1) (n:=11) (by decide) (by decide) (by decide) (by decide)
 .exact gm (m:=1) (n:=13) (by decide) (by decide) (by decide) (by decide)
 .exact gm (m:=1) (n:=17) (by decide) (by decide) (by decide) (by decide)
 .exact gm (m:=1) (n:=19) (by decide) (by decide) (by decide) (by decide)
noncomputable def Jm(c:Int):Int:=if c%4=1 then pf (20+c/4%30000) else if c%4=3 then pf (32768+c/4%1000000) else 1
noncomputable def D9(c:Int):Int:=(1-2*(c%2))*(IQ P8 (c/2)*Jm (c/512))
noncomputable def Gu(u:Int×Int):Int×(Int×Int):=((C9 u.1 u.2).1,fr (C9 u.1 u.2).2 u.2)
theorem uy:∀(a b:List (Int×Int)),pp (a++b)=pp a*pp b
 |[],b=>by simp[pp]
 |u::a,b=>by rw[List.cons_append,pp,pp,uy a b,Int.mul_assoc]
theorem jZ:∀{us:List (Int×Int)} {a b:Int},e_ a us b->∀i,∃b',e_ a (us.take i) b'
 |us,a,b,h,0=>⟨a+1,by rw[List.take_zero];show a<a+1;omega⟩
 |[],a,b,h,i+1=>⟨b,h⟩
 |u::us,a,b,h,i+1=>by
  obtain⟨b',h'⟩:=jZ h.2.2.2 i;exact⟨b',h.1,h.2.1,h.2.2.1,h'⟩
theorem j9:∀{us:List (Int×Int)} {a b:Int},e_ a us b->∀i,∃a',e_ a' (us.drop i) b/\a<=a'
 |us,a,b,h,0=>⟨a,h,Int.le_refl _⟩
 |[],a,b,h,i+1=>⟨a,h,Int.le_refl _⟩
 |u::us,a,b,h,i+1=>by
  obtain⟨a',h',hl⟩:=j9 h.2.2.2 i;exact⟨a',h',by have:=h.1;omega⟩
theorem gA{a b:Int}(ha:0<a)(hb:1<=b):a<=a*b:=by
 have:a*1<=a*b:=Int.mul_le_mul_of_nonneg_left hb (by omega);omega
theorem Bt{us:List (Int×Int)}{b sg R:Int}(hr:e_ 1 us b)(hR:0<R)(hs:sg=1\/sg=-1)(i:Nat):
  ((us.take i).foldl jM (sg,R)).1.natAbs<=(pp us*(R*R)).natAbs/\0<((us.take i).foldl jM (sg,R)).2/\((us.take i).foldl jM (sg,R)).2<=pp us*(R*R):=by
 obtain⟨b',h'⟩:=jZ hr i;obtain⟨a'',h'',hl⟩:=j9 hr i;have hS:iP sg:=by rcases hs with z|z<;>rw[z];exact iB;exact qc iB
 have hQ:∀q,aR q=true->1<q->¬q∣sg:=fun q h1 h2 h3=>by
  rcases hs with z|z
  .rw[z] at h3;have:=Int.le_of_dvd (by decide) h3;omega
  .rw[z] at h3;have:=Int.le_of_dvd (by decide) (Int.dvd_neg.mp h3);omega
 obtain⟨a1,a2,a3⟩:=uH (c:=(sg,R)) h' hS hQ hR;have e:pp us=pp (us.take i)*pp (us.drop i):=by rw[<-uy,List.take_append_drop]
 have p1:=gh (by decide) h';have p2:=gh (show 0<=a'' by omega) h'';have RR:=Int.mul_pos hR hR;dsimp only at a3;generalize (us.take i).foldl jM (sg,R)=c at *
 have n1:(c.1.natAbs:Int)*(c.2*c.2)=pp (us.take i)*(R*R):=by
  have h1:0<c.2*c.2:=Int.mul_pos a2 a2;have h2:0<pp (us.take i)*(R*R):=Int.mul_pos p1 RR;generalize c.2*c.2=X at *;generalize R*R=Y at *;generalize pp (us.take i)=Z at *;have h3:=congrArg Int.natAbs a3;rw[Int.natAbs_mul,Int.natAbs_mul,Int.natAbs_mul,show sg.natAbs=1 by rcases hs with z|z<;>rw[z]<;>rfl,Nat.one_mul] at h3;have h4:((c.1.natAbs*X.natAbs:Nat):Int)=((Y.natAbs*Z.natAbs:Nat):Int):=by rw[h3]
  rw[Int.natCast_mul,Int.natCast_mul,show(X.natAbs:Int)=X by omega,show(Y.natAbs:Int)=Y by omega,show(Z.natAbs:Int)=Z by omega] at h4;rw[h4,Int.mul_comm]
 have k1:pp (us.take i)*(R*R)<=pp us*(R*R):=by
  rw[e];exact Int.mul_le_mul_of_nonneg_right (gA p1 (by omega)) (by omega)
 have n0:0<(c.1.natAbs:Int):=by have:=a1.1;omega
 have c2:0<c.2*c.2:=Int.mul_pos a2 a2;have m1:=gA n0 (show 1<=c.2*c.2 by omega);have m2:c.2*c.2<=(c.1.natAbs:Int)*(c.2*c.2):=by rw[Int.mul_comm (c.1.natAbs:Int)];exact gA c2 (by omega)
 have m3:=gA a2 (show 1<=c.2 by omega);exact⟨by omega,a2,by omega⟩
theorem AW{us:List (Int×Int)}{b:Int}(hr:e_ 1 us b){i:Nat}{u:Int×Int}(hu:us[i]?=some u):2<=u.1/\1<=u.2/\u.1^(u.2/2).toNat<=pp us/\u.1<=pp us/\(u.2:Int)<pp us:=by
 have hm:=ir hr u (List.mem_of_getElem? hu);have h2:=au hm.1;have hi:i<us.length:=(List.getElem?_eq_some_iff.mp hu).1
 have e:us.drop i=u::us.drop (i+1):=by
  rw[List.drop_eq_getElem_cons hi];rw[List.getElem?_eq_getElem hi] at hu;rw[Option.some.inj hu]
 obtain⟨b',h'⟩:=jZ hr i;obtain⟨a'',h'',hl⟩:=j9 hr (i+1)
 have e2:pp us=pp (us.take i)*(u.1^u.2.toNat*pp (us.drop (i+1))):=by
  have:pp us=pp (us.take i++us.drop i):=by rw[List.take_append_drop]
  rw[this,uy,e,pp]
 have p1:=gh (by decide) h';have p2:=gh (show 0<=a'' by omega) h'';have p3:0<u.1^u.2.toNat:=Int.pow_pos (by omega)
 have l1:u.1^u.2.toNat<=pp us:=by
  rw[e2];have:=gA p3 (show 1<=pp (us.drop (i+1)) by omega);have q:=Int.mul_pos p3 p2;have w:u.1^u.2.toNat*pp (us.drop (i+1))<=pp (us.take i)*(u.1^u.2.toNat*pp (us.drop (i+1))):=by rw[Int.mul_comm (pp (us.take i))];exact gA q (by omega)
  omega
 have mono:∀m n:Nat,m<=n->u.1^m<=u.1^n:=fun m n hmn=>by
  obtain⟨d,rfl⟩:∃d,n=m+d:=⟨n-m,by omega⟩;rw[Int.pow_add];exact gA (Int.pow_pos (by omega)) (by have:=Int.pow_pos (n:=u.1) (m:=d) (by omega);omega)
 refine⟨h2,hm.2,Int.le_trans (mono _ _ (by omega)) l1,?_,?_⟩
 .have:=mono 1 u.2.toNat (by omega);rw[Int.pow_succ,Int.pow_zero,Int.one_mul] at this;omega
 .have:((u.2.toNat:Nat):Int)<u.1^u.2.toNat:=by
   have g:∀n:Nat,(n:Int)<u.1^n:=fun n=>by
    induction n with
    |zero=>rw[Int.pow_zero];decide
    |succ n ih =>
     rw[Int.pow_succ];have:u.1^n*2<=u.1^n*u.1:=Int.mul_le_mul_of_nonneg_left h2 (Int.le_of_lt (Int.pow_pos (by omega)));omega
   exact g _
  omega
theorem Ai{α:Type}{l:List α}{i:Nat}{a:α}(h:l[i]?=some a):l.drop i=a::l.drop (i+1):=by
 have hi:i<l.length:=(List.getElem?_eq_some_iff.mp h).1;rw[List.drop_eq_getElem_cons hi];rw[List.getElem?_eq_getElem hi] at h;rw[Option.some.inj h]
theorem E8{b p:Int}(hp:aR p=true)(h2:p≠2)(hb:¬p∣b):cls (p*b) p=(1,bA b p):=by
 have hp2:=au hp;unfold cls;rw[show p*b=b*p^1 by rw[Int.pow_one];exact Int.mul_comm ..,lJ hp2 hb,if_neg h2];rfl
theorem o7{a p:Int}(hp:aR p=true)(h2:p≠2)(ha:¬p∣a):cls a p=(0,bA a p):=by
 rw[iA (au hp) ha,if_neg h2]
theorem jN{a b p:Int}(hp:aR p=true)(h2:p≠2)(ha:¬p∣a)(hb:¬p∣b):aq a (p*b) p=decide (bA a p=1):=by
 have hp2:=au hp;rw[ba (by omega) h2,E8 hp h2 hb,o7 hp h2 ha];unfold i5;simp
theorem cO{p:Int}(hp:aR p=true):¬p∣-1:=fun h=>by
 have:=au hp;have:=Int.le_of_dvd (by decide) (Int.dvd_neg.mp h);omega
theorem iI{p:Int}(hp:aR p=true)(h2:p≠2):p%2=1:=by
 apply Classical.byContradiction;intro hn;rcases bC.mp hp with z|z
 .omega
 .omega
theorem cu{a:Int}(h:a%2=1):cls a 2=(0,a%8):=by
 rw[iA (by decide) (by omega),if_pos rfl]
theorem Ij{p:Int}(hp:aR p=true)(h2:p≠2):aq p (-1) p=!decide (p%4=3)/\aq (-p) (-1) p=!decide (p%4=3):=by
 have hp2:=au hp;have m1:=cO hp;have d1:¬p∣1:=fun h=>m1 (Int.dvd_neg.mpr h)
 have key:decide (bA (-1) p=1)=!decide (p%4=3):=by
  rw[oE hp h2];by_cases z:p%4=3
  .rw[if_pos z];simp[z]
  .rw[if_neg z];simp[z]
 constructor
 .rw[<-e9 (.inr hp) (by omega) (by decide)];have:=jN hp h2 m1 d1;rw[Int.mul_one] at this;rw[this,key]
 .rw[<-e9 (.inr hp) (by omega) (by decide)];have:=jN hp h2 m1 m1;rw[show p*-1=-p by omega] at this;rw[this,key]
theorem Hy{p:Int}(ho:p%2=1):aq p (-1) 2=!decide (p%4=3):=by
 rw[aS,cu ho,cu (a:=-1) (by decide)];have e:p%8%4=p%4:=by omega
 unfold fc;simp only[e];by_cases z:p%4=3
 .simp[z,b1]
 .simp[z,b1]
theorem IF{p:Int}(h:0<p):aq p (-1) 0=true/\aq (-p) (-1) 0=false:=by
 rw[aH,aH];constructor
 .simp[h]
 .simp;omega
def iO(L:List Int)(f:Int->Bool):Bool:=decide ((L.filter fun p=>!f p).length%2=0)
theorem bN(p:Int)(L:List Int)(f:Int->Bool):iO (p::L) f=(f p==iO L f):=by
 unfold iO;rw[List.filter_cons];cases f p
 .simp only[Bool.not_false,if_true,List.length_cons];by_cases h:(L.filter fun p=>!f p).length%2=0
  .have:¬((L.filter fun p=>!f p).length+1)%2=0:=by omega
   simp[h,this]
  .have:((L.filter fun p=>!f p).length+1)%2=0:=by omega
   simp[h,this]
 .simp
theorem o9(f:Int->Bool):iO [] f=true:=rfl
theorem pj(f g:Int->Bool):∀L:List Int,iO L (fun p=>f p==g p)=(iO L f==iO L g)
 |[]=>rfl
 |p::L=>by
  rw[bN,bN,bN,pj f g L];generalize f p=a;generalize g p=b;generalize iO L f=c;generalize iO L g=d;revert a b c d;decide
theorem ig{f g:Int->Bool}{L:List Int}(h:∀p∈L,f p=g p):iO L f=iO L g:=by
 unfold iO;rw[List.filter_congr fun p hp=>by rw[h p hp]]
theorem ly{f:Int->Bool}{L S:List Int}(hL:L.Nodup)(hS:S.Nodup)(hsub:∀p∈S,p∈L)(h:∀p∈L,p∉S->f p=true):iO L f=iO S f:=by
 unfold iO
 have:(L.filter fun p=>!f p).Perm (S.filter fun p=>!f p):=by
  refine(List.perm_ext_iff_of_nodup (hL.filter _) (hS.filter _)).mpr fun a=>?_;rw[List.mem_filter,List.mem_filter];constructor
  .rintro⟨h1,h2⟩;refine⟨Classical.byContradiction fun hn=>?_,h2⟩;rw[h a h1 hn] at h2;cases h2
  .rintro⟨h1,h2⟩;exact⟨hsub a h1,h2⟩
 rw[this.length_eq]
theorem vf{f:Int->Bool}{L:List Int}(h:∀p∈L,f p=true):iO L f=true:=by
 unfold iO;rw[List.filter_eq_nil_iff.mpr fun p hp=>by rw[h p hp];decide];rfl
structure qh(L:List Int):Prop where
 nd:L.Nodup
 pr:∀p∈L,aR p=true
 two:(2:Int)∈L
def Gr(L:List Int)(x:Int):Prop:=x≠0/\∀q,aR q=true->q∣x->q∈L
theorem yR{L:List Int}(h:qh L):(0:Int)∉L:=fun z=>by have:=au (h.pr 0 z);omega
theorem qh.all{L:List Int}(h:qh L):((0:Int)::L).Nodup:=List.nodup_cons.mpr ⟨yR h,h.nd⟩
theorem qh.pl{L:List Int}(h:qh L):∀p∈(0:Int)::L,Pl p:=fun p hp=>by
 rcases List.mem_cons.mp hp with z|z
 .exact .inl z
 .exact .inr (h.pr p z)
noncomputable def kJ(L:List Int)(x y:Int):Bool:=iO (0::L) (aq x y)
theorem iF{L:List Int}(h:qh L){x y:Int}(hx:x≠0)(hy:y≠0):kJ L y x=kJ L x y:=ig fun p hp=>e9 (h.pl p hp) hx hy
theorem vt{L:List Int}(h:qh L){x y z:Int}(hx:x≠0)(hy:y≠0)(hz:z≠0):kJ L x (y*z)=(kJ L x y==kJ L x z):=by
 unfold kJ;rw[<-pj];exact ig fun p hp=>il (h.pl p hp) hx hy hz
theorem aK{p q:Int}(hp:aR p=true)(hq:aR q=true)(h:p∣q):p=q:=by
 have h1:=au hp;have h2:=au hq;apply Classical.byContradiction;intro hn;have hg:=iD (p:=p) (d:=q) hp;by_cases z:q∣p
 .have a:=Int.le_of_dvd (by omega) h;have b:=Int.le_of_dvd (by omega) z;omega
 .have e:=iD (p:=q) (d:=p) hq z;have:=Int.dvd_coe_gcd (Int.dvd_refl p) h;rw[e] at this;have:=Int.le_of_dvd (by decide) this;omega
theorem lF{x y p:Int}(hp:aR p=true)(h2:p≠2)(hx:∀q,aR q=true->q∣x->q≠p)(hy:∀q,aR q=true->q∣y->q≠p):aq x y p=true :=
 fQ hp h2 (fun z=>hx p hp z rfl) fun z=>hy p hp z rfl
theorem eG{q:Int}(hq:aR q=true):∀r,aR r=true->r∣q->r=q:=fun r hr h=>aK hr hq h
theorem Cy:∀r,aR r=true->¬r∣(-1:Int):=fun r hr=>cO hr
theorem D2{f:Int->Bool}(a b:Int):iO [a,b] f=(f a==f b):=by
 rw[bN,bN,o9];cases f a<;>cases f b<;>rfl
theorem HY{f:Int->Bool}(a b c:Int):iO [a,b,c] f=(f a==(f b==f c)):=by
 rw[bN,bN,bN,o9];cases f a<;>cases f b<;>cases f c<;>rfl
theorem HU{L:List Int}(h:qh L):kJ L (-1) (-1)=true:=by
 unfold kJ;rw[ly (S:=[0,2]) h.all (by decide) (fun p hp=>?_) (fun p hp hn=>?_),D2,aH,aS,cu (a:=-1) (by decide)]
 .rfl
 .simp only[List.mem_cons,List.not_mem_nil,or_false] at hp;rcases hp with rfl|rfl
  .exact List.mem_cons_self
  .exact List.mem_cons_of_mem _ h.two
 .simp only[List.mem_cons,List.not_mem_nil,or_false,not_or] at hn hp;have:=h.pr p (hp.resolve_left hn.1);exact fQ this hn.2 (cO this) (cO this)
theorem yT:cls 2 2=(1,1):=by
 unfold cls;rw[show aZ 2 2=(1,1) from ie (by decide) ⟨by decide,by decide,by omega⟩];rfl
theorem Fb{L:List Int}(h:qh L):kJ L (-1) 2=true:=by
 refine vf fun p hp=>?_;rcases List.mem_cons.mp hp with rfl|z
 .rw[aH];rfl
 have hp':=h.pr p z;by_cases h2:p=2
 .subst h2;rw[aS,yT,cu (a:=-1) (by decide)];rfl
 .exact lF hp' h2 (fun q hq hd=>absurd hd (Cy q hq)) fun q hq hd e=>h2 (by rw[<-e];exact eG cX q hq hd)
theorem FQ{L:List Int}{q:Int}(h:qh L)(hq:q∈L):∀p∈[2,q],p∈(0:Int)::L:=fun p hp=>by
 simp only[List.mem_cons,List.not_mem_nil,or_false] at hp;rcases hp with rfl|rfl
 .exact List.mem_cons_of_mem _ h.two
 .exact List.mem_cons_of_mem _ hq
theorem Ew{L:List Int}(h:qh L){q:Int}(hq:q∈L)(h2:q≠2):kJ L (-1) q=true:=by
 have hp:=h.pr q hq;have hg:=au hp;rw[<-iF h (by decide) (by omega)];unfold kJ;rw[ly (S:=[2,q]) h.all (by simp;omega) (FQ h hq) (fun p hp' hn=>?_),D2,Hy (iI hp h2),(Ij hp h2).1]
 .simp
 .simp only[List.mem_cons,List.not_mem_nil,or_false,not_or] at hn hp';rcases hp' with rfl|z
  .exact(IF (by omega)).1
  .exact lF (h.pr p z) hn.1 (fun r hr hd e=>hn.2 (by rw[<-e];exact eG hp r hr hd)) fun r hr hd=>absurd hd (Cy r hr)
theorem zt{L:List Int}(h:qh L){x:Int}(hx:x≠0):kJ L x x=kJ L (-1) x:=by
 rw[iF (x:=x) (y:=-1) h hx (by decide)];exact ig fun p hp=>ou (h.pl p hp) hx
theorem Hb{L:List Int}(h:qh L){q:Int}(hq:q∈L)(h2:q≠2):kJ L 2 q=true:=by
 have hp:=h.pr q hq;have hg:=au hp;have ho:=iI hp h2;have n1:¬q∣2:=fun z=>h2 (eG cX q hp z);have d1:¬q∣1:=fun z=>cO hp (Int.dvd_neg.mpr z);unfold kJ;rw[ly (S:=[2,q]) h.all (by simp;omega) (FQ h hq) (fun p hp' hn=>?_),D2,aS,yT,cu ho]
 .have e:=jN hp h2 n1 d1;rw[Int.mul_one] at e;rw[e,BZ hp h2];have h8:q%8=1\/q%8=3\/q%8=5\/q%8=7:=by omega
  rcases h8 with z|z|z|z<;>rw[z]<;>rfl
 .simp only[List.mem_cons,List.not_mem_nil,or_false,not_or] at hn hp';rcases hp' with rfl|z
  .rw[aH];rfl
  .exact lF (h.pr p z) hn.1 (fun r hr hd e=>hn.1 (by rw[<-e];exact eG cX r hr hd)) (fun r hr hd e=>hn.2 (by rw[<-e];exact eG hp r hr hd))
theorem HE{L:List Int}(h:qh L){q r:Int}(hq:q∈L)(h2:q≠2)(hr:r∈L)(hr2:r≠2)(hne:q≠r):kJ L q r=true:=by
 have hp:=h.pr q hq;have hp':=h.pr r hr;have hg:=au hp;have hg':=au hp';have ho:=iI hp h2;have ho':=iI hp' hr2;have n1:¬q∣r:=fun z=>hne (eG hp' q hp z);have n2:¬r∣q:=fun z=>hne (eG hp r hp' z).symm;have d1:¬q∣1:=fun z=>cO hp (Int.dvd_neg.mpr z);have d2:¬r∣1:=fun z=>cO hp' (Int.dvd_neg.mpr z);unfold kJ;rw[ly (S:=[2,q,r]) h.all (by simp;omega) (fun p hp1=>?_) (fun p hp1 hn=>?_),HY,aS,cu ho,cu ho']
 .have e1:aq q r q=decide (bA r q=1):=by
   rw[<-e9 (.inr hp) (by omega) (by omega)];have e:=jN hp h2 n1 d1
   rwa [Int.mul_one] at e
  have e2:aq q r r=decide (bA q r=1):=by
   have e:=jN hp' hr2 n2 d2
   rwa [Int.mul_one] at e
  rw[e1,e2];have ex:=xH hp h2 hp' hr2 hne
  have t:fc (0,q%8) (0,r%8)=!decide (q%4=3/\r%4=3):=by
   unfold fc;have a1:q%8%4=q%4:=by omega
   have a2:r%8%4=r%4:=by omega
   simp only[a1,a2];by_cases z:q%4=3<;>by_cases z':r%4=3<;>simp[z,z',b1]
  rw[t];by_cases z:q%4=3/\r%4=3
  .rw[if_pos z] at ex;rw[decide_eq_true z];rcases dh n1 with u|u<;>rcases dh n2 with v|v<;>rw[u,v] at ex ⊢<;>simp_all
  .rw[if_neg z] at ex;rw[decide_eq_false z];rcases dh n1 with u|u<;>rcases dh n2 with v|v<;>rw[u,v] at ex ⊢<;>simp_all
 .simp only[List.mem_cons,List.not_mem_nil,or_false] at hp1;rcases hp1 with rfl|rfl|rfl
  .exact List.mem_cons_of_mem _ h.two
  .exact List.mem_cons_of_mem _ hq
  .exact List.mem_cons_of_mem _ hr
 .simp only[List.mem_cons,List.not_mem_nil,or_false,not_or] at hn hp1;rcases hp1 with rfl|z
  .rw[aH];simp;omega
  .exact lF (h.pr p z) hn.1 (fun s hs hd e=>hn.2.1 (by rw[<-e];exact eG hp s hs hd)) (fun s hs hd e=>hn.2.2 (by rw[<-e];exact eG hp' s hs hd))
theorem lP{L:List Int}{Q:Int->Prop}(h1:Q 1)(hm:Q (-1))(hq:∀q∈L,aR q=true->Q q)(hmul:∀x y,x≠0->y≠0->Q x->Q y->Q (x*y)):∀(n:Nat) (x:Int),x.natAbs<=n->Gr L x->Q x
 |0,x,hn,h=>absurd (show x=0 by omega) h.1
 |n+1,x,hn,h=>by
  have h0:=h.1;by_cases z:x=1
  .rw[z];exact h1
  by_cases z':x=-1
  .rw[z'];exact hm
  obtain⟨q,q1,c,hc⟩:=fT (k:=x.natAbs) (by omega);have q2:=au q1;have hd:q∣x:=Int.dvd_natAbs.mp ⟨c,hc⟩;obtain⟨d,rfl⟩:=hd;have d0:d≠0:=by rintro rfl;exact h0 (Int.mul_zero _)
  have hl:d.natAbs<=n:=by
   have e:(q*d).natAbs=q.natAbs*d.natAbs:=Int.natAbs_mul ..;have:2*d.natAbs<=q.natAbs*d.natAbs:=Nat.mul_le_mul_right _ (by omega);omega
  refine hmul q d (by omega) d0 (hq q (h.2 q q1 ⟨d,rfl⟩) q1) (lP h1 hm hq hmul n d hl ⟨d0,fun r hr hd=>h.2 r hr ?_⟩);obtain⟨e,rfl⟩:=hd;exact⟨q*e,by grind⟩
theorem vY{L:List Int}(h:qh L){x:Int}(hx:x≠0):kJ L x 1=true:=vf fun p hp=>by
 have:=ma (a:=x) (r:=1) (h.pl p hp) hx (by decide)
 rwa [Int.mul_one] at this
theorem qI{L:List Int}(h:qh L){x y:Int}(hx:Gr L x)(hy:Gr L y):kJ L x y=true:=by
 have base:∀g,(g=-1\/g∈L)->∀y,Gr L y->g≠0/\kJ L g y=true:=fun g hg y hy=>by
  have g0:g≠0:=by
   rcases hg with rfl|hg
   .decide
   .have:=au (h.pr g hg);omega
  refine⟨g0,lP (L:=L) (Q:=fun y=>kJ L g y=true) (vY h g0) ?_ (fun q hq hq'=>?_) (fun x y hx hy h1 h2=>by rw[vt h g0 hx hy,h1,h2];rfl) y.natAbs y (Nat.le_refl _) hy⟩
  .rcases hg with rfl|hg
   .exact HU h
   .rw[<-iF h g0 (by decide)];by_cases z:g=2
    .rw[z];exact Fb h
    .exact Ew h hg z
  .have q2:=au hq';rcases hg with rfl|hg
   .by_cases z:q=2
    .rw[z];exact Fb h
    .exact Ew h hq z
   .by_cases e:g=q
    .subst e;rw[zt h g0];by_cases z:g=2
     .rw[z];exact Fb h
     .exact Ew h hg z
    by_cases z:g=2
    .rw[z];exact Hb h hq (by omega)
    by_cases z':q=2
    .rw[z',iF h (by decide) g0];exact Hb h hg z
    .exact HE h hg z hq z' e
 have fl:∀x y,kJ L y x=true->x≠0->y≠0->kJ L x y=true:=fun x y e h1 h2=>by rw[iF h h2 h1];exact e
 rw[iF h hy.1 hx.1];exact lP (L:=L) (Q:=fun x=>kJ L y x=true) (vY h hy.1) (fl _ _ (base _ (.inl rfl) y hy).2 hy.1 (by decide)) (fun q hq hq'=>fl _ _ (base q (.inr hq) y hy).2 hy.1 (base q (.inr hq) y hy).1) (fun a b ha hb h1 h2=>by rw[vt h hy.1 ha hb,h1,h2];rfl) x.natAbs x (Nat.le_refl _) hx
theorem vj{k:Int}(h1:1<=k)(h2:k<1073741824):Tame k:=by
 by_cases hs:ug k
 .exact .inl ⟨k,1,hs,by omega,by decide,by omega⟩
 .have ⟨q,hq⟩:=Classical.not_forall.mp hs;have ⟨q1,hq'⟩:=Classical.not_imp.mp hq;have ⟨⟨f,hf⟩,q3⟩:=Classical.not_imp.mp hq'
  have f0:0<f:=by
   apply Classical.byContradiction;intro hn;have:q*f<=0:=Int.mul_nonpos_of_nonneg_of_nonpos (by omega) (by omega);omega
  have hl:f<32768:=by
   apply Classical.byContradiction;intro hn;have:32768*32768<=q*f:=Int.mul_le_mul (by omega) (by omega) (by decide) (by omega);omega
  have hq2:q<1073741824:=by
   have:q*1<=q*f:=Int.mul_le_mul_of_nonneg_left (by omega) (by omega);omega
  exact .inr ⟨f,q,zi f0 hl,f0,q1,hq2,by rw[hf];exact Int.mul_comm ..⟩
theorem zb:∀{us:List (Int×Int)} {a b:Int},0<=a->e_ a us b->(2:Int)^us.length<=pp us
 |[],_,_,_,_=>by show(1:Int)<=1;decide
 |u::us,a,b,ha,h=>by
  obtain⟨h1,h2,h3,h4⟩:=h;have h5:=au h2;have ih:=zb (by omega) h4
  have hp:(2:Int)<=u.1^u.2.toNat:=by
   rw[show u.2.toNat=(u.2.toNat-1)+1 by omega,Int.pow_succ];have:(0:Int)<u.1^(u.2.toNat-1):=Int.pow_pos (by omega);have:1*2<=u.1^(u.2.toNat-1)*u.1:=Int.mul_le_mul (by omega) h5 (by decide) (by omega);omega
  rw[List.length_cons,Int.pow_succ,Int.mul_comm];exact Int.mul_le_mul hp ih (Int.le_of_lt (Int.pow_pos (by decide))) (by omega)
theorem ve{k:Int}(h1:1<=k)(h2:k<1073741824):(nM k).length<30:=by
 obtain⟨⟨b,hr⟩,e⟩:=uE h1;have:=zb (by decide) hr;rw[e] at this;apply Classical.byContradiction;intro hn;obtain⟨d,hd⟩:∃d,(nM k).length=30+d:=⟨(nM k).length-30,by omega⟩;rw[hd,Int.pow_add] at this;have h3:(1:Int)<=2^d:=by have:=Int.pow_pos (n:=(2:Int)) (m:=d) (by decide);omega
 have:(2:Int)^30*1<=2^30*2^d:=Int.mul_le_mul_of_nonneg_left h3 (by decide);have:(2:Int)^30=1073741824:=by decide
 omega
theorem Ab:∀{us:List (Int×Int)} {a b:Int},e_ a us b->∀u∈us,u.1∣pp us
 |[],_,_,_,u,h=>absurd h List.not_mem_nil
 |v::us,a,b,hr,u,h=>by
  rcases List.mem_cons.mp h with rfl|z
  .show u.1∣u.1^u.2.toNat*pp us;have:=hr.2.2.1;rw[show u.2.toNat=(u.2.toNat-1)+1 by omega,Int.pow_succ];exact⟨u.1^(u.2.toNat-1)*pp us,by grind⟩
  .exact Int.dvd_trans (Ab hr.2.2.2 u z) ⟨v.1^v.2.toNat,Int.mul_comm ..⟩
theorem yq{q:Int}(hq:aR q=true):∀{us:List (Int×Int)} {a b:Int},e_ a us b->q∣pp us->∃u∈us,u.1=q
 |[],_,_,_,h=>by
  have:=Int.le_of_dvd (by decide) (show q∣1 from h);have:=au hq;omega
 |v::us,a,b,hr,h=>by
  rcases euclid hq (show q∣v.1^v.2.toNat*pp us from h) with z|z
  .have:∀n:Nat,q∣v.1^n->q∣v.1:=fun n=>by
    induction n with
    |zero =>
     intro h;rw[Int.pow_zero] at h;have:=Int.le_of_dvd (by decide) h;have:=au hq;omega
    |succ n ih =>
     intro h;rw[Int.pow_succ] at h;rcases euclid hq h with y|y
     .exact ih y
     .exact y
   exact⟨v,List.mem_cons_self,(aK hq hr.2.1 (this _ z)).symm⟩
  .obtain⟨u,h1,h2⟩:=yq hq hr.2.2.2 z;exact⟨u,List.mem_cons_of_mem _ h1,h2⟩
theorem jC{k q:Int}(hk:1<=k):q∈(nM k).map (·.1)↔aR q=true/\q∣k:=by
 obtain⟨⟨b,hr⟩,e⟩:=uE hk;rw[List.mem_map];constructor
 .rintro⟨u,h1,rfl⟩;exact⟨(ir hr u h1).1,e▸Ab hr u h1⟩
 .rintro⟨h1,h2⟩;rw[<-e] at h2;exact yq h1 hr h2
theorem tL{p:Int}(hp:aR p=true)(h2:p≠2):NR p:=by
 obtain⟨g,h1,_,h3⟩:=Ct hp h2;exact⟨g,h1,h3⟩
structure Jy(k m r b f g:Int)(u v s:Int):Prop where
 r0:1<=r
 b0:0<=b
 lt:b<r
 rm:r<=m
 gc:Int.gcd r b=1
 fr:m∣k*f-r
 fb:m∣k*g-b
 sg:s=1\/s=-1
 fu:f=-s*u
 gv:g=s*v
 u0:0<=u
 v0:0<=v
 um:u<=m
 sum:u*b+v*r=m
structure Jz(k a d:Int)(ps:List Int):Prop where
 d1:1<=d
 a0:0<=a
 a1:a<d
 pr:∀q,aR q=true->q∣d->q∈ps
 sq:∀q∈ps,q∣a*a-k/\q∣d
def dp:List (Int×Int)->Int
 |[]=>1
 |u::us=>u.1*dp us
end Q
namespace L2.EP
open PySem PySem.Spec PyProof.Rows
section
variable{X:Cx}{Γ:aC}{D:GD}{α β:Type}[Py α][Py β]{e e1 e2:Expr}{b b1 b2:Bool}{pos:Pos}{rest:List Stmt}
theorem FI{i j:Int}(ha:E X Γ e1 b1 i)(hb:E X Γ e2 b2 j)(hc:z_ i j):E X Γ (.BinOp e1 .LShift e2 pos) true (i*2^j.toNat):=by
 with_unfolding_all
  exact tY (g:=fun i j=>i*2^j.toNat) Dy ha hb hc
theorem Ax:HF X "int.bit_length" (fun x xs H Q=>∃i,x=.int i/\xs=[]/\Q (.int (Builtin.Int.intBits i:Nat)) H):=by
 intro pins s σ H x xs v us Q I r rs h;obtain⟨i,rfl,rfl,q⟩:=h;obtain⟨t,rfl⟩:=r;cases rs;exact call_int_bit_length ⟨.int (Builtin.Int.intBits i:Nat),H,I.tok _,⟨_,rfl⟩,q⟩
theorem Dd{i:Int}{apos:Pos}(ha:E X Γ e b i)(hbase:attributeBase e "bit_length" X.env (eval e X.env)=eval e X.env:=by rfl)(hline:(apos.endLine==pos.line)=true:=by rfl):E X Γ (.Call (.Attribute e "bit_length" apos) [] [] pos) true ((Builtin.Int.intBits i:Nat):Int):=by
 with_unfolding_all
  exact aF (Dz PySem.F.plainAttrs_int PySem.F.slot_int_bit_length PySem.F.type_int_bit_length Ax ha hbase hline) fun σ H Q ⟨H0,F,O,S,q⟩=>⟨H0,F,O,S,fun v H1 s1 r1=>by
    cases r1
    exact⟨rfl,i,rfl,rfl,q _ H1 s1 rfl⟩⟩
theorem zE{i:Int}{u:Int×Int}:CV X .In i u (decide (u.1=i) || decide (u.2=i)):=⟨_,nP,fun N N' H v w Q h1 h2 q=>by
 obtain⟨p,x,y,rfl,sq,g1,g2⟩:=h2;cases h1;cases g1;cases g2;refine⟨p,_,rfl,.inr (kf (aB.refl _) sq),rfl,rfl,?_⟩
 simpa [Fd,Au,Bool.beq_eq_decide_eq] using q⟩
theorem f_{K:PySem.W.Frag}{N:Nn}{H:Hp}:∀{vs:List V} {xs:List Int},Paired (fun x (b:Int)=>Py.rp K N H x b) vs xs->vs=xs.map V.int
 |_,_,.nil=>rfl
 |_,_,.cons h r=>by rw[f_ r,show _=V.int _ from h];rfl
theorem m9{i:Int}:∀xs:List Int,Fd (.int i) (xs.map V.int)=decide (i∈xs)
 |[]=>by simp[Fd]
 |x::xs=>by
  have:=m9 (i:=i) xs;unfold Fd at *;rw[List.map_cons,List.any_cons,this];simp only[Au,List.mem_cons,Bool.beq_eq_decide_eq,Bool.decide_or];congr 1;exact decide_eq_decide.mpr eq_comm
theorem mr{i:Int}{xs:List Int}:CV X .In i xs (decide (i∈xs)):=⟨_,nP,fun N N' H v w Q h1 h2 q=>by
 obtain⟨p,vs,rfl,sq,n,r⟩:=h2;cases h1;refine⟨p,vs,rfl,.inl sq,rfl,?_,?_⟩
 .rw[f_ r];simp[iS]
 .rw[f_ r,m9];exact q⟩
theorem S.IY{D:GD}{nx':aC->Prop}{st:List Stmt}(h:S X Γ st D)(w:∀Γ',D.nx Γ'->nx' Γ'):S X Γ st {D with nx:=nx'}:=by
 with_unfolding_all
  exact ku h fun De σ H ⟨H0,F,O,Z,n,r,bk,ct⟩=>⟨H0,F,O,Z,fun Γ' σ' H' O' sm Z' q=>n Γ' σ' H' O' sm Z' (w Γ' q),r,bk,ct⟩
theorem dY{c:Bool}{body orelse:List Stmt}(J:aC->Prop)(hc:T X Γ e c)(h1:c=true->S X Γ body {D with nx:=J})(h2:c=false->S X Γ orelse {D with nx:=J})(h:∀Γ',J Γ'->S X Γ' rest D):S X Γ (.If e body orelse pos::rest) D:=by
 with_unfolding_all
  exact Hc hc (fun z=>(h1 z).IY h) (fun z=>(h2 z).IY h)
def sG(mg:Str->Option Value)(x:Str)(i:Int):Prop:=∃t,mg x=some (.int i t)
theorem yp{x:Str}{i:Int}(hg:Gl X x)(hm:sG X.mg x i)(hd:(x==("__debug__":Str))=false:=by decide):E X Γ (.Name x pos) true i:=by
 with_unfolding_all
  obtain⟨t,hm⟩:=hm;exact aF (vh (v:=.int i) hg hm ⟨t,rfl⟩ hd) fun σ H Q ⟨H0,F,O,S,q⟩=>q _ H (aB.refl _) rfl
end
theorem zD{α:Type}{xs:List α}{k:Int}{d:α}(h0:0<=k)(h:k<(xs.length:Int)):vJ xs k=some (xs.getD k.toNat d):=by
 have hk:k.toNat<xs.length:=by omega
 have e:k=((k.toNat:Nat):Int):=by omega
 have q:vJ xs ((k.toNat:Nat):Int)=some xs[k.toNat]:=A_ (by rw[List.getElem?_eq_getElem hk]);rw[<-e] at q;rw[q,List.getD_eq_getElem?_getD,List.getElem?_eq_getElem hk];rfl
structure qJ(α:Type) where
 l:List α
def Cm(K:PySem.W.Frag)(H:Hp)(p:Addr)(xs:List V):Prop:=Rt H p xs\/∃(o:Obj) (its:Array Value) (n:Nat),K.lookup p=some o/\o.cls=.type "tuple"/\o.data=.seq its n/\its.size<=sizeLine/\Vals xs its.toList
theorem Cm.t{K:PySem.W.Frag}{H:Hp}{p:Addr}{xs:List V}(h:Cm K H p xs):sh K H p xs:=h.imp Rt.rd id
theorem C4{K:PySem.W.Frag}{H H':Hp}{p:Addr}{xs:List V}(t:∀p xs,Rt H p xs->Rt H' p xs)(h:Cm K H p xs):Cm K H' p xs:=h.imp (t _ _) id
theorem bY{K:PySem.W.Frag}{H H':Hp}{p:Addr}{xs:List V}(e:aB H H')(h:Cm K H p xs):Cm K H' p xs:=h.imp (fun z=>aB.rt e z) id
instance{α:Type}[Py α]:Py (qJ α) where
 rp K N H v a:=∃p xs,v=.ref p/\Cm K H p xs/\Paired (fun x b=>Py.rp K N H x b) xs a.l
 tr l t h:=by
  obtain⟨p,xs,e,s,r⟩:=h;exact⟨p,xs,e,C4 t s,bM (fun _ _ q=>Py.tr l t q) r⟩
instance{α β:Type}[Py α][Py β]:Py (α⊕β) where
 rp K N H v a:=match a with|.inl x=>Py.rp K N H v x|.inr y=>Py.rp K N H v y
 tr {K N N' H H' v a} l t h:=by
  cases a with
  |inl x=>exact Py.tr (α:=α) l t h
  |inr y=>exact Py.tr (α:=β) l t h
theorem o6(K:PySem.W.Frag)(N:Nn)(H:Hp)(a:Int):¬Py.rp K N H .non a:=fun h=>nomatch h
theorem BK{α:Type}[Py α](K:PySem.W.Frag)(N:Nn)(H:Hp)(a:List α):¬Py.rp K N H .non a:=fun⟨_,_,e,_⟩=>nomatch e
section
variable{X:Cx}{Γ:aC}{D:GD}{α β:Type}[Py α][Py β]{e e1 e2 tg:Expr}{b b1 b2:Bool}{pos:Pos}{rest:List Stmt}
theorem yJ{a:α}(h:E X Γ e b a):E X Γ e b (Sum.inl a:α⊕β):=by
 with_unfolding_all
  exact h
theorem uR{a:β}(h:E X Γ e b a):E X Γ e b (Sum.inr a:α⊕β):=by
 with_unfolding_all
  exact h
theorem CF{a:α}(h:E X Γ e b (Sum.inl a:α⊕β)):E X Γ e b a:=by
 with_unfolding_all
  exact h
theorem oM{a:β}(h:E X Γ e b (Sum.inr a:α⊕β)):E X Γ e b a:=by
 with_unfolding_all
  exact h
theorem sO{xs:List α}(he:E X Γ e b (qJ.mk xs)):EI X Γ tg e b xs:=by
 with_unfolding_all
  exact ⟨_,DQ he,fun σ H H0 F O R Z q=>⟨H0,F,O,Z,fun v H1 s1 r1=>by
   obtain⟨p,vs,e,sq,rr⟩:=r1;refine⟨p,e,⟨vs,(bY (aj _ _) sq).t⟩,q _ H1 s1 fun H' O' _ sm=>⟨fun i a ha=>?_,?_⟩⟩
   .obtain⟨x,h1,h2⟩:=i8 rr ha;refine⟨⟨vs,x,(bY (aj _ _) (bY sm sq)).t,h1⟩,fun y H'' hy=>?_⟩;obtain⟨e',hy⟩:=hy;subst e';have:=hy vs ((bY (aj _ _) (bY sm sq)).t);rw[h1] at this;cases this;exact⟨aB.refl _,aw sm h2⟩
   .exact⟨vs,(bY (aj _ _) (bY sm sq)).t,by rw[bW rr];exact Nat.le_refl _⟩⟩⟩
theorem BJ{xs:qJ α}{ys:List α}{k:Int}{p2:Pos}(ha:E X Γ e1 b xs)(hb:E X Γ e2 b2 k)(h0:0<k)(hl:0<xs.l.length)(hy:xs.l.drop k.toNat=ys:=by rfl):E X Γ (.Subscript e1 (.Slice (some e2) none none p2) pos) b (qJ.mk ys):=by
 with_unfolding_all
  subst hy
  exact aF (y9 DJ ha (BH hb) Be) fun σ H Q ⟨H0,F,O,S,q⟩=>⟨H0,F,O,S,fun v H1 s1 r1=>⟨H0,F,O,S.go s1,fun w H2 s2 r2=>by
   obtain⟨p,vs,e,sq,r⟩:=r1;have hlen:=bW r;have hk:k=((k.toNat:Nat):Int):=by omega
   have hsx:HT.fN vs.length 0 (some k)≠0:=by
    rw[hk,HT.u9];omega
   refine⟨k,r2,p,vs,e,(bY (aj _ _) (bY (ag s2) sq)).t,fun z=>hsx z.1,fun l hl=>?_⟩;obtain⟨z1,z2⟩:=mG (xs:=sV vs (some k) none) ((S.go s1).go s2) hl;refine q _ _ (s1.trans (s2.trans z1)) ⟨l,_,rfl,.inl z2,?_⟩
   have ec:sV vs (some k) none=vs.drop k.toNat:=by
    unfold sV;rw[hk,HT.u9,HT.xW];simp only[Int.toNat_natCast];by_cases hkn:k.toNat<=vs.length
    .rw[Nat.min_eq_left hkn,List.take_of_length_le (by rw[List.length_drop];exact Nat.le_refl _)]
    .rw[Nat.min_eq_right (by omega),List.drop_eq_nil_of_le (Nat.le_refl _),List.drop_eq_nil_of_le (by omega)];simp
   have rr:=bM (fun _ _ z=>aw ((ag s2).trans (ag z1)) z) (vH k.toNat r);rw[<-ec] at rr
   exact rr⟩⟩
def qg(K:PySem.W.Frag)(mg:Str->Option Value)(x:Str)(xs:List Int):Prop:=∃(p:Addr) (o:Obj) (its:Array Value) (n:Nat),mg x=some (.ref p)/\K.lookup p=some o/\o.cls=.type "tuple"/\o.data=.seq its n/\its.size<=sizeLine/\Vals (xs.map V.int) its.toList
theorem mQ{x:Str}{xs:List Int}(hg:Gl X x)(hm:qg X.K X.mg x xs)(hd:(x==("__debug__":Str))=false:=by decide):E X Γ (.Name x pos) true (qJ.mk xs):=by
 with_unfolding_all
  obtain⟨p,o,its,n,hm,h1,h2,h3,h4,h5⟩:=hm;exact aF (vh (v:=.ref p) hg hm rfl hd) fun σ H Q ⟨H0,F,O,S,q⟩=>q _ H (aB.refl _) ⟨p,_,rfl,.inr ⟨o,its,n,h1,h2,h3,h4,h5⟩,pL xs⟩
theorem sG.mk{K:PySem.W.Frag}{h:Heap}{mg:Str->Option Value}{x:Str}{i:Int}{t:Tok}(Y:K.In h)(G:h.Ns mainGlobals mg)(a:PySem.W.nsIn K mainGlobals x=some (some (.int i t))):sG mg x i:=⟨t,PySem.W.mg_of Y G a⟩
theorem qg.mk{K:PySem.W.Frag}{h:Heap}{mg:Str->Option Value}{x:Str}{xs:List Int}{p:Addr}{od:Option Addr}{its:Array Value}{n:Nat}{osl:Array (Option Value)}(Y:K.In h)(G:h.Ns mainGlobals mg)(a:PySem.W.nsIn K mainGlobals x=some (some (.ref p)))
  (l:K.lookup p=some ⟨.type "tuple",od,.seq its n,osl⟩) (hz:its.size<=1000) (hv:Vals (xs.map V.int) its.toList):qg K mg x xs:=⟨p,_,its,n,PySem.W.mg_of Y G a,l,rfl,rfl,Nat.le_of_lt (cA hz),hv⟩
theorem mX{a:α}(h:E X Γ e b (some a)):E X Γ e b a:=by
 with_unfolding_all
  exact h
theorem xY{a:α}(h:E X Γ e b a):E X Γ e b (some a):=by
 with_unfolding_all
  exact h
theorem G_{x:Option α}{j:Nat}{p:Pos}(ha:E X Γ e1 b1 x)(hx:∀(K:PySem.W.Frag) (N:Nn) (H:Hp) (a:α),¬Py.rp K N H .non a):T X Γ (.Compare e1 [.IsNot] [.Constant .none j p] pos) (!x.isNone):=by
 with_unfolding_all
  exact lR (zJ (AY ha)) fun σ H Q ⟨H0,F,O,S,q⟩=>⟨H0,F,O,S,fun v H1 s1 r1=>by
    refine⟨!decide (v=.non),rfl,?_⟩
    have e:decide (v=.non)=x.isNone:=by
     cases x with
     |none=>cases r1;rfl
     |some a =>
      have hv:v≠.non:=by rintro rfl;exact hx _ _ _ a r1
      rw[decide_eq_false hv];rfl
    rw[e];exact q H1 s1⟩
end
section
variable{X:Cx}{Γ:aC}{D:GD}{α β γ:Type}[Py α][Py β][Py γ]{e e1 e2 e3:Expr}{b b1 b2 b3:Bool}{pos:Pos}{rest:List Stmt}
theorem B6{op op':CmpOp}{x:α}{y:β}{z:γ}{c c':Bool}(h1:CV X op x y c)(h2:CV X op' y z c')(ha:E X Γ e1 b1 x)(hb:E X Γ e2 b2 y)(hc:E X Γ e3 b3 z)(hm:lastMarks [op,op'] [e2,e3]=false:=by with_unfolding_all rfl):T X Γ (.Compare e1 [op,op'] [e2,e3] pos) (c&&c'):=by
 with_unfolding_all
  obtain⟨r,ho,hr⟩:=h1;obtain⟨r',ho',hr'⟩:=h2
  exact lR (xD ho ho' ha hb hc hm) fun σ H Q ⟨H0,F,O,S,q⟩=>⟨H0,F,O,S,fun v H1 s1 r1=>⟨H0,F,O,S.go s1,fun w H2 s2 r2 =>
   hr _ _ H2 v w _ (aw ((ag s2).trans (aj _ _)) r1) (aw (aj _ _) r2) ⟨c,rfl,by
    cases c with
    |false=>exact⟨false,rfl,q H2 (s1.trans s2)⟩
    |true=>exact⟨H0,F,O,(S.go s1).go s2,fun u H3 s3 r3=>hr' _ _ H3 w u _ (aw ((ag s3).trans (aj _ _)) r2) (aw (aj _ _) r3) ⟨c',rfl,q H3 (s1.trans (s2.trans s3))⟩⟩⟩⟩⟩
end
section
variable{P:Program}{w:World}{K:PySem.W.Frag}{mg:Str->Option Value}{base:Heap}{N ps:List Str}{x qual:Str}{st:Stmt}{f:Addr}{k:Nat}{fd:FuncData}
end
theorem tM{H:Hp}{O:Addr->Prop}(ho:∀p,O p->∃xs:Mt,H p=some (mo xs))(p:Addr)(xs:List V)(h:Rt H p xs):Rt (off H O) p xs:=by
 have hn:¬O p:=fun z=>by
  obtain⟨ys,e⟩:=ho p z;rcases h with h|⟨o,h⟩
  .rw[e] at h;rcases ys with ys|ys|ys<;>cases h
  .rw[e] at h;rcases ys with ys|ys|ys<;>cases h
 rcases h with h|⟨o,h⟩
 .exact .inl (by rw[a7 hn];exact h)
 .exact .inr ⟨o,by rw[a7 hn];exact h⟩
theorem sI{α β:Type}{F:α->β->Prop}:∀{l₁ l₂:List α} {m₁ m₂:List β},Paired F l₁ m₁->Paired F l₂ m₂->Paired F (l₁++l₂) (m₁++m₂)
 |_,_,_,_,.nil,h=>h
 |_,_,_,_,.cons h r,h'=>.cons h (sI r h')
section
variable{X:Cx}{Γ:aC}{D:GD}{α β γ:Type}[Py α][Py β][Py γ]{e e1 e2:Expr}{b b1 b2:Bool}{pos:Pos}{st rest:List Stmt}
theorem ic{a a':α}(h:E X Γ e b a)(ha:a=a'):E X Γ e b a':=by
 with_unfolding_all
  subst ha;exact h
theorem ng{xs ys:List α}(ha:E X Γ e1 true xs)(hb:E X Γ e2 true ys)(hl:xs.length+ys.length<=1000):E X Γ (.BinOp e1 .Add e2 pos) true (xs++ys):=by
 with_unfolding_all
  exact aF (yQ D4 ha hb) fun σ H Q ⟨H0,F,O,S,q⟩=>⟨H0,F,O,S,fun v H1 s1 r1=>⟨H0,F,O,S.go s1,fun w H2 s2 r2=>by
    obtain⟨p,vs,e1,sq1,n1,rr1⟩:=r1;obtain⟨p',vs',e2,sq2,n2,rr2⟩:=r2;have h1:H2 p=some (.lst vs):=s2 _ _ ((aj _ _) _ _ n1.2);have h2:H2 p'=some (.lst vs'):=(aj _ _) _ _ n2.2;refine⟨p,p',vs,vs',e1,e2,h1,h2,by rw[bW rr1,bW rr2];exact Nat.le_of_lt (cA hl),fun l hl'=>?_⟩;obtain⟨z1,z2⟩:=cI (xs:=vs++vs') ((S.go s1).go s2) hl'
    exact q _ _ (s1.trans (s2.trans z1)) ⟨l,_,rfl,dF.of z2,Nf.wk (b:=true) (((S.go s1).go s2).gQ hl') z2,sI (bM (fun _ _ z=>aw ((ag s2).trans (ag z1)) z) rr1) (bM (fun _ _ z=>aw (ag z1) z) rr2)⟩⟩⟩
theorem tX[PyT α]{es:List Expr}{as:List α}(h:EA X Γ es b as)(hl:as.length<=1000):EN X Γ (.List es pos) as:=by
 with_unfolding_all
  exact aF (tI h) fun σ H Q ⟨H0,F,O,S,q⟩=>⟨H0,F,O,S,fun vs H1 s1 r1=>⟨by rw [bW r1]; exact Nat.le_of_lt (cA hl),fun p hp=>by
    obtain⟨z1,z2⟩:=cI (xs:=vs) (S.go s1) hp
    exact q _ _ (s1.trans z1) ⟨p,vs,rfl,dF.of z2,⟨s1.free hp,z2⟩,bM (fun _ _ r=>PyT.free (fun _ _ w=>w) (aw (ag z1) r)) r1⟩⟩⟩
theorem F7{c:Bool}{x y:α}(hc:T X Γ e c)(ha:c=true->EN X Γ e1 x)(hb:c=false->EN X Γ e2 y):EN X Γ (.IfExp e e1 e2 pos) (if c then x else y):=by
 with_unfolding_all
  cases c with
  |true=>exact aF (fP hc (ha rfl) lS) fun σ H Q ⟨H0,F,O,S,q⟩=>⟨H0,F,O,S,fun H1 s1=>pU ⟨H0,F,O,S.go s1,fun w H2 s2 r2=>q w H2 (s1.trans s2) (l6 s1 r2)⟩⟩
  |false=>exact aF (fP hc lS (hb rfl)) fun σ H Q ⟨H0,F,O,S,q⟩=>⟨H0,F,O,S,fun H1 s1=>pX ⟨H0,F,O,S.go s1,fun w H2 s2 r2=>q w H2 (s1.trans s2) (l6 s1 r2)⟩⟩
theorem yO[PyT α](i:Nat)(b:Bool){as:List α}(hg:Γ[i]?=some (some (.dpo as)))(h:S X (Γ.set i (some (.own b as))) st D):S X Γ st D:=by
 with_unfolding_all
  exact ku h fun De σ H ⟨H0,F,O,Z,n,r,bk,ct⟩=>by
   refine⟨H0,F,O,⟨Z.same,Z.fo,Z.f0,Z.own,by rw[List.length_set];exact Z.len,fun j g e no=>?_,?_⟩,n,r,bk,ct⟩
   .by_cases hj:j=i
    .subst hj;have hl:j<Γ.length:=(List.getElem?_eq_some_iff.mp hg).1;rw[get_set_eq hl] at e;have e':Bd.own b as=g:=Option.some.inj (Option.some.inj e);exact absurd (e'▸(True.intro:(Bd.own b as).eY)) no
    .rw[get_set_ne hj] at e;exact Z.at_ j g e no
   .obtain⟨D',d1,d2,d3⟩:=Z.dis;refine⟨D',d1,d2,fun j g e o=>?_⟩;by_cases hj:j=i
    .subst hj;have hl:j<Γ.length:=(List.getElem?_eq_some_iff.mp hg).1;rw[get_set_eq hl] at e;have e':Bd.own b as=g:=Option.some.inj (Option.some.inj e);subst e';obtain⟨v,q1,p,xs,q2,q3,q4,q5⟩:=d3 j _ hg True.intro;exact⟨v,q1,p,xs,q2,q4.1,q4.2,bM (fun _ _ z=>PyT.free (tM Z.own) z) q5⟩
    .rw[get_set_ne hj] at e;exact d3 j g e o
end
end L2.EP
namespace L2
open PySem PySem.Spec PyProof.Rows
section
variable{X:Cx}{pos:Pos}
end
end L2
namespace L2.EP
open PySem PySem.Spec PyProof.Rows
section
variable{X:Cx}{Γ:aC}{D:GD}{α β γ:Type}[Py α][Py β][Py γ]{e e1 e2:Expr}{b b1 b2:Bool}{pos:Pos}{rest st:List Stmt}
theorem wO(hc:X.calm=true):gO X (.builtin "any") (fun xs H Q=>∃p,∃bs:List Bool,xs=[.ref p]/\dF X.K H p (bs.map V.bl)/\Q (.bl (bs.any id)) H):=by
 intro pins s σ H xs us Q I r h;obtain⟨p,bs,rfl,sq,q⟩:=h;obtain⟨u,rfl,rx⟩:=vals1 r;cases rx;obtain⟨its,rr,pl,_⟩:=I.list sq;have hb:=qi rr;have hl:=pl.isList;have hlt:p<s.heap.objs.size:=by obtain⟨_,e,_⟩:=hl;exact Heap.lt_size e
 refine call_any_walk (wpAny_pyIter_list hl ?_)
 refine ⟨s.heap.objs.size,[s.heap.objs.size,p],[s.heap.objs.size],its.toArray.size,_,_,fun i=>(bs[i]?).getD false,rfl,Walks.list (A:=X.A.in1) (I.ok.hd hc) _ p (Nat.ne_of_lt hlt) its.toArray,
  ⟨⟨_,Heap.get?_push_size _ rfl,rfl,rfl⟩,hl.push _⟩,fun i v s' Q' E' hP hQ=>?_,fun h' tk hk=>?_⟩
 .obtain⟨b,e,rfl⟩:=hb.get i v (by simpa using hP);simp only[e,Option.getD_some] at hQ;exact wpAny_truthy_bool hQ
 .have e:((List.range its.toArray.size).any fun i=>(bs[i]?).getD false)=bs.any id:=by
   rw[List.size_toArray,hb.length];exact LSm.range_any bs
  rw[e];exact⟨.bl _,H,I.kept (LSm.kept_iter hk),rfl,q⟩
theorem FV{bs:List Bool}{p:Pos}(hc:X.calm=true)(hg:Gl X "any")(hm:X.mg "any"=none)(ha:E X Γ e b bs)(hs:starEach [e] X.env=(false,eval e X.env)::starEach [] X.env:=by rfl):E X Γ (.Call (.Name "any" p) [e] [] pos) true (bs.any id):=by
 with_unfolding_all
  exact aF (dI (wO hc) hg hm PyProof.Rows.boot_any (aA ha aU hs) (he:=hs)) fun σ H Q ⟨H0,F,O,S,q⟩=>⟨H0,F,O,S,fun v H1 s1 r1=>by
    obtain⟨p,vs,e,sq,n,r⟩:=r1;rw[CQ r] at sq
    exact⟨p,bs,by rw[e],(aj _ _).seq sq,q _ H1 s1 rfl⟩⟩
end
section
variable{X:Cx}{Γ:aC}{D:GD}{α β γ:Type}[Py α][Py β][Py γ]{e e1 e2:Expr}{b b1 b2:Bool}{pos:Pos}{rest st:List Stmt}
end
end L2.EP
namespace L2
open PySem PySem.Spec PyProof.Rows
section
variable{X:Cx}{elts:List Expr}{kk:Nat}{tp:Pos}
end
end L2
namespace L2.EP
open PySem PySem.Spec PyProof.Rows
section
variable{X:Cx}{Γ:aC}{α β:Type}[Py α][Py β]{e1 e2:Expr}{b1 b2:Bool}{elts:List Expr}{kk:Nat}{tp p ps:Pos}
end
theorem yG{α β:Type}{F:α->β->Prop}{l:List α}{m:List β}(h:Paired F l m):∀k,Paired F (List.replicate k l).flatten (List.replicate k m).flatten
 |0=>.nil
 |k+1=>by
  rw[List.replicate_succ,List.flatten_cons,List.replicate_succ,List.flatten_cons];exact sI h (yG h k)
section
variable{X:Cx}{Γ:aC}{D:GD}{α β γ:Type}[Py α][Py β][Py γ]{e e1 e2:Expr}{b b1 b2:Bool}{pos:Pos}{rest st:List Stmt}
theorem F4{xs:List α}{k:Int}(ha:E X Γ e1 true xs)(hb:E X Γ e2 b2 k)(h0:0<=k)(h1:k<=1000)(hl:xs.length*k.toNat<=1000):E X Γ (.BinOp e1 .Mult e2 pos) true (List.replicate k.toNat xs).flatten:=by
 with_unfolding_all
  exact aF (yQ EF ha hb) fun σ H Q ⟨H0,F,O,S,q⟩=>⟨H0,F,O,S,fun v H1 s1 r1=>⟨H0,F,O,S.go s1,fun w H2 s2 r2=>by
    obtain⟨p,vs,e1,sq1,n1,rr1⟩:=r1;have h1:H2 p=some (.lst vs):=s2 _ _ ((aj _ _) _ _ n1.2);refine⟨p,k,vs,e1,r2,h1,by omega,by omega,by rw[bW rr1];exact Nat.le_of_lt (cA hl),fun l hl'=>?_⟩;obtain⟨z1,z2⟩:=cI (xs:=(List.replicate k.toNat vs).flatten) ((S.go s1).go s2) hl'
    exact q _ _ (s1.trans (s2.trans z1)) ⟨l,_,rfl,dF.of z2,Nf.wk (b:=true) (((S.go s1).go s2).gQ hl') z2,yG (bM (fun _ _ z=>aw ((ag s2).trans (ag z1)) z) rr1) _⟩⟩⟩
theorem vG{a:α}:∀k,(List.replicate k [a]).flatten=List.replicate k a
 |0=>rfl
 |k+1=>by rw[List.replicate_succ,List.flatten_cons,vG k,List.replicate_succ];rfl
theorem ET{a:α}{k:Int}(ha:E X Γ e1 true [a])(hb:E X Γ e2 b2 k)(h0:0<=k)(h1:k<=1000):E X Γ (.BinOp e1 .Mult e2 pos) true (List.replicate k.toNat a):=by
 rw[<-vG];exact F4 ha hb h0 h1 (by simp;omega)
end
end L2.EP
namespace L2.Sx
open PySem
def xi(xs:Array Nat):Prop:=xs.toList.Pairwise (·<·)
theorem k9{xs:Array Nat}(h:xi xs){a b:Nat}(hab:a<b)(hb:b<xs.size):xs.getD a 0<xs.getD b 0:=by
 have h1:=List.pairwise_iff_getElem.mp h a b (by simpa using Nat.lt_trans hab hb) (by simpa using hb) hab;rw[Array.getElem_toList,Array.getElem_toList] at h1;simp only[Array.getD,dif_pos (Nat.lt_trans hab hb),dif_pos hb];exact h1
structure Lb(xs:Array Nat)(j i:Nat):Prop where
 le:i<=xs.size
 lo:∀k,k<i->xs.getD k 0<j
 hi:∀k,i<=k->k<xs.size->j<=xs.getD k 0
theorem zZ{xs:Array Nat}{k d e:Nat}(h:k<xs.size):xs.getD k d=xs.getD k e:=by
 simp only[Array.getD,dif_pos h]
theorem zR{xs:Array Nat}{j:Nat}(hx:xi xs):∀(fuel lo hi:Nat),hi-lo<=fuel->lo<=hi->hi<=xs.size->(∀k,k<lo->xs.getD k 0<j)->(∀k,hi<=k->k<xs.size->j<=xs.getD k 0)->Lb xs j (SetTable.below.go xs j fuel lo hi)
 |0,lo,hi,h1,h2,h3,h4,h5=>by
  unfold SetTable.below.go;exact⟨by omega,h4,fun k a b=>h5 k (by omega) b⟩
 |fuel+1,lo,hi,h1,h2,h3,h4,h5=>by
  unfold SetTable.below.go;by_cases hlt:lo<hi
  .rw[if_pos hlt];dsimp only;have hm:(lo+hi)/2<xs.size:=by omega
   rw[zZ (e:=0) hm];by_cases hc:xs.getD ((lo+hi)/2) 0<j
   .rw[if_pos hc];refine zR hx fuel _ _ (by omega) (by omega) h3 (fun k hk=>?_) h5;rcases Nat.lt_or_eq_of_le (Nat.le_of_lt_succ hk) with z|z
    .exact Nat.lt_trans (k9 hx z hm) hc
    .rw[z];exact hc
   .rw[if_neg hc];refine zR hx fuel _ _ (by omega) (by omega) (by omega) h4 (fun k a b=>?_);rcases Nat.lt_or_eq_of_le a with z|z
    .exact Nat.le_trans (Nat.le_of_not_lt hc) (Nat.le_of_lt (k9 hx z b))
    .rw[<-z];exact Nat.le_of_not_lt hc
  .rw[if_neg hlt];exact⟨by omega,h4,fun k a b=>h5 k (by omega) b⟩
theorem mK{xs:Array Nat}(hx:xi xs)(j:Nat):Lb xs j (SetTable.below xs j) :=
 zR hx _ _ _ (by omega) (by omega) (Nat.le_refl _) (fun k h=>absurd h (Nat.not_lt_zero k)) (fun k a b=>absurd b (by omega))
theorem sY{xs:Array Nat}(hx:xi xs):SetTable.below xs 0=0:=by
 have h:=mK hx 0;rcases Nat.eq_zero_or_pos (SetTable.below xs 0) with z|z
 .exact z
 .exact absurd (h.lo 0 z) (Nat.not_lt_zero _)
theorem tT{xs:Array Nat}(hx:xi xs){i:Nat}(hi:i<xs.size):SetTable.below xs (xs.getD i 0+1)=i+1:=by
 have h:=mK hx (xs.getD i 0+1);rcases Nat.lt_trichotomy (SetTable.below xs (xs.getD i 0+1)) (i+1) with z|z|z
 .have:=h.hi i (by omega) hi;omega
 .exact z
 .have h1:=h.lo (i+1) z;have h2:=k9 hx (show i<i+1 by omega) (Nat.lt_of_lt_of_le z h.le);omega
theorem wt(n:Nat):xi (Array.range n):=by
 unfold xi;rw[Array.toList_range];exact List.pairwise_lt_range
theorem Az{xs:Array Nat}(hx:xi xs){j:Nat}(hj:xs[SetTable.below xs j]?≠some j):xi (SetTable.insertAt xs (SetTable.below xs j) j):=by
 have h:=mK hx j;unfold xi;rw[SetTable.toList_insertAt];refine List.pairwise_append.mpr ⟨List.Pairwise.sublist (List.take_sublist ..) hx,List.pairwise_cons.mpr ⟨fun y hy=>?_,List.Pairwise.sublist (List.drop_sublist ..) hx⟩,fun a ha y hy=>?_⟩
 .obtain⟨k,hk,e⟩:=List.mem_iff_getElem.mp hy;rw[List.getElem_drop,Array.getElem_toList] at e;rw[List.length_drop,Array.length_toList] at hk;have hk':SetTable.below xs j+k<xs.size:=by omega
  have h1:=h.hi (SetTable.below xs j+k) (by omega) hk';simp only[Array.getD,dif_pos hk'] at h1;rcases Nat.eq_zero_or_pos k with z|z
  .subst z;have h2:xs[SetTable.below xs j]?=some xs[SetTable.below xs j]:=Array.getElem?_eq_getElem (by omega);rcases Nat.lt_or_eq_of_le h1 with q|q
   .rw[<-e];exact q
   .refine absurd ?_ hj;rw[h2];exact congrArg some (by simpa using q.symm)
  .have h2:=k9 hx (a:=SetTable.below xs j) (b:=SetTable.below xs j+k) (by omega) hk';have h3:=h.hi (SetTable.below xs j) (Nat.le_refl _) (by omega);simp only[Array.getD,dif_pos hk'] at h2;rw[<-e];exact Nat.lt_of_le_of_lt h3 h2
 .obtain⟨k,hk,e⟩:=List.mem_iff_getElem.mp ha;rw[List.getElem_take,Array.getElem_toList] at e;rw[List.length_take,Array.length_toList] at hk;have h1:=h.lo k (by omega);simp only[Array.getD,dif_pos (show k<xs.size by omega)] at h1;have hay:a<j:=by rw[<-e];exact h1
  rcases List.mem_cons.mp hy with z|z
  .rw[z];exact hay
  .obtain⟨m,hm,e2⟩:=List.mem_iff_getElem.mp z;rw[List.getElem_drop,Array.getElem_toList] at e2;rw[List.length_drop,Array.length_toList] at hm;have hm':SetTable.below xs j+m<xs.size:=by omega
   have h2:=h.hi (SetTable.below xs j+m) (by omega) hm';simp only[Array.getD,dif_pos hm'] at h2;rw[<-e2];exact Nat.lt_of_lt_of_le hay h2
def lB(t:SetTable)(j:Nat):Prop:=t.place[SetTable.below t.place j]?≠some j
theorem rn{t:SetTable}{j:Nat}(h:t.slot j=.empty\/t.slot j=.dummy):lB t j:=fun e=>by
 unfold SetTable.slot at h;simp only[e,beq_self_eq_true,if_true] at h;rcases h with h|h<;>cases h
theorem oz(t:SetTable)(p:SetTable.Probe):(t.advance p).dummy=p.dummy:=by
 unfold SetTable.advance;split<;>rfl
theorem j5{t:SetTable}{f:Nat->Int}{h:Int}:∀(n:Nat) (p:SetTable.Probe),(∀d,p.dummy=some d->lB t d)->∀j d,SetTable.probe.go t f h n p=some (.empty j d)->lB t (d.getD j)
 |0,p,_,j,d,e=>by simp[SetTable.probe.go] at e
 |n+1,p,hp,j,d,e=>by
  unfold SetTable.probe.go at e;cases hs:t.slot p.j with
  |empty =>
   rw[hs] at e;simp only[Option.some.injEq,SetTable.Met.empty.injEq] at e;obtain⟨rfl,rfl⟩:=e;cases hd:p.dummy with
   |none=>exact rn (.inl hs)
   |some d=>exact hp d hd
  |dummy =>
   rw[hs] at e;refine j5 n _ (fun d' hd'=>?_) j d e;rw[oz] at hd';simp only[Option.some.injEq] at hd';rw[<-hd'];exact rn (.inr hs)
  |live i =>
   rw[hs] at e;simp only at e;split at e
   .simp at e
   .exact j5 n _ (fun d' hd'=>hp d' (by rw[oz] at hd';exact hd')) j d e
theorem yo{t:SetTable}{h:Int}{j:Nat}{b:Bool}(e:t.freeSlot h=some (j,b)):lB t j:=by
 unfold SetTable.freeSlot at e;split at e
 .rename_i j' d hq;have:=j5 (t:=t) _ _ (fun d hd=>by simp[SetTable.probeStart] at hd) _ _ hq;simp only[Option.some.injEq,Prod.mk.injEq] at e;rw[<-e.1];exact this
 .cases e
structure Gd(l:Bool)(t:SetTable):Prop where
 led:t.led=l
 inc:xi t.place
theorem yu(l:Bool):Gd l (.fresh 0 0 l):=⟨rfl,by unfold xi SetTable.fresh;exact .nil⟩
theorem jA{l:Bool}{t:SetTable}(h:Gd l t)(n:Nat):Gd l (t.standIn n):=⟨h.led,wt n⟩
theorem E6{l:Bool}{t:SetTable}(h:Gd l t)(es:Array (Int×Value))(hs:Int)(x:Value):Gd l (layNew t es hs x).2.1:=by
 unfold layNew;split
 .rename_i j b e;have hn:=yo e;have g:Gd l (t.put j).1:=⟨h.led,Az h.inc hn⟩;show Gd l ((t.put j).1.orStandIn _);unfold SetTable.orStandIn;split
  .exact g
  .exact jA g _
 .exact jA h _
theorem AM{mask fi mo:Nat}{l pl:Bool}{hs:Array Int}{t:SetTable}{o:Array Nat}(e:SetTable.laid mask fi mo l pl hs=some (t,o)):Gd l t:=by
 unfold SetTable.laid at e;cases hc:SetTable.layClean mask hs with
 |none=>rw[hc] at e;cases e
 |some ow =>
  rw[hc] at e;simp only[Option.bind_eq_bind,Option.bind_some,Option.pure_def,Option.some.injEq,Prod.mk.injEq] at e;rw[<-e.1];refine⟨rfl,?_⟩;unfold xi;simp only;rw[List.map_filterMap]
  have:∀l:List Nat,l.Pairwise (·<·)->(l.filterMap fun j=>Option.map (·.1) ((ow.getD j none).map fun x=>(j,x))).Pairwise (·<·):=fun l hl=>by
   refine List.Pairwise.filterMap _ (fun a a' haa b hb b' hb'=>?_) hl;cases ha:ow.getD a none with
   |none=>rw[ha] at hb;simp at hb
   |some u =>
    rw[ha] at hb;cases ha':ow.getD a' none with
    |none=>rw[ha'] at hb';simp at hb'
    |some u' =>
     rw[ha'] at hb';simp only[Option.map_some,Option.some.injEq] at hb hb';rw[<-hb,<-hb'];exact haa
  exact this _ List.pairwise_lt_range
theorem zI{l:Bool}{t:SetTable}(h:Gd l t)(es:Array (Int×Value))(n:Nat):Gd l (relayAll t es n).2.1:=by
 unfold relayAll;split
 .rename_i t' o e;dsimp only;split
  .unfold SetTable.relaid at e;rw[h.led] at e;exact AM e
  .exact jA h _
 .exact jA h _
end L2.Sx
namespace L2.Sx
open PySem PyProof.Rows
structure gW(p:Program)(w:World)(l:Bool)(h:Heap)(a:Addr)(o:Obj)(es:Array (Int×Value))(ep:Nat)(t:SetTable):Prop where
 get:h.get? a=some o
 ex:o.ExactSet
 dat:o.data=.set es ep t
 el:ElemsOf (intKind p w) es.toList
 bd:es.size<scanBound
 fit:t.fits es.size=true
 gd:Gd l t
def j6(p:Program)(w:World)(l:Bool)(h:Heap)(a:Addr)(ns:List Int):Prop :=
 ∃o es ep t,gW p w l h a o es ep t/\(∀k,k∈ns↔∃e∈es.toList,(intKind p w).is k e.2=true)/\es.size=ns.length
theorem j6.keep{p:Program}{w:World}{l:Bool}{h h':Heap}{a:Addr}{ns:List Int}(q:j6 p w l h a ns)(k:∀o,h.get? a=some o->h'.get? a=some o):j6 p w l h' a ns:=by
 obtain⟨o,es,ep,t,g,m,z⟩:=q;exact⟨o,es,ep,t,⟨k o g.get,g.ex,g.dat,g.el,g.bd,g.fit,g.gd⟩,m,z⟩
def ins(ns:List Int)(k:Int):List Int:=if k∈ns then ns else ns++[k]
section
variable{p:Program}{w:World}{A:Around}{E:Value->Shared->Prop}{s:Shared}{l:Bool}{a:Addr}
theorem rQ{h:Heap}{o:Obj}{es:Array (Int×Value)}{ep:Nat}{t:SetTable}(g:gW p w l h a o es ep t){es':Array (Int×Value)}{t':SetTable}(he:ElemsOf (intKind p w) es'.toList)(hb:es'.size<scanBound)(hf:t'.fits es'.size=true)(hg:Gd l t'):
  gW p w l (h.update a (Obj.putSet es' t')) a {o with data:=.set es' (ep+1) t'} es' (ep+1) t':=by
 refine⟨?_,g.ex,rfl,he,hb,hf,hg⟩;have q:=Heap.get?_update_self (Obj.putSet es' t') g.get (by rw[putSet_of es' t' g.dat];rfl)
 rwa [putSet_of es' t' g.dat] at q
theorem add_int{ns:List Int}{k:Int}{u:Tok}{Q:Bool->Shared->Prop}(hS:j6 p w l s.heap a ns)(hr:ns.length+1<scanBound)(h:∀b h',Heap.SameBut a s.heap h'->j6 p w l h' a (ins ns k)->Q b {s with heap:=h'}):
  wpAny (model p w) A (setAddHashed a (.int k u) ((intKind p w).hash k)) Q E s:=by
 obtain⟨o,es,ep,t,g,hm,hz⟩:=hS;have hk:(intKind p w).is k (.int k u)=true:=intKind_is _ _ _ _;have hsc:(Value.int k u).scannable=true:=rfl;have hbs:byScan (.int k u) es=true:=byScan_of hsc g.bd g.el;unfold setAddHashed setAddHashedIn;refine wpAny_holding (wpAny_bind (wpAny_setState_of g.get g.dat g.fit ?_));dsimp only;rw[if_pos hbs];unfold setAddByScan;refine wpAny_bind (wpAny_bind (wpAny_rule (wpAny_bind (wpAny_setScan_of hk g.get g.dat g.fit g.el ?_))));cases hf:es.toList.findIdx? (fun e=>(intKind p w).is k e.2) with
 |some j =>
  obtain⟨hj,hp,_⟩:=List.findIdx?_eq_some_iff_getElem.mp hf;have hin:k∈ns:=(hm k).mpr ⟨_,List.getElem_mem hj,hp⟩;refine wpAny_pure (wpAny_pure (h false s.heap (Heap.SameBut.refl a s.heap) ?_));unfold ins;rw[if_pos hin];exact⟨o,es,ep,t,g,hm,hz⟩
 |none =>
  have hout:k∉ns:=fun z=>by
   obtain⟨e,he,hp⟩:=(hm k).mp z;have q:=List.findIdx?_eq_none_iff.mp hf e he;rw[hp] at q;cases q
  have gw:∀(b:Bool) (s₁:Shared) (R:Unit->Shared->Prop),R () s₁->wpAny (model p w) A (match b with|true=>rule "set.scan.the-table-gave-way" |false=>pure ()) R E s₁:=fun b s₁ R q=>by
   cases b with
   |true=>exact wpAny_rule q
   |false=>exact wpAny_pure q
  have pm:=layNew_perm t es ((intKind p w).hash k) (.int k u);have ft:=layNew_fits t es ((intKind p w).hash k) (.int k u);have gd:=E6 g.gd es ((intKind p w).hash k) (.int k u);generalize layNew t es ((intKind p w).hash k) (.int k u)=L at pm ft gd ⊢;obtain⟨es1,t1,wd,gv⟩:=L;dsimp only at pm ft gd ⊢;rw[Array.toList_push] at pm
  have sz:es1.size=es.size+1:=by
   rw[<-Array.length_toList,pm.length_eq,List.length_append,Array.length_toList];rfl
  have el1:ElemsOf (intKind p w) es1.toList:=(g.el.push hk hsc).perm pm
  have mem1:∀k',k'∈ns++[k]↔∃e∈es1.toList,(intKind p w).is k' e.2=true:=fun k'=>by
   rw[List.mem_append,hm k',List.mem_singleton];constructor
   .rintro(⟨e,he,q⟩|rfl)
    .exact⟨e,pm.mem_iff.mpr (List.mem_append_left _ he),q⟩
    .exact⟨_,pm.mem_iff.mpr (List.mem_append_right _ (List.mem_singleton.mpr rfl)),hk⟩
   .rintro⟨e,he,q⟩;rcases List.mem_append.mp (pm.mem_iff.mp he) with z|z
    .exact .inl ⟨e,z,q⟩
    .rw[List.mem_singleton.mp z] at q;exact .inr ((intKind p w).inj _ k' k q hk)
  have hins:ins ns k=ns++[k]:=by unfold ins;rw[if_neg hout]
  refine wpAny_bind (gw _ _ _ ?_)
  have tail:∀ t2:SetTable,t2.fits es1.size=true->Gd l t2->wpAny (model p w) A (do
    storeSet a es1 t2
    if (!wd&&t2.tooFull)=true then do
      (match (relayAll t2 es1 (SetTable.grown es1.size)).2.2 with|true=>rule "set.scan.the-table-gave-way" |false=>pure ())
      storeSet a (relayAll t2 es1 (SetTable.grown es1.size)).1 (relayAll t2 es1 (SetTable.grown es1.size)).2.1
      pure (some true)
     else pure (some true)) (fun r s'=>wpAny (model p w) A (match r with|some b=>pure b|none=>setAddHashedIn a (.int k u) ((intKind p w).hash k) 99999) Q E s') E s:=fun t2 f2 g2=>by
   have G1:=rQ g el1 (by omega) f2 g2;have B1:=Heap.SameBut.update s.heap a (Obj.putSet es1 t2);refine wpAny_bind (wpAny_storeSet_of g.get g.dat ?_ (fits_of_scanBound (by omega)));by_cases hc:(!wd&&t2.tooFull)=true
   .rw[if_pos hc];have pm2:=relayAll_perm t2 es1 (SetTable.grown es1.size);have ft2:=relayAll_fits t2 es1 (SetTable.grown es1.size);have gd2:=zI g2 es1 (SetTable.grown es1.size);generalize relayAll t2 es1 (SetTable.grown es1.size)=R at pm2 ft2 gd2 ⊢;obtain⟨es2,t3,gv2⟩:=R;dsimp only at pm2 ft2 gd2 ⊢;have sz2:es2.size=es1.size:=by rw[<-Array.length_toList,pm2.length_eq,Array.length_toList]
    have G2:=rQ G1 (el1.perm pm2) (by omega) ft2 gd2;refine wpAny_bind (gw _ _ _ (wpAny_bind (wpAny_storeSet_of G1.get G1.dat ?_ (fits_of_scanBound (by omega)))));refine wpAny_pure (wpAny_pure (h true _ (B1.trans (Heap.SameBut.update _ a _)) ?_));rw[hins];refine⟨_,es2,_,t3,G2,fun k'=>(mem1 k').trans ⟨fun⟨e,he,q⟩=>⟨e,pm2.mem_iff.mpr he,q⟩,fun⟨e,he,q⟩=>⟨e,pm2.mem_iff.mp he,q⟩⟩,?_⟩;rw[List.length_append,sz2,sz,hz];rfl
   .rw[if_neg hc];refine wpAny_pure (wpAny_pure (h true _ B1 ?_));rw[hins];refine⟨_,es1,_,t2,G1,mem1,?_⟩;rw[List.length_append,sz,hz];rfl
  cases hp:t1.plain with
  |true =>
   rw[if_pos rfl,hashByValue_scannable 8 hsc];exact wpAny_bind (wpAny_pure (tail t1 ft gd))
  |false =>
   exact wpAny_bind (wpAny_pure (tail t1 ft gd))
end
end L2.Sx
namespace L2.Sx
open PySem PyProof.Rows PySem.Spec
def met(f:Nat->Int)(i:Nat):List Int:=((List.range i).map f).foldl ins []
theorem jH(f:Nat->Int)(i:Nat):met f (i+1)=ins (met f i) (f i):=by
 unfold met;rw[List.range_succ,List.map_append,List.foldl_append];rfl
theorem lh(f:Nat->Int):∀i,(met f i).length<=i
 |0=>Nat.le_refl _
 |i+1=>by
  have z:=lh f i;rw[jH];unfold ins;split
  .omega
  .rw[List.length_append];simp;omega
section
variable{p:Program}{w:World}{A:Around}{E:Value->Shared->Prop}{s:Shared}{l:Bool}
theorem yf{R:Result->Shared->Prop}{I S:Addr}{fp wr:List Addr}{G:Array GenState->Array GenState->Prop}{n:Nat}{P:Nat->Value->Prop}{St:Nat->Shared->Prop}(W:WalksS p w A.in1 I fp wr G n P St)(hS:S∉fp)(f:Nat->Int)(hf:∀i v,P i v->∃t,v=.int (f i) t)(hb:n+1<scanBound):
  ∀(k i:Nat) (s:Shared),i+k=n->St i s->j6 p w l s.heap S (met f i)->(∀s',Moved (S::wr) G s s'->j6 p w l s'.heap S (met f n)->R (.ok (.ret .none)) s') ->
   codeAny (model p w) A (.builtin "set.update.loop" ⟨[.ref S,.ref I],[]⟩) R s:=by
 have hw:S∉wr:=fun z=>hS (W.sub _ z);have up:∀b∈wr,b∈S::wr:=fun b z=>List.mem_cons_of_mem _ z;intro k
 induction k with
 |zero =>
  intro i s hk st g fin;obtain rfl:i=n:=by omega
  refine codeAny_builtin PyProof.Rows.F.entry_set_update_loop ?_;rw[Around.under_plainId PyProof.Rows.F.plain_set_update_loop _];show wpAny _ A.in1 (pyNext (.ref I) >>= _) _ _ s;exact wpAny_bind (W.done s _ _ st fun s' mv=>wpAny_pure (fin s' (mv.mono up) (g.keep fun o e=>mv.heap S o hw e)))
 |succ k ih =>
  intro i s hk st g fin;refine codeAny_builtin PyProof.Rows.F.entry_set_update_loop ?_;rw[Around.under_plainId PyProof.Rows.F.plain_set_update_loop _];show wpAny _ A.in1 (pyNext (.ref I) >>= _) _ _ s;refine wpAny_bind (W.item i s _ _ (by omega) st fun v s' hP st' mv=>?_);obtain⟨t,rfl⟩:=hf i v hP;have g':=g.keep (h':=s'.heap) fun o e=>mv.heap S o hw e;show wpAny _ A.in1 (holding [Value.int (f i) t] (setAdd S (.int (f i) t)) >>= _) _ _ s';unfold setAdd;refine wpAny_bind (wpAny_holding (wpAny_holding (wpAny_bind ((intKind p w).pyHash (k:=f i) (intKind_is _ _ _ _) ?_))));have room:(met f i).length+1<scanBound:=by have:=lh f i;omega
  refine add_int (s:={s' with toks:=s'.toks+1}) g' room fun b h' sb gn=>?_;rw[<-jH] at gn;refine wpAny_pure ⟨plainId_quiet PyProof.Rows.F.plain_set_update_loop _,ih (i+1) _ (by omega) (W.frame _ s' _ _ st' (Nat.le_succ _) fun c hc o e=>?_) gn fun s'' mv2 gz=>fin s'' (Moved.trans W.gtrans ((mv.mono up).then_heap (Nat.le_succ _) fun c o hc e=>?_) mv2) gz⟩
  .rw[sb.2 c fun z=>hS (z▸hc)];exact e
  .rw[sb.2 c fun z=>hc (z▸List.mem_cons_self)];exact e
abbrev lW(w:World):Bool:=!w.params.followText "set-order"
abbrev eS(w:World):Obj:={cls:=.type "set",dict:=none,data:=.set #[] 0 (.fresh 0 0 (lW w))}
theorem Bk(a:Value){R:Value->Shared->Prop}(h:R (.ref s.heap.objs.size) {s with heap:=s.heap.push (eS w)}):codeAny (model p w) A (.call (.builtin "set.__new__") ⟨[.type "set",a],[]⟩) (wants R E) s:=by
 refine codeAny_of_tree (show wpAny _ A.in1 (checkBuiltinCall "set.__new__" ⟨[.type "set",a],[]⟩ >>= fun _=>again (.builtin "set.__new__" ⟨[.type "set",a],[]⟩)) _ _ s from ?_);refine wpAny_bind (wpAny_of_eq (PySem.F.newCall_set_1 a) (wpAny_pure ⟨plainId_quiet PySem.F.plain_set_new _,codeAny_builtin PySem.F.entry_set_new ?_⟩));rw[Around.under_plainId PySem.F.plain_set_new _];unfold Builtin.«set.__new__» Builtin.Frozenset.newClass;have sub:=sub_set_self;obtain⟨hp,g,d,tk,os⟩:=s;dsimp only
 wp_walk
 refine wpAny_askSetting (wpAny_pure ?_);simp only[newObj];exact wpAny_bind (wpAny_alloc (wpAny_pure (wpAny_pure h)))
end
end L2.Sx
namespace L2.Sx
open PySem PyProof.Rows PySem.Spec
section
variable{p:Program}{w:World}{A:Around}{E:Value->Shared->Prop}{s:Shared}
theorem BO{h:Heap}{a:Addr}(e:h.get? a=some (eS w)):j6 p w (lW w) h a [] :=
 ⟨_,#[],0,_,⟨e,⟨rfl,rfl,rfl⟩,rfl,(fun x hx=>by simp at hx),by decide,rfl,yu _⟩,(fun k=>by simp),rfl⟩
theorem x5{l:Addr}{items:Array Value}{ns:List Int}(hh:A.handled=none)(hl:s.heap.IsList l items)(hi:IntsAre items.toList ns)(hb:items.size+1<scanBound){R:Result->Shared->Prop}
  (h:∀h' tk,j6 p w (lW w) h' s.heap.objs.size (met (fun i=>ns.getD i 0) items.size)->(∀b o,s.heap.get? b=some o->h'.get? b=some o)->R (.ok (.ret .none)) {s with heap:=h',toks:=tk}):
  wpAny (model p w) A.in1 (Builtin.«set.__init__» ⟨[.ref s.heap.objs.size,.ref l],[]⟩) (fun fin s'=>match fin with|.done f=>R (.ok f) s'|.again c'=>c'.quiet=true/\codeAny (model p w) A c' R s') (fun e s'=>R (.error e) s') {s with heap:=s.heap.push (eS w)}:=by
 obtain⟨ol,hol,hcl,nl,hdl⟩:=hl;obtain⟨ocls,odict,odata,oslots⟩:=ol;simp only at hcl hdl;subst hcl hdl;have hS:(s.heap.push (eS w)).get? s.heap.objs.size=some (eS w):=Heap.get?_push_size _ rfl;have hol':(s.heap.push (eS w)).get? l=some {cls:=.type "list",dict:=odict,data:=.seq items nl,slots:=oslots}:=Heap.get?_push_of_some _ hol;have q1:=PySem.F.sub_list_set;have q2:=PySem.F.sub_list_frozenset;have q3:(Value.type "list"==Value.type "dict")=false:=by decide
 have hl1:(s.heap.push (eS w)).IsList l items:=⟨_,hol',rfl,nl,rfl⟩;have hlS:l<s.heap.objs.size:=Heap.lt_size hol;have sz:(s.heap.push (eS w)).objs.size=s.heap.objs.size+1:=Heap.size_push ..;unfold Builtin.«set.__init__» noKeywords Builtin.Frozenset.updateFrom;generalize hp:pyIter=pI
 wp_walk
 subst hp;refine wpAny_pyIter_list hl1 (wpAny_bind (wpAny_runValue ?_));have nI:l≠(s.heap.push (eS w)).objs.size:=by rw[sz];exact Nat.ne_of_lt (Nat.lt_succ_of_lt hlS)
 have nS:s.heap.objs.size∉[(s.heap.push (eS w)).objs.size,l]:=by
  rw[sz];simp only[List.mem_cons,List.not_mem_nil,or_false,not_or];exact⟨Nat.ne_of_lt (Nat.lt_succ_self _),Nat.ne_of_gt hlS⟩
 refine yf (A:=A.in1) (l:=lW w) ((Walks.list (by simp[hh]) _ l nI items).toS) nS (fun i=>ns.getD i 0) (fun i v hv=>IntsAre.int_at hi i v (by rw[Array.getElem?_toList];exact hv)) hb items.size 0 _ (by omega) ⟨⟨_,Heap.get?_push_size _ rfl,rfl,rfl⟩,hl1.push _⟩ (BO (Heap.get?_push_of_some _ hS)) fun s' mv g=>?_;obtain⟨h',gn,dr,tk,os⟩:=s';obtain rfl:gn=s.gens:=mv.gens;obtain rfl:dr=s.drawn:=mv.drawn;obtain rfl:os=s.os:=mv.os;refine wpAny_pure (wpAny_pure (h h' tk g fun b o e=>?_));have hlt:=Heap.lt_size e;refine mv.heap b o ?_ (Heap.get?_push_of_some _ (Heap.get?_push_of_some _ e));rw[sz];simp only[List.mem_cons,List.not_mem_nil,or_false,not_or];exact⟨Nat.ne_of_lt hlt,Nat.ne_of_lt (Nat.lt_succ_of_lt hlt)⟩
theorem Ac{l:Addr}{items:Array Value}{ns:List Int}{Q:Value->Shared->Prop}(hh:A.handled=none)(hl:s.heap.IsList l items)(hi:IntsAre items.toList ns)(hb:items.size+1<scanBound)
  (h:∀h' tk,j6 p w (lW w) h' s.heap.objs.size (met (fun i=>ns.getD i 0) items.size)->(∀b o,s.heap.get? b=some o->h'.get? b=some o)->Q (.ref s.heap.objs.size) {s with heap:=h',toks:=tk}):
  wpAny (model p w) A (call (.type "set") [.ref l]) Q E s:=by
 obtain⟨c,tl,m1⟩:=PySem.F.called_set.mro;have m2:=PySem.F.called_set.made;have m3:=PySem.F.called_set.sub;have m4:=PySem.F.called_set.notType;have m5:=PySem.F.called_set.canCreate;have m6:=PySem.F.typeCall_set_1 (.ref l);refine wpAny_call (codeAny_of_tree (show wpAny _ _ (callAny (.type "set") _) _ _ _ from wpAny_pure ⟨Code.quiet_builtin _ (by decide +kernel),codeAny_builtin PySem.F.entry_type_call ?_⟩));rw[Around.under_plain (weight_type_call_type "set" [.ref l] []) rfl]
 repeat any_goals first|assumption|wp_step
 refine codeAny_mono (Bk (.ref l) (E:=E) (R:=fun v s₁=>v=.ref s.heap.objs.size/\s₁={s with heap:=s.heap.push (eS w)}) ⟨rfl,rfl⟩) fun r s₁ hr=>?_;cases r with
 |error e=>exact hr
 |ok fl =>
  cases fl with
  |ret v =>
   obtain⟨rfl,rfl⟩:=hr;have hT:Shared.TypeIs {s with heap:=s.heap.push (eS w)} (.ref s.heap.objs.size) "set":=⟨_,Heap.get?_push_size _ rfl,rfl⟩;have m7:=PySem.F.called_set.init.lookup;have m8:=PySem.F.called_set.init.bind (.ref s.heap.objs.size)
   repeat any_goals first|assumption|wp_step
   refine codeAny_mono (codeAny_call_builtin (R:=wants (fun r s₂=>r=.none/\∃h' tk,s₂={s with heap:=h',toks:=tk}/\j6 p w (lW w) h' s.heap.objs.size (met (fun i=>ns.getD i 0) items.size)/\∀b o,s.heap.get? b=some o->h'.get? b=some o) E) PySem.F.called_set.init.plain PySem.F.entry_set_init (check_set_init_1 hT (x5 (by simp[hh]) hl hi hb fun h' tk g k=>⟨rfl,h',tk,rfl,g,k⟩))) fun r₂ s₂ hr₂=>?_;cases r₂ with
   |error e=>exact hr₂
   |ok f2 =>
    cases f2 with
    |ret r =>
     obtain⟨rfl,h',tk,rfl,g,k⟩:=hr₂
     repeat any_goals first|assumption|wp_step
     exact h _ _ g k
    |_=>exact hr₂.elim
  |_=>exact hr.elim
end
end L2.Sx
namespace L2.Sx
open PySem PyProof.Rows PySem.Spec
section
variable{p:Program}{w:World}{A:Around}{E:Value->Shared->Prop}{s:Shared}{S:Addr}{o:Obj}{es:Array (Int×Value)}{ep:Nat}{t:SetTable}
def sl(t:SetTable):Nat->Nat
 |0=>0
 |i+1=>t.place.getD i 0+1
theorem lM{Q:Bool->Shared->Prop}(h:Q (w.params.followText "set-order") s):wpAny (model p w) A setsByText Q E s:=by
 unfold setsByText;exact wpAny_bind (wpAny_askSetting (wpAny_pure h))
theorem ti(g:gW p w (lW w) s.heap S o es ep t)(hb:w.params.followText "set-order"=false)(hd:t.plain=true\/es.size<=1){i:Nat}(hi:i<=es.size){Q:Option (Value×Nat)->Shared->Prop}(h:Q (es[i]?.map fun e=>(e.2,sl t (i+1))) s):
  wpAny (model p w) A (setNext S (sl t i) i ep) Q E s:=by
 unfold setNext;refine wpAny_bind (wpAny_setState_of g.get g.dat g.fit (wpAny_bind (lM ?_)));rw[hb]
 have dr:(!t.plain&&decide (es.size>1))=false:=by
  rcases hd with z|z
  .rw[z];rfl
  .rw[decide_eq_false (by omega)];simp
 refine wpAny_ite_split (fun q=>absurd q Bool.false_ne_true) fun _=>?_;refine wpAny_ite_split (fun q=>absurd (show(!t.plain&&decide (es.size>1))=true from q) (by rw[dr];exact Bool.false_ne_true)) fun _=>?_;have ld:t.led=true:=by rw[g.gd.led];show(!w.params.followText "set-order")=true;rw[hb];rfl
 refine wpAny_bind (show wpAny _ _ (if (!t.led&&!es.isEmpty)=true then unsupported "set:maker-not-led" else pure ()) _ _ _ from ?_);rw[if_neg (by rw[ld];simp)];refine wpAny_pure ?_;have sz:t.place.size=es.size:=by have f:=g.fit;simp only[SetTable.fits,Bool.and_eq_true,beq_iff_eq] at f;exact f.1
 have hbl:SetTable.below t.place (sl t i)=i:=by
  cases i with
  |zero=>exact sY g.gd.inc
  |succ i=>exact tT g.gd.inc (by omega)
 dsimp only;rw[hbl];refine wpAny_pure ?_;by_cases hlt:i<es.size
 .have h1:es[i]?=some es[i]:=Array.getElem?_eq_getElem hlt
  have h2:t.place[i]?=some (t.place.getD i 0):=by
   rw[Array.getElem?_eq_getElem (by omega)];simp only[Array.getD,dif_pos (show i<t.place.size by omega)];rfl
  rw[h1,h2];rw[h1] at h;exact h
 .have h1:es[i]?=none:=Array.getElem?_eq_none (by omega);rw[h1];rw[h1] at h;exact h
theorem wH(g:gW p w (lW w) s.heap S o es ep t)(hb:w.params.followText "set-order"=true){i j:Nat}{Q:Option (Value×Nat)->Shared->Prop}(h:Q ((pickOrder (w.params.setOrder S ep) es)[i]?.map fun e=>(e.2,j)) s):
  wpAny (model p w) A (setNext S j i ep) Q E s:=by
 unfold setNext;refine wpAny_bind (wpAny_setState_of g.get g.dat g.fit (wpAny_bind (lM ?_)));rw[hb];refine wpAny_ite_split (fun _=>?_) fun q=>absurd rfl q;refine wpAny_ite_split (fun q=>absurd q (by simp)) fun _=>?_;unfold setWalk;refine wpAny_bind (wpAny_bind (wpAny_setState_of g.get g.dat g.fit (wpAny_bind (lM ?_))));rw[hb];refine wpAny_ite_split (fun _=>?_) fun q=>absurd rfl q;exact wpAny_bind (wpAny_askSetting (wpAny_pure (wpAny_pure h)))
end
end L2.Sx
namespace L2.Sx
open PySem PyProof.Rows PySem.Spec
theorem cZ:Slot "set_iterator" "__next__" "set_iterator.__next__" :=
 .of (owner:="set_iterator") (n:="__next__") (by rw[typeLookup_type,builtinLookup_eq_fast];kernel_rfl) (by decide +kernel) (by decide +kernel) (by decide +kernel)
  (by first|exact .inr (by decide +kernel)|exact .inl (by decide +kernel)) (by rw[isSubtype_type];kernel_rfl)
theorem jP:entryFor table "set_iterator.__next__"=some Builtin.«set_iterator.__next__»:=entryFor_of_tree (by kernel_rfl)
theorem zN:Manifest.owners.lookup (String.ofList ['r','o','t','a','r','e','t','i','_','t','e','s'].reverse)=some Manifest.sig_set_iterator:=by kernel_rfl
theorem lE(a:Value):argsOk "set_iterator.__next__" ⟨[a],[]⟩:=by
 unfold argsOk;rw[signature?_of (id:="set_iterator.__next__") (n:=['_','_','t','x','e','n','_','_']) (o:=['r','o','t','a','r','e','t','i','_','t','e','s']) (by kernel_rfl) zN];kernel_rfl
theorem rV:Slot "set_iterator" "__iter__" "set_iterator.__iter__" :=
 .of (owner:="set_iterator") (n:="__iter__") (by rw[typeLookup_type,builtinLookup_eq_fast];kernel_rfl) (by decide +kernel) (by decide +kernel) (by decide +kernel)
  (by first|exact .inr (by decide +kernel)|exact .inl (by decide +kernel)) (by rw[isSubtype_type];kernel_rfl)
theorem wI:entryFor table "set_iterator.__iter__"=some Builtin.«dict_keyiterator.__iter__»:=entryFor_alias (id':="dict_keyiterator.__iter__") (by kernel_rfl) rfl (by decide +kernel) (by kernel_rfl)
theorem Ao(a:Value):argsOk "set_iterator.__iter__" ⟨[a],[]⟩:=by unfold argsOk;kernel_rfl
theorem yk:entryFor table "set.__iter__"=some Builtin.«frozenset.__iter__»:=entryFor_alias (id':="frozenset.__iter__") (by kernel_rfl) rfl (by decide +kernel) (by kernel_rfl)
def jj(h:Heap)(I:Addr)(f:Value)(i:Nat)(S:Addr)(n ep:Nat):Prop:=∃o,h.get? I=some o/\o.cls=.type "set_iterator"/\o.data=.fields #[f,.int i 0,.ref S,.int n 0,.int ep 0]
section
variable{p:Program}{w:World}{A:Around}{E:Value->Shared->Prop}{s:Shared}{I S:Addr}{o:Obj}{es:Array (Int×Value)}{ep:Nat}{t:SetTable}
theorem jj.ty{f:Value}{i n:Nat}(q:jj s.heap I f i S n ep):s.TypeIs (.ref I) "set_iterator":=let ⟨x,a,b,_⟩:=q;⟨x,a,b⟩
theorem uY{f:Value}{i n:Nat}{Q:Value->Shared->Prop}(q:jj s.heap I f i S n ep)(h:Q (.ref I) s):wpAny (model p w) A (pyIter (.ref I)) Q E s:=by
 refine wpAny_pyIter_slot q.ty rV (wpAny_call_entry rV q.ty wI (show wpAny _ _ (ret (.ref I)) _ _ s from ?_) (Ao _));exact wpAny_pure ⟨_,rfl,"set_iterator",_,q.ty,cZ.lookup,h⟩
theorem jj.put{h:Heap}{f x:Value}{i n:Nat}(q:jj h I f i S n ep):jj (h.update I (Obj.mapFields (·.setIfInBounds 0 x))) I x i S n ep/\∀j:Nat,jj (h.update I (Obj.mapFields (·.setIfInBounds 1 (rawInt j)))) I f j S n ep:=by
 obtain⟨a,b,c,d⟩:=q;refine⟨⟨_,Heap.get?_update_self _ b (Obj.isFreed_of_fields (Obj.data_mapFields d _)),(Obj.cls_mapFields ..).trans c,?_⟩,fun j=>⟨_,Heap.get?_update_self _ b (Obj.isFreed_of_fields (Obj.data_mapFields d _)),(Obj.cls_mapFields ..).trans c,?_⟩⟩
 .rw[Obj.data_mapFields d];simp
 .rw[Obj.data_mapFields d];simp[rawInt]
theorem AQ{u:Nat}{i:Nat}{x:Value}{nx:Nat}(q:jj s.heap I (.int u 0) i S es.size ep)(g:gW p w (lW w) s.heap S o es ep t){Q:Option Value->Shared->Prop}
  (hn:∀(A:Around) (E:Value->Shared->Prop) (R:Option (Value×Nat)->Shared->Prop),R (some (x,nx)) s->wpAny (model p w) A (setNext S u i ep) R E s)
  (h:∀h',jj h' I (.int nx 0) (i+1) S es.size ep->Heap.SameBut I s.heap h'->Q (some x) {s with heap:=h'}):wpAny (model p w) A (pyNext (.ref I)) Q E s:=by
 obtain⟨oi,i1,i2,i3⟩:=id q;unfold pyNext;refine wpAny_bind (wpAny_attempt (wpAny_callSpecial?_slot (name:=Str.ofString "__next__") q.ty cZ (wpAny_call_entry cZ q.ty jP ?_ (lE _))));unfold Builtin.«set_iterator.__next__»;refine wpAny_bind (wpAny_pure (wpAny_bind (wpAny_fieldsOf i1 i3 ?_)));dsimp only;refine wpAny_bind (wpAny_setEntries_of g.get g.dat g.fit ?_);refine wpAny_ite_split (fun z=>absurd z (by simp)) fun _=>?_;dsimp only[Int.toNat_natCast];refine wpAny_bind (hn _ _ _ ?_);dsimp only;have q1:=(q.put (x:=rawInt nx)).1;obtain⟨oj,j1,j2,j3⟩:=id q1;refine wpAny_bind (wpAny_setField i1 i3 (by simp) (wpAny_bind (wpAny_setField j1 j3 (by simp) (wpAny_pure ⟨x,rfl,wpAny_pure (h _ ?_ ((Heap.SameBut.update ..).trans (Heap.SameBut.update ..)))⟩))));exact(q1.put (x:=.none)).2 (i+1)
theorem oK{Q:Option Value->Shared->Prop}(hh:A.handled=none)(h:∀h',(∀b o,s.heap.get? b=some o->h'.get? b=some o)->Q none {s with heap:=h'}):
  wpAny (model p w) A.in1 (newExc (.type "StopIteration") [] >>= fun x=>raiseNew (α:=Fin) x) (fun fin s'=>∃v,fin=Fin.done (Flow.ret v)/\wpAny (model p w) A (pure (some v)) Q E s')
   (fun e s'=>wpAny (model p w) A (isInstance e (Value.type "StopIteration") >>= fun b=>if b=true then pure none else throw e) Q E s') s:=by
 refine wpAny_bind ?_;simp only[newExc,newTuple];refine wpAny_bind (wpAny_newObj_type ?_ (by size_fits));refine wpAny_bind (m:=firstArgMember _ _) (wpAny_of_eq (a:=Value.none) (by first|(simp only[firstArgMember];rfl)|rfl) ?_);refine wpAny_newObj_type ?_ (by size_fits);simp only[raiseNew];refine wpAny_bind (wpAny_handled ?_);rw[show A.in1.handled=none from hh];refine wpAny_bind (wpAny_pure (wpAny_throw ?_));refine wpAny_bind (wpAny_isInstance (T:="StopIteration") (b:=true) ⟨_,Heap.get?_push_size _ rfl,rfl⟩ isSubtype_stop (wpAny_pure (h _ fun b o e=>?_)));exact Heap.get?_push_of_some _ (Heap.get?_push_of_some _ e)
theorem En{u:Nat}{i:Nat}(hh:A.handled=none)(q:jj s.heap I (.int u 0) i S es.size ep)(g:gW p w (lW w) s.heap S o es ep t){Q:Option Value->Shared->Prop}
  (hn:∀(A:Around) (E:Value->Shared->Prop) (R:Option (Value×Nat)->Shared->Prop),R none s->wpAny (model p w) A (setNext S u i ep) R E s)
  (h:∀h',(∀b o,b≠I->s.heap.get? b=some o->h'.get? b=some o)->Q none {s with heap:=h'}):wpAny (model p w) A (pyNext (.ref I)) Q E s:=by
 obtain⟨oi,i1,i2,i3⟩:=id q;unfold pyNext;refine wpAny_bind (wpAny_attempt (wpAny_callSpecial?_slot (name:=Str.ofString "__next__") q.ty cZ (wpAny_call_entry cZ q.ty jP ?_ (lE _))));unfold Builtin.«set_iterator.__next__»;refine wpAny_bind (wpAny_pure (wpAny_bind (wpAny_fieldsOf i1 i3 ?_)));dsimp only;refine wpAny_bind (wpAny_setEntries_of g.get g.dat g.fit ?_);refine wpAny_ite_split (fun z=>absurd z (by simp)) fun _=>?_;dsimp only[Int.toNat_natCast];refine wpAny_bind (hn _ _ _ ?_);dsimp only;refine wpAny_bind (wpAny_setField i1 i3 (by simp) ?_);refine oK (s:={s with heap:=s.heap.update I (Obj.mapFields (·.setIfInBounds 2 Value.none))}) hh fun h' k=>h h' fun b o hb e=>k b o ?_;rw[(Heap.SameBut.update s.heap I _).2 b hb];exact e
theorem lT{vs:List Value}{f:Nat->Nat}(hh:A.handled=none)(hne:S≠I)(hl:vs.length=es.size)
  (hn:∀(s:Shared) (i:Nat) (A:Around) (E:Value->Shared->Prop) (R:Option (Value×Nat)->Shared->Prop),i<=es.size->gW p w (lW w) s.heap S o es ep t->R (vs[i]?.map fun v=>(v,f (i+1))) s->wpAny (model p w) A (setNext S (f i) i ep) R E s):
  Walks p w A I [I,S] [I] vs.length (fun i v=>vs[i]?=some v) (fun i h=>i<=vs.length/\jj h I (.int (f i) 0) i S es.size ep/\gW p w (lW w) h S o es ep t) where
 sub:=fun b hb=>by simp at hb;simp[hb]
 frame:=fun i h h' st k=>by
  obtain⟨st0,⟨x,a,b,c⟩,g⟩:=st;exact⟨st0,⟨x,k I (by simp) x a,b,c⟩,⟨k S (by simp) o g.get,g.ex,g.dat,g.el,g.bd,g.fit,g.gd⟩⟩
 item:=fun i s Q E hi st hQ=>by
  obtain⟨st0,q,g⟩:=st;have e:vs[i]?=some vs[i]:=List.getElem?_eq_getElem hi;refine AQ (x:=vs[i]) (nx:=f (i+1)) q g (fun A E R r=>hn s i A E R (by omega) g (by rw[e];exact r)) fun h' q' sb=>hQ _ h' s.toks e ⟨hi,q',?_⟩ fun b o' hb e'=>?_
  .exact⟨by rw[sb.2 S hne];exact g.get,g.ex,g.dat,g.el,g.bd,g.fit,g.gd⟩
  .rw[sb.2 b fun z=>hb (by simp[z])];exact e'
 done:=fun s Q E st hQ=>by
  obtain⟨st0,q,g⟩:=st;exact En hh q g (fun A E R r=>hn s _ A E R (by omega) g (by rw[List.getElem?_eq_none (Nat.le_refl _)];exact r)) fun h' k=>hQ h' s.toks fun b o' hb e'=>k b o' (fun z=>hb (by simp[z])) e'
 self:=fun i s Q E st hQ=>uY st.2.1 hQ
end
end L2.Sx
namespace L2.Sx
open PySem PyProof.Rows PySem.Spec
section
variable{p:Program}{w:World}{A:Around}{E:Value->Shared->Prop}{s:Shared}{I S T:Addr}{o:Obj}{es:Array (Int×Value)}{ep:Nat}{t:SetTable}
theorem je{α:Type}:∀(l:List α) (i:Nat) (h:i<l.length),(l[i]::l.eraseIdx i).Perm l
 |x::l,0,_=>.refl _
 |x::l,i+1,h=>by
  have:=je l i (by simpa using h);simp only[List.getElem_cons_succ,List.eraseIdx_cons_succ];exact(List.Perm.swap ..).trans (this.cons x)
theorem uc{n:Nat}{src:Source}{Q:Nat->Shared->Prop}(hn:n≠0)(h:∀i d,i<n->Q i {s with drawn:=d}):wpAny (model p w) A (choose src n) Q E s:=by
 intro Γ q hA;show Sem.wp _ _ (.choose src n .pure) _ _ _ _;rw[Sem.wp_choose];exact⟨hn,h _ _ (Nat.mod_lt _ (Nat.pos_of_ne_zero hn))⟩
theorem rM{α:Type}:∀(n:Nat) (xs:List α) (s:Shared) (Q:List α->Shared->Prop),xs.length=n->(∀ys d,ys.Perm xs->Q ys {s with drawn:=d})->wpAny (model p w) A (drawOrder n xs) Q E s
 |0,xs,s,Q,hl,h=>by
  obtain rfl:xs=[]:=List.length_eq_zero_iff.mp hl;unfold drawOrder;exact wpAny_pure (h [] s.drawn (.refl _))
 |n+1,[],s,Q,hl,h=>by simp at hl
 |n+1,x::xs,s,Q,hl,h=>by
  unfold drawOrder;refine wpAny_bind (uc (by simp) fun i d hi=>?_);have e:(x::xs)[i]?=some (x::xs)[i]:=List.getElem?_eq_getElem hi;rw[e];refine wpAny_bind (rM n _ _ _ (by rw[List.length_eraseIdx,if_pos hi];simp at hl ⊢;omega) fun ys d2 pm=>?_);refine wpAny_pure (h _ d2 ?_);exact(List.Perm.cons _ pm).trans (je _ i hi)
theorem Bg{os:List Nat}{i j:Nat}{e:Int×Value}{oT:Obj}{nT:Nat}(q:jj s.heap I (.ref T) i S es.size ep)(g:gW p w (lW w) s.heap S o es ep t)(hT:s.heap.get? T=some oT)(dT:oT.data=.seq (os.map fun n:Nat=>rawInt (n:Int)).toArray nT)(hj:os[i]?=some j)(he:es[j]?=some e){Q:Option Value->Shared->Prop}
  (h:∀h',jj h' I (.ref T) (i+1) S es.size ep->Heap.SameBut I s.heap h'->Q (some e.2) {s with heap:=h'}):wpAny (model p w) A (pyNext (.ref I)) Q E s:=by
 obtain⟨oi,i1,i2,i3⟩:=id q;unfold pyNext;refine wpAny_bind (wpAny_attempt (wpAny_callSpecial?_slot (name:=Str.ofString "__next__") q.ty cZ (wpAny_call_entry cZ q.ty jP ?_ (lE _))));unfold Builtin.«set_iterator.__next__»;refine wpAny_bind (wpAny_pure (wpAny_bind (wpAny_fieldsOf i1 i3 ?_)));dsimp only;refine wpAny_bind (wpAny_setEntries_of g.get g.dat g.fit ?_);refine wpAny_ite_split (fun z=>absurd z (by simp)) fun _=>?_;dsimp only[Int.toNat_natCast];refine wpAny_bind (wpAny_seqItems hT dT ?_);dsimp only
 have e1:(os.map fun n:Nat=>rawInt (n:Int)).toArray[i]?=some (rawInt (j:Int)):=by
  rw[List.getElem?_toArray,List.getElem?_map,hj];rfl
 rw[e1];dsimp only[rawInt,Int.toNat_natCast];unfold setNextDrawn;refine wpAny_bind (wpAny_bind (wpAny_setState_of g.get g.dat g.fit ?_));refine wpAny_ite_split (fun z=>absurd z (by simp)) fun _=>?_;rw[he];refine wpAny_pure (wpAny_bind (wpAny_setField i1 i3 (by simp) (wpAny_pure ⟨e.2,rfl,wpAny_pure (h _ ?_ (Heap.SameBut.update ..))⟩)));exact(q.put (x:=.none)).2 (i+1)
theorem DB{os:List Nat}{i:Nat}{oT:Obj}{nT:Nat}(hh:A.handled=none)(q:jj s.heap I (.ref T) i S es.size ep)(g:gW p w (lW w) s.heap S o es ep t)(hT:s.heap.get? T=some oT)(dT:oT.data=.seq (os.map fun n:Nat=>rawInt (n:Int)).toArray nT)(hj:os[i]?=none){Q:Option Value->Shared->Prop}
  (h:∀h',(∀b o,b≠I->s.heap.get? b=some o->h'.get? b=some o)->Q none {s with heap:=h'}):wpAny (model p w) A (pyNext (.ref I)) Q E s:=by
 obtain⟨oi,i1,i2,i3⟩:=id q;unfold pyNext;refine wpAny_bind (wpAny_attempt (wpAny_callSpecial?_slot (name:=Str.ofString "__next__") q.ty cZ (wpAny_call_entry cZ q.ty jP ?_ (lE _))));unfold Builtin.«set_iterator.__next__»;refine wpAny_bind (wpAny_pure (wpAny_bind (wpAny_fieldsOf i1 i3 ?_)));dsimp only;refine wpAny_bind (wpAny_setEntries_of g.get g.dat g.fit ?_);refine wpAny_ite_split (fun z=>absurd z (by simp)) fun _=>?_;dsimp only[Int.toNat_natCast];refine wpAny_bind (wpAny_seqItems hT dT ?_);dsimp only
 have e1:(os.map fun n:Nat=>rawInt (n:Int)).toArray[i]?=none:=by
  rw[List.getElem?_toArray,List.getElem?_map,hj];rfl
 rw[e1];dsimp only;have q1:=(q.put (x:=rawInt 0)).1;obtain⟨oj,j1,j2,j3⟩:=id q1;refine wpAny_bind (wpAny_setField i1 i3 (by simp) (wpAny_bind (wpAny_setField j1 j3 (by simp) ?_)));refine oK (s:={s with heap:=(s.heap.update I (Obj.mapFields (·.setIfInBounds 0 (rawInt 0)))).update I (Obj.mapFields (·.setIfInBounds 2 Value.none))}) hh fun h' k=>h h' fun b o hb e=>k b o ?_;rw[(Heap.SameBut.update _ I _).2 b hb,(Heap.SameBut.update s.heap I _).2 b hb];exact e
theorem sE{os:List Nat}(hh:A.handled=none)(hne:S≠I)(hT:T≠I)(hp:os.Perm (List.range es.size)):
  Walks p w A I [I,S,T] [I] os.length (fun i v=>∃j e,os[i]?=some j/\es[j]?=some e/\v=e.2) (fun i h=>i<=os.length/\jj h I (.ref T) i S es.size ep/\gW p w (lW w) h S o es ep t/\∃oT nT,h.get? T=some oT/\oT.data=.seq (os.map fun n:Nat=>rawInt (n:Int)).toArray nT) where
 sub:=fun b hb=>by simp at hb;simp[hb]
 frame:=fun i h h' st k=>by
  obtain⟨st0,⟨x,a,b,c⟩,g,oT,nT,d1,d2⟩:=st;exact⟨st0,⟨x,k I (by simp) x a,b,c⟩,⟨k S (by simp) o g.get,g.ex,g.dat,g.el,g.bd,g.fit,g.gd⟩,oT,nT,k T (by simp) oT d1,d2⟩
 item:=fun i s Q E hi st hQ=>by
  obtain⟨st0,q,g,oT,nT,d1,d2⟩:=st;have e:os[i]?=some os[i]:=List.getElem?_eq_getElem hi;have hj:os[i]<es.size:=List.mem_range.mp (hp.mem_iff.mp (List.getElem_mem hi));have e2:es[os[i]]?=some es[os[i]]:=Array.getElem?_eq_getElem hj;refine Bg q g d1 d2 e e2 fun h' q' sb=>hQ _ h' s.toks ⟨_,_,e,e2,rfl⟩ ⟨hi,q',?_,oT,nT,by rw[sb.2 T hT];exact d1,d2⟩ fun b o' hb e'=>?_
  .exact⟨by rw[sb.2 S hne];exact g.get,g.ex,g.dat,g.el,g.bd,g.fit,g.gd⟩
  .rw[sb.2 b fun z=>hb (by simp[z])];exact e'
 done:=fun s Q E st hQ=>by
  obtain⟨st0,q,g,oT,nT,d1,d2⟩:=st;exact DB hh q g d1 d2 (List.getElem?_eq_none (Nat.le_refl _)) fun h' k=>hQ h' s.toks fun b o' hb e'=>k b o' (fun z=>hb (by simp[z])) e'
 self:=fun i s Q E st hQ=>uY st.2.1 hQ
end
end L2.Sx
namespace L2.Sx
open PySem PyProof.Rows PySem.Spec PySem.W PySem.Calls
structure kU(s s':Shared):Prop where
 keep:∀b o,s.heap.get? b=some o->s'.heap.get? b=some o
 gens:s'.gens=s.gens
 os:s'.os=s.os
structure FK(p:Program)(w:World)(s s':Shared)(S I:Addr)(es:Array (Int×Value)):Prop where
 gr:kU s s'
 new:s.heap.objs.size<=I
 wk:∃(fp:List Addr) (n:Nat) (P:Nat->Value->Prop) (St:Nat->Heap->Prop) (vs:List Value),(∀A:Around,A.handled=none->Walks p w A I fp [I] n P St)/\St 0 s'.heap/\(∀b∈fp,b=S\/s.heap.objs.size<=b)/\vs.length=n/\(∀i v,P i v->vs[i]?=some v)/\vs.Perm (es.toList.map (·.2))
theorem vD{α:Type}(f:Nat->Nat):∀(n k:Nat) (l:List α) (out:Array α),l.length=n->(pickOrder.go f n k l out).toList.Perm (out.toList++l)
 |0,k,l,out,h=>by
  obtain rfl:l=[]:=List.length_eq_zero_iff.mp h;simp[pickOrder.go]
 |n+1,k,l,out,h=>by
  have hi:f k%l.length<l.length:=Nat.mod_lt _ (by omega);unfold pickOrder.go;rw[List.getElem?_eq_getElem hi];refine(vD f n (k+1) _ _ (by rw[List.length_eraseIdx,if_pos hi];omega)).trans ?_;rw[Array.toList_push,List.append_assoc];exact List.Perm.append_left _ (je l _ hi)
theorem wg{α:Type}(f:Nat->Nat)(xs:Array α):(pickOrder f xs).toList.Perm xs.toList:=by
 have:=vD f xs.size 0 xs.toList #[] (by simp);simpa [pickOrder] using this
section
variable{p:Program}{w:World}{A:Around}{E:Value->Shared->Prop}{s:Shared}{S:Addr}{o:Obj}{es:Array (Int×Value)}{ep:Nat}{t:SetTable}
theorem kr{h h':Heap}(g:gW p w (lW w) h S o es ep t)(k:∀b o,h.get? b=some o->h'.get? b=some o):gW p w (lW w) h' S o es ep t:=⟨k _ _ g.get,g.ex,g.dat,g.el,g.bd,g.fit,g.gd⟩
theorem zw(g:gW p w (lW w) s.heap S o es ep t){Q:Value->Shared->Prop}(h:∀I s',FK p w s s' S I es->Q (.ref I) s'):wpAny (model p w) A (pyIter (.ref S)) Q E s:=by
 have ty:s.TypeIs (.ref S) "set":=⟨o,g.get,g.ex.1⟩;have hS:S<s.heap.objs.size:=Heap.lt_size g.get;refine wpAny_pyIter_slot ty PySem.F.slot_set_iter (wpAny_call_entry PySem.F.slot_set_iter ty yk ?_ (PySem.F.args_set_iter_1 _));unfold Builtin.«frozenset.__iter__» Builtin.Frozenset.slot0 Builtin.Frozenset.sizeOf;refine wpAny_bind (wpAny_bind (wpAny_pure (wpAny_pure ?_)));refine wpAny_bind (wpAny_bind (wpAny_setEntries_of g.get g.dat g.fit (wpAny_pure ?_)));unfold setDrawn;refine wpAny_bind (wpAny_bind (wpAny_setState_of g.get g.dat g.fit (wpAny_bind (lM (wpAny_pure ?_)))));refine wpAny_ite_split (fun hd=>?_) fun hd=>?_
 .have hd':(!w.params.followText "set-order"&&(!t.plain&&decide (es.size>1)))=true:=hd;refine wpAny_bind (rM es.size (List.range es.size) _ _ List.length_range fun os d pm=>?_);have lo:os.length=es.size:=by rw[pm.length_eq,List.length_range]
  refine wpAny_bind (wpAny_newTuple ?_ (by rw[List.length_map,lo];exact fits_of_scanBound g.bd));refine wpAny_bind (wpAny_setEpoch_of (Heap.get?_push_of_some _ g.get) g.dat g.fit ?_);refine wpAny_bind (wpAny_newObj_type (wpAny_pure ⟨_,rfl,"set_iterator",_,⟨_,Heap.get?_push_size _ rfl,rfl⟩,cZ.lookup,h _ _ ?_⟩));refine⟨⟨fun b o e=>Heap.get?_push_of_some _ (Heap.get?_push_of_some _ e),rfl,rfl⟩,by rw[Heap.size_push];exact Nat.le_succ _,?_⟩;have nS:S≠(s.heap.push {cls:=.type "tuple",data:=.seq (os.map fun n:Nat=>rawInt (n:Int)).toArray}).objs.size:=by rw[Heap.size_push];exact Nat.ne_of_lt (Nat.lt_succ_of_lt hS)
  have nT:s.heap.objs.size≠(s.heap.push {cls:=.type "tuple",data:=.seq (os.map fun n:Nat=>rawInt (n:Int)).toArray}).objs.size:=by rw[Heap.size_push];exact Nat.ne_of_lt (Nat.lt_succ_self _)
  refine⟨_,_,_,_,os.map fun j=>(es.getD j (0,.none)).2,fun A hA=>sE (o:=o) (t:=t) (ep:=ep) hA nS nT pm,⟨Nat.zero_le _,⟨_,Heap.get?_push_size _ rfl,rfl,rfl⟩,kr g fun b o e=>Heap.get?_push_of_some _ (Heap.get?_push_of_some _ e),_,_,Heap.get?_push_of_some _ (Heap.get?_push_size _ rfl),rfl⟩,?_,?_,?_,?_⟩
  .intro b hb;simp only[List.mem_cons,List.not_mem_nil,or_false] at hb;rcases hb with rfl|rfl|rfl
   .exact .inr (by rw[Heap.size_push];exact Nat.le_succ _)
   .exact .inl rfl
   .exact .inr (Nat.le_refl _)
  .rw[List.length_map]
  .rintro i v ⟨j,e,e1,e2,rfl⟩;rw[List.getElem?_map,e1];show some (es.getD j (0,.none)).2=some e.2;obtain⟨hj,e3⟩:=Array.getElem?_eq_some_iff.mp e2;simp only[Array.getD,dif_pos hj];exact congrArg (fun x:Int×Value=>some x.2) e3
  .refine(pm.map _).trans ?_
   have:(List.range es.size).map (fun j=>(es.getD j (0,.none)).2)=es.toList.map (·.2):=by
    refine List.ext_getElem? fun i=>?_;rw[List.getElem?_map,List.getElem?_map];by_cases hi:i<es.size
    .have h2:es.toList[i]?=some (es.getD i (0,.none)):=by
      rw[Array.getElem?_toList,Array.getElem?_eq_getElem hi];simp only[Array.getD,dif_pos hi];rfl
     rw[List.getElem?_range hi,h2];rfl
    .have h2:es.toList[i]?=none:=by rw[Array.getElem?_toList];exact Array.getElem?_eq_none (by omega)
     rw[List.getElem?_eq_none (by rw[List.length_range];omega),h2];rfl
   rw[this]
 .have hd':¬(!w.params.followText "set-order"&&(!t.plain&&decide (es.size>1)))=true:=hd;refine wpAny_bind (wpAny_pure (wpAny_bind (wpAny_setEpoch_of g.get g.dat g.fit ?_)));refine wpAny_bind (wpAny_newObj_type (wpAny_pure ⟨_,rfl,"set_iterator",_,⟨_,Heap.get?_push_size _ rfl,rfl⟩,cZ.lookup,h _ _ ?_⟩));refine⟨⟨fun b o e=>Heap.get?_push_of_some _ e,rfl,rfl⟩,Nat.le_refl _,?_⟩;have nS:S≠s.heap.objs.size:=Nat.ne_of_lt hS
  have fpo:∀b∈[s.heap.objs.size,S],b=S\/s.heap.objs.size<=b:=fun b hb=>by
   simp only[List.mem_cons,List.not_mem_nil,or_false] at hb;rcases hb with rfl|rfl
   .exact .inr (Nat.le_refl _)
   .exact .inl rfl
  have gk:gW p w (lW w) (s.heap.push {cls:=.type "set_iterator",data:=.fields [rawInt 0,rawInt 0,.ref S,rawInt es.size,rawInt ep].toArray}) S o es ep t:=kr g fun b o e=>Heap.get?_push_of_some _ e;cases hb:w.params.followText "set-order" with
  |false =>
   rw[hb] at hd'
   have hpl:t.plain=true\/es.size<=1:=by
    cases hp:t.plain with
    |true=>exact .inl rfl
    |false =>
     rw[hp] at hd';refine .inr ?_;simpa using hd'
   have lv:(es.toList.map (·.2)).length=es.size:=by rw[List.length_map,Array.length_toList]
   refine⟨_,_,_,_,es.toList.map (·.2),fun A hA=>lT (vs:=es.toList.map (·.2)) (f:=sl t) (o:=o) (t:=t) (ep:=ep) hA nS lv fun s i A E R hi g r=>ti g hb hpl hi ?_,⟨Nat.zero_le _,⟨_,Heap.get?_push_size _ rfl,rfl,rfl⟩,gk⟩,fpo,rfl,fun i v e=>e,.refl _⟩;rw[List.getElem?_map,Array.getElem?_toList,Option.map_map] at r;exact r
  |true =>
   have pm:=(wg (w.params.setOrder S ep) es).map (·.2);have lv:((pickOrder (w.params.setOrder S ep) es).toList.map (·.2)).length=es.size:=by rw[pm.length_eq,List.length_map,Array.length_toList]
   refine⟨_,_,_,_,(pickOrder (w.params.setOrder S ep) es).toList.map (·.2),fun A hA=>lT (vs:=(pickOrder (w.params.setOrder S ep) es).toList.map (·.2)) (f:=fun _=>0) (o:=o) (t:=t) (ep:=ep) hA nS lv fun s i A E R hi g r=>wH g hb ?_,⟨Nat.zero_le _,⟨_,Heap.get?_push_size _ rfl,rfl,rfl⟩,gk⟩,fpo,rfl,fun i v e=>e,pm⟩;rw[List.getElem?_map,Array.getElem?_toList,Option.map_map] at r;exact r
end
end L2.Sx
namespace L2.Sx
open PySem PyProof.Rows PySem.Spec PySem.W PySem.Calls
section
variable{p:Program}{w:World}{A:Around}{E:Value->Shared->Prop}{s:Shared}{S:Addr}{o:Obj}{es:Array (Int×Value)}{ep:Nat}{t:SetTable}
theorem yb{Q:Bool->Shared->Prop}(ty:s.TypeIs (.ref S) "set")(h:Q false s):wpAny (model p w) A (Builtin.List.listLengthHint (.ref S)) Q E s:=by
 unfold Builtin.List.listLengthHint;refine wpAny_bind (wpAny_specialOf ty PySem.F.slot_set_len.lookup ?_);generalize hid:("set.__len__":String)=id0
 wp_delta
 rw[show splitId id0=some ("set","__len__") from by subst hid;decide +kernel];subst hid;refine wpAny_bind (wpAny_isInstance (T:="set") (b:=true) ty (by rw[isSubtype_type];kernel_rfl) (wpAny_ite_split (fun z=>absurd z (by decide)) fun _=>?_));exact wpAny_ite_split (fun _=>wpAny_bind (wpAny_typeOf ty (wpAny_pure h))) fun z=>absurd (by decide +kernel) z
theorem tZ{L:Addr}{c:Nat}{R:Result->Shared->Prop}{res:Value}(hh:A.handled=none)(g:gW p w (lW w) s.heap S o es ep t)(hL:s.heap.get? L=some {cls:=.type "list",data:=.seq #[] c})(hne:L≠S)
  (h:∀s' acc c',(∀b o,b≠L->s.heap.get? b=some o->s'.heap.get? b=some o)->s'.gens=s.gens->s'.os=s.os->s'.heap.get? L=some {cls:=.type "list",dict:=none,data:=.seq acc c',slots:=#[]}->acc.toList.Perm (es.toList.map (·.2))->R (.ok (.ret res)) s'):
  wpAny (model p w) A.in1 (Builtin.List.listExtendWith (.ref L) (.ref S) res) (fun fin s'=>match fin with|.done f=>R (.ok f) s'|.again c'=>c'.quiet=true/\codeAny (model p w) A c' R s') (fun e s'=>R (.error e) s') s:=by
 have ty:s.TypeIs (.ref S) "set":=⟨o,g.get,g.ex.1⟩;unfold Builtin.List.listExtendWith;refine wpAny_bind (wpAny_typeOf (T:="set") ty ?_);have z1:Builtin.List.listSameRef (.ref L) (.ref S)=false:=by simp[Builtin.List.listSameRef,hne]
 have z2:(Value.type "set"==Value.type "list")=false:=by decide
 have z3:(Value.type "set"==Value.type "tuple")=false:=by decide
 simp only[z1,z2,z3,Bool.or_false,Bool.false_eq_true,if_false];refine wpAny_bind (zw g fun I s' wk=>?_);obtain⟨gr,nw,fp,n,P,St,vs,W,st,hfp,hl,hP,hpm⟩:=wk;have hLs:L<s.heap.objs.size:=Heap.lt_size hL
 have hLf:L∉fp:=fun z=>by
  rcases hfp L z with q|q
  .exact hne q
  .exact absurd hLs (Nat.not_lt.mpr q)
 have nsz:n<=sizeLine:=by
  rw[<-hl,hpm.length_eq,List.length_map,Array.length_toList];exact fits_of_scanBound g.bd
 have key:∀(s1:Shared) (c1:Nat),St 0 s1.heap->(∀b o,b≠L->s'.heap.get? b=some o->s1.heap.get? b=some o)->s1.gens=s'.gens->s1.os=s'.os->s1.heap.get? L=some {cls:=.type "list",data:=.seq #[] c1}->codeAny (model p w) A (.builtin "list.extend.loop" ⟨[.ref L,.ref I,res],[]⟩) R s1:=fun s1 c1 st1 k1 g1 o1 l1=>by
  refine codeAny_extend_loopS ((W A.in1 hh).toS) nsz L hLf res n 0 s1 #[] c1 rfl (Nat.zero_le _) st1 l1 (ItemsOf.nil _) fun s2 acc c2 mv l2 it=>?_;refine h s2 acc c2 (fun b o hb e=>mv.heap b o (fun z=>?_) (k1 b o hb (gr.keep b o e))) ?_ ?_ l2 ?_
  .rcases List.mem_cons.mp z with q|q
   .exact hb q
   .exact absurd (Heap.lt_size e) (Nat.not_lt.mpr (by rw[List.mem_singleton.mp q];exact nw))
  .exact(show s2.gens=s1.gens from mv.gens).trans (g1.trans gr.gens)
  .exact mv.os.trans (o1.trans gr.os)
  .have:acc.toList=vs:=by
    refine List.ext_getElem? fun i=>?_;by_cases hi:i<acc.toList.length
    .have e:=List.getElem?_eq_getElem hi;rw[e];exact(hP i _ (it.2 i _ (by rw[<-Array.getElem?_toList];exact e))).symm
    .have hn2:acc.toList.length=n:=by rw[Array.length_toList];exact it.1
     rw[List.getElem?_eq_none (by omega),List.getElem?_eq_none (by omega)]
   rw[this];exact hpm
 have L1:=gr.keep _ _ hL;refine wpAny_bind (wpAny_holding (yb ⟨o,gr.keep _ _ g.get,g.ex.1⟩ ?_));refine wpAny_ite_split (fun _=>?_) (fun _=>wpAny_pure ⟨plainId_quiet PySem.F.plain_extend_loop _,key _ c st (fun b o _ e=>e) rfl rfl L1⟩);refine wpAny_bind (wpAny_rule (wpAny_bind (show wpAny _ _ (updateSeq L (·.push .none) >>= fun _=>updateSeq L (·.pop)) _ _ _ from wpAny_bind (wpAny_updateSeq L1 rfl ?_))));have L2:=Heap.get?_update_self (Obj.mapSeq (·.push Value.none)) L1 rfl;refine wpAny_updateSeq (hz:=by seq_fits) L2 rfl ?_;have L3:=Heap.get?_update_self (Obj.mapSeq (·.pop)) L2 rfl
 have oth:∀b o,b≠L->s'.heap.get? b=some o->((s'.heap.update L (Obj.mapSeq (·.push Value.none))).update L (Obj.mapSeq (·.pop))).get? b=some o:=fun b o hb e=>by
  rw[(Heap.SameBut.update _ L _).2 b hb,(Heap.SameBut.update _ L _).2 b hb];exact e
 exact wpAny_pure ⟨plainId_quiet PySem.F.plain_extend_loop _,key _ _ ((W A.in1 hh).frame 0 _ _ st fun b hb o e=>oth b o (fun q=>hLf (q▸hb)) e) oth rfl rfl L3⟩
end
end L2.Sx
namespace L2.Sx
open PySem PyProof.Rows PySem.Spec PySem.W PySem.Calls
def kv:Value->Int
 |.int k _=>k
 |_=>0
theorem vF:∀{vs:List Value},(∀v∈vs,∃k t,v=.int k t)->IntsAre vs (vs.map kv)
 |[],_=>.nil
 |v::vs,h=>by
  obtain⟨k,t,rfl⟩:=h v (List.mem_cons_self ..);exact .cons k t (vF fun v hv=>h v (List.mem_cons_of_mem _ hv))
theorem kP:∀{m l:List Int},m.Nodup->(∀x∈m,x∈l)->m.length=l.length->m.Perm l
 |[],l,_,_,h=>by
  obtain rfl:l=[]:=List.length_eq_zero_iff.mp h.symm;exact .nil
 |x::m,l,nd,hs,h=>by
  have hx:x∈l:=hs x (List.mem_cons_self ..);obtain⟨n1,n2⟩:=List.nodup_cons.mp nd;have pl:=List.perm_cons_erase hx;refine(List.Perm.cons x (kP n2 (fun y hy=>?_) ?_)).trans pl.symm
  .exact(List.mem_erase_of_ne (fun e:y=x=>n1 (e▸hy))).mpr (hs y (List.mem_cons_of_mem _ hy))
  .have:=pl.length_eq;simp only[List.length_cons] at this h ⊢;omega
theorem xk{ns:List Int}{k:Int}(h:ns.Nodup):(ins ns k).Nodup:=by
 unfold ins;split
 .exact h
 .rename_i hk;rw[List.nodup_append];exact⟨h,by simp,fun a ha b hb e=>hk (by rw[<-List.mem_singleton.mp hb,<-e];exact ha)⟩
theorem B0{ns:List Int}{k x:Int}:x∈ins ns k↔x∈ns\/x=k:=by
 unfold ins;split
 .rename_i hk;exact⟨.inl,fun h=>h.elim id fun e=>e▸hk⟩
 .rw[List.mem_append,List.mem_singleton]
theorem j_(f:Nat->Int):∀i,(met f i).Nodup
 |0=>List.nodup_nil
 |i+1=>by rw[jH];exact xk (j_ f i)
theorem vK(f:Nat->Int){x:Int}:∀i,x∈met f i↔∃j,j<i/\f j=x
 |0=>by simp[met]
 |i+1=>by
  rw[jH,B0,vK f i];constructor
  .rintro(⟨j,h1,h2⟩|e)
   .exact⟨j,by omega,h2⟩
   .exact⟨i,by omega,e.symm⟩
  .rintro⟨j,h1,h2⟩;rcases Nat.lt_or_eq_of_le (Nat.le_of_lt_succ h1) with z|z
   .exact .inl ⟨j,z,h2⟩
   .exact .inr (by rw[<-h2,z])
section
variable{p:Program}{w:World}{A:Around}{E:Value->Shared->Prop}{s:Shared}{S:Addr}{o:Obj}{es:Array (Int×Value)}{ep:Nat}{t:SetTable}
theorem q_{R:List Value->Shared->Prop}(hh:A.handled=none)(g:gW p w (lW w) s.heap S o es ep t)(h:∀s' vs,kU s s'->vs.Perm (es.toList.map (·.2))->R vs s'):wpAny (model p w) A (collect (.ref S)) R E s:=by
 have hS:S<s.heap.objs.size:=Heap.lt_size g.get;unfold collect;refine wpAny_bind (wpAny_runValue (codeAny_builtin entry_proto_collect' ?_));rw[Around.under_plainId PySem.F.plain_proto_collect _];refine(show wpAny _ A.in1 (newList [] >>= fun l=>again (.builtin "list.__iadd__" ⟨[l,.ref S],[]⟩)) _ _ s from wpAny_bind (wpAny_newObj_type (wpAny_pure ⟨plainId_quiet PySem.F.plain_list_iadd _,codeAny_builtin entry_list_iadd' ?_⟩)));rw[Around.under_plainId PySem.F.plain_list_iadd _];have hL:(s.heap.push {cls:=.type "list",data:=.seq ([]:List Value).toArray}).get? s.heap.objs.size=some {cls:=.type "list",data:=.seq #[]}:=Heap.get?_push_size _ rfl;refine(show wpAny _ A.in1 (Builtin.List.listExtendWith (.ref s.heap.objs.size) (.ref S) (.ref s.heap.objs.size)) _ _ _ from ?_)
 have key:=tZ (A:=A) (s:={s with heap:=s.heap.push {cls:=.type "list",data:=.seq ([]:List Value).toArray}}) (res:=.ref s.heap.objs.size)
  (R:=fun q s'=>∃acc c',q=.ok (.ret (.ref s.heap.objs.size))/\kU s s'/\s'.heap.get? s.heap.objs.size=some {cls:=.type "list",dict:=none,data:=.seq acc c',slots:=#[]}/\acc.toList.Perm (es.toList.map (·.2)))
  hh (kr g fun b o e=>Heap.get?_push_of_some _ e) hL (Nat.ne_of_gt hS) fun s' acc c' k gn os l pm=>⟨acc,c',rfl,⟨fun b o e=>k b o (Nat.ne_of_lt (Heap.lt_size e)) (Heap.get?_push_of_some _ e),gn,os⟩,l,pm⟩
 refine wpAny_mono key (fun fin s' x=>?_) fun e s' x=>?_
 .cases fin with
  |done f =>
   obtain⟨acc,c',e,gr,l,pm⟩:=x;cases e;exact show wpAny _ A (load s.heap.objs.size >>= _) _ _ _ from wpAny_bind (wpAny_load l (wpAny_pure (h s' _ gr pm)))
  |again c1 =>
   refine⟨x.1,codeAny_mono x.2 fun q s2 y=>?_⟩;obtain⟨acc,c',e,gr,l,pm⟩:=y;cases e;exact show wpAny _ A (load s.heap.objs.size >>= _) _ _ _ from wpAny_bind (wpAny_load l (wpAny_pure (h s2 _ gr pm)))
 .obtain⟨_,_,e',_⟩:=x;cases e'
theorem qD{Q:Value->Shared->Prop}{m:List Int}(hh:A.handled=none)(q:j6 p w (lW w) s.heap S m)(nd:m.Nodup)(h64:m.length<64)
  (h:∀(s1:Shared) (vs:List Value) (out:Array Value) (ns:List Int),kU s s1->IntsAre out.toList ns->ns.Perm m->ns.Pairwise (·<=·)->Q (.ref s1.heap.objs.size) {s1 with heap:=sortedHeap (s1.heap.push (seqObj "list" vs.toArray 0)) s1.heap.objs.size vs out}):
  wpAny (model p w) A (call (.builtin "sorted") [.ref S]) Q E s:=by
 obtain⟨o,es,ep,t,g,hm,hz⟩:=q;refine Calls.call_function_entry kind_sorted plain_sorted entry_sorted (args_sorted1 _) ?_;unfold Builtin.«sorted»;refine wpAny_bind (m:=checkCount "sorted" 1 1 _) (wpAny_pure (wpAny_bind (q_ (A:=A.in1) hh g fun s1 vs gr pm=>?_)));have lv:vs.length=m.length:=by rw[pm.length_eq,List.length_map,Array.length_toList,hz]
 have allI:∀v∈vs,∃k t,v=.int k t:=fun v hv=>by
  obtain⟨e,he,rfl⟩:=List.mem_map.mp (pm.mem_iff.mp hv);obtain⟨⟨k,hk,_⟩,_⟩:=g.el e he;obtain⟨t,ht⟩:=Value.isInt_shape hk;exact⟨k,t,ht⟩
 have pk:(vs.map kv).Perm m:=by
  refine(kP nd (fun x hx=>?_) (by rw[List.length_map,lv])).symm;obtain⟨e,he,hk⟩:=(hm x).mp hx;obtain⟨t,ht⟩:=Value.isInt_shape hk;exact List.mem_map.mpr ⟨e.2,pm.mem_iff.mpr (List.mem_map.mpr ⟨e,he,rfl⟩),by rw[ht];rfl⟩
 refine wpAny_bind (wpAny_newList ?_ (by rw[lv];exact Nat.le_trans (Nat.le_of_lt h64) (by decide)));have hL:(s1.heap.push (seqObj "list" vs.toArray 0)).get? s1.heap.objs.size=some (seqObj "list" vs.toArray 0):=Heap.get?_push_size _ rfl;refine wpAny_bind (wpAny_holding (wpAny_call_entry slot_list_sort ⟨_,hL,rfl⟩ entry_list_sort (list_sort_tree hL (vF allI) (by omega) fun out ns a1 a2 a3=>⟨_,rfl,?_⟩) (args_list_sort _)));exact wpAny_pure ⟨_,rfl,h s1 vs out ns gr a1 (a2.trans pk) a3⟩
end
end L2.Sx
namespace L2.EP
open PySem PySem.Spec PyProof.Rows L2.Sx
def i9(x:Int):List Int->List Int
 |[]=>[x]
 |y::l=>if x<y then x::y::l else if x=y then y::l else y::i9 x l
def sset(ns:List Int):List Int:=ns.foldr i9 []
theorem mJ{x a:Int}:∀{l:List Int},a∈i9 x l↔a=x\/a∈l
 |[]=>by simp[i9]
 |y::l=>by
  unfold i9;split
  .simp
  .split
   .rename_i h;subst h;simp
   .rw[List.mem_cons,mJ (l:=l),List.mem_cons];constructor
    .rintro(h|h|h)
     .exact .inr (.inl h)
     .exact .inl h
     .exact .inr (.inr h)
    .rintro(h|h|h)
     .exact .inr (.inl h)
     .exact .inl h
     .exact .inr (.inr h)
theorem rF{x:Int}:∀{l:List Int},l.Pairwise (·<·)->(i9 x l).Pairwise (·<·)
 |[],_=>by simp[i9]
 |y::l,h=>by
  obtain⟨h1,h2⟩:=List.pairwise_cons.mp h;unfold i9;split
  .rename_i hxy;refine List.pairwise_cons.mpr ⟨fun a ha=>?_,h⟩;rcases List.mem_cons.mp ha with z|z
   .omega
   .have:=h1 a z;omega
  .split
   .exact h
   .refine List.pairwise_cons.mpr ⟨fun a ha=>?_,rF h2⟩;rcases mJ.mp ha with z|z
    .omega
    .exact h1 a z
theorem h9{a:Int}:∀{ns:List Int},a∈sset ns↔a∈ns
 |[]=>by simp[sset]
 |x::ns=>by
  show a∈i9 x (sset ns)↔_;rw[mJ,h9 (ns:=ns),List.mem_cons]
theorem gY:∀(ns:List Int),(sset ns).Pairwise (·<·)
 |[]=>.nil
 |x::ns=>rF (gY ns)
theorem iw:∀{l m:List Int},l.Pairwise (·<·)->m.Pairwise (·<·)->(∀a,a∈l↔a∈m)->l=m
 |[],[],_,_,_=>rfl
 |[],y::m,_,_,h=>absurd ((h y).mpr (List.mem_cons_self ..)) (by simp)
 |x::l,[],_,_,h=>absurd ((h x).mp (List.mem_cons_self ..)) (by simp)
 |x::l,y::m,h1,h2,h=>by
  obtain⟨a1,a2⟩:=List.pairwise_cons.mp h1;obtain⟨b1,b2⟩:=List.pairwise_cons.mp h2
  have e:x=y:=by
   rcases List.mem_cons.mp ((h x).mp (List.mem_cons_self ..)) with z|z
   .exact z
   .rcases List.mem_cons.mp ((h y).mpr (List.mem_cons_self ..)) with q|q
    .exact q.symm
    .have:=b1 x z;have:=a1 y q;omega
  subst e;refine congrArg (x::·) (iw a2 b2 fun a=>⟨fun ha=>?_,fun ha=>?_⟩)
  .rcases List.mem_cons.mp ((h a).mp (List.mem_cons_of_mem _ ha)) with z|z
   .have:=a1 a ha;omega
   .exact z
  .rcases List.mem_cons.mp ((h a).mpr (List.mem_cons_of_mem _ ha)) with z|z
   .have:=b1 a ha;omega
   .exact z
theorem A6{ns m r:List Int}(h1:r.Perm m)(nd:m.Nodup)(h2:r.Pairwise (·<=·))(hm:∀a,a∈m↔a∈ns):r=sset ns:=by
 refine iw ?_ (gY ns) fun a=>by rw[h1.mem_iff,hm,h9]
 have nd':r.Nodup:=h1.symm.nodup nd
 exact(List.Pairwise.and h2 nd').imp fun {a b} q=>by
  have:=q.1;have:=q.2;omega
theorem Inv.grown{X:Cx}{pins:List (Addr×Obj)}{σ:St}{H:Hp}{s s':Shared}(I:Inv X pins σ H s)(g:kU s s'):Inv X pins σ H s':=by
 obtain⟨h',gn,d,tk,os⟩:=s';obtain⟨k,e1,e2⟩:=g;have J:=I.kept (h':=h') (t':=tk) k;simp only at e1 e2;subst e1 e2;exact⟨J.ok,J.os,J.bare,J.base,J.loc,J.cell,J.free,J.freeC,J.pin,J.hok,J.len⟩
theorem jR:∀{vs:List Value} {ns:List Int},IntsAre vs ns->Vals (ns.map V.int) vs
 |_,_,.nil=>.nil
 |_,_,.cons n t h=>.cons ⟨t,rfl⟩ (jR h)
section
variable{X:Cx}{Γ:aC}{D:GD}{e:Expr}{b:Bool}{te:TE}
theorem tU{p1 p2 pos pos2:Pos}(hc:X.calm=true)(hg1:Gl X "sorted")(hm1:X.mg "sorted"=none)(hg2:Gl X "set")(hm2:X.mg "set"=none)(ha:PE X e te)
  (hs:starEach [e] X.env=(false,eval e X.env)::starEach [] X.env:=by rfl) (hs2:starEach [.Call (.Name "set" p2) [e] [] pos2] X.env=(false,eval (.Call (.Name "set" p2) [e] [] pos2) X.env)::starEach [] X.env:=by rfl)
  (hp1:(backTo pos (starEach [] X.env)).any (·.1)=false:=by rfl) (hp2:(backTo pos2 (starEach [] X.env)).any (·.1)=false:=by rfl):
  PE X (.Call (.Name "sorted" p1) [.Call (.Name "set" p2) [e] [] pos2] [] pos) (fun σ H Q=>te σ H fun v H1=>∃a,∃ns:List Int,v=.ref a/\dF X.K H1 a (ns.map V.int)/\ns.length<64/\∀l,H1 l=none->Q (.ref l) (upd H1 l (.lst ((sset ns).map V.int)))):=by
 intro pins s σ H Q I h
 have inner:wpAny (model X.prog X.w) X.A (eval (.Call (.Name "set" p2) [e] [] pos2) X.env) (fun u s1=>∃(S:Addr) (H1:Hp) (ns:List Int),u=.ref S/\Inv X pins σ H1 s1/\j6 X.prog X.w (lW X.w) s1.heap S (met (fun i=>ns.getD i 0) ns.length)/\ns.length<64/\∀l,H1 l=none->Q (.ref l) (upd H1 l (.lst ((sset ns).map V.int)))) X.xe s:=by
  refine wpAny_Call_Name_kw (eO I hg2 hm2 PyProof.Rows.boot_set ?_ (by decide) (by decide));refine PyProof.Rows.callWith_type1 (bO (aA ha aU hs pos2 pins s σ H (fun xs H1=>match xs with|[v]=>∃a,∃ns:List Int,v=.ref a/\dF X.K H1 a (ns.map V.int)/\ns.length<64/\∀l,H1 l=none->Q (.ref l) (upd H1 l (.lst ((sset ns).map V.int)))|_=>False) I h) fun us s1 ⟨xs,H1,I1,r1,q1⟩=>?_) hs hp2;cases r1 with
  |nil=>exact q1.elim
  |@cons v u vs us rv rr =>
   cases rr with
   |cons _ _=>exact q1.elim
   |nil =>
    obtain⟨a,ns,rfl,sq,h64,q⟩:=q1;cases rv;obtain⟨its,rr,pl,_⟩:=I1.list sq;have hi:=intsAre_of rr;have hl:its.length=ns.length:=by rw[<-rr.length,List.length_map]
    refine Ac (items:=its.toArray) (ns:=ns) (I1.ok.hd hc) pl.isList (by simpa using hi) (by rw[List.size_toArray,hl];exact Nat.lt_of_lt_of_le (Nat.add_lt_add_right h64 1) (by decide)) fun h' tk g k=>?_;rw[show its.toArray.size=ns.length by rw[List.size_toArray,hl]] at g;exact⟨_,H1,ns,rfl,I1.kept k,g,h64,q⟩
 refine wpAny_Call_Name_kw (eO I hg1 hm1 PyProof.Rows.boot_sorted ?_ (by decide) (by decide));refine PyProof.Rows.callWith_builtin1 ?_ hs2 hp1;rw[hs2];refine Calls.spliced_cons (bO inner fun u s1 ⟨S,H1,ns,e,I1,g,h64,q⟩=>Calls.spliced_nil ?_);subst e;refine qD (I1.ok.hd hc) g (j_ _ _) (Nat.lt_of_le_of_lt (lh _ _) h64) fun s2 vs out ns' gr ia pm pw=>?_
 have hr:ns'=sset ns:=A6 pm (j_ _ _) pw fun a=>by
  rw[vK];constructor
  .rintro⟨j,hj,rfl⟩;rw[List.getD_eq_getElem?_getD,List.getElem?_eq_getElem hj];exact List.getElem_mem hj
  .intro ha;obtain⟨j,hj,e⟩:=List.mem_iff_getElem.mp ha;exact⟨j,hj,by rw[List.getD_eq_getElem?_getD,List.getElem?_eq_getElem hj];exact e⟩
 subst hr;have I2:=Inv.grown I1 gr
 have lo:((sset ns).map V.int).length<=sizeLine:=by
  rw[List.length_map,pm.length_eq];exact Nat.le_trans (lh _ _) (Nat.le_trans (Nat.le_of_lt h64) (by decide))
 have hne:∀b o,s2.heap.get? b=some o->b≠s2.heap.objs.size:=fun b o e=>Nat.ne_of_lt (Heap.lt_size e)
 have kp:∀b o,s2.heap.get? b=some o->(sortedHeap (s2.heap.push (seqObj "list" vs.toArray 0)) s2.heap.objs.size vs out).get? b=some o:=fun b o e=>by
  unfold sortedHeap;rw[(Heap.SameBut.update _ _ _).2 b (hne b o e)];refine Heap.get?_push_of_some _ (Heap.get?_push_of_some _ ?_);rw[(Heap.SameBut.update _ _ _).2 b (hne b o e)];exact Heap.get?_push_of_some _ e
 obtain⟨c1,g1⟩:∃c1,(((s2.heap.push (seqObj "list" vs.toArray 0)).update s2.heap.objs.size (Obj.mapSeq fun _=>#[])).get? s2.heap.objs.size)=some (seqObj "list" #[] c1):=⟨_,get?_update_seq (Heap.get?_push_size _ rfl) (fun _=>#[])⟩;have g2:=get?_update_seq (Heap.get?_push_of_some (seqObj "list" #[] 0) (Heap.get?_push_of_some (seqObj "tuple" vs.toArray 0) g1)) (fun _=>out);refine⟨.ref s2.heap.objs.size,_,I2.laid (t':=s2.toks) (o:=.lst ((sset ns).map V.int)) kp (Nat.le_refl _) ⟨lo,out.toList,_,jR ia,g2⟩,rfl,q _ (I2.hok.fresh (Nat.le_refl _))⟩
theorem wZ{ns:List Int}{p1 p2 pos pos2:Pos}(hc:X.calm=true)(hg1:Gl X "sorted")(hm1:X.mg "sorted"=none)(hg2:Gl X "set")(hm2:X.mg "set"=none)(ha:E X Γ e b ns)(hl:ns.length<64)
  (hs:starEach [e] X.env=(false,eval e X.env)::starEach [] X.env:=by rfl) (hs2:starEach [.Call (.Name "set" p2) [e] [] pos2] X.env=(false,eval (.Call (.Name "set" p2) [e] [] pos2) X.env)::starEach [] X.env:=by rfl)
  (hp1:(backTo pos (starEach [] X.env)).any (·.1)=false:=by rfl) (hp2:(backTo pos2 (starEach [] X.env)).any (·.1)=false:=by rfl):
  E X Γ (.Call (.Name "sorted" p1) [.Call (.Name "set" p2) [e] [] pos2] [] pos) true (sset ns):=by
 with_unfolding_all
  exact aF (tU hc hg1 hm1 hg2 hm2 ha hs hs2 hp1 hp2) fun σ H Q ⟨H0,F,O,S,q⟩=>⟨H0,F,O,S,fun v H1 s1 r1=>by
    obtain⟨a,vs,e,sq,n,r⟩:=r1;rw[pb r] at sq;refine⟨a,ns,by rw[e],(aj _ _).seq sq,hl,fun l hl'=>?_⟩;obtain⟨z1,z2⟩:=cI (xs:=(sset ns).map V.int) (S.go s1) hl';refine q _ _ (s1.trans z1) ⟨l,_,rfl,dF.of z2,Nf.wk (b:=true) ((S.go s1).gQ hl') z2,?_⟩;generalize sset ns=m
    induction m with
    |nil=>exact .nil
    |cons x m ih=>exact .cons rfl ih⟩
end
open PySem PySem.Spec PyProof.Rows
section
variable{X:Cx}{Γ:aC}{D:GD}{α β γ:Type}[Py α][Py β][Py γ]{e e1 e2:Expr}{b b1 b2:Bool}{pos p:Pos}{rest st:List Stmt}
theorem B8{i:Int}{xs:List Int}:CV X .NotIn i xs (!decide (i∈xs)):=⟨_,o3,fun N N' H v w Q h1 h2 q=>by
 obtain⟨p,vs,rfl,sq,n,r⟩:=h2;cases h1;refine⟨p,vs,rfl,.inl sq,rfl,?_,?_⟩
 .rw[f_ r];simp[iS]
 .rw[f_ r,m9];exact q⟩
end
end L2.EP
namespace Q
noncomputable def qv(p:Int):List Int->Bool
 |[]=>true
 |a::r=>iO r (fun b=>aq a b p)==qv p r
noncomputable def Bf(p:Int):List Int->Nat
 |[]=>0
 |a::r=>(r.filter fun b=>!aq a b p).length+Bf p r
theorem uV(p:Int):∀row:List Int,decide (Bf p row%2=0)=qv p row
 |[]=>rfl
 |a::r=>by
  have ih:=uV p r;have e:iO r (fun b=>aq a b p)=decide ((r.filter fun b=>!aq a b p).length%2=0):=rfl;rw[qv,Bf,e,<-ih];generalize (r.filter fun b=>!aq a b p).length=m;generalize Bf p r=n;by_cases h1:m%2=0<;>by_cases h2:n%2=0
  .have:(m+n)%2=0:=by omega
   simp[h1,h2,this]
  .have:¬(m+n)%2=0:=by omega
   simp[h1,h2,this]
  .have:¬(m+n)%2=0:=by omega
   simp[h1,h2,this]
  .have:(m+n)%2=0:=by omega
   simp[h1,h2,this]
theorem tR:∀{L M:List Int},L.Nodup->(∀x∈L,x∈M)->L.length<=M.length
 |[],M,_,_=>Nat.zero_le _
 |x::L,M,hn,h=>by
  obtain⟨n1,n2⟩:=List.nodup_cons.mp hn;have hx:=h x List.mem_cons_self;have ih:=tR (M:=M.erase x) n2 fun y hy=>(List.mem_erase_of_ne (by rintro rfl;exact n1 hy)).mpr (h y (List.mem_cons_of_mem _ hy));have hm:0<M.length:=List.length_pos_of_mem hx;rw[List.length_erase_of_mem hx] at ih;rw[List.length_cons];omega
def Aw:List Int:=[3,5,7,11,13]
def Q6:List Int:=[2,3,5,7,11,13]
def Hk(p:Int):List Int:=if p=3 then [1] else if p=5 then [1,4] else if p=7 then [1,2,4] else if p=11 then [1,3,4,5,9] else [1,3,4,9,10,12]
theorem Fj:∀p∈([3,5,7,11,13]:List Nat),∀r∈List.range p,(bA (r:Int) (p:Int)=1↔(r:Int)∈Hk (p:Int)):=by decide +kernel
theorem DT{p k:Int}(hp:p∈Aw):bA k p=1↔k%p∈Hk p:=by
 have hm:p.toNat∈([3,5,7,11,13]:List Nat):=by
  simp only[Aw,List.mem_cons,List.not_mem_nil,or_false] at hp;rcases hp with rfl|rfl|rfl|rfl|rfl<;>decide
 have h0:0<p:=by
  simp only[Aw,List.mem_cons,List.not_mem_nil,or_false] at hp;omega
 have h1:=Int.emod_nonneg k (Int.ne_of_gt h0);have h2:=Int.emod_lt_of_pos k h0;have:=Fj p.toNat hm (k%p).toNat (List.mem_range.mpr (by omega));rw[show(((k%p).toNat:Nat):Int)=k%p by omega,show((p.toNat:Nat):Int)=p by omega,BY] at this;exact this
def bT(s:Int)(w:List (Int×Int)):Int:=(Q6.zip w).foldl (fun acc u=>if u.2.1=1 then acc*u.1 else acc) s
structure GW(s:Int)(w:List (Int×Int)):Prop where
 sg:s=1\/s=-1
 len:w.length=6
 a:∀j,j<6->(w.getD j (0,1)).1=0\/(w.getD j (0,1)).1=1
 u2:(w.getD 0 (0,1)).2∈[(1:Int),3,5,7]
 u:∀j,1<=j->j<6->(w.getD j (0,1)).2=1\/(w.getD j (0,1)).2=-1
def bits:List (List Int):=(List.range 64).map fun(m:Nat)=>[(m:Int)%2,(m:Int)/2%2,(m:Int)/4%2,(m:Int)/8%2,(m:Int)/16%2,(m:Int)/32%2]
def Ay(s:Int)(a:List Int):Int:=(Q6.zip a).foldl (fun acc u=>if u.2=1 then acc*u.1 else acc) s
def uG(k p a:Int):Int:=if a=1 then k/p else k
theorem Dk:∀s∈[(1:Int),-1],∀a∈bits,Ay s a≠0/\(-30030<=Ay s a/\Ay s a<=30030)/\(0<Ay s a↔s=1)/\∀j∈List.range 6,((a.getD j 0=1->Ay s a/Q6.getD j 1*Q6.getD j 1=Ay s a)/\uG (Ay s a) (Q6.getD j 1) (a.getD j 0)%Q6.getD j 1≠0):=by decide +kernel
theorem AN:∀a0∈[(0:Int),1],∀a1∈[(0:Int),1],∀a2∈[(0:Int),1],∀a3∈[(0:Int),1],∀a4∈[(0:Int),1],∀a5∈[(0:Int),1],[a0,a1,a2,a3,a4,a5]∈bits:=by decide +kernel
theorem six{α:Type}{w:List α}(h:w.length=6):∃a b c d e f,w=[a,b,c,d,e,f]:=by
 match w,h with
 |[a,b,c,d,e,f],_=>exact⟨a,b,c,d,e,f,rfl⟩
theorem x_{s:Int}{w:List (Int×Int)}(h:w.length=6):bT s w=Ay s (w.map (·.1)):=by
 obtain⟨a,b,c,d,e,f,rfl⟩:=six h;rfl
theorem GW.bits{s:Int}{w:List (Int×Int)}(h:GW s w):w.map (·.1)∈Q.bits:=by
 obtain⟨a,b,c,d,e,f,rfl⟩:=six h.len;have z:=fun j hj=>h.a j hj;have m:∀x:Int,x=0\/x=1->x∈[(0:Int),1]:=fun x hx=>by simpa using hx
 exact AN _ (m _ (z 0 (by decide))) _ (m _ (z 1 (by decide))) _ (m _ (z 2 (by decide))) _ (m _ (z 3 (by decide))) _ (m _ (z 4 (by decide))) _ (m _ (z 5 (by decide)))
theorem GW.st{s:Int}{w:List (Int×Int)}(h:GW s w):bT s w≠0/\(-30030<=bT s w/\bT s w<=30030)/\(0<bT s w↔s=1)/\∀j,j<6->(((w.getD j (0,1)).1=1->bT s w/Q6.getD j 1*Q6.getD j 1=bT s w)/\¬Q6.getD j 1∣uG (bT s w) (Q6.getD j 1) (w.getD j (0,1)).1):=by
 have hs:s∈[(1:Int),-1]:=by simpa using h.sg
 obtain⟨h1,h2,h3,h4⟩:=Dk s hs _ h.bits;rw[<-x_ h.len] at h1 h2 h3 h4;refine⟨h1,h2,h3,fun j hj=>?_⟩;have:=h4 j (List.mem_range.mpr hj)
 have e:(w.map (·.1)).getD j 0=(w.getD j (0,1)).1:=by
  have hl:=h.len;rw[List.getD_eq_getElem?_getD,List.getD_eq_getElem?_getD,List.getElem?_map,List.getElem?_eq_getElem (by omega)];rfl
 rw[e] at this;exact⟨this.1,fun z=>this.2 (Int.emod_eq_zero_of_dvd z)⟩
theorem h7:∀j,j<6->aR (Q6.getD j 1)=true:=fun j hj=>mU _ (by
 have:j=0\/j=1\/j=2\/j=3\/j=4\/j=5:=by omega
 rcases this with rfl|rfl|rfl|rfl|rfl|rfl<;>decide)
def Hm(q:Int):Prop:=∀j,j<6->¬Q6.getD j 1∣q
theorem xp{q:Int}(hq:aR q=true)(h:17<=q):Hm q:=fun j hj z=>by
 have:=aK (h7 j hj) hq z;have:j=0\/j=1\/j=2\/j=3\/j=4\/j=5:=by omega
 rcases this with rfl|rfl|rfl|rfl|rfl|rfl<;>(simp[Q6] at *;omega)
theorem CP{s q:Int}{w:List (Int×Int)}(h:GW s w)(hq:Hm q){j:Nat}(hj:j<6):aZ (bT s w*q) (Q6.getD j 1)=((w.getD j (0,1)).1,uG (bT s w) (Q6.getD j 1) (w.getD j (0,1)).1*q)/\¬Q6.getD j 1∣uG (bT s w) (Q6.getD j 1) (w.getD j (0,1)).1*q:=by
 obtain⟨_,_,_,h4⟩:=h.st;obtain⟨e1,e2⟩:=h4 j hj;have hp:=h7 j hj;have hp2:=au hp;have hn:¬Q6.getD j 1∣uG (bT s w) (Q6.getD j 1) (w.getD j (0,1)).1*q:=fun z=>(euclid hp z).elim e2 (hq j hj);refine⟨?_,hn⟩;rcases h.a j hj with z|z
 .have e:uG (bT s w) (Q6.getD j 1) (w.getD j (0,1)).1=bT s w:=by unfold uG;rw[if_neg (by omega)]
  rw[e] at hn ⊢;rw[jm hp2 hn,z]
 .have e:uG (bT s w) (Q6.getD j 1) (w.getD j (0,1)).1=bT s w/Q6.getD j 1:=by unfold uG;rw[if_pos z]
  have e3:=e1 z;rw[e] at hn ⊢;have:=lJ (k:=bT s w/Q6.getD j 1*q) (v:=1) hp2 hn;rw[Int.pow_one,show bT s w/Q6.getD j 1*q*Q6.getD j 1=(bT s w/Q6.getD j 1*Q6.getD j 1)*q by grind,e3] at this;rw[this,z];rfl
noncomputable def vw(k s:Int)(w:List (Int×Int)):Bool:=decide ((if 0<k then 1 else -1)=s)&&(Q6.zip w).all fun u=>decide (cls k u.1=u.2)
def Fc(k p:Int):Int:=if k%p=0 then k/p else k
theorem uJ:∀j,j<5->Aw.getD j 1=Q6.getD (j+1) 1/\Aw.getD j 1∈Aw/\Aw.getD j 1≠2:=fun j hj=>by
 have:j=0\/j=1\/j=2\/j=3\/j=4:=by omega
 rcases this with rfl|rfl|rfl|rfl|rfl<;>decide
theorem ud{s q:Int}{w:List (Int×Int)}(h:GW s w)(hq:Hm q){j:Nat}(hj:j<6):Fc (bT s w*q) (Q6.getD j 1)=uG (bT s w) (Q6.getD j 1) (w.getD j (0,1)).1*q:=by
 obtain⟨_,hn⟩:=CP h hq hj;obtain⟨_,_,_,h4⟩:=h.st;obtain⟨e1,_⟩:=h4 j hj;have hp2:=au (h7 j hj);unfold Fc;rcases h.a j hj with z|z
 .have e:uG (bT s w) (Q6.getD j 1) (w.getD j (0,1)).1=bT s w:=by unfold uG;rw[if_neg (by omega)]
  rw[e] at hn ⊢;rw[if_neg fun c=>hn (Int.dvd_of_emod_eq_zero c)]
 .have e:uG (bT s w) (Q6.getD j 1) (w.getD j (0,1)).1=bT s w/Q6.getD j 1:=by unfold uG;rw[if_pos z]
  have e3:=e1 z;rw[e];generalize bT s w/Q6.getD j 1=m at *;rw[<-e3,if_pos (Int.emod_eq_zero_of_dvd ⟨m*q,by grind⟩),show m*Q6.getD j 1*q=(m*q)*Q6.getD j 1 by grind,Int.mul_ediv_cancel _ (by omega)]
theorem vk{k s:Int}{w:List (Int×Int)}(hl:w.length=6):vw k s w=true↔(if 0<k then (1:Int) else -1)=s/\∀j,j<6->cls k (Q6.getD j 1)=w.getD j (0,1):=by
 obtain⟨a,b,c,d,e,f,rfl⟩:=six hl;unfold vw;rw[Bool.and_eq_true,decide_eq_true_eq];refine and_congr Iff.rfl ?_;have:(Q6.zip [a,b,c,d,e,f])=[(2,a),(3,b),(5,c),(7,d),(11,e),(13,f)]:=rfl;rw[this];simp only[List.all_cons,List.all_nil,Bool.and_eq_true,decide_eq_true_eq,and_true];constructor
 .rintro⟨h0,h1,h2,h3,h4,h5⟩ j hj;have:j=0\/j=1\/j=2\/j=3\/j=4\/j=5:=by omega
  rcases this with rfl|rfl|rfl|rfl|rfl|rfl
  .exact h0
  .exact h1
  .exact h2
  .exact h3
  .exact h4
  .exact h5
 .intro h;exact⟨h 0 (by decide),h 1 (by decide),h 2 (by decide),h 3 (by decide),h 4 (by decide),h 5 (by decide)⟩
theorem AV{s q:Int}{w:List (Int×Int)}(h:GW s w)(hq:Hm q)(q0:0<q):vw (bT s w*q) s w=true↔Fc (bT s w*q) 2%8=(w.getD 0 (0,1)).2/\∀j,j<5->bA (Fc (bT s w*q) (Aw.getD j 1)) (Aw.getD j 1)=(w.getD (j+1) (0,1)).2:=by
 obtain⟨n0,_,hsg,_⟩:=h.st;rw[vk h.len]
 have e0:(if 0<bT s w*q then (1:Int) else -1)=s:=by
  rcases h.sg with z|z
  .rw[if_pos (Int.mul_pos (hsg.mpr z) q0),z]
  .have:¬0<bT s w:=fun c=>by have:=hsg.mp c;omega
   have:bT s w*q<0:=Int.mul_neg_of_neg_of_pos (by omega) q0;rw[if_neg (by omega),z]
 have ec:∀j,j<6->(cls (bT s w*q) (Q6.getD j 1)=w.getD j (0,1)↔(if Q6.getD j 1=2 then Fc (bT s w*q) (Q6.getD j 1)%8 else bA (Fc (bT s w*q) (Q6.getD j 1)) (Q6.getD j 1))=(w.getD j (0,1)).2):=fun j hj=>by
  obtain⟨e1,_⟩:=CP h hq hj;rw[ud h hq hj];unfold cls;rw[e1];dsimp only;have ea:(w.getD j (0,1)).1%2=(w.getD j (0,1)).1:=by rcases h.a j hj with z|z<;>rw[z]<;>decide
  rw[ea];constructor
  .intro c;rw[<-c]
  .intro c;rw[c]
 constructor
 .rintro⟨_,c⟩;refine⟨?_,fun j hj=>?_⟩
  .have:=(ec 0 (by decide)).mp (c 0 (by decide));exact this
  .obtain⟨p1,p2,p3⟩:=uJ j hj;have:=(ec (j+1) (by omega)).mp (c (j+1) (by omega));rw[<-p1,if_neg p3] at this;exact this
 .rintro⟨c0,c⟩;refine⟨e0,fun j hj=>(ec j hj).mpr ?_⟩
  match j,hj with
  |0,_=>exact c0
  |j+1,hj =>
   obtain⟨p1,p2,p3⟩:=uJ j (by omega);rw[<-p1,if_neg p3];exact c j (by omega)
def Jb:List Nat:=[17,19,23,29,31,37,41,43,47,53,59,61,67,71,73,79,83,89,97,101,103,107,109,113,127,131,137,139,149,151,157,167,173,179,181,191,193,197,199,211,223,229,233,239,241,251,257,263,269,271,277,281,283,293,307,311,313,317,331,337,349,353,389,397,401,421,439,443,461,463,467,479,491,503,509,521,563,569,587,593,601,607,613,619,631,641,643,647,683,733,739,743,751,757,773,797,823,827,839,859,863,883,937,967,997,1009,1019,1031,1061,1171,1321,1361,1381,1483,1559,1609,1621,1723,1733,1873,1913,1931,2017,2521,2689,2699,3583,8089]
def HG(q:Nat):Nat:=((List.range 46).find? fun m=>decide (q<(2*m+3)*(2*m+3))).getD 0
theorem wy:∀q∈Jb,qF q (HG q)=true/\17<=q/\q%2=1/\q<=8089/\q<(2*HG q+3)*(2*HG q+3):=by decide +kernel
def qm(q:Nat)(p:Int):Bool:=decide ((q:Int)%p∈Hk p)
theorem A2:∀c∈[1,3,5,7],∀e0∈[true,false],∀e1∈[true,false],∀e2∈[true,false],∀e3∈[true,false],∀e4∈[true,false],(Jb.any fun q=>decide (q%8=c)&&(qm q 3==e0)&&(qm q 5==e1)&&(qm q 7==e2)&&(qm q 11==e3)&&(qm q 13==e4))=true:=by decide +kernel
theorem Ib{s:Int}{w:List (Int×Int)}(h:GW s w):∃q,aR q=true/\17<=q/\q<=8089/\vw (bT s w*q) s w=true:=by
 obtain⟨m,hm⟩:∃m:Nat->Int,∀j,m j=uG (bT s w) (Q6.getD j 1) (w.getD j (0,1)).1:=⟨_,fun _=>rfl⟩;have nd:∀j,j<6->¬Q6.getD j 1∣m j:=fun j hj=>by rw[hm];exact(h.st.2.2.2 j hj).2
 have m2:m 0%2=1:=by
  have:=nd 0 (by decide);simp[Q6] at this;omega
 have hc:((m 0*(w.getD 0 (0,1)).2)%8).toNat∈[1,3,5,7]:=by
  have hu:=h.u2;simp only[List.mem_cons,List.not_mem_nil,or_false] at hu ⊢;have hr:m 0%8=1\/m 0%8=3\/m 0%8=5\/m 0%8=7:=by omega
  rw[Int.mul_emod];rcases hu with z|z|z|z<;>rcases hr with y|y|y|y<;>rw[z,y]<;>decide
 have bl:∀b:Bool,b∈[true,false]:=by decide
 obtain⟨e,he⟩:∃e:Nat->Bool,∀j,e j=(decide (bA (m (j+1)) (Aw.getD j 1)=1)==decide ((w.getD (j+1) (0,1)).2=1)):=⟨_,fun _=>rfl⟩;obtain⟨q,hq,hh⟩:=List.any_eq_true.mp (A2 _ hc (e 0) (bl _) (e 1) (bl _) (e 2) (bl _) (e 3) (bl _) (e 4) (bl _));simp only[Bool.and_eq_true,decide_eq_true_eq,beq_iff_eq] at hh;obtain⟨⟨⟨⟨⟨q8,g0⟩,g1⟩,g2⟩,g3⟩,g4⟩:=hh;obtain⟨t1,t2,t3,t4,t5⟩:=wy q hq;have hp:aR (q:Int)=true:=gm t1 (by omega) t3 t5;have cq:=xp hp (by omega);refine⟨q,hp,by omega,by omega,(AV h cq (by omega)).mpr ⟨?_,fun j hj=>?_⟩⟩
 .have:=ud h cq (show 0<6 by decide);rw[<-hm] at this;rw[show(2:Int)=Q6.getD 0 1 from rfl,this];have hu:=h.u2;simp only[List.mem_cons,List.not_mem_nil,or_false] at hu;have hr:m 0%8=1\/m 0%8=3\/m 0%8=5\/m 0%8=7:=by omega
  have q8':(q:Int)%8=(m 0*(w.getD 0 (0,1)).2)%8:=by omega
  rw[Int.mul_emod,q8',Int.mul_emod (m 0) ((w.getD 0 (0,1)).2)];rcases hu with z|z|z|z<;>rcases hr with y|y|y|y<;>rw[z,y]<;>decide
 .obtain⟨p1,p2,p3⟩:=uJ j hj;have:=ud h cq (show j+1<6 by omega);rw[<-hm] at this;rw[p1,this];have hpp:=h7 (j+1) (by omega);rw[vS hpp]
  have hqq:qm q (Q6.getD (j+1) 1)=e j:=by
   have:j=0\/j=1\/j=2\/j=3\/j=4:=by omega
   rcases this with rfl|rfl|rfl|rfl|rfl
   .exact g0
   .exact g1
   .exact g2
   .exact g3
   .exact g4
  rw[he,p1] at hqq;unfold qm at hqq;rw[p1] at p2;have hs:=DT (k:=(q:Int)) p2;have hd:decide ((q:Int)%Q6.getD (j+1) 1∈Hk (Q6.getD (j+1) 1))=decide (bA (q:Int) (Q6.getD (j+1) 1)=1):=decide_eq_decide.mpr hs.symm;rw[hd] at hqq;rcases dh (nd (j+1) (by omega)) with a|a<;>rcases dh (cq (j+1) (by omega)) with b|b<;>rcases h.u (j+1) (by omega) (by omega) with c|c<;>rw[a,b,c] at hqq<;>rw[a,b,c]<;>first|rfl|(exfalso;revert hqq;decide)
def k1(r:Int):Int:=if r=3\/r=7 then 1 else 0
def k2(r:Int):Int:=if r=3\/r=5 then 1 else 0
theorem rP{u:Int}(h:u%2=1):((u-1)/2)%2=k1 (u%8):=by
 unfold k1;split<;>omega
theorem za{u:Int}(h:u%2=1):((u*u-1)/8)%2=k2 (u%8):=by
 have e:=Int.emod_add_mul_ediv u 8;have hr:u%8=1\/u%8=3\/u%8=5\/u%8=7:=by omega
 generalize u/8=q at *;generalize hu:u%8=r at *;have e2:u*u-1=8*(2*(4*(q*q)+q*r))+(r*r-1):=by rw[<-e];grind
 rw[e2,Int.mul_add_ediv_left _ _ (by decide)];rcases hr with rfl|rfl|rfl|rfl
 .show(2*_+(1*1-1)/8)%2=k2 1;rw[show((1:Int)*1-1)/8=0 by decide];unfold k2;omega
 .rw[show((3:Int)*3-1)/8=1 by decide,show k2 3=1 from rfl];omega
 .rw[show((5:Int)*5-1)/8=3 by decide,show k2 5=1 from rfl];omega
 .rw[show((7:Int)*7-1)/8=6 by decide,show k2 7=0 from rfl];omega
theorem HJ(a b c d e f:Int):(a*b+c*d+e*f)%2=((a%2)*(b%2)+(c%2)*(d%2)+(e%2)*(f%2))%2:=by
 rw[Int.add_emod,Int.add_emod (a*b),Int.mul_emod a b,Int.mul_emod c d,Int.mul_emod e f];rw[Int.add_emod ((a%2)*(b%2)+(c%2)*(d%2)),Int.add_emod ((a%2)*(b%2))]
theorem AO:∀r∈[(1:Int),3,5,7],∀t∈[(1:Int),3,5,7],∀A∈[(0:Int),1],∀B∈[(0:Int),1],decide ((k1 r*k1 t+A*k2 t+B*k2 r)%2=0)=fc (A,r) (B,t):=by decide
theorem mod2(A:Int):A%2∈[(0:Int),1]:=by
 have:A%2=0\/A%2=1:=by omega
 rcases this with e|e<;>rw[e]<;>decide
theorem B9{u v A B:Int}(hu:u%2=1)(hv:v%2=1):decide (((u-1)/2*((v-1)/2)+A*((v*v-1)/8)+B*((u*u-1)/8))%2=0)=fc (A%2,u%8) (B%2,v%8):=by
 rw[HJ,rP hu,rP hv,za hu,za hv];exact AO _ (FO hu) _ (FO hv) _ (mod2 A) _ (mod2 B)
theorem Bh:∀x∈[(1:Int),-1],∀y∈[(1:Int),-1],∀A∈[(0:Int),1],∀B∈[(0:Int),1],∀m∈[(0:Int),1],decide ((A*B*m+(if x≠1 then B else 0)+(if y≠1 then A else 0))%2=0)=i5 (A,x) (B,y) (if m=1 then -1 else 1):=by decide
theorem AA{p u v A B:Int}(hp:aR p=true)(h2:p≠2)(hu:¬p∣u)(hv:¬p∣v):decide ((A*B*((p-1)/2)+(if bA u p≠1 then B else 0)+(if bA v p≠1 then A else 0))%2=0)=i5 (A%2,bA u p) (B%2,bA v p) (bA (-1) p):=by
 have p2:=au hp;have od:p%2=1:=by rcases bC.mp hp with z|z<;>omega
 have em:bA (-1) p=if ((p-1)/2)%2=1 then -1 else 1:=by
  rw[oE hp h2];by_cases z:p%4=3
  .rw[if_pos z,if_pos (by omega)]
  .rw[if_neg z,if_neg (by omega)]
 have pm:∀{w:Int},¬p∣w->bA w p∈[(1:Int),-1]:=fun {w} h=>by
  rcases dh h with e|e<;>rw[e]<;>decide
 have key:(A*B*((p-1)/2)+(if bA u p≠1 then B else 0)+(if bA v p≠1 then A else 0))%2=((A%2)*(B%2)*(((p-1)/2)%2)+(if bA u p≠1 then B%2 else 0)+(if bA v p≠1 then A%2 else 0))%2:=by
  have e1:(A*B*((p-1)/2))%2=((A%2)*(B%2)*(((p-1)/2)%2))%2:=by
   rw[Int.mul_emod,Int.mul_emod A B,<-Int.mul_emod ((A%2)*(B%2)),Int.mul_emod ((A%2)*(B%2)) (((p-1)/2)%2),Int.emod_emod_of_dvd _ (Int.dvd_refl 2),<-Int.mul_emod]
  have e2:∀(c:Prop) [Decidable c] (Z:Int),(if c then Z else 0)%2=(if c then Z%2 else 0)%2:=fun c _ Z=>by split<;>omega
  have h3:=e2 (bA u p≠1) B;have h4:=e2 (bA v p≠1) A;generalize (if bA u p≠1 then B else 0)=X1 at *;generalize (if bA u p≠1 then B%2 else 0)=X2 at *;generalize (if bA v p≠1 then A else 0)=Y1 at *;generalize (if bA v p≠1 then A%2 else 0)=Y2 at *;generalize A*B*((p-1)/2)=Z1 at *;generalize A%2*(B%2)*((p-1)/2%2)=Z2 at *;omega
 rw[key,em];exact Bh _ (pm hu) _ (pm hv) _ (mod2 A) _ (mod2 B) _ (mod2 _)
def PW:List Int:=[2,3,5,7,11,13,17,19,23,29,31,97,101,997,10007,32771,32779,40009,40013]
def du:Nat->List Int
 |0=>[1,-1]
 |i+1=>du i++(du i).map fun k=>k*Q6.getD i 1
theorem AI:∀i,i<=6->(du i).length<=128:=by decide +kernel
theorem oy:(du 6).length=128/\∀k∈du 6,k≠0/\-30030<=k/\k<=30030/\30030%k=0:=by decide +kernel
theorem Ey:∀s∈[(1:Int),-1],∀a∈bits,Ay s a∈du 6:=by decide +kernel
theorem EL:∀i,i<=6->∀k∈du i,-30030<=k/\k<=30030:=by decide +kernel
def P7:List Int:=[0,2,3,5,7,11,13]
noncomputable def d9(k p:Int):Int⊕(Int×Int):=if p=0 then .inl (if 0<k then 1 else -1) else .inr (cls k p)
def k7(a b:Int⊕(Int×Int))(p:Int):Int⊕(Int×Int):=match a,b with
 |.inl x,.inl y=>.inl (x*y)
 |.inr u,.inr v=>.inr (fS u v p)
 |_,_=>.inl 0
theorem eX:∀p∈Q6,aR p=true:=fun p hp=>by
 obtain⟨j,hj,e⟩:=List.mem_iff_getElem.mp hp;have hj':j<6:=hj;have:=h7 j hj';rw[List.getD_eq_getElem?_getD,List.getElem?_eq_getElem hj,e] at this;exact this
theorem cc{p:Int}(h:p∈P7):p=0\/(p≠0/\aR p=true/\p∈Q6):=by
 have:p=0\/p∈Q6:=List.mem_cons.mp h;rcases this with z|z
 .exact .inl z
 .have q:=eX p z;have:=au q;exact .inr ⟨by omega,q,z⟩
theorem jS{p a b:Int}(hp:p∈P7)(ha:a≠0)(hb:b≠0):k7 (d9 a p) (d9 b p) p=d9 (a*b) p:=by
 rcases cc hp with rfl|⟨p0,pp,_⟩
 .unfold d9 k7;rw[if_pos rfl,if_pos rfl,if_pos rfl];show Sum.inl _=Sum.inl _;congr 1;rcases Int.lt_or_gt_of_ne ha with x|x<;>rcases Int.lt_or_gt_of_ne hb with y|y
  .rw[if_neg (by omega),if_neg (by omega),if_pos (Int.mul_pos_of_neg_of_neg x y)];rfl
  .rw[if_neg (by omega),if_pos y,if_neg (by have:=Int.mul_neg_of_neg_of_pos x y;omega)];rfl
  .rw[if_pos x,if_neg (by omega),if_neg (by have:=Int.mul_neg_of_pos_of_neg x y;omega)];rfl
  .rw[if_pos x,if_pos y,if_pos (Int.mul_pos x y)];rfl
 .unfold d9 k7;rw[if_neg p0,if_neg p0,if_neg p0];show Sum.inr _=Sum.inr _;rw[eF pp ha hb]
theorem yr{p a r:Int}(hp:p∈P7)(ha:a≠0)(hr:r≠0):d9 (a*r*r) p=d9 a p:=by
 rcases cc hp with rfl|⟨p0,pp,_⟩
 .unfold d9;rw[if_pos rfl,if_pos rfl];congr 1
  have q:0<r*r:=by
   rcases Int.lt_or_gt_of_ne hr with z|z
   .exact Int.mul_pos_of_neg_of_neg z z
   .exact Int.mul_pos z z
  rw[Int.mul_assoc];by_cases z:0<a
  .rw[if_pos z,if_pos (Int.mul_pos z q)]
  .rw[if_neg z,if_neg (by have:=Int.mul_neg_of_neg_of_pos (show a<0 by omega) q;omega)]
 .unfold d9;rw[if_neg p0,if_neg p0,tE pp ha hr]
theorem rY{p f k n:Int}(hp:p∈P7)(hf:f≠0)(hk:k≠0)(hn:n≠0):d9 k p=k7 (d9 f p) (d9 n p) p↔d9 (k*f) p=d9 n p:=by
 rw[jS hp hf hn];constructor
 .intro h;rw[<-jS hp hk hf,h,jS hp (Int.mul_ne_zero hf hn) hf,show f*n*f=n*f*f by grind,yr hp hn hf]
 .intro h;rw[<-jS hp hf hn,<-h,jS hp hf (Int.mul_ne_zero hk hf),show f*(k*f)=k*f*f by grind,yr hp hk hf]
theorem gp{n p:Int}(hp:aR p=true)(hn:n≠0):((cls n p).1=0\/(cls n p).1=1)/\(p=2->(cls n p).2∈[(1:Int),3,5,7])/\(p≠2->(cls n p).2=1\/(cls n p).2=-1):=by
 have t:=gK (au hp) hn;have nd:¬p∣(aZ n p).2:=t.2.2;refine⟨?_,fun h2=>?_,fun h2=>?_⟩
 .show(aZ n p).1%2=0\/(aZ n p).1%2=1;omega
 .show(if p=2 then (aZ n p).2%8 else bA (aZ n p).2 p)∈_;rw[if_pos h2];rw[h2] at nd;have:(aZ n 2).2%8=1\/(aZ n 2).2%8=3\/(aZ n 2).2%8=5\/(aZ n 2).2%8=7:=by omega
  rw[h2];simp only[List.mem_cons,List.not_mem_nil,or_false];exact this
 .show(if p=2 then (aZ n p).2%8 else bA (aZ n p).2 p)=1\/(if p=2 then (aZ n p).2%8 else bA (aZ n p).2 p)=-1;rw[if_neg h2];exact dh nd
theorem x6{ns:List Int}(hl:ns.length=7)(h0:∀n∈ns,n≠0):∃k q,k∈du 6/\aR q=true/\17<=q/\q<=8089/\∀j,j<7->d9 (k*q) (P7.getD j 0)=d9 (ns.getD j 1) (P7.getD j 0):=by
 obtain⟨n0,n1,n2,n3,n4,n5,n6,rfl⟩:∃a b c d e f g,ns=[a,b,c,d,e,f,g]:=by
  match ns,hl with
  |[a,b,c,d,e,f,g],_=>exact⟨a,b,c,d,e,f,g,rfl⟩
 have m:∀n,n∈[n0,n1,n2,n3,n4,n5,n6]->n≠0:=h0
 have h:GW (if 0<n0 then 1 else -1) [cls n1 2,cls n2 3,cls n3 5,cls n4 7,cls n5 11,cls n6 13]:=by
  have c1:=gp (n:=n1) (p:=2) (eX 2 (by decide)) (m _ (by simp));have c2:=gp (n:=n2) (p:=3) (eX 3 (by decide)) (m _ (by simp));have c3:=gp (n:=n3) (p:=5) (eX 5 (by decide)) (m _ (by simp));have c4:=gp (n:=n4) (p:=7) (eX 7 (by decide)) (m _ (by simp));have c5:=gp (n:=n5) (p:=11) (eX 11 (by decide)) (m _ (by simp));have c6:=gp (n:=n6) (p:=13) (eX 13 (by decide)) (m _ (by simp));refine⟨by split<;>simp,rfl,fun j hj=>?_,c1.2.1 rfl,fun j h1 hj=>?_⟩
  .have:j=0\/j=1\/j=2\/j=3\/j=4\/j=5:=by omega
   rcases this with rfl|rfl|rfl|rfl|rfl|rfl
   .exact c1.1
   .exact c2.1
   .exact c3.1
   .exact c4.1
   .exact c5.1
   .exact c6.1
  .have:j=1\/j=2\/j=3\/j=4\/j=5:=by omega
   rcases this with rfl|rfl|rfl|rfl|rfl
   .exact c2.2.2 (by decide)
   .exact c3.2.2 (by decide)
   .exact c4.2.2 (by decide)
   .exact c5.2.2 (by decide)
   .exact c6.2.2 (by decide)
 obtain⟨q,q1,q2,q3,q4⟩:=Ib h;have ha:=(vk (k:=bT _ _*q) h.len).mp q4;refine⟨bT (if 0<n0 then 1 else -1) [cls n1 2,cls n2 3,cls n3 5,cls n4 7,cls n5 11,cls n6 13],q,?_,q1,q2,q3,fun j hj=>?_⟩
 .rw[x_ h.len];exact Ey _ (by rcases h.sg with z|z<;>rw[z]<;>simp) _ h.bits
 .have:j=0\/j=1\/j=2\/j=3\/j=4\/j=5\/j=6:=by omega
  rcases this with rfl|rfl|rfl|rfl|rfl|rfl|rfl
  .exact congrArg Sum.inl ha.1
  .exact congrArg Sum.inr (ha.2 0 (by decide))
  .exact congrArg Sum.inr (ha.2 1 (by decide))
  .exact congrArg Sum.inr (ha.2 2 (by decide))
  .exact congrArg Sum.inr (ha.2 3 (by decide))
  .exact congrArg Sum.inr (ha.2 4 (by decide))
  .exact congrArg Sum.inr (ha.2 5 (by decide))
def jn(a b:Int):Int:=a.fdiv ((Int.gcd a b:Nat):Int)*b.fdiv ((Int.gcd a b:Nat):Int)
theorem yY{a b:Int}(ha:a≠0):∃g u v,0<g/\a=g*u/\b=g*v/\jn a b=u*v/\Int.gcd u v=1:=by
 obtain⟨u,hu⟩:=Int.gcd_dvd_left a b;obtain⟨v,hv⟩:=Int.gcd_dvd_right a b;have g0:((Int.gcd a b:Nat):Int)≠0:=fun z=>ha (by rw[hu,z,Int.zero_mul])
 have eu:a.fdiv ((Int.gcd a b:Nat):Int)=u:=by
  have:=Int.mul_fdiv_cancel_left u g0;rw[<-hu] at this;exact this
 have ev:b.fdiv ((Int.gcd a b:Nat):Int)=v:=by
  have:=Int.mul_fdiv_cancel_left v g0;rw[<-hv] at this;exact this
 have u0:u≠0:=fun z=>ha (by rw[hu,z,Int.mul_zero]);refine⟨((Int.gcd a b:Nat):Int),u,v,by omega,hu,hv,by unfold jn;rw[eu,ev],ki (fun q hq ⟨s,hs⟩ ⟨t,ht⟩=>?_) u0⟩;have h1:((Int.gcd a b:Nat):Int)*q∣a:=⟨s,by rw[Int.mul_assoc,<-hs];exact hu⟩;have h2:((Int.gcd a b:Nat):Int)*q∣b:=⟨t,by rw[Int.mul_assoc,<-ht];exact hv⟩;have h3:=Int.dvd_coe_gcd h1 h2;have h4:=Int.le_of_dvd (by omega) h3;have:=au hq;have:=Int.mul_le_mul_of_nonneg_left (show(2:Int)<=q by omega) (show(0:Int)<=((Int.gcd a b:Nat):Int) by omega);omega
theorem GC{a b:Int}(ha:a≠0):∃g u,0<g/\a=g*u/\a*b=jn a b*(g*g):=by
 obtain⟨g,u,v,g0,e1,e2,e3,_⟩:=yY (b:=b) ha;refine⟨g,u,g0,e1,?_⟩;rw[e3,e1,e2];grind
theorem CW{a b m:Int}(ha:a≠0)(h1:a∣m)(h2:b∣m):jn a b∣m:=by
 obtain⟨g,u,v,g0,e1,e2,e3,e4⟩:=yY (b:=b) ha;rw[e3];have d1:u∣m:=Int.dvd_trans ⟨g,by rw[e1,Int.mul_comm]⟩ h1;have d2:v∣m:=Int.dvd_trans ⟨g,by rw[e2,Int.mul_comm]⟩ h2;have c:Nat.Coprime u.natAbs v.natAbs:=e4;have:=Nat.Coprime.mul_dvd_of_dvd_of_dvd c (Int.natAbs_dvd_natAbs.mpr d1) (Int.natAbs_dvd_natAbs.mpr d2);rw[<-Int.natAbs_mul] at this;exact Int.natAbs_dvd_natAbs.mp this
theorem HH:∀d∈List.range 174,2<=d->30030%(d*d)≠0:=by decide +kernel
theorem uN:iP 30030:=⟨by decide,fun d hd z=>by
 have h1:=Int.le_of_dvd (by decide) z
 have hl:d<174:=by
  apply Classical.byContradiction;intro hn;have:=Int.mul_le_mul (show(174:Int)<=d by omega) (show(174:Int)<=d by omega) (by decide) (by omega);omega
 obtain⟨n,rfl⟩:=Int.eq_ofNat_of_zero_le (show 0<=d by omega);have:=HH n (List.mem_range.mpr (by omega)) (by omega)
 have z':n*n∣30030:=by
  have:=Int.natAbs_dvd_natAbs.mpr z;rw[Int.natAbs_mul] at this;exact this
 exact this (Nat.mod_eq_zero_of_dvd z')⟩
theorem lq{k:Int}(h:k∈du 6):k∣30030:=Int.dvd_of_emod_eq_zero (oy.2 k h).2.2.2
theorem lD{k:Int}(h:k∈du 6):iP k:=oS uN (lq h)
theorem Ad{q:Int}(hq:aR q=true)(h:q∣30030):q∈Q6:=by
 have e:(30030:Int)=2*(3*(5*(7*(11*13)))):=by decide
 rw[e] at h;have m:∀{p:Int},p∈Q6->q∣p->q∈Q6:=fun {p} hp hd=>by rw[aK hq (eX p hp) hd];exact hp
 rcases euclid hq h with z|h
 .exact m (by decide) z
 rcases euclid hq h with z|h
 .exact m (by decide) z
 rcases euclid hq h with z|h
 .exact m (by decide) z
 rcases euclid hq h with z|h
 .exact m (by decide) z
 rcases euclid hq h with z|h
 .exact m (by decide) z
 .exact m (by decide) h
theorem l9{k q:Int}(h:k∈du 6)(hq:aR q=true)(hd:q∣k):q∈Q6:=Ad hq (Int.dvd_trans hd (lq h))
theorem pQ:∀k∈du 6,-k∈du 6/\(k.natAbs:Int)∈du 6/\jn k 1=k/\jn k (-1)=-k:=by decide +kernel
theorem mP:∀n∈du 6,∀s∈[(1:Int),-1],s*((jn n 30030).natAbs:Int)∈du 6/\jn n (s*((jn n 30030).natAbs:Int))=(if 0<n then s else -s)*30030/\(0<s*((jn n 30030).natAbs:Int)↔s=1):=by decide +kernel
theorem yj:qh Q6:=⟨by decide,eX,by decide⟩
theorem CS{k:Int}(h:k∈du 6):Gr Q6 k:=⟨(oy.2 k h).1,fun _ hq hd=>l9 h hq hd⟩
noncomputable def nD(k p:Int):Bool:=if p=0 then decide (0<k) else decide (cls k p=(0,1))
theorem Dx:∀p∈Q6,∀s∈[(1:Int),-1],(cls (s*30030) p).1=1:=by
 intro p hp s hs;have key:∀p∈Q6,∀s∈[(1:Int),-1],s*30030=s*(30030/p)*p/\¬p∣s*(30030/p)/\2<=p:=by decide +kernel
 obtain⟨h1,h2,h3⟩:=key p hp s hs
 have:aZ (s*30030) p=(1,s*(30030/p)):=by
  have:=lJ (v:=1) h3 h2;rw[Int.pow_succ,Int.pow_zero,Int.one_mul,<-h1] at this;exact this
 show(aZ (s*30030) p).1%2=1;rw[this];rfl
theorem xE{p s:Int}(hp:p∈Q6)(hs:s∈[(1:Int),-1]):nD (s*30030) p=false:=by
 have:=au (eX p hp);unfold nD;rw[if_neg (by omega)];refine decide_eq_false fun z=>?_;have:=Dx p hp s hs;rw[z] at this;cases this
noncomputable def t6(p:Int):List Int:=if p=0 then [1,-1] else if p=2 then [1,3,5,7,2,6,10,14] else [1,qf p,p,p*qf p]
theorem x4{p:Int}(hp:p∈P7):∀k∈t6 p,k≠0:=fun k hk=>by
 unfold t6 at hk;split at hk
 .simp only[List.mem_cons,List.not_mem_nil,or_false] at hk;omega
 .rename_i h0;split at hk
  .simp only[List.mem_cons,List.not_mem_nil,or_false] at hk;omega
  .rename_i h2;obtain⟨_,pp,_⟩:=(cc hp).resolve_left h0;have n:=(oU (tL pp h2)).1;simp only[List.mem_cons,List.not_mem_nil,or_false] at hk;rcases hk with rfl|rfl|rfl|rfl
   .decide
   .omega
   .exact h0
   .exact Int.mul_ne_zero h0 (by omega)
theorem xy(p:Int):(t6 p).length<=8:=by unfold t6;split;decide;split<;>simp
theorem FF:∀c∈C2,c≠(0,1)->fc (0,3) c=false\/fc (0,5) c=false\/fc (1,1) c=false:=by decide
theorem Ha:∀c∈CO,c≠(0,1)->∀m∈[(1:Int),-1],i5 (1,1) c m=false\/i5 (0,-1) c m=false:=by decide
theorem EJ{p n:Int}(hp:p∈P7)(hn:n≠0)(c:Bool)(h:c=false->nD n p=false):∃k∈t6 p,aq k n p=c:=by
 have pl:Pl p:=by
  rcases cc hp with z|z
  .exact .inl z
  .exact .inr z.2.1
 cases c with
 |true =>
  refine⟨1,?_,?_⟩
  .unfold t6;split;simp;split<;>simp
  .rw[e9 pl hn (by decide)];exact ma (r:=1) pl hn (by decide)
 |false =>
  have h:=h rfl;unfold nD at h;unfold t6;by_cases h0:p=0
  .subst h0;rw[if_pos rfl] at h;rw[if_pos rfl];refine⟨-1,by simp,?_⟩;rw[aH,h];rfl
  rw[if_neg h0] at h;rw[if_neg h0];have h:=of_decide_eq_false h;by_cases h2:p=2
  .subst h2;rw[if_pos rfl];have c3:cls 3 2=(0,3):=by rw[iA (by decide) (by decide)];rfl
   have c5:cls 5 2=(0,5):=by rw[iA (by decide) (by decide)];rfl
   rcases FF _ (cV hn) h with z|z|z
   .exact⟨3,by simp,by rw[aS,c3];exact z⟩
   .exact⟨5,by simp,by rw[aS,c5];exact z⟩
   .exact⟨2,by simp,by rw[aS,yT];exact z⟩
  .rw[if_neg h2];obtain⟨_,pp,_⟩:=(cc hp).resolve_left h0;have p2:=au pp;obtain⟨n1,n2,_⟩:=oU (tL pp h2)
   have nd:¬p∣qf p:=fun z=>by
    rw[g5 z] at n2;cases n2
   have cn:cls (qf p) p=(0,-1):=by rw[iA p2 nd,if_neg h2,n2]
   have cp:cls p p=(1,1):=by
    have nd1:¬p∣1:=fun z=>by have:=Int.le_of_dvd (by decide) z;omega
    have:=lJ (v:=1) p2 nd1;rw[Int.pow_succ,Int.pow_zero,Int.one_mul,Int.one_mul] at this;unfold cls;rw[this,if_neg h2];have:bA 1 p=1:=nq pp h2 ⟨0,by omega⟩;dsimp only;rw[this];rfl
   rcases Ha _ (c9 p2 h2 hn) h _ (rR p2) with z|z
   .exact⟨p,by simp,by rw[ba h0 h2,cp];exact z⟩
   .exact⟨qf p,by simp,by rw[ba h0 h2,cn];exact z⟩
theorem yA{a k c p:Int}(h:d9 a p=d9 k p):aq a c p=aq k c p:=by
 unfold d9 at h;by_cases h0:p=0
 .subst h0;rw[if_pos rfl,if_pos rfl] at h;have e:=Sum.inl.inj h;rw[aH,aH];congr 1;by_cases x:0<a<;>by_cases y:0<k<;>simp[x,y] at e ⊢
 .rw[if_neg h0,if_neg h0] at h;have e:=Sum.inr.inj h;unfold aq;rw[if_neg h0,if_neg h0,e]
def y4:List Int->Int
 |[]=>1
 |x::xs=>x*y4 xs
structure Due(s g n:Int)(ns:List Int):Prop where
 s1:1<=s
 s8:s<=8
 g0:0<=g
 gs:g<=s
 nm:n∈du 6
 sub:∀p∈ns,p∈P7
 len:ns.length<=7
 sg:n<0↔(s-g)%2=1
 ev:iO P7 (fun p=>!decide (p∈ns))=true
 z:(0:Int)∈ns↔(s-g)*(s-g-1)/2%2=1
 one:s=1->ns=[]
 two:s=2->∀p∈ns,nD (-n) p=false
structure Res(s g n:Int)(ns row:List Int):Prop where
 len:(row.length:Int)=s
 nz:∀x∈row,iP x/\x.natAbs<1073741824
 sg:((row.filter fun k=>decide (0<k)).length:Int)=g
 pr:∃t,0<t/\y4 row=n*(t*t)
 no:∀p,Pl p->qv p row=!decide (p∈ns)
 fw:∃q,∀x∈row,∀r,aR r=true->r∣x->r∈q::Q6
theorem uT{a p:Int}(hp:Pl p)(ha:a≠0):∀{row:List Int},(∀x∈row,x≠0)->iO row (fun b=>aq a b p)=aq a (y4 row) p/\y4 row≠0
 |[],_=>⟨(ma (r:=1) hp ha (by decide)).symm,by show(1:Int)≠0;decide⟩
 |x::xs,h=>by
  obtain⟨e,n⟩:=uT (row:=xs) hp ha fun y hy=>h y (List.mem_cons_of_mem _ hy);have x0:=h x List.mem_cons_self;refine⟨?_,Int.mul_ne_zero x0 n⟩;rw[bN,e];exact(il hp ha x0 n).symm
theorem Bc{p:Int}(h:p∈P7):Pl p:=by
 rcases cc h with z|z
 .exact .inl z
 .exact .inr z.2.1
theorem Cr{p:Int}(hp:Pl p)(h:p∉P7):aR p=true/\p≠2/\p∉Q6:=by
 rcases hp with z|z
 .exact absurd (by rw[z];decide) h
 .exact⟨z,fun e=>h (by rw[e];decide),fun e=>h (List.mem_cons_of_mem _ e)⟩
theorem bj{k:Int}(h:k∈du 6):k≠0:=(oy.2 k h).1
theorem dW{k:Int}(h:k∈du 6):k.natAbs<=30030:=by have:=oy.2 k h;omega
theorem BA{g n:Int}{ns:List Int}(h:Due 1 g n ns):Res 1 g n ns [n]:=by
 have hn:=h.nm;have n0:=bj hn;have e:=h.one rfl;refine⟨rfl,fun x hx=>?_,?_,⟨1,by decide,by show n*1=n*(1*1);rfl⟩,fun p _=>by rw[e];rfl,0,fun x hx r hr hd=>?_⟩
 .rw[List.mem_singleton.mp hx];exact⟨lD hn,by have:=dW hn;omega⟩
 .have a:=h.sg;have b:=h.g0;have c:=h.gs;by_cases z:0<n
  .rw[List.filter_cons_of_pos (by simpa using z)];show((0+1:Nat):Int)=g;omega
  .rw[List.filter_cons_of_neg (by simpa using z)];show((0:Nat):Int)=g;omega
 .rw[List.mem_singleton.mp hx] at hd;exact List.mem_cons_of_mem _ (l9 hn hr hd)
theorem AR{g n k q:Int}{ns:List Int}(h:Due 2 g n ns)(hk:k∈du 6)(hq:q=1\/(aR q=true/\17<=q/\q<=8089))(hc:∀p∈P7,aq (k*q) (-n) p=!decide (p∈ns)):Res 2 g n ns [k*q,jn (k*q) n]:=by
 have hn:=h.nm;have n0:=bj hn;have k0:=bj hk;have q1:1<=q/\q<=8089:=by omega
 have a0:k*q≠0:=Int.mul_ne_zero k0 (by omega)
 have sq:iP (30030*q):=by
  rcases hq with z|z
  .rw[z];exact uN
  .exact fG uN z.1 fun d=>by
    have:=Ad z.1 d;simp only[Q6,List.mem_cons,List.not_mem_nil,or_false] at this;omega
 have da:k*q∣30030*q:=Int.mul_dvd_mul (lq hk) (Int.dvd_refl q);have dn:n∣30030*q:=Int.dvd_trans (lq hn) (Int.dvd_mul_right _ _);have db:=CW a0 da dn;obtain⟨t,u,t0,eu,e⟩:=GC (b:=n) a0
 have pa:∀r,aR r=true->r∣30030*q->r∈q::Q6:=fun r hr hd=>by
  rcases euclid hr hd with z|z
  .exact List.mem_cons_of_mem _ (Ad hr z)
  .rcases hq with w|w
   .rw[w] at z;have:=Int.le_of_dvd (by decide) z;have:=au hr;omega
   .rw[aK hr w.1 z];exact List.mem_cons_self
 have fw:∀x∈[k*q,jn (k*q) n],∀r,aR r=true->r∣x->r∈q::Q6:=fun x hx r hr hd=>by
  simp only[List.mem_cons,List.not_mem_nil,or_false] at hx;rcases hx with rfl|rfl
  .exact pa r hr (Int.dvd_trans hd da)
  .exact pa r hr (Int.dvd_trans hd db)
 generalize hb:jn (k*q) n=b at *;generalize ha:k*q=a at *;have b0:b≠0:=fun z=>by rw[z,Int.zero_mul] at e;exact Int.mul_ne_zero a0 n0 e
 have bd:∀{x:Int},x≠0->x∣30030*q->x.natAbs<1073741824:=fun {x} x0 hd=>by
  have:=Int.le_of_dvd (b:=30030*q) (by omega) (Int.natAbs_dvd.mpr hd);omega
 have t1:t≠0:=by omega
 have say:∀p,Pl p->aq a b p=aq a (-n) p:=fun p hp=>by
  rw[<-rZ hp a0 b0 t1,Int.mul_assoc,<-e,il hp a0 a0 n0,ou hp a0,<-il hp a0 (by decide) n0];congr 1;omega
 have hqv:∀p,qv p [a,b]=aq a b p:=fun p=>by
  show(iO [b] (fun b=>aq a b p)==(iO [] (fun c=>aq b c p)==true))=_;rw[bN,o9];cases aq a b p<;>rfl
 have pos:0<a*n↔0<b:=by
  rw[e];constructor
  .intro z;exact Int.pos_of_mul_pos_left z (Int.mul_pos t0 t0)
  .intro z;exact Int.mul_pos z (Int.mul_pos t0 t0)
 rw[dP a0 n0] at pos;refine⟨rfl,fun x hx=>?_,?_,⟨(u.natAbs:Int),?_⟩,fun p hp=>?_,q,fw⟩
 .simp only[List.mem_cons,List.not_mem_nil,or_false] at hx;rcases hx with rfl|rfl
  .exact⟨oS sq da,bd a0 da⟩
  .exact⟨oS sq db,bd b0 db⟩
 .have z1:=hc 0 (by decide);rw[aH] at z1;have h1:=h.sg;have h2:=h.z;have h3:=h.g0;have h4:=h.gs;have gg:g=0\/g=1\/g=2:=by omega
  by_cases x:0<a
  .by_cases y:0<b
   .have w:0<n:=(pos.mpr y).mp x
    have nz:(0:Int)∉ns:=fun m=>by
     rw[decide_eq_true x,decide_eq_true m] at z1;cases z1
    rw[List.filter_cons_of_pos (by simpa using x),List.filter_cons_of_pos (by simpa using y)];show((2:Nat):Int)=g;rcases gg with rfl|rfl|rfl
    .exact absurd (h2.mpr (by decide)) nz
    .have:=h1.mpr (by decide);omega
    .rfl
   .have w:¬0<n:=fun w=>y (pos.mp ⟨fun _=>w,fun _=>x⟩);rw[List.filter_cons_of_pos (by simpa using x),List.filter_cons_of_neg (by simpa using y)];show((1:Nat):Int)=g;have:=h1.mp (by omega);omega
  .by_cases y:0<b
   .have w:¬0<n:=fun w=>x ((pos.mpr y).mpr w);rw[List.filter_cons_of_neg (by simpa using x),List.filter_cons_of_pos (by simpa using y)];show((1:Nat):Int)=g;have:=h1.mp (by omega);omega
   .have w:0<n:=by
     apply Classical.byContradiction;intro w;exact y (pos.mp ⟨fun z=>absurd z x,fun z=>absurd z w⟩)
    have nz:(0:Int)∈ns:=by
     apply Classical.byContradiction;intro m;rw[decide_eq_false x,decide_eq_false m,decide_eq_false (show ¬0 < -n by omega)] at z1;cases z1
    rw[List.filter_cons_of_neg (by simpa using x),List.filter_cons_of_neg (by simpa using y)];show((0:Nat):Int)=g;rcases gg with rfl|rfl|rfl
    .rfl
    .have:=h2.mp nz;revert this;decide
    .have:=h2.mp nz;revert this;decide
 .have u0:u≠0:=fun z=>by rw[z,Int.mul_zero] at eu;exact a0 eu
  refine⟨by omega,?_⟩;have uu:(u.natAbs:Int)*(u.natAbs:Int)=u*u:=Int.natAbs_mul_self' u;rw[uu];have e1:u*n=b*t:=Int.eq_of_mul_eq_mul_left t1 (by rw[<-Int.mul_assoc,<-eu,e];grind);show a*(b*1)=n*(u*u);rw[Int.mul_one,eu,show t*u*b=u*(b*t) by grind,<-e1];grind
 .rw[hqv];by_cases m:p∈P7
  .rw[say p hp];exact hc p m
  .obtain⟨pp,p2,p6⟩:=Cr hp m;rw[decide_eq_false (fun z=>m (h.sub p z))];show aq a b p=true;by_cases pq:p=q
   .have hqp:aR q=true:=pq▸pp
    have L:qh (q :: Q6):=⟨List.nodup_cons.mpr ⟨pq ▸ p6,yj.nd⟩,fun r hr=>by
     rcases List.mem_cons.mp hr with z|z
     .rw[z];exact hqp
     .exact eX r z,List.mem_cons_of_mem _ yj.two⟩
    have ev:=qI L (x:=a) (y:=b) ⟨a0,fun r hr hd=>fw a (by simp) r hr hd⟩ ⟨b0,fun r hr hd=>fw b (by simp) r hr hd⟩
    have e7:iO P7 (aq a b)=true:=by
     rw[<-h.ev];exact ig fun r hr=>by rw[say r (Bc hr)];exact hc r hr
    have e1:kJ (q::Q6) a b=(aq a b 0==(aq a b q==iO Q6 (aq a b))):=by
     unfold kJ;rw[bN,bN]
    have e2:iO P7 (aq a b)=(aq a b 0==iO Q6 (aq a b)):=bN 0 Q6 _;rw[e1] at ev;rw[e2] at e7;rw[pq];revert ev e7;cases aq a b 0<;>cases aq a b q<;>cases iO Q6 (aq a b)<;>simp
   .refine fQ pp p2 (fun d=>?_) fun d=>?_
    .rcases List.mem_cons.mp (fw a (by simp) p pp d) with z|z
     .exact pq z
     .exact p6 z
    .rcases List.mem_cons.mp (fw b (by simp) p pp d) with z|z
     .exact pq z
     .exact p6 z
theorem Ji(b:Int)(h0:1<=b)(h8:b<=8):((b-1)*(b-1-1)/2%2=1)↔¬(((b*(b-1)/2)%2=1)↔(b-1)%2=1):=by
 have:b=1\/b=2\/b=3\/b=4\/b=5\/b=6\/b=7\/b=8:=by omega
 rcases this with rfl|rfl|rfl|rfl|rfl|rfl|rfl|rfl<;>decide
structure Fh(s g n f l:Int):Prop where
 fm:f∈du 6
 lm:l∈du 6
 fs:0<f↔0<g
 ls:0<l↔(0<n↔0<f)
 pr:∃t,0<t/\f*l=n*(t*t)
 t3:s=3->l=30030\/l=-30030
theorem xX{n f l:Int}(hn:n≠0)(hf:f≠0)(e:l=jn n f):∃t,0<t/\f*l=n*(t*t):=by
 obtain⟨g,u,v,g0,e1,e2,e3,_⟩:=yY (b:=f) hn;have v0:v≠0:=fun z=>by rw[z,Int.mul_zero] at e2;exact hf e2
 refine⟨(v.natAbs:Int),by omega,?_⟩;have vv:(v.natAbs:Int)*(v.natAbs:Int)=v*v:=Int.natAbs_mul_self' v;rw[vv,e,e3,e1,e2];grind
theorem Fe:(30030:Int)∈du 6/\(-30030:Int)∈du 6/\(1:Int)∈du 6/\(-1:Int)∈du 6:=by decide +kernel
theorem E1{s g n f:Int}(hn:n∈du 6)(hf:f=(if 0<g then (1:Int) else -1)*(if s=3 then ((jn n 30030).natAbs:Int) else 1)):Fh s g n f (jn n f):=by
 have n0:=bj hn;by_cases h3:s=3
 .rw[if_pos h3] at hf;by_cases hg:0<g
  .rw[if_pos hg] at hf;obtain⟨h1,h2,h4⟩:=mP n hn 1 (by decide);rw[<-hf] at h1 h2 h4;refine⟨h1,?_,⟨fun _=>hg,fun _=>h4.mpr rfl⟩,?_,xX n0 (bj h1) rfl,fun _=>?_⟩
   .rw[h2];split;exact Fe.1;exact Fe.2.1
   .have:=h4.mpr rfl;rw[h2];split<;>simp_all
   .rw[h2];split<;>simp
  .rw[if_neg hg] at hf;obtain⟨h1,h2,h4⟩:=mP n hn (-1) (by decide);rw[<-hf] at h1 h2 h4;have nf:¬0<f:=fun z=>by have:=h4.mp z;revert this;decide
   refine⟨h1,?_,⟨fun z=>absurd z nf,fun z=>absurd z hg⟩,?_,xX n0 (bj h1) rfl,fun _=>?_⟩
   .rw[h2];split;exact Fe.2.1;exact Fe.1
   .rw[h2];split
    .rename_i w;exact⟨fun z=>absurd z (by decide),fun z=>absurd (z.mp w) nf⟩
    .rename_i w;exact⟨fun _=>⟨fun z=>absurd z w,fun z=>absurd z nf⟩,fun _=>by decide⟩
   .rw[h2];split<;>simp
 .rw[if_neg h3,Int.mul_one] at hf;obtain⟨k1,_,k2,k3⟩:=pQ n hn;by_cases hg:0<g
  .rw[if_pos hg] at hf;subst hf;rw[k2];refine⟨Fe.2.2.1,hn,⟨fun _=>hg,fun _=>by decide⟩,by simp,⟨1,by decide,by omega⟩,fun z=>absurd z h3⟩
  .rw[if_neg hg] at hf;subst hf;rw[k3];refine⟨Fe.2.2.2,k1,⟨fun z=>absurd z (by decide),fun z=>absurd z hg⟩,?_,⟨1,by decide,by omega⟩,fun z=>absurd z h3⟩;constructor
   .intro z;exact⟨fun w=>by omega,fun w=>absurd w (by decide)⟩
   .intro z;apply Classical.byContradiction;intro w;have:=z.mp (by omega);revert this;decide
theorem zx{s g n f l:Int}{ns an:List Int}(h:Due s g n ns)(h3:3<=s)(F:Fh s g n f l)(ha:∀p∈P7,p∈an↔aq f l p=false):Due (s-1) (if g-1>0 then g-1 else 0) l (P7.filter fun p=>decide (p∈ns) != decide (p∈an)):=by
 have hn:=h.nm;have n0:=bj hn;have f0:=bj F.fm;have l0:=bj F.lm;have a1:=h.s8;have a2:=h.g0;have a3:=h.gs;have hsg:=h.sg;have hz:=h.z
 have pan:∀p∈P7,decide (p∈an)=!aq f l p:=fun p hp=>by
  cases e:aq f l p
  .exact decide_eq_true ((ha p hp).mpr e)
  .exact decide_eq_false fun z=>by rw[(ha p hp).mp z] at e;cases e
 have mem:∀p∈P7,(!decide (p∈P7.filter fun p=>decide (p∈ns) != decide (p∈an)))=((!decide (p∈ns))==aq f l p):=fun p hp=>by
  have:decide (p∈P7.filter fun p=>decide (p∈ns) != decide (p∈an))=(decide (p∈ns) != decide (p∈an)):=by
   rw[Bool.eq_iff_iff,decide_eq_true_iff,List.mem_filter];exact⟨fun z=>z.2,fun z=>⟨hp,z⟩⟩
  rw[this,pan p hp];cases decide (p∈ns)<;>cases aq f l p<;>rfl
 have z0:(0:Int)∈(P7.filter fun p=>decide (p∈ns) != decide (p∈an))↔¬((0:Int)∈ns↔¬(0<f\/0<l)):=by
  have:=mem 0 (by decide);rw[aH] at this;by_cases x:(0:Int)∈(P7.filter fun p=>decide (p∈ns) != decide (p∈an))<;>by_cases y:(0:Int)∈ns<;>by_cases z:0<f<;>by_cases w:0<l<;>simp[x,y,z,w] at this ⊢
 have lsg:l<0↔(s-1-(if g-1>0 then g-1 else 0))%2=1:=by
  have e1:=F.ls;have e2:=F.fs;by_cases x:0<g
  .have y:=e2.mpr x;have:(if g-1>0 then g-1 else 0)=g-1:=by split<;>omega
   rw[this,show s-1-(g-1)=s-g by omega,<-hsg];have:0<l↔0<n:=e1.trans ⟨fun z=>z.mpr y,fun z=>⟨fun _=>y,fun _=>z⟩⟩;omega
  .have y:¬0<f:=fun z=>x (e2.mp z);have:(if g-1>0 then g-1 else 0)=0:=if_neg (by omega);rw[this];have:0<l↔¬0<n:=e1.trans ⟨fun z w=>y (z.mp w),fun z=>⟨fun w=>absurd w z,fun w=>absurd w y⟩⟩;omega
 have hz':(0:Int)∈(P7.filter fun p=>decide (p∈ns) != decide (p∈an))↔(s-1-(if g-1>0 then g-1 else 0))*(s-1-(if g-1>0 then g-1 else 0)-1)/2%2=1:=by
  rw[z0];by_cases x:0<g
  .have y:=F.fs.mpr x;have:(if g-1>0 then g-1 else 0)=g-1:=by split<;>omega
   rw[this,show s-1-(g-1)=s-g by omega,<-hz];constructor
   .intro w;apply Classical.byContradiction;intro v;exact w ⟨fun m=>absurd m v,fun m=>absurd (.inl y) m⟩
   .intro m w;exact w.mp m (.inl y)
  .have y:¬0<f:=fun z=>x (F.fs.mp z);have g0:g=0:=by omega
   have e:(if g-1>0 then g-1 else 0)=0:=if_neg (by omega);rw[e] at lsg ⊢;rw[g0] at hz;rw[show s-1-0=s-1 by omega] at lsg ⊢;rw[show s-0=s by omega] at hz;rw[hz,Ji s (by omega) a1]
   have:(¬(0<f\/0<l))↔(s-1)%2=1:=by
    rw[<-lsg];constructor
    .intro w;have:¬0<l:=fun v=>w (.inr v);omega
    .rintro w (v|v)
     .exact y v
     .omega
   rw[this]
 refine⟨by omega,by omega,by split<;>omega,by split<;>omega,F.lm,fun p hp=>(List.mem_filter.mp hp).1,Nat.le_trans (List.length_filter_le _ _) (by decide),lsg,?_,hz',fun z=>by omega,fun z p hp=>?_⟩
 .rw[ig mem,pj,h.ev,show iO P7 (aq f l)=true from qI yj (CS F.fm) (CS F.lm)];rfl
 .have hp7:=(List.mem_filter.mp hp).1;have l3:=F.t3 (by omega);rcases cc hp7 with rfl|⟨_,_,p6⟩
  .have w:=hz'.mp hp;unfold nD;rw[if_pos rfl];refine decide_eq_false fun v=>?_;have:=lsg.mp (by omega);have e:s-1-(if g-1>0 then g-1 else 0)=1:=by split at this<;>split<;>omega
   rw[e] at w;revert w;decide
  .rcases l3 with e|e
   .rw[e];exact xE (s:=-1) p6 (by decide)
   .rw[e];exact xE (s:=1) p6 (by decide)
theorem y8{s g n f l:Int}{ns an row:List Int}(h:Due s g n ns)(h3:3<=s)(F:Fh s g n f l)(ha:∀p∈P7,p∈an↔aq f l p=false)(R:Res (s-1) (if g-1>0 then g-1 else 0) l (P7.filter fun p=>decide (p∈ns) != decide (p∈an)) row):Res s g n ns (f::row):=by
 have f0:=bj F.fm;have l0:=bj F.lm;have n0:=bj h.nm;have a2:=h.g0;have rl:=R.len;have rz:∀x∈row,x≠0:=fun x hx=>(R.nz x hx).1.1;obtain⟨t,t0,et⟩:=F.pr;obtain⟨u,u0,eu⟩:=R.pr;refine⟨by rw[List.length_cons];omega,fun x hx=>?_,?_,⟨t*u,Int.mul_pos t0 u0,?_⟩,fun p hp=>?_,?_⟩
 .rcases List.mem_cons.mp hx with rfl|z
  .exact⟨lD F.fm,by have:=dW F.fm;omega⟩
  .exact R.nz x z
 .have e:=R.sg;by_cases x:0<f
  .rw[List.filter_cons_of_pos (by simpa using x),List.length_cons];have:=F.fs.mp x;split at e<;>omega
  .rw[List.filter_cons_of_neg (by simpa using x)];have:¬0<g:=fun z=>x (F.fs.mpr z);split at e<;>omega
 .show f*y4 row=_;rw[eu,<-Int.mul_assoc,et];grind
 .show(iO row (fun b=>aq f b p)==qv p row)=_;rw[(uT hp f0 rz).1,eu,<-Int.mul_assoc,rZ hp f0 l0 (by omega),R.no p hp];by_cases m:p∈P7
  .have e1:decide (p∈P7.filter fun p=>decide (p∈ns) != decide (p∈an))=(decide (p∈ns) != decide (p∈an)):=by
    rw[Bool.eq_iff_iff,decide_eq_true_iff,List.mem_filter];exact⟨fun z=>z.2,fun z=>⟨m,z⟩⟩
   have e2:decide (p∈an)=!aq f l p:=by
    cases e:aq f l p
    .exact decide_eq_true ((ha p m).mpr e)
    .exact decide_eq_false fun z=>by rw[(ha p m).mp z] at e;cases e
   rw[e1,e2];cases decide (p∈ns)<;>cases aq f l p<;>rfl
  .obtain⟨pp,p2,p6⟩:=Cr hp m;rw[decide_eq_false (fun z=>m (h.sub p z)),decide_eq_false (fun z=>m (List.mem_filter.mp z).1),fQ pp p2 (fun d=>p6 (l9 F.fm pp d)) fun d=>p6 (l9 F.lm pp d)];rfl
 .obtain⟨q,hq⟩:=R.fw;refine⟨q,fun x hx r hr hd=>?_⟩;rcases List.mem_cons.mp hx with rfl|z
  .exact List.mem_cons_of_mem _ (l9 F.fm hr hd)
  .exact hq x z r hr hd
end Q
namespace L2
open PySem PySem.Spec PyProof.Rows
section
variable{κ:Type}[DecidableEq κ]
def qW(kvs:List (κ×V))(k:κ):Option V:=(kvs.find? fun kv=>decide (kv.1=k)).map (·.2)
def putK(kvs:List (κ×V))(k:κ)(v:V):List (κ×V) :=
 if (kvs.any fun kv=>decide (kv.1=k))=true then kvs.map (fun kv=>if kv.1=k then (kv.1,v) else kv) else kvs++[(k,v)]
theorem mj{p:κ×V}{r:List (κ×V)}{k:κ}(e:p.1=k):qW (p::r) k=some p.2:=by simp[qW,List.find?_cons,e]
theorem m_{p:κ×V}{r:List (κ×V)}{k:κ}(e:¬p.1=k):qW (p::r) k=qW r k:=by simp[qW,List.find?_cons,e]
theorem lU(k:κ):∀kvs:List (κ×V),(kvs.any fun kv=>decide (kv.1=k))=(qW kvs k).isSome
 |[]=>rfl
 |p::r=>by
  rw[List.any_cons];by_cases e:p.1=k
  .simp only[mj e,decide_eq_true e,Bool.true_or,Option.isSome_some]
  .rw[m_ e,decide_eq_false e,Bool.false_or];exact lU k r
theorem fD(kvs:List (κ×V))(k:κ)(v:V):(putK kvs k v).length<=kvs.length+1:=by
 unfold putK;split
 .rw[List.length_map];omega
 .rw[List.length_append,List.length_cons,List.length_nil];omega
theorem wz.n8{o:Option V}{u:Option Value}(r:wz o u):o.isSome=u.isSome:=by
 cases o with
 |none=>cases u with
  |none=>rfl
  |some _=>exact(show False from r).elim
 |some _=>cases u with
  |none=>exact(show False from r).elim
  |some _=>rfl
theorem KV.any{kvs:List (κ×V)}{vs:List (κ×Value)}(r:KV kvs vs)(k:κ):(kvs.any fun kv=>decide (kv.1=k))=vs.any fun kv=>decide (kv.1=k):=by
 unfold KV at r
 induction r with
 |nil=>rfl
 |cons h t ih=>rw[List.any_cons,List.any_cons,ih,h.1]
theorem KV.xJ{kvs:List (κ×V)}{vs:List (κ×Value)}(r:KV kvs vs)(k:κ){y:V}{u:Value}(ry:RelV y u):
  KV (kvs.map fun kv=>if kv.1=k then (kv.1,y) else kv) (vs.map fun kv=>if kv.1=k then (kv.1,u) else kv):=by
 unfold KV at r ⊢
 induction r with
 |nil=>exact .nil
 |@cons p q ps qs h t ih =>
  rw[List.map_cons,List.map_cons];refine .cons ?_ ih;obtain⟨h1,h2⟩:=h;by_cases e:p.1=k
  .rw[if_pos e,if_pos (h1.symm.trans e)];exact⟨h1,ry⟩
  .rw[if_neg e,if_neg (fun z=>e (h1.trans z))];exact⟨h1,h2⟩
theorem KV.put{kvs:List (κ×V)}{vs:List (κ×Value)}(r:KV kvs vs)(k:κ){y:V}{u:Value}(ry:RelV y u):KV (putK kvs k y) (stored vs k u):=by
 unfold putK stored;rw[r.any k];by_cases e:(vs.any fun kv=>decide (kv.1=k))=true
 .rw[if_pos e,if_pos e];exact r.xJ k ry
 .rw[if_neg e,if_neg e];exact Paired.snoc r ⟨rfl,ry⟩
theorem KV.keys{kvs:List (κ×V)}{vs:List (κ×Value)}(r:KV kvs vs):kvs.map (·.1)=vs.map (·.1):=by
 unfold KV at r
 induction r with
 |nil=>rfl
 |cons h t ih=>rw[List.map_cons,List.map_cons,ih,h.1]
theorem KV.length{kvs:List (κ×V)}{vs:List (κ×Value)}(r:KV kvs vs):kvs.length=vs.length:=Paired.length r
end
theorem ye{P:Program}{w:World}{k:Key}{u:Value}(r:RelV (kV k) u):(aX P w).is k u=true:=by
 cases k with
 |inl i=>obtain⟨t,e⟩:=(show ∃t,u=Value.int i t from r);subst e;exact qE P w i t
 |inr x=>obtain⟨t,e⟩:=(show ∃t,u=Value.str x t from r);subst e;exact rE P w x t
theorem nU{P:Program}{w:World}:∀{ks:List Key} {us:List Value},Vals (ks.map kV) us->ItemsAre (aX P w) ks us
 |[],_,r=>by rw[List.map_nil] at r;cases r;exact .nil
 |k::ks,_,r=>by
  rw[List.map_cons] at r;cases r with
  |cons h t=>exact .cons (ye h) (nU t)
abbrev KT(H:Hp):List (List Key×V)->List (List Key×Addr×Value)->Prop:=Paired fun p q=>p.1=q.1/\H q.2.1=some (.tup (p.1.map kV))/\RelV p.2 q.2.2
theorem KT.val{H:Hp}{kvs:List (List Key×V)}{xs:List (List Key×Addr×Value)}(r:KT H kvs xs)(k:List Key):wz (qW kvs k) ((atKey xs k).map (·.2)):=by
 induction r with
 |nil=>exact True.intro
 |@cons p q ps qs h t ih =>
  obtain⟨h1,_,h2⟩:=h;by_cases e:p.1=k
  .have e':q.1=k:=h1.symm.trans e;have b:atKey (q::qs) k=some q.2:=by simp[atKey,List.find?_cons,e']
   rw[mj e,b];exact h2
  .have e':¬q.1=k:=fun z=>e (h1.trans z);have b:atKey (q::qs) k=atKey qs k:=by simp[atKey,List.find?_cons,e']
   rw[m_ e,b];exact ih
theorem KT.xJ{H:Hp}{kvs:List (List Key×V)}{xs:List (List Key×Addr×Value)}(r:KT H kvs xs)(k:List Key){y:V}{u:Value}(ry:RelV y u):
  KT H (kvs.map fun kv=>if kv.1=k then (kv.1,y) else kv) (xs.map (putAt k u)):=by
 induction r with
 |nil=>exact .nil
 |@cons p q ps qs h t ih =>
  rw[List.map_cons,List.map_cons];refine .cons ?_ ih;obtain⟨h1,h2,h3⟩:=h;unfold putAt;by_cases e:p.1=k
  .rw[if_pos e,if_pos (h1.symm.trans e)];exact⟨h1,h2,ry⟩
  .rw[if_neg e,if_neg (fun z=>e (h1.trans z))];exact⟨h1,h2,h3⟩
theorem KT.put{H:Hp}{kvs:List (List Key×V)}{xs:List (List Key×Addr×Value)}(r:KT H kvs xs)(k:List Key){b:Addr}{y:V}{u:Value}(hb:H b=some (.tup (k.map kV)))(ry:RelV y u):
  KT H (putK kvs k y) (storedH xs k b u):=by
 have e:(kvs.any fun kv=>decide (kv.1=k))=(atKey xs k).isSome:=by
  rw[lU,(r.val k).n8,Option.isSome_map]
 unfold putK storedH;rw[e];by_cases q:(atKey xs k).isSome=true
 .rw[if_pos q,if_pos q];exact r.xJ k ry
 .rw[if_neg q,if_neg q];exact Paired.snoc r ⟨rfl,hb,ry⟩
theorem KT.keeps{H H':Hp}{kvs:List (List Key×V)}{xs:List (List Key×Addr×Value)}(r:KT H kvs xs)(ht:∀b ys,H b=some (.tup ys)->H' b=some (.tup ys)):KT H' kvs xs :=
 Paired.Ae r fun _ _ z=>⟨z.1,ht _ _ z.2.1,z.2.2⟩
theorem uD{P:Program}{w:World}{k:Int×Bool}{us:List Value}(r:Vals (kB k) us):ItemsAre (uw P w) (kl k) us:=by
 cases r with
 |cons h1 t1 =>
  cases t1 with
  |cons h2 t2 =>
   cases t2;obtain⟨t,rfl⟩:=(show ∃t,_=Value.int k.1 t from h1);cases (show _=Value.bool k.2 from h2);exact .cons (by show(k.1==k.1)=true;simp) (.cons (by show(bI k.2==bI k.2)=true;simp) .nil)
abbrev KB(H:Hp):List ((Int×Bool)×V)->List ((Int×Bool)×Addr×Value)->Prop:=Paired fun p q=>p.1=q.1/\H q.2.1=some (.tup (kB p.1))/\RelV p.2 q.2.2
theorem KB.val{H:Hp}{kvs:List ((Int×Bool)×V)}{xs:List ((Int×Bool)×Addr×Value)}(r:KB H kvs xs)(k:Int×Bool):wz (qW kvs k) ((atKey xs k).map (·.2)):=by
 induction r with
 |nil=>exact True.intro
 |@cons p q ps qs h t ih =>
  obtain⟨h1,_,h2⟩:=h;by_cases e:p.1=k
  .have e':q.1=k:=h1.symm.trans e;have b:atKey (q::qs) k=some q.2:=by simp[atKey,List.find?_cons,e']
   rw[mj e,b];exact h2
  .have e':¬q.1=k:=fun z=>e (h1.trans z);have b:atKey (q::qs) k=atKey qs k:=by simp[atKey,List.find?_cons,e']
   rw[m_ e,b];exact ih
theorem KB.xJ{H:Hp}{kvs:List ((Int×Bool)×V)}{xs:List ((Int×Bool)×Addr×Value)}(r:KB H kvs xs)(k:Int×Bool){y:V}{u:Value}(ry:RelV y u):
  KB H (kvs.map fun kv=>if kv.1=k then (kv.1,y) else kv) (xs.map (putAt k u)):=by
 induction r with
 |nil=>exact .nil
 |@cons p q ps qs h t ih =>
  rw[List.map_cons,List.map_cons];refine .cons ?_ ih;obtain⟨h1,h2,h3⟩:=h;unfold putAt;by_cases e:p.1=k
  .rw[if_pos e,if_pos (h1.symm.trans e)];exact⟨h1,h2,ry⟩
  .rw[if_neg e,if_neg (fun z=>e (h1.trans z))];exact⟨h1,h2,h3⟩
theorem KB.put{H:Hp}{kvs:List ((Int×Bool)×V)}{xs:List ((Int×Bool)×Addr×Value)}(r:KB H kvs xs)(k:Int×Bool){b:Addr}{y:V}{u:Value}(hb:H b=some (.tup (kB k)))(ry:RelV y u):
  KB H (putK kvs k y) (storedH xs k b u):=by
 have e:(kvs.any fun kv=>decide (kv.1=k))=(atKey xs k).isSome:=by
  rw[lU,(r.val k).n8,Option.isSome_map]
 unfold putK storedH;rw[e];by_cases q:(atKey xs k).isSome=true
 .rw[if_pos q,if_pos q];exact r.xJ k ry
 .rw[if_neg q,if_neg q];exact Paired.snoc r ⟨rfl,hb,ry⟩
theorem KB.keeps{H H':Hp}{kvs:List ((Int×Bool)×V)}{xs:List ((Int×Bool)×Addr×Value)}(r:KB H kvs xs)(ht:∀b ys,H b=some (.tup ys)->H' b=some (.tup ys)):KB H' kvs xs :=
 Paired.Ae r fun _ _ z=>⟨z.1,ht _ _ z.2.1,z.2.2⟩
section
variable{P:Program}{w:World}{H:Hp}{h:Heap}{a:Addr}
theorem ym{u:HO}(ok:iN P w H h)(e:Rd H a u):cb P w H h a u:=e.ok ok
theorem Cp{kvs:List (Key×V)}(ok:iN P w H h)(e:Rd H a (.dK kvs)):kvs.length<=sizeLine/\(a==sysModules)=false/\∃vs,KV kvs vs/\h.DictOf (aX P w) a vs :=
 show cb P w H h a (.dK kvs) from ym ok e
theorem CB{kvs:List (Key×V)}(ok:iN P w H h)(e:H a=some (.dK kvs)):kvs.length<=sizeLine/\(a==sysModules)=false/\∃vs,KV kvs vs/\h.DictOf (aX P w) a vs:=Cp ok (.inl e)
theorem yK{ks:List Key}(ok:iN P w H h)(e:H a=some (.tup (ks.map kV))):(tupleKind (aX P w)).is h ks a:=by
 obtain⟨_,its,r,o,h1,h2,n,h3⟩:=(show cb P w H h a (.tup (ks.map kV)) from ok a _ e);exact⟨o,its.toArray,n,h1,h2,h3,by simpa using nU r⟩
theorem GI{kvs:List (List Key×V)}(ok:iN P w H h)(e:Rd H a (.dT kvs)):kvs.length<=sizeLine/\(a==sysModules)=false /\
  ∃xs,KT H kvs xs/\h.DictOfH (tupleKind (aX P w)) a xs:=by
 obtain⟨z,y,xs,r,o,es,ep,h1,h2,h3,h4,h5⟩:=(show cb P w H h a (.dT kvs) from ym ok e);refine⟨z,y,xs,r,o,es,ep,h1,h2,h3,h4,fun x hx=>?_,h5⟩
 have all:∀{l:List (List Key×V)} {m:List (List Key×Addr×Value)},KT H l m->∀x∈m,(tupleKind (aX P w)).is h x.1 x.2.1:=by
  intro l m q
  induction q with
  |nil=>intro x hx;exact nomatch hx
  |@cons p q ps qs hq t ih =>
   intro x hx;rcases List.mem_cons.mp hx with e|hx
   .subst e;exact yK ok (by rw[<-hq.1];exact hq.2.1)
   .exact ih x hx
 exact all r x hx
theorem FR{kvs:List (List Key×V)}(ok:iN P w H h)(e:H a=some (.dT kvs)):kvs.length<=sizeLine/\(a==sysModules)=false /\
  ∃xs,KT H kvs xs/\h.DictOfH (tupleKind (aX P w)) a xs:=GI ok (.inl e)
theorem vz{ks:Int×Bool}(ok:iN P w H h)(e:H a=some (.tup (kB ks))):(fU P w).is h ks a:=by
 obtain⟨_,its,r,o,h1,h2,n,h3⟩:=(show cb P w H h a (.tup (kB ks)) from ok a _ e);exact⟨o,its.toArray,n,h1,h2,h3,by simpa using uD r⟩
theorem G0{kvs:List ((Int×Bool)×V)}(ok:iN P w H h)(e:Rd H a (.dB kvs)):kvs.length<=sizeLine/\(a==sysModules)=false /\
  ∃xs,KB H kvs xs/\h.DictOfH (fU P w) a xs:=by
 obtain⟨z,y,xs,r,o,es,ep,h1,h2,h3,h4,h5⟩:=(show cb P w H h a (.dB kvs) from ym ok e);refine⟨z,y,xs,r,o,es,ep,h1,h2,h3,h4,fun x hx=>?_,h5⟩
 have all:∀{l:List ((Int×Bool)×V)} {m:List ((Int×Bool)×Addr×Value)},KB H l m->∀x∈m,(fU P w).is h x.1 x.2.1:=by
  intro l m q
  induction q with
  |nil=>intro x hx;exact nomatch hx
  |@cons p q ps qs hq t ih =>
   intro x hx;rcases List.mem_cons.mp hx with e|hx
   .subst e;exact vz ok (by rw[<-hq.1];exact hq.2.1)
   .exact ih x hx
 exact all r x hx
theorem Gz{kvs:List ((Int×Bool)×V)}(ok:iN P w H h)(e:H a=some (.dB kvs)):kvs.length<=sizeLine/\(a==sysModules)=false /\
  ∃xs,KB H kvs xs/\h.DictOfH (fU P w) a xs:=G0 ok (.inl e)
end
def xQ(H:Hp)(a:Addr)(y v:V)(H':Hp):Prop :=
 (∃kvs k,H a=some (.dK kvs)/\y=kV k/\kvs.length<sizeLine/\H'=upd H a (.dK (putK kvs k v))) \/
 (∃kvs k b,H a=some (.dT kvs)/\y=.ref b/\H b=some (.tup (k.map kV))/\kvs.length<sizeLine/\H'=upd H a (.dT (putK kvs k v))) \/
 ∃kvs k b,H a=some (.dB kvs)/\y=.ref b/\H b=some (.tup (kB k))/\kvs.length<sizeLine/\H'=upd H a (.dB (putK kvs k v))
theorem xQ.k{H:Hp}{a:Addr}{kvs:List (Key×V)}{k:Key}{v:V}(e:H a=some (.dK kvs))(hl:kvs.length<sizeLine):xQ H a (kV k) v (upd H a (.dK (putK kvs k v))):=.inl ⟨kvs,k,e,rfl,hl,rfl⟩
section
variable{X:Cx}{pins:List (Addr×Obj)}{σ:St}{H:Hp}{s:Shared}{a:Addr}{y v:V}{u r:Value}{o:Option V}{A:Around}{E:Value->Shared->Prop}
theorem Inv.big(I:Inv X pins σ H s):sysModules<s.heap.objs.size:=by
 have h:mainGlobals<s.heap.objs.size:=(I.mod.glob.keeps I.bk).lt;exact Nat.lt_trans (by decide) h
theorem lA{h':Heap}{t':Nat}{ob:HO}(I:Inv X pins σ H s)(mu:GF (H a))(hs:Heap.SameBut a s.heap h')(he:∃q,h'.get? a=some q)(new:cb X.prog X.w (upd H a ob) h' a ob):
  Inv X pins σ (upd H a ob) {s with heap:=h',toks:=t'} :=
 I.write (x:=a) (e:=a) mu (.inl rfl) (fun b q hb z=>(hs.2 b hb).trans z) he new
theorem ze{P:Program}{w:World}{H':Hp}{h':Heap}{kvs:List (Key×V)}{vs:List (Key×Value)}(z:kvs.length<=sizeLine)(hd:(a==sysModules)=false)(rel:KV kvs vs)(dd:h'.DictOf (aX P w) a vs):
  cb P w H' h' a (.dK kvs):=⟨z,hd,vs,rel,dd⟩
theorem w_{H':Hp}{Q:Unit->Shared->Prop}(hu:A.units+1<cLine)(I:Inv X pins σ H s)(g:xQ H a y v H')(ry:RelV y u)(rv:RelV v r)(h:∀s',Inv X pins σ H' s'->Q () s'):
  wpAny (model X.prog X.w) A (setItem (.ref a) u r) Q E s:=by
 rcases g with⟨kvs,k,e,ey,l,eH⟩|⟨kvs,k,b,e,ey,eb,l,eH⟩|⟨kvs,k,b,e,ey,eb,l,eH⟩
 .subst ey eH;obtain⟨z,hd,vs,rel,dd⟩:=CB I.hok e;have hz:vs.length<=sizeLine:=by rw[<-rel.length];exact z
  have hl:(putK kvs k v).length<=sizeLine:=by have:=fD kvs k v;omega
  refine wpAny_setItem_pairs (hsz:=hz) (ye ry) dd fun h' dd' hs=>h _ ?_;have he:∃q,h'.get? a=some q:=let ⟨q,_,_,hq,_⟩:=dd';⟨q,hq⟩;exact lA I (by rw[e];exact True.intro) hs he (ze hl hd (rel.put k rv) dd')
 .subst ey eH;cases (show u=Value.ref b from ry);obtain⟨z,hd,xs,rel,dd⟩:=FR I.hok e;have hz:xs.length<=sizeLine:=by rw[<-Paired.length rel];exact z
  have hl:(putK kvs k v).length<=sizeLine:=by have:=fD kvs k v;omega
  refine wpAny_setItem_heap (hsz:=hz) (tupleKind_room_in1 hu) (yK I.hok eb) dd fun h' dd' hs=>h _ ?_;obtain⟨q,es,ep,hq,h2,h3,h4,_,h5⟩:=dd';refine lA I (by rw[e];exact True.intro) hs ⟨q,hq⟩ ⟨hl,hd,_,(rel.put k eb rv).keeps fun c ys ec=>?_,q,es,ep,hq,h2,h3,h4,h5⟩;rw[aO (CJ ec e (fun z=>nomatch z))];exact ec
 .subst ey eH;cases (show u=Value.ref b from ry);obtain⟨z,hd,xs,rel,dd⟩:=Gz I.hok e;have hz:xs.length<=sizeLine:=by rw[<-Paired.length rel];exact z
  have hl:(putK kvs k v).length<=sizeLine:=by have:=fD kvs k v;omega
  refine wpAny_setItem_heap (hsz:=hz) (nH hu) (vz I.hok eb) dd fun h' dd' hs=>h _ ?_;obtain⟨q,es,ep,hq,h2,h3,h4,_,h5⟩:=dd';refine lA I (by rw[e];exact True.intro) hs ⟨q,hq⟩ ⟨hl,hd,_,(rel.put k eb rv).keeps fun c ys ec=>?_,q,es,ep,hq,h2,h3,h4,h5⟩;rw[aO (CJ ec e (fun z=>nomatch z))];exact ec
end
section
variable{X:Cx}{pins:List (Addr×Obj)}{σ:St}{H:Hp}{s:Shared}{a:Addr}{kvs:List (Key×V)}{k:Key}{u:Value}{A:Around}{E:Value->Shared->Prop}
end
def FD(td ty tv:TE):TS:=fun D σ H=>tv σ H fun v H1=>td σ H1 fun x H2=>ty σ H2 fun y H3=>∃a H4,x=.ref a/\xQ H3 a y v H4/\D.nx σ H4
section
variable{X:Cx}{o i e value:Expr}{pos pos' tpos:Pos}{td ty tv:TE}
theorem A0(hu:X.A.units+1<cLine)(ho:PE X o td)(hi:PE X i ty)(hv:PE X value tv)(hs:swapsWith value (some (.Subscript o i pos')) pos.line X.env=pure false):
  PS X (.Assign [.Subscript o i pos'] value pos) (FD td ty tv):=by
 intro pins s σ H D I h;refine wpAny_Assign_Subscript (bO (hv pins s σ H _ I h) fun r s1 ⟨v,H1,I1,rv,q1⟩=>bO (ho pins s1 σ H1 _ I1 q1) fun u s2 ⟨x,H2,I2,rx,q2⟩=>bO (hi pins s2 σ H2 _ I2 q2) fun iv s3 ⟨y,H3,I3,ry,a,H4,ex,g,q3⟩=>?_) hs;subst ex;obtain rfl:u=Value.ref a:=rx;exact w_ hu I3 g ry rv fun s4 I4=>⟨σ,H4,I4,q3⟩
end
theorem xI{P:Program}{w:World}{H:Hp}(h:Heap)(hb:sysModules<h.objs.size):cb P w H (h.push {cls:=.type "dict",data:=.dict #[]}) h.objs.size (.dK []) :=
 ⟨Nat.zero_le _,beq_eq_false_iff_ne.mpr (Ne.symm (Nat.ne_of_lt hb)),[],.nil,Heap.DictOf.new h⟩
section
variable{X:Cx}{pos:Pos}
end
def pD:List (TE×TE)->St->Hp->(List (V×V)->Hp->Prop)->Prop
 |[],_,H,Q=>Q [] H
 |(tk,tv)::r,σ,H,Q=>tk σ H fun x H1=>tv σ H1 fun y H2=>pD r σ H2 fun ps H3=>Q ((x,y)::ps) H3
abbrev VV:List (V×V)->List (Value×Value)->Prop:=Paired fun p q=>RelV p.1 q.1/\RelV p.2 q.2
def Fo(X:Cx)(pos:Pos)(keys:List (Option Expr))(values:List Expr)(trs:List (TE×TE)):Prop :=
 ∀(pins:List (Addr×Obj)) (s:Shared) (σ:St) (H:Hp) (Q:List (V×V)->Hp->Prop),Inv X pins σ H s->pD trs σ H Q ->
  wpAny (model X.prog X.w) X.A (evalPairs (pairTrees keys values X.env pos)) (fun vs s'=>∃ps H',Inv X pins σ H' s'/\VV ps vs/\Q ps H') X.xe s
theorem B7{X:Cx}{pos:Pos}:Fo X pos [] [] []:=fun pins s σ H Q I h=>pairTrees_nil_walk ⟨[],H,I,.nil,h⟩
theorem yZ{X:Cx}{pos:Pos}{k v:Expr}{ks:List (Option Expr)}{vs:List Expr}{tk tv:TE}{trs:List (TE×TE)}(hk:PE X k tk)(hv:PE X v tv)(hr:Fo X pos ks vs trs):
  Fo X pos (some k::ks) (v::vs) ((tk,tv)::trs):=fun pins s σ H Q I h =>
 pairTrees_cons_walk (bO (hk pins s σ H _ I h) fun u s1 ⟨x,H1,I1,rx,q1⟩=>bO (hv pins s1 σ H1 _ I1 q1) fun w2 s2 ⟨y,H2,I2,ry,q2⟩ =>
  bO (hr pins s2 σ H2 _ I2 q2) fun ws s3 ⟨ps,H3,I3,rel,q3⟩=>⟨(x,y)::ps,H3,I3,.cons ⟨rx,ry⟩ rel,q3⟩)
def hZ(kvs more:List (Key×V)):List (Key×V):=more.foldl (fun acc kv=>putK acc kv.1 kv.2) kvs
theorem KV.merge:∀{more:List (Key×V)} {rs:List (Key×Value)} {kvs:List (Key×V)} {vs:List (Key×Value)},KV more rs->KV kvs vs->KV (hZ kvs more) (merged vs rs):=by
 intro more rs kvs vs r;unfold KV at r
 induction r generalizing kvs vs with
 |nil=>intro q;exact q
 |@cons p q ps qs h t ih =>
  intro r0
  have e:KV (putK kvs p.1 p.2) (stored vs q.1 q.2):=by
   have:=r0.put p.1 h.2;rw[<-h.1];exact this
  exact ih e
theorem iT:∀(more kvs:List (Key×V)),(hZ kvs more).length<=kvs.length+more.length
 |[],kvs=>by show kvs.length<=kvs.length+0;omega
 |p::r,kvs=>by
  have h1:=iT r (putK kvs p.1 p.2);have h2:=fD kvs p.1 p.2;show(hZ (putK kvs p.1 p.2) r).length<=_;rw[List.length_cons];omega
theorem md{P:Program}{w:World}:∀{kvs:List (Key×V)} {ws:List (Value×Value)},VV (kvs.map fun kv=>(kV kv.1,kv.2)) ws->∃rs,Carries (aX P w) ws rs/\KV kvs rs
 |[],_,r=>by rw[List.map_nil] at r;cases r;exact⟨[],True.intro,.nil⟩
 |p::kvs,_,r=>by
  rw[List.map_cons] at r;cases r with
  |@cons a b as bs h t =>
   obtain⟨rs,c,q⟩:=md (P:=P) (w:=w) t;obtain⟨b1,b2⟩:=b;exact⟨(p.1,b2)::rs,⟨ye h.1,rfl,c⟩,.cons ⟨rfl,h.2⟩ q⟩
def FG(trs:List (TE×TE)):TE:=fun σ H Q=>∀p,H p=none->pD trs σ (upd H p (.dK [])) fun ps H2=>H2 p=some (.dK [])/\∃kvs:List (Key×V),ps=kvs.map (fun kv=>(kV kv.1,kv.2))/\kvs.length<=15/\Q (.ref p) (upd H2 p (.dK (hZ [] kvs)))
theorem AB{X:Cx}{pos:Pos}{keys:List (Option Expr)}{values:List Expr}{trs:List (TE×TE)}(h:Fo X pos keys values trs)(hall:keys.all (·.isSome)=true)(hl:keys.length=values.length)(h0:keys≠[])
  (h15:keys.length<=15):PE X (.Dict keys values pos) (FG trs):=by
 intro pins s σ H Q I q;have hn:=I.hok.fresh (Nat.le_refl s.heap.objs.size);have I1:=I.laid (a:=s.heap.objs.size) (o:=.dK []) (h':=s.heap.push {cls:=.type "dict",data:=.dict #[]}) (t':=s.toks) (fun _ _ q=>Heap.get?_push_of_some _ q) (Nat.le_refl _) (xI s.heap I.big);refine wpAny_Dict_walk (knd:=aX X.prog X.w) hall hl h0 h15 (bO (h pins _ σ _ _ I1 (q _ hn)) fun ws s2 ⟨ps,H2,I2,rel,e,kvs,ep,lk,q2⟩=>?_);subst ep;obtain⟨rs,c,rk⟩:=md (P:=X.prog) (w:=X.w) rel;obtain⟨z,hd,vs0,r0,dd⟩:=CB I2.hok e;cases r0;refine⟨rs,c,dd,fun h' dd' hs=>⟨.ref s.heap.objs.size,_,?_,rfl,q2⟩⟩
 have hz:(hZ [] kvs).length<=sizeLine:=by
  have h1:=iT kvs [];rw[List.length_nil] at h1;rw[sizeLine_eq];omega
 have he:∃q,h'.get? s.heap.objs.size=some q:=let ⟨q,_,_,hq,_⟩:=dd';⟨q,hq⟩;exact lA I2 (by rw[e];exact True.intro) hs he (ze hz hd (rk.merge .nil) dd')
structure M1(X:Cx)(o:Expr)(m:Str)(apos:Pos)(e:Expr)(cpos:Pos):Prop where
 base:attributeBase o m X.env (eval o X.env)=eval o X.env
 few:((backTo cpos (starEach [e] X.env)).all (fun x=>!x.1) && (backToKw cpos (keywordEach [] X.env)).all (fun x=>x.1.isSome)
  && decide (([e]:List Expr).length+([]:List Keyword).length+(if ([]:List Keyword).isEmpty then 0 else 1)<30))=true
 line:(apos.endLine==cpos.line)=true
 trees:backTo cpos (starEach [e] X.env)=[(false,eval e X.env)]
structure M2(X:Cx)(o:Expr)(m:Str)(apos:Pos)(e f:Expr)(cpos:Pos):Prop where
 base:attributeBase o m X.env (eval o X.env)=eval o X.env
 few:((backTo cpos (starEach [e,f] X.env)).all (fun x=>!x.1) && (backToKw cpos (keywordEach [] X.env)).all (fun x=>x.1.isSome)
  && decide (([e,f]:List Expr).length+([]:List Keyword).length+(if ([]:List Keyword).isEmpty then 0 else 1)<30))=true
 line:(apos.endLine==cpos.line)=true
 trees:backTo cpos (starEach [e,f] X.env)=[(false,eval e X.env),(false,eval f X.env)]
section
variable{X:Cx}{pins:List (Addr×Obj)}{σ:St}{H:Hp}{s:Shared}{a:Addr}{y d:V}{u r:Value}{o:Option V}{A:Around}{E:Value->Shared->Prop}
end
section
variable{X:Cx}{o e f:Expr}{apos cpos:Pos}{td ty tx:TE}
end
section
variable{X:Cx}{pins:List (Addr×Obj)}{σ:St}{H:Hp}{s:Shared}{a:Addr}{kvs:List (Key×V)}{A:Around}{E:Value->Shared->Prop}
end
section
variable{X:Cx}{pins:List (Addr×Obj)}{σ:St}{H:Hp}{s:Shared}{a:Addr}{y:V}{u:Value}{A:Around}{E:Value->Shared->Prop}
end
end L2
namespace L2.EP
open PySem PySem.Spec PyProof.Rows
structure Dc(β:Type) where
 l:List (Int×β)
def Dc.put{β:Type}(d:Dc β)(k:Int)(c:β):Dc β:=⟨if (d.l.any fun u=>decide (u.1=k))=true then d.l.map (fun u=>if u.1=k then (u.1,c) else u) else d.l++[(k,c)]⟩
def DP{β:Type}[Py β](K:PySem.W.Frag)(N:Nn)(H:Hp)(x:Key×V)(y:Int×β):Prop:=x.1=.inl y.1/\Py.rp K N H x.2 y.2
instance{β:Type}[Py β]:Py (Dc β) where
 rp K N H v d:=∃p kvs,v=.ref p/\Rd H p (.dK kvs)/\N.has H p (.inr kvs)/\Paired (DP K N H) kvs d.l
 tr l t h:=by
  obtain⟨p,kvs,e,s,n,r⟩:=h;obtain⟨s',n'⟩:=l _ (.inr kvs) s n;exact⟨p,kvs,e,s',n',bM (fun _ _ q=>⟨q.1,Py.tr l t q.2⟩) r⟩
theorem Ep{β:Type}[Py β]{K:PySem.W.Frag}{N:Nn}{H:Hp}{k:Int}{v:V}{c:β}{kvs:List (Key×V)}{l:List (Int×β)}(r:Paired (DP K N H) kvs l)(h:Py.rp K N H v c):Paired (DP K N H) (putK kvs (.inl k) v) ((Dc.mk l).put k c).l:=by
 have ha:∀{kvs:List (Key×V)} {l:List (Int×β)},Paired (DP K N H) kvs l->(kvs.any fun kv=>decide (kv.1=Sum.inl k))=(l.any fun u=>decide (u.1=k)):=fun r=>by
  induction r with
  |nil=>rfl
  |cons h t ih =>
   rw[List.any_cons,List.any_cons,ih,h.1];congr 1;exact decide_eq_decide.mpr ⟨fun z=>by injection z,fun z=>by rw[z]⟩
 have hm:∀{kvs:List (Key×V)} {l:List (Int×β)},Paired (DP K N H) kvs l->Paired (DP K N H) (kvs.map fun kv=>if kv.1=Sum.inl k then (kv.1,v) else kv) (l.map fun u=>if u.1=k then (u.1,c) else u):=fun r=>by
  induction r with
  |nil=>exact .nil
  |@cons x y _ _ g t ih =>
   rw[List.map_cons,List.map_cons];refine .cons ?_ ih;by_cases e:y.1=k
   .rw[if_pos e,if_pos (by rw[g.1,e])];exact⟨g.1,h⟩
   .rw[if_neg e,if_neg (by rw[g.1];intro z;injection z with z;exact e z)];exact g
 unfold putK Dc.put;dsimp only;rw[ha r];split
 .exact hm r
 .exact qd r (.cons ⟨rfl,h⟩ .nil)
section
variable{X:Cx}{Γ:aC}{D:GD}{α β γ:Type}[Py α][Py β][Py γ]{e e1 e2 ek:Expr}{b b1 b2:Bool}{pos:Pos}{rest st:List Stmt}
theorem x8[PyT β](i:Nat){d:Dc β}{k:Int}{c:β}{x:Str}{p p':Pos}(hu:X.A.units+60<cLine)(hg:Γ[i]?=some (some (.dpo d)))(hk:E X Γ ek b2 k)(he:E X Γ e b c)(hl:d.l.length<=1000)(h:S X (Γ.set i (some (.dpo (d.put k c)))) rest D)(hi:X.N[i]?=some x:=by rfl)
  (hv:Ee X.env.scope x:=by first|exact Or.inl rfl|exact Or.inr (Or.inl rfl)|exact Or.inr (Or.inr rfl)) (hd:(x==("__debug__":Str))=false:=by decide) (hcd:(x==("__classdict__":Str))=false:=by decide)
  (hs:swapsWith e (some (.Subscript (.Name x p) ek p')) pos.line X.env=pure false:=by rfl):S X Γ (.Assign [.Subscript (.Name x p) ek p'] e pos::rest) D:=by
 with_unfolding_all
  exact cS (cR (A0 (by omega) (pv i hi hv hd hcd) hk he hs) fun De σ H ⟨H0,F,O,Z,n,_⟩=>⟨H0,F,O,Z,fun u H1 z1 ru=>by
    obtain⟨v,Di,hv1,_,_,_⟩:=(Z.go z1).uA hg True.intro;refine⟨v,hv1,H0,F,O,Z.go z1,fun y H3 z3 ry=>?_⟩;obtain⟨v',Di,hv2,⟨q,kvs,e1,rd,nn,rr⟩,hO,wr⟩:=(Z.go (z1.trans z3)).uA hg True.intro;rw[hv1] at hv2;have ev:v=v':=Option.some.inj (Option.some.inj hv2);subst ev;have ey:y=V.int k:=ry;subst ey;have hq:H3 q=some (.dK kvs):=nn.2
    have ht:∀p xs,Rt H3 p xs->Rt (upd H3 q (.dK (putK kvs (.inl k) u))) p xs:=fun p xs h=>by
     have hp:p≠q:=fun w=>by
      subst w;rcases h with h|⟨o,h⟩
      .rw[hq] at h;cases h
      .rw[hq] at h;cases h
     rcases h with h|⟨o,h⟩
     .exact .inl (by rw[aO hp];exact h)
     .exact .inr ⟨o,by rw[aO hp];exact h⟩
    refine⟨q,_,e1,xQ.k (k:=.inl k) hq (by rw[bW rr];exact cA hl),?_⟩;have rr':Paired (DP X.K (.set Di) (upd H3 q (.dK (putK kvs (.inl k) u)))) kvs d.l:=bM (fun _ _ z=>⟨z.1,PyT.free ht z.2⟩) rr;have ru':Py.rp X.K (.set Di) (upd H3 q (.dK (putK kvs (.inl k) u))) u c:=PyT.free (fun p xs w=>ht p xs (aB.rt ((aj _ _).trans z3) w)) ru
    obtain⟨Z',eo⟩:=wr q (.inr (putK kvs (.inl k) u)) (some (.dpo (d.put k c))) nn.1 fun g'' e'=>by
     cases e';exact⟨True.intro,q,_,e1,.inl bq,⟨nn.1,bq⟩,Ep rr' ru'⟩
    exact n _ _ _ _ (by rw[show upd H3 q (HO.dK (putK kvs (Sum.inl k) u))=upd H3 q (mo (.inr (putK kvs (.inl k) u))) from rfl,eo];exact ag (z1.trans z3)) Z' h⟩)
end
end L2.EP
namespace L2.Sx
open PySem PyProof.Rows PySem.Spec PySem.W PySem.Calls
theorem BM{i:Int}{v:Value}(h:kG (.inl i) v=true):∃t,v=.int i t:=by
 rcases br h with⟨j,t,e1,e2⟩|⟨x,t,e1,e2⟩
 .injection e1 with e1;exact⟨t,by rw[e1];exact e2⟩
 .cases e1
section
variable{p:Program}{w:World}{A:Around}{E:Value->Shared->Prop}{s:Shared}{d:Addr}{kvs:List (Key×Value)}
theorem wC{Q:Bool->Shared->Prop}(ty:s.TypeIs (.ref d) "dict")(h:Q false s):wpAny (model p w) A (Builtin.List.listLengthHint (.ref d)) Q E s:=by
 unfold Builtin.List.listLengthHint;refine wpAny_bind (wpAny_specialOf ty PySem.F.slot_dict_len.lookup ?_);generalize hid:("dict.__len__":String)=id0
 wp_delta
 rw[show splitId id0=some ("dict","__len__") from by subst hid;decide +kernel];subst hid;refine wpAny_bind (wpAny_isInstance (T:="dict") (b:=true) ty (by rw[isSubtype_type];kernel_rfl) (wpAny_ite_split (fun z=>absurd z (by decide)) fun _=>?_));exact wpAny_ite_split (fun _=>wpAny_bind (wpAny_typeOf ty (wpAny_pure h))) fun z=>absurd (by decide +kernel) z
def KeysIn(kvs:List (Key×Value))(i:Nat)(v:Value):Prop:=∃k x,kvs[i]?=some (k,x)/\kG k v=true
theorem qU{L:Addr}{c:Nat}{R:Result->Shared->Prop}{res:Value}(hh:A.handled=none)(hd:(d==sysModules)=false)(hm:s.heap.DictOf (aX p w) d kvs)(nsz:kvs.length<=sizeLine)(hL:s.heap.get? L=some {cls:=.type "list",data:=.seq #[] c})(hne:L≠d)
  (h:∀s' acc c',(∀b o,b≠L->s.heap.get? b=some o->s'.heap.get? b=some o)->s'.gens=s.gens->s'.os=s.os->s'.heap.get? L=some {cls:=.type "list",dict:=none,data:=.seq acc c',slots:=#[]}->ItemsOf (KeysIn kvs) acc kvs.length->R (.ok (.ret res)) s'):
  wpAny (model p w) A.in1 (Builtin.List.listExtendWith (.ref L) (.ref d) res) (fun fin s'=>match fin with|.done f=>R (.ok f) s'|.again c'=>c'.quiet=true/\codeAny (model p w) A c' R s') (fun e s'=>R (.error e) s') s:=by
 have ty:s.TypeIs (.ref d) "dict":=hm.typeIs;obtain⟨ep,ha⟩:=hm.dictAt;unfold Builtin.List.listExtendWith;refine wpAny_bind (wpAny_typeOf (T:="dict") ty ?_);have z1:Builtin.List.listSameRef (.ref L) (.ref d)=false:=by simp[Builtin.List.listSameRef,hne]
 have z2:(Value.type "dict"==Value.type "list")=false:=by decide
 have z3:(Value.type "dict"==Value.type "tuple")=false:=by decide
 simp only[z1,z2,z3,Bool.or_false,Bool.false_eq_true,if_false];refine wpAny_bind (wpAny_pyIter_dict hd ha ?_);have hLs:L<s.heap.objs.size:=Heap.lt_size hL;have hds:d<s.heap.objs.size:=ha.lt_size;have kp:∀(o':Obj) b o,s.heap.get? b=some o->(s.heap.push o').get? b=some o:=fun o' b o e=>Heap.get?_push_of_some _ e;have W:=Walks.dictKeys (knd:=aX p w) (A:=A.in1) hh s.heap.objs.size d (Nat.ne_of_lt hds) kvs ep;have st:∀h':Heap,h'.get? s.heap.objs.size=some {cls:=.type "dict_keyiterator",data:=.fields #[.ref d,.int 0 0,.int kvs.length 0,.int ep 0]}->h'.DictAt (aX p w) d kvs ep->h'.IsKeyIter s.heap.objs.size d 0 kvs.length ep/\h'.DictAt (aX p w) d kvs ep:=fun h' e1 e2=>⟨⟨_,e1,rfl,rfl⟩,e2⟩
 have hLf:L∉[s.heap.objs.size,d]:=by
  simp only[List.mem_cons,List.not_mem_nil,or_false,not_or];exact⟨Nat.ne_of_lt hLs,hne⟩
 generalize hs1:({s with heap:=s.heap.push {cls:=.type "dict_keyiterator",data:=.fields #[.ref d,.int 0 0,.int kvs.length 0,.int ep 0]}}:Shared)=s1;have q1:s1.heap.get? s.heap.objs.size=some {cls:=.type "dict_keyiterator",data:=.fields #[.ref d,.int 0 0,.int kvs.length 0,.int ep 0]}:=by subst hs1;exact Heap.get?_push_size _ rfl
 have q2:∀b o,s.heap.get? b=some o->s1.heap.get? b=some o:=fun b o e=>by subst hs1;exact kp _ b o e
 have q3:s1.gens=s.gens/\s1.os=s.os:=by subst hs1;exact⟨rfl,rfl⟩
 have st1:=st s1.heap q1 (ha.at' fun o e=>q2 d o e)
 have key:∀(s2:Shared) (c1:Nat),(s2.heap.IsKeyIter s.heap.objs.size d 0 kvs.length ep/\s2.heap.DictAt (aX p w) d kvs ep)->(∀b o,b≠L->s1.heap.get? b=some o->s2.heap.get? b=some o)->s2.gens=s1.gens->s2.os=s1.os->s2.heap.get? L=some {cls:=.type "list",data:=.seq #[] c1}->codeAny (model p w) A (.builtin "list.extend.loop" ⟨[.ref L,.ref s.heap.objs.size,res],[]⟩) R s2:=fun s2 c1 st2 k2 g2 o2 l2=>by
  refine codeAny_extend_loopS W.toS nsz L hLf res kvs.length 0 s2 #[] c1 rfl (Nat.zero_le _) st2 l2 (ItemsOf.nil _) fun s3 acc c3 mv l3 it=>?_;refine h s3 acc c3 (fun b o hb e=>mv.heap b o (fun z=>?_) (k2 b o hb (q2 b o e))) ?_ ?_ l3 it
  .rcases List.mem_cons.mp z with q|q
   .exact hb q
   .exact absurd (Heap.lt_size e) (by rw[List.mem_singleton.mp q];exact Nat.lt_irrefl _)
  .exact(show s3.gens=s2.gens from mv.gens).trans (g2.trans q3.1)
  .exact mv.os.trans (o2.trans q3.2)
 have L1:=q2 _ _ hL;refine wpAny_bind (wpAny_holding (wC (by obtain⟨o,e1,e2⟩:=ty;exact⟨o,q2 _ _ e1,e2⟩) ?_));refine wpAny_ite_split (fun _=>?_) (fun _=>wpAny_pure ⟨plainId_quiet PySem.F.plain_extend_loop _,key _ c st1 (fun b o _ e=>e) rfl rfl L1⟩);refine wpAny_bind (wpAny_rule (wpAny_bind (show wpAny _ _ (updateSeq L (·.push .none) >>= fun _=>updateSeq L (·.pop)) _ _ _ from wpAny_bind (wpAny_updateSeq L1 rfl ?_))));have L2:=Heap.get?_update_self (Obj.mapSeq (·.push Value.none)) L1 rfl;refine wpAny_updateSeq (hz:=by seq_fits) L2 rfl ?_;have L3:=Heap.get?_update_self (Obj.mapSeq (·.pop)) L2 rfl
 have oth:∀b o,b≠L->s1.heap.get? b=some o->((s1.heap.update L (Obj.mapSeq (·.push Value.none))).update L (Obj.mapSeq (·.pop))).get? b=some o:=fun b o hb e=>by
  rw[(Heap.SameBut.update _ L _).2 b hb,(Heap.SameBut.update _ L _).2 b hb];exact e
 exact wpAny_pure ⟨plainId_quiet PySem.F.plain_extend_loop _,key _ _ (W.frame 0 _ _ st1 fun b hb o e=>oth b o (fun q=>hLf (q▸hb)) e) oth rfl rfl L3⟩
end
end L2.Sx
namespace L2.EP
open PySem PySem.Spec PyProof.Rows
section
variable{X:Cx}{Γ:aC}{D:GD}{α β γ:Type}[Py α][Py β][Py γ]{e e1 e2:Expr}{b b1 b2:Bool}{pos:Pos}{rest st:List Stmt}
theorem x9(i j:Nat){x y:Str}{p1 p2 p3:Pos}{k:Nat}(hN:X.N.Nodup)(hc:X.calm=true:=by rfl)(hi:X.N[i]?=some x:=by rfl)(hj:X.N[j]?=some y:=by rfl)
  (hx:Loc X.env.scope x:=by first|exact Or.inl rfl|exact Or.inr rfl) (hy:Loc X.env.scope y:=by first|exact Or.inl rfl|exact Or.inr rfl)
  (hf:X.fn x=true\/X.env.scope.names.lookup x=some .local:=by first|exact .inl rfl|exact .inr rfl) (hf2:X.fn y=true\/X.env.scope.names.lookup y=some .local:=by first|exact .inl rfl|exact .inr rfl)
  (hn:(assignEach [.Name x p1,.Name y p2] X.env).length=2:=by rfl)
  (hst:(assignEach [.Name x p1,.Name y p2] X.env).findIdx? (·.1)=none:=by rfl) (ha1:assignEach [.Name x p1,.Name y p2] X.env=(false,assign (.Name x p1) X.env)::assignEach [.Name y p2] X.env:=by rfl) (ha2:assignEach [.Name y p2] X.env=(false,assign (.Name y p2) X.env)::assignEach [] X.env:=by rfl):
  G X (.Tuple [.Name x p1,.Name y p2] k p3) (ER X.K 2 (rT (jr i) (rT (jr j) E3))) (α×β) (fun b u Γ=>(Γ.set i (some (.val b u.1))).set j (some (.val b u.2))) (fun k=>k=i\/k=j):=by
 with_unfolding_all
  exact⟨tP hc (dO (de hN hi hx hf) (dO (de hN hj hy hf2) o5)),D6 i j⟩
end
section
variable{X:Cx}{Γ:aC}{D:GD}{α β γ:Type}[Py α][Py β][Py γ]{e e1 e2 e3:Expr}{b b1 b2 b3:Bool}{pos:Pos}{rest st:List Stmt}
theorem mV{xs:List α}{i:Int}{a:α}(ha:E X Γ e1 b (qJ.mk xs))(hb:E X Γ e2 b2 i)(h:vJ xs i=some a)(hs:pS e2:=by intro _ _;rfl):E X Γ (.Subscript e1 e2 pos) b a:=by
 with_unfolding_all
  exact aF (vX uF ha hb hs) fun σ H Q ⟨H0,F,O,S,q⟩=>⟨H0,F,O,S,fun v H1 s1 r1=>⟨H0,F,O,S.go s1,fun w H2 s2 r2=>by
    obtain⟨p,vs,e,sq,r⟩:=r1;obtain⟨j,h1,h2,h3,h4,h5⟩:=lN h;obtain⟨x,g1,g2⟩:=i8 r h2;refine⟨p,vs,i,x,e,r2,(bY (aj _ _) (bY (ag s2) sq)).t,?_,q x H2 (s1.trans s2) (aw (ag s2) g2)⟩;unfold vJ at h ⊢;rw[bW r];cases hx:CG xs.length i with
    |none=>rw[hx] at h;cases h
    |some k =>
     have hk:=(pM hx).1;rw[h1] at hk;cases hk
     exact g1⟩⟩
end
instance:PyD (Int⊕(Int×Int)) where
 dat a:=match a with|.inl i=>.int i|.inr u=>.tuple [.int u.1,.int u.2]
 dr {K N H v a} h:=by
  cases a with
  |inl i=>exact PyD.dr (α:=Int) (N:=N) h
  |inr u=>exact PyD.dr (α:=Int×Int) (N:=N) h
 lay a:=by
  cases a with
  |inl i=>exact PyD.lay (α:=Int) i
  |inr u=>exact PyD.lay (α:=Int×Int) u
 dep:=PyD.dep (Int×Int)
 depth a:=by
  cases a with
  |inl i=>exact Nat.le_trans (PyD.depth (α:=Int) i) (Nat.zero_le _)
  |inr u=>exact PyD.depth (α:=Int×Int) u
 eqv a b:=by
  cases a with
  |inl i=>cases b with
   |inl j=>exact(PyD.eqv (α:=Int) i j).trans ⟨fun h=>by rw[h],fun h=>by injection h⟩
   |inr u=>simp[PyData.eqv]
  |inr v=>cases b with
   |inl j=>simp[PyData.eqv]
   |inr u=>exact(PyD.eqv (α:=Int×Int) v u).trans ⟨fun h=>by rw[h],fun h=>by injection h⟩
section
variable{X:Cx}{Γ:aC}{D:GD}{α β γ:Type}[Py α][Py β][Py γ]{e e1 e2 ek:Expr}{b b1 b2:Bool}{pos:Pos}{rest st:List Stmt}
theorem wm(i:Nat){a:α}(hg:Γ[i]?=some (some (.dpo (some a))))(h:S X (Γ.set i (some (.dpo a))) st D):S X Γ st D:=by
 with_unfolding_all
  exact ku h fun De σ H ⟨H0,F,O,Z,n,r,bk,ct⟩=>by
   have hlt:i<Γ.length:=by
    rcases Nat.lt_or_ge i Γ.length with z|z
    .exact z
    .rw[List.getElem?_eq_none z] at hg;cases hg
   refine⟨H0,F,O,⟨Z.same,Z.fo,Z.f0,Z.own,by rw[List.length_set];exact Z.len,fun j g e no=>?_,?_⟩,n,r,bk,ct⟩
   .by_cases hj:j=i
    .subst hj;rw[get_set_eq hlt] at e;cases e;exact absurd True.intro no
    .rw[get_set_ne hj] at e;exact Z.at_ j g e no
   .obtain⟨Di,d1,d2,d3⟩:=Z.dis;refine⟨Di,d1,d2,fun j g e o=>?_⟩;by_cases hj:j=i
    .subst hj;rw[get_set_eq hlt] at e;cases e;obtain⟨v,h1,h2⟩:=d3 j _ hg True.intro;exact⟨v,h1,h2⟩
    .rw[get_set_ne hj] at e;exact d3 j g e o
end
abbrev Xo(C:Addr)(vs:Array Value):Obj:={cls:=.ref C,data:=.fields vs}
structure JA(fs:List Addr)(ch:Addr->Prop)(h h':Heap):Prop where
 keep:∀b o,h.get? b=some o->b∉fs->¬ch b->h'.get? b=some o
 slot:∀b o,h.get? b=some o->¬ch b->∃sl,h'.get? b=some {o with slots:=sl}
def Tr(h:Heap)(C e:Addr)(T:Option Addr):Prop:=∃vs,h.get? e=some (Xo C vs)/\match T with
 |none=>vs[1]?=some .none
 |some t=>vs[1]?=some (.ref t)/\t≠e/\∃oT ts,h.get? t=some oT/\oT.data=.fields ts/\ts[3]?=some .none
section
variable{M:Model}{A:Around}{E:Value->Shared->Prop}{s:Shared}{base:Heap}{env:Env}{outer:List Env}{L C e:Addr}
end
section
variable{X:Cx}{pins:List (Addr×Obj)}{σ:St}{H H':Hp}{s:Shared}{h':Heap}{C e:Addr}
end
def Jl(P:Program)(w:World):wU:=fun outer H s E ev s'=>∃e C t H',ev=.ref e/\s'.os=s.os/\AllBare s'.gens/\Un (si outer) [] H H' s.heap s'.heap/\iN P w H' s'.heap /\
 s.heap.get? e=none/\H' e=none/\s.heap.get? t=none/\H' t=none/\Tr s'.heap C e (some t)/\E (.ref C) none H'
section
variable{X:Cx}{pins:List (Addr×Obj)}{σ:St}{H:Hp}{s s':Shared}{E:XK}
end
structure Xn where
 e:Addr
instance:Py Xn where
 rp _ _ _ v a:=v=.ref a.e
 tr _ _ h:=h
structure RB where
 B:Hp
 H0:Hp
 F:Addr->Prop
section
variable{X:Cx}{R:RB}{Γ:aC}{D:GD}{α β γ:Type}[Py α][Py β][Py γ]{e e1 e2 e3:Expr}{b b1 b2 b3:Bool}{p pos np cpos cps:Pos}{st:Stmt}{rest body orelse:List Stmt}{C:Addr}{cn:Str}
end
structure Js(P:Program)(w:World)(K:PySem.W.Frag)(mg:Str->Option Value)(base:Heap)(k:Nat)(name:Str)(ps:List Str)(sp:Sp):Prop where
 ex:∃(f:Addr) (fd:FuncData),fe P w K mg base (Jl P w) k f fd ps sp/\Binds K fd ps []/\PySem.W.keepIn K (.ref f)=true/\mg name=some (.ref f)
section
variable{X:Cx}{R:RB}{Γ:aC}{α β γ:Type}[Py α][Py β][Py γ]{e e1 e2 e3:Expr}{es:List Expr}{b b1 b2 b3:Bool}{p pos:Pos}{C f:Addr}{x name:Str}{k:Nat}{ps:List Str}{fd:FuncData}{t:TA}{sp:Sp}
end
section
variable{P:Program}{w:World}{K:PySem.W.Frag}{mg:Str->Option Value}{base:Heap}{N ps:List Str}{k:Nat}{x qual:Str}{st:Stmt}{f:Addr}{fd:FuncData}
end
section
variable{X:Cx}{Γ:aC}{D:GD}{α β γ:Type}[Py α][Py β][Py γ]{e e1 e2 e3:Expr}{b b1 b2 b3:Bool}{p p2 pos np hpos:Pos}{b₀:Stmt}{rest body suite:List Stmt}{C Cd:Addr}{n dn:Str}
end
section
variable{prog:Program}{w:World}{A:Around}{E:Value->Shared->Prop}{s:Shared}{K:PySem.W.Frag}{a C:Addr}{ox:Obj}
end
section
variable{X:Cx}{Γ:aC}{e:Expr}{b c:Bool}{p p2 pos:Pos}{a C Cd:Addr}{T:Str}
end
structure GY(k:Nat)(A:Around):Prop where
 dp:A.depth+3*k+5<recursionLimit
 un:A.units+16*k+200<cLine
structure Je(P:Program)(w:World)(K:PySem.W.Frag)(mg:Str->Option Value)(base:Heap)(k:Nat)(name:Str)(C:Addr)(c:Bool):Prop where
 ex:∃f:Addr,PySem.W.keepIn K (.ref f)=true/\mg name=some (.ref f)/\∀(A:Around) (outer:List Env) (s:Shared) (H:Hp) (a:Addr) (vs:Array Value),GY k A->Ap P w K mg base A outer s H->s.heap.get? a=some (Xo C vs)->H a=none->a∉si outer ->
  codeAny (model P w) A (.call (.ref f) ⟨[.ref a],[]⟩) (CR nC outer P w H s (fun v H'=>v=.bl c/\aB H H') E0) s
section
variable{P:Program}{w:World}{K:PySem.W.Frag}{mg:Str->Option Value}{base h:Heap}{N:List Str}{k:Nat}{x y:Str}{st:Stmt}{C:Addr}{c:Bool}
end
mutual
inductive DN(K:PySem.W.Frag)(N:Nn)(H:Hp):V->PyData->Prop
 |non:DN K N H .non .none
 |bl (b:Bool):DN K N H (.bl b) (.bool b)
 |int (i:Int):DN K N H (.int i) (.int i)
 |str (x:Str):DN K N H (.str x) (.str x)
 |lst {a:Addr} {xs:List V} {ds:List PyData}:dF K H a xs->N.has H a (.inl xs)->oH K N H xs ds->DN K N H (.ref a) (.list ds)
 |tup {a:Addr} {xs:List V} {ds:List PyData}:Rt H a xs->oH K N H xs ds->DN K N H (.ref a) (.tuple ds)
inductive oH(K:PySem.W.Frag)(N:Nn)(H:Hp):List V->List PyData->Prop
 |nil:oH K N H [] []
 |cons {x:V} {xs:List V} {d:PyData} {ds:List PyData}:DN K N H x d->oH K N H xs ds->oH K N H (x::xs) (d::ds)
end
mutual
theorem DN.tr{K:PySem.W.Frag}{N N':Nn}{H H':Hp}(l:∀p (o:Mt),Mo K H p o->N.has H p o->Mo K H' p o/\N'.has H' p o)(t:∀p xs,Rt H p xs->Rt H' p xs):∀{v:V} {d:PyData},DN K N H v d->DN K N' H' v d
 |_,_,.non=>.non
 |_,_,.bl b=>.bl b
 |_,_,.int i=>.int i
 |_,_,.str x=>.str x
 |_,_,.lst (xs:=xs) s n r=>.lst (l _ (.inl xs) s n).1 (l _ (.inl xs) s n).2 (oH.tr l t r)
 |_,_,.tup s r=>.tup (t _ _ s) (oH.tr l t r)
theorem oH.tr{K:PySem.W.Frag}{N N':Nn}{H H':Hp}(l:∀p (o:Mt),Mo K H p o->N.has H p o->Mo K H' p o/\N'.has H' p o)(t:∀p xs,Rt H p xs->Rt H' p xs):∀{v:List V} {d:List PyData},oH K N H v d->oH K N' H' v d
 |_,_,.nil=>.nil
 |_,_,.cons h r=>.cons (DN.tr l t h) (oH.tr l t r)
end
structure Dt where
 d:PyData
instance:Py Dt where
 rp K N H v a:=DN K N H v a.d
 tr l t h:=DN.tr l t h
mutual
theorem DN.dr{K:PySem.W.Frag}{N:Nn}{H:Hp}:∀{v:V} {d:PyData},DN K N H v d->DR K H v d
 |_,_,.non=>.non
 |_,_,.bl b=>.bl b
 |_,_,.int i=>.int i
 |_,_,.str x=>.str x
 |_,_,.lst s _ r=>.lst s (oH.dr r)
 |_,_,.tup s r=>.tup (Cm.t (.inl s)) (oH.dr r)
theorem oH.dr{K:PySem.W.Frag}{N:Nn}{H:Hp}:∀{v:List V} {d:List PyData},oH K N H v d->wW K H v d
 |_,_,.nil=>.nil
 |_,_,.cons h r=>.cons (DN.dr h) (oH.dr r)
end
theorem xN{K:PySem.W.Frag}{N:Nn}{H:Hp}:∀{xs:List V} {ds:List PyData},oH K N H xs ds->Paired (fun x (b:Dt)=>Py.rp K N H x b) xs (ds.map Dt.mk)
 |_,_,.nil=>.nil
 |_,_,.cons h r=>.cons h (xN r)
theorem xZ{K:PySem.W.Frag}{N:Nn}{H:Hp}:∀{xs:List V} {ds:List Dt},Paired (fun x (b:Dt)=>Py.rp K N H x b) xs ds->oH K N H xs (ds.map Dt.d)
 |_,_,.nil=>.nil
 |_,_,.cons h r=>.cons h (xZ r)
theorem rO{K:PySem.W.Frag}{N:Nn}{H:Hp}:∀{xs:List V} {ks:List Int},oH K N H xs (ks.map PyData.int)->Paired (fun x (b:Int)=>Py.rp K N H x b) xs ks
 |_,[],.nil=>.nil
 |_,k::ks,.cons h r=>by
  cases h;exact .cons rfl (rO r)
theorem qK{K:PySem.W.Frag}{N:Nn}{H:Hp}:∀{xs:List V} {ks:List Int},Paired (fun x (b:Int)=>Py.rp K N H x b) xs ks->oH K N H xs (ks.map PyData.int)
 |_,_,.nil=>.nil
 |_,_,.cons h r=>by
  have h':_=V.int _:=h;rw[h'];exact .cons (.int _) (qK r)
section
variable{X:Cx}{Γ:aC}{α β:Type}[Py α][Py β]{e e1 e2:Expr}{b b1 b2:Bool}{p p2 pos:Pos}
theorem sX{a:α}{c:β}(h:E X Γ e b a)(w:∀N H v,Py.rp X.K N H v a->Py.rp X.K N H v c):E X Γ e b c:=by
 with_unfolding_all
  exact aF h fun σ H Q ⟨H0,F,O,S,q⟩=>⟨H0,F,O,S,fun v H1 s1 r1=>q v H1 s1 (w _ _ _ r1)⟩
theorem DY{k:Int}(h:E X Γ e b k):E X Γ e b (Dt.mk (.int k)):=sX h fun N H v r=>by cases r;exact DN.int k
theorem kj{k:Int}(h:E X Γ e b (Dt.mk (.int k))):E X Γ e b k:=sX h fun N H v r=>by
 have r':DN X.K N H v (.int k):=r;cases r';rfl
theorem GL{ks:List Int}(h:E X Γ e b ks):E X Γ e b (Dt.mk (.list (ks.map .int))):=sX h fun N H v ⟨p,xs,ev,sq,n,r⟩=>by
 subst ev;exact DN.lst sq n (qK r)
theorem vQ{ks:List Int}(h:E X Γ e b (Dt.mk (.list (ks.map .int)))):E X Γ e b ks:=sX h fun N H v r=>by
 have r':DN X.K N H v (.list (ks.map .int)):=r;cases r' with
 |lst sq n q=>exact⟨_,_,rfl,sq,n,rO q⟩
theorem pK{ds:List PyData}(h:E X Γ e b (Dt.mk (.tuple ds))):E X Γ e b (qJ.mk (ds.map Dt.mk)):=sX h fun N H v r=>by
 have r':DN X.K N H v (.tuple ds):=r;cases r' with
 |tup sq q=>exact⟨_,_,rfl,.inl sq,xN q⟩
theorem E9{es:List Expr}{ds:List Dt}{k:Nat}(h:EA X Γ es b ds)(hl:ds.length<=1000):E X Γ (.Tuple es k pos) b (Dt.mk (.tuple (ds.map Dt.d))):=by
 with_unfolding_all
  exact aF (yd h) fun σ H Q ⟨H0,F,O,S,q⟩=>⟨H0,F,O,S,fun vs H1 s1 r1=>⟨by rw [bW r1]; exact Nat.le_of_lt (cA hl),fun p hp=>by
    obtain⟨z1,z2⟩:=mG (xs:=vs) (S.go s1) hp
    exact q _ _ (s1.trans z1) (DN.tup z2 (xZ (bM (fun _ _ r=>aw (ag z1) r) r1)))⟩⟩
end
section
variable{X:Cx}{Γ:aC}{D:GD}{α β γ:Type}[Py α][Py β][Py γ]{e e1 e2:Expr}{b b1 b2:Bool}{pos:Pos}{rest st:List Stmt}
end
@[irreducible] def EX{α:Type}[Py α](X:Cx)(Γ:aC)(e:Expr)(b:Bool)(post:α->Prop):Prop:=PE X e fun σ H Q=>∃H0 F O,dw X.K H0 F O Γ σ H/\∀a v H',post a->aB H H'->Py.rp X.K (Nf H0 b) (off H' O) v a->Q v H'
def xu{α:Type}[Py α](b:Bool)(post:α->Prop):GD:={nx:=fun _=>False,rt:=fun g=>∃a,post a/\g=.val b a}
def uq{α β:Type}[Py α][Py β](K:PySem.W.Frag)(pre:α->Prop)(b:Bool)(post:α->β->Prop):Sp:=fun vs H Q _=>∃O v a,kY H O/\vs=[v]/\Py.rp K .any (off H O) v a/\pre a/\∀z r H',post a z->aB H H'->Py.rp K (Nf H b) (off H' O) r z->Q r H'
def nG{α β γ:Type}[Py α][Py β][Py γ](K:PySem.W.Frag)(pre:α->β->Prop)(b:Bool)(post:α->β->γ->Prop):Sp:=fun vs H Q _=>∃O v w a c,kY H O/\vs=[v,w]/\Py.rp K .any (off H O) v a/\Py.rp K .any (off H O) w c/\pre a c/\∀z r H',post a c z->aB H H'->Py.rp K (Nf H b) (off H' O) r z->Q r H'
section
variable{X:Cx}{Γ:aC}{D:GD}{α β γ δ:Type}[Py α][Py β][Py γ][Py δ]{e e1 e2 e3:Expr}{b b1 b2 b3:Bool}{p pos:Pos}{rest:List Stmt}{k:Nat}{name:Str}{ps:List Str}
theorem rA{pre:α->Prop}{post:α->β->Prop}{a:α}(C:aN X.prog X.w X.K X.mg X.base k name ps (uq X.K pre b post))(hr:cM k X.A)(hg:Gl X name)(h1:E X Γ e1 b1 a)(hp:pre a)
  (hs1:starEach [e1] X.env=(false,eval e1 X.env)::starEach [] X.env:=by rfl) (hdb:(name==("__debug__":Str))=false:=by decide) (hpl:(backTo pos (starEach [] X.env)).any (·.1)=false:=by rfl):
  EX X Γ (.Call (.Name name p) [e1] [] pos) b (post a):=by
 with_unfolding_all
  obtain⟨fa,fd,F,B,kp,m⟩:=C.ex
  exact aF (d8 F hr hg m kp B .nil iV (aA h1 aU hs1) hdb hs1 hpl) fun σ H Q ⟨H0,F,O,S,q⟩=>⟨H0,F,O,S,fun v1 H1 s1 r1 =>
   ⟨O,v1,a,(S.go s1).own,rfl,a9 bf r1,hp,fun z r H' hz s' rz=>q z r H' hz (s1.trans s') ((S.go s1).back rz)⟩⟩
theorem mF{pre:α->β->Prop}{post:α->β->γ->Prop}{a:α}{c:β}(C:aN X.prog X.w X.K X.mg X.base k name ps (nG X.K pre b post))(hr:cM k X.A)(hg:Gl X name)(h1:E X Γ e1 b1 a)(h2:E X Γ e2 b2 c)(hp:pre a c)
  (hs1:starEach [e1,e2] X.env=(false,eval e1 X.env)::starEach [e2] X.env:=by rfl) (hs2:starEach [e2] X.env=(false,eval e2 X.env)::starEach [] X.env:=by rfl) (hdb:(name==("__debug__":Str))=false:=by decide) (hpl:(backTo pos (starEach [e2] X.env)).any (·.1)=false:=by rfl):
  EX X Γ (.Call (.Name name p) [e1,e2] [] pos) b (post a c):=by
 with_unfolding_all
  obtain⟨fa,fd,F,B,kp,m⟩:=C.ex
  exact aF (d8 F hr hg m kp B .nil iV (aA h1 (aA h2 aU hs2) hs1) hdb hs1 hpl) fun σ H Q ⟨H0,F,O,S,q⟩=>⟨H0,F,O,S,fun v1 H1 s1 r1=>⟨H0,F,O,S.go s1,fun v2 H2 s2 r2 =>
   ⟨O,v1,v2,a,c,(S.go (s1.trans s2)).own,rfl,a9 bf (aw (ag s2) r1),a9 bf r2,hp,fun z r H' hz s' rz=>q z r H' hz (s1.trans (s2.trans s')) ((S.go (s1.trans s2)).back rz)⟩⟩⟩
theorem Gf{a:α}{post:α->Prop}(h:E X Γ e b a)(hp:post a):EX X Γ e b post:=by
 with_unfolding_all
  exact aF h fun σ H Q ⟨H0,F,O,S,q⟩=>⟨H0,F,O,S,fun v H' s' r=>q a v H' hp s' r⟩
theorem oW(i:Nat){x:Str}{post:α->Prop}{p:Pos}(hN:X.N.Nodup)(he:EX X Γ e b post)(h:∀a,post a->S X (Γ.set i (some (.val b a))) rest D)(hi:X.N[i]?=some x:=by rfl)(hx:Loc X.env.scope x:=by first|exact Or.inl rfl|exact Or.inr rfl)
  (hs:swapsWith e (some (.Name x p)) pos.line X.env=pure false:=by rfl) (hf:X.fn x=true\/X.env.scope.names.lookup x=some .local:=by first|exact .inl rfl|exact .inr rfl):S X Γ (.Assign [.Name x p] e pos::rest) D:=by
 with_unfolding_all
  exact cS (cR (l_ hN hi hx he hs hf) fun De σ H ⟨H0,F,O,Z,n,_⟩=>⟨H0,F,O,Z,fun a v H1 hz s1 r1=>n _ _ H1 O (ag s1) ((Z.go s1).set r1) (h a hz)⟩)
end
section
variable{P:Program}{w:World}{K:PySem.W.Frag}{mg:Str->Option Value}{base:Heap}{N ps:List Str}{k:Nat}{x qual:Str}{st:Stmt}{f:Addr}{fd:FuncData}
theorem iM{gs:List Bd}{vs:List V}{H:Hp}{O:Addr->Prop}{α:Type}[Py α]{b:Bool}{post:α->Prop}{Q:VK}{cdv:Value}{A:Around}{outer:List Env}{s:Shared}{E:XK}(B:Body P w K mg base N qual st f k gs (xu b post))(hr:cM k (A.deeper (envOfC qual (af st) s.heap.objs.size f cdv)))
  (ho:kY H O) (h:Args K (off H O) vs gs) (q:∀a r H',post a->aB H H'->Py.rp K (Nf H b) (off H' O) r a->Q r H'):
  ∃t,nA (oX nC P w K mg base N qual (af st) f cdv A outer s H E).Ek (cL st) t/\t {nx:=fun _ H'=>Q .non H',rt:=Q} (start N vs) H:=by
 with_unfolding_all
  refine⟨_,B cdv A outer s H E hr,H,O,O,om ho h,fun _ _ _ _ _ _ z=>z.elim,fun g v H' sm z e=>?_,fun _ _ _ _ _ _ z=>z.elim,fun _ _ _ _ _ _ z=>z.elim⟩;obtain⟨a,ha,e'⟩:=e;subst e';exact q a v H' ha sm z
theorem GQ{α β:Type}[Py α][Py β]{pre:α->Prop}{b:Bool}{post:α->β->Prop}(F:sC K x qual st f fd)(sc:ai N ps (af st))(hl:ps.length=1)(B:∀a,pre a->Body P w K mg base N qual st f k [.val false a] (xu b (post a))):
  fe P w K mg base nC (k+1) f fd ps (uq K pre b post):=by
 with_unfolding_all
  refine F.ok sc (fun vs H Q E h=>?_) fun cdv A outer s H vs Q E hr h=>?_
  .obtain⟨O,v,a,_,rfl,_⟩:=h;rw[hl];rfl
  .obtain⟨O,v,a,ho,rfl,r,hp,q⟩:=h;exact iM (B a hp) hr ho (.cons r .nil) q
theorem EB{α β γ:Type}[Py α][Py β][Py γ]{pre:α->β->Prop}{b:Bool}{post:α->β->γ->Prop}(F:sC K x qual st f fd)(sc:ai N ps (af st))(hl:ps.length=2)(B:∀a c,pre a c->Body P w K mg base N qual st f k [.val false a,.val false c] (xu b (post a c))):
  fe P w K mg base nC (k+1) f fd ps (nG K pre b post):=by
 with_unfolding_all
  refine F.ok sc (fun vs H Q E h=>?_) fun cdv A outer s H vs Q E hr h=>?_
  .obtain⟨O,v,v2,a,c,_,rfl,_⟩:=h;rw[hl];rfl
  .obtain⟨O,v,v2,a,c,ho,rfl,r,r2,hp,q⟩:=h;exact iM (B a c hp) hr ho (.cons r (.cons r2 .nil)) q
end
section
variable{X:Cx}{Γ:aC}{D:GD}{α β γ:Type}[Py α][Py β][Py γ]{e e1 e2:Expr}{b b1 b2:Bool}{pos:Pos}{rest st:List Stmt}
theorem G7{c:Bool}{post:α->Prop}(hc:T X Γ e c)(ha:c=true->EX X Γ e1 b post)(hb:c=false->EX X Γ e2 b post):EX X Γ (.IfExp e e1 e2 pos) b post:=by
 with_unfolding_all
  cases c with
  |true=>exact aF (fP hc (ha rfl) lS) fun σ H Q ⟨H0,F,O,S,q⟩=>⟨H0,F,O,S,fun H1 s1=>pU ⟨H0,F,O,S.go s1,fun a w H2 hz s2 r2=>q a w H2 hz (s1.trans s2) r2⟩⟩
  |false=>exact aF (fP hc lS (hb rfl)) fun σ H Q ⟨H0,F,O,S,q⟩=>⟨H0,F,O,S,fun H1 s1=>pX ⟨H0,F,O,S.go s1,fun a w H2 hz s2 r2=>q a w H2 hz (s1.trans s2) r2⟩⟩
theorem sQ{post:α->Prop}(he:EX X Γ e b post)(h:∀a,post a->D.rt (.val b a)):S X Γ (.Return (some e) pos::rest) D:=by
 with_unfolding_all
  exact cS (cR (yL he) fun De σ H ⟨H0,F,O,Z,n,r,_⟩=>⟨H0,F,O,Z,fun a v H1 hz s1 r1=>r (.val b a) v H1 ((Z.go s1).same) (aw (jw Z.fo) r1) (h a hz)⟩)
end
section
variable{X:Cx}{Γ:aC}{D:GD}{α β γ δ ε:Type}[Py α][Py β][Py γ][Py δ][Py ε]{e e1 e2 e3 e4:Expr}{b b1 b2 b3 b4:Bool}{p pos:Pos}{rest:List Stmt}{k:Nat}{name:Str}{ps:List Str}
theorem Cj{a:α}{post:α->Prop}(h:EX X Γ e b post)(hp:∀z,post z->z=a):E X Γ e b a:=by
 with_unfolding_all
  exact aF h fun σ H Q ⟨H0,F,O,S,q⟩=>⟨H0,F,O,S,fun z v H' hz s' r=>q v H' s' (hp z hz▸r)⟩
end
open PySem PySem.Spec PyProof.Rows L2.Sx
def gf(ns:List Int):List Int:=ns.mergeSort fun a b=>decide (a<=b)
theorem mh(ns:List Int):(gf ns).Perm ns/\(gf ns).Pairwise (·<=·):=by
 refine⟨List.mergeSort_perm _ _,?_⟩;have:=List.pairwise_mergeSort (le:=fun a b:Int=>decide (a<=b)) (fun a b c h1 h2=>by simp at *;omega) (fun a b=>by simp;omega) ns;exact this.imp fun h=>by simpa using h
theorem zX{m ns:List Int}(h1:m.Perm ns)(h2:m.Pairwise (·<=·)):m=gf ns :=
 List.Perm.eq_of_pairwise (fun _ _ _ _ h h'=>Int.le_antisymm h h') h2 (mh ns).2 (h1.trans (mh ns).1.symm)
section
variable{X:Cx}{Γ:aC}{D:GD}{α β γ:Type}[Py α][Py β][Py γ]{e e1 e2 ek ev ek2 ev2:Expr}{b b1 b2 b3 b4:Bool}{pos:Pos}{rest st:List Stmt}
theorem tS:gO X (.builtin "sorted") (fun xs H Q=>∃p,∃ns:List Int,xs=[.ref p]/\dF X.K H p (ns.map V.int)/\ns.length<64/\∀l,H l=none->Q (.ref l) (upd H l (.lst ((gf ns).map V.int)))):=by
 intro pins s σ H xs us Q I r h;obtain⟨p,ns,rfl,sq,h64,q⟩:=h;obtain⟨u,rfl,rx⟩:=vals1 r;cases rx;obtain⟨its,rr,pl,_⟩:=I.list sq;have hi:=intsAre_of rr;have hl:its.length=ns.length:=by rw[<-rr.length,List.length_map]
 refine sorted_ints pl.isList hi (by rw[hl];exact h64) fun out ns' a1 a2 a3=>?_;have e:=zX a2 a3;subst e;obtain⟨c,g2⟩:=sortedAll_at s.heap its out
 have lo:((gf ns).map V.int).length<=sizeLine:=by
  rw[List.length_map,a2.length_eq];exact Nat.le_trans (Nat.le_of_lt h64) (by decide)
 exact⟨.ref (s.heap.objs.size+1),_,I.laid (t':=s.toks) (o:=.lst ((gf ns).map V.int)) (fun _ _=>sortedAll_old) (Nat.le_succ _) ⟨lo,out.toList,_,jR a1,g2⟩,rfl,q _ (I.hok.fresh (Nat.le_succ _))⟩
theorem AD{ns:List Int}{p:Pos}(hg:Gl X "sorted")(hm:X.mg "sorted"=none)(ha:E X Γ e b ns)(h64:ns.length<64)(hs:starEach [e] X.env=(false,eval e X.env)::starEach [] X.env:=by rfl):E X Γ (.Call (.Name "sorted" p) [e] [] pos) true (gf ns):=by
 with_unfolding_all
  exact aF (dI tS hg hm boot_sorted (aA ha aU hs) (he:=hs)) fun σ H Q ⟨H0,F,O,S,q⟩=>⟨H0,F,O,S,fun v H1 s1 r1=>by
    obtain⟨p,vs,e,sq,n,r⟩:=r1;rw[pb r] at sq;refine⟨p,ns,by rw[e],(aj _ _).seq sq,h64,fun l hl'=>?_⟩;obtain⟨z1,z2⟩:=cI (xs:=(gf ns).map V.int) (S.go s1) hl';refine q _ _ (s1.trans z1) ⟨l,_,rfl,dF.of z2,Nf.wk (b:=true) ((S.go s1).gQ hl') z2,?_⟩;generalize gf ns=m
    induction m with
    |nil=>exact .nil
    |cons x m ih=>exact .cons rfl ih⟩
end
end L2.EP
namespace L2.Sx
open PySem PyProof.Rows PySem.Spec PySem.W PySem.Calls
section
variable{p:Program}{w:World}{A:Around}{E:Value->Shared->Prop}{s:Shared}{d:Addr}{kvs:List (Key×Value)}
theorem o4{R:List Value->Shared->Prop}(hh:A.handled=none)(hd:(d==sysModules)=false)(hm:s.heap.DictOf (aX p w) d kvs)(nsz:kvs.length<=sizeLine)(h:∀s' (acc:Array Value),kU s s'->ItemsOf (KeysIn kvs) acc kvs.length->R acc.toList s'):wpAny (model p w) A (collect (.ref d)) R E s:=by
 have hS:d<s.heap.objs.size:=let ⟨_,a⟩:=hm.dictAt;a.lt_size;unfold collect;refine wpAny_bind (wpAny_runValue (codeAny_builtin entry_proto_collect' ?_));rw[Around.under_plainId PySem.F.plain_proto_collect _];refine(show wpAny _ A.in1 (newList [] >>= fun l=>again (.builtin "list.__iadd__" ⟨[l,.ref d],[]⟩)) _ _ s from wpAny_bind (wpAny_newObj_type (wpAny_pure ⟨plainId_quiet PySem.F.plain_list_iadd _,codeAny_builtin entry_list_iadd' ?_⟩)));rw[Around.under_plainId PySem.F.plain_list_iadd _];have hL:(s.heap.push {cls:=.type "list",data:=.seq ([]:List Value).toArray}).get? s.heap.objs.size=some {cls:=.type "list",data:=.seq #[]}:=Heap.get?_push_size _ rfl;refine(show wpAny _ A.in1 (Builtin.List.listExtendWith (.ref s.heap.objs.size) (.ref d) (.ref s.heap.objs.size)) _ _ _ from ?_)
 have key:=qU (A:=A) (s:={s with heap:=s.heap.push {cls:=.type "list",data:=.seq ([]:List Value).toArray}}) (res:=.ref s.heap.objs.size)
  (R:=fun q s'=>∃acc c',q=.ok (.ret (.ref s.heap.objs.size))/\kU s s'/\s'.heap.get? s.heap.objs.size=some {cls:=.type "list",dict:=none,data:=.seq acc c',slots:=#[]}/\ItemsOf (KeysIn kvs) acc kvs.length)
  hh hd (by obtain⟨o,es,ep,e,r⟩:=hm;exact⟨o,es,ep,Heap.get?_push_of_some _ e,r⟩) nsz hL (Nat.ne_of_gt hS) fun s' acc c' k gn os l pm=>⟨acc,c',rfl,⟨fun b o e=>k b o (Nat.ne_of_lt (Heap.lt_size e)) (Heap.get?_push_of_some _ e),gn,os⟩,l,pm⟩
 refine wpAny_mono key (fun fin s' x=>?_) fun e s' x=>?_
 .cases fin with
  |done f =>
   obtain⟨acc,c',e,gr,l,pm⟩:=x;cases e;exact show wpAny _ A (load s.heap.objs.size >>= _) _ _ _ from wpAny_bind (wpAny_load l (wpAny_pure (h s' _ gr pm)))
  |again c1 =>
   refine⟨x.1,codeAny_mono x.2 fun q s2 y=>?_⟩;obtain⟨acc,c',e,gr,l,pm⟩:=y;cases e;exact show wpAny _ A (load s.heap.objs.size >>= _) _ _ _ from wpAny_bind (wpAny_load l (wpAny_pure (h s2 _ gr pm)))
 .obtain⟨_,_,e',_⟩:=x;cases e'
theorem pz{Q:Value->Shared->Prop}{m:List Int}(hh:A.handled=none)(hd:(d==sysModules)=false)(hm:s.heap.DictOf (aX p w) d kvs)(hk:kvs.map (·.1)=m.map Sum.inl)(h64:m.length<64)
  (h:∀(s1:Shared) (vs:List Value) (out:Array Value) (ns:List Int),kU s s1->IntsAre out.toList ns->ns.Perm m->ns.Pairwise (·<=·)->Q (.ref s1.heap.objs.size) {s1 with heap:=sortedHeap (s1.heap.push (seqObj "list" vs.toArray 0)) s1.heap.objs.size vs out}):
  wpAny (model p w) A (call (.builtin "sorted") [.ref d]) Q E s:=by
 have hl:kvs.length=m.length:=by have:=congrArg List.length hk;simpa using this
 refine Calls.call_function_entry kind_sorted plain_sorted entry_sorted (args_sorted1 _) ?_;unfold Builtin.«sorted»;refine wpAny_bind (m:=checkCount "sorted" 1 1 _) (wpAny_pure (wpAny_bind (o4 (A:=A.in1) hh hd hm (by rw[hl];exact Nat.le_trans (Nat.le_of_lt h64) (by decide)) fun s1 acc gr it=>?_)))
 have ia:IntsAre acc.toList m:=by
  have key:∀(vs:List Value) (m:List Int),vs.length=m.length->(∀(i:Nat) v k,vs[i]?=some v->m[i]?=some k->∃t,v=.int k t)->IntsAre vs m:=fun vs=>by
   induction vs with
   |nil=>intro m hm _;cases m with|nil=>exact .nil|cons _ _=>cases hm
   |cons v vs ih =>
    intro m hm f;cases m with
    |nil=>cases hm
    |cons k m =>
     obtain⟨t,e⟩:=f 0 v k rfl rfl;subst e;exact .cons k t (ih m (Nat.succ.inj hm) fun i v k h1 h2=>f (i+1) v k h1 h2)
  refine key _ _ (by rw[Array.length_toList,it.1,hl]) fun i v k h1 h2=>?_;obtain⟨k',x,e1,e2⟩:=it.2 i v (by rw[<-Array.getElem?_toList];exact h1);have e3:(kvs.map (·.1))[i]?=(m.map Sum.inl)[i]?:=by rw[hk]
  rw[List.getElem?_map,List.getElem?_map,e1,h2] at e3;have e4:k'=Sum.inl k:=Option.some.inj e3;rw[e4] at e2;exact BM e2
 have lv:acc.toList.length=m.length:=by rw[Array.length_toList,it.1,hl]
 refine wpAny_bind (wpAny_newList ?_ (by rw[lv];exact Nat.le_trans (Nat.le_of_lt h64) (by decide)));have hL:(s1.heap.push (seqObj "list" acc.toList.toArray 0)).get? s1.heap.objs.size=some (seqObj "list" acc.toList.toArray 0):=Heap.get?_push_size _ rfl;refine wpAny_bind (wpAny_holding (wpAny_call_entry slot_list_sort ⟨_,hL,rfl⟩ entry_list_sort (list_sort_tree hL ia (by omega) fun out ns a1 a2 a3=>⟨_,rfl,?_⟩) (args_list_sort _)));exact wpAny_pure ⟨_,rfl,h s1 _ out ns gr a1 a2 a3⟩
end
end L2.Sx
namespace L2.EP
open PySem PySem.Spec PyProof.Rows L2.Sx
section
variable{X:Cx}{Γ:aC}{D:GD}{α β γ:Type}[Py α][Py β][Py γ]{e e1 e2 ek ev ek2 ev2:Expr}{b b1 b2 b3 b4:Bool}{pos:Pos}{rest st:List Stmt}
theorem sF(hc:X.calm=true):gO X (.builtin "sorted") (fun xs H Q=>∃a kvs,∃m:List Int,xs=[.ref a]/\Rd H a (.dK kvs)/\kvs.map (·.1)=m.map Sum.inl/\m.length<64/\∀l,H l=none->Q (.ref l) (upd H l (.lst ((gf m).map V.int)))):=by
 intro pins s σ H xs us Q I r h;obtain⟨a,kvs,m,rfl,rd,hk,h64,q⟩:=h;obtain⟨u,rfl,rx⟩:=vals1 r;cases rx;obtain⟨hz,hd,vs,kv,hm⟩:=Cp I.hok rd;refine pz (I.ok.hd hc) hd hm (by rw[<-kv.keys,hk]) h64 fun s2 ws out ns' gr ia pm pw=>?_;have e:=zX pm pw;subst e;have I2:=Inv.grown I gr
 have lo:((gf m).map V.int).length<=sizeLine:=by
  rw[List.length_map,pm.length_eq];exact Nat.le_trans (Nat.le_of_lt h64) (by decide)
 have hne:∀b o,s2.heap.get? b=some o->b≠s2.heap.objs.size:=fun b o e=>Nat.ne_of_lt (Heap.lt_size e)
 have kp:∀b o,s2.heap.get? b=some o->(sortedHeap (s2.heap.push (seqObj "list" ws.toArray 0)) s2.heap.objs.size ws out).get? b=some o:=fun b o e=>by
  unfold sortedHeap;rw[(Heap.SameBut.update _ _ _).2 b (hne b o e)];refine Heap.get?_push_of_some _ (Heap.get?_push_of_some _ ?_);rw[(Heap.SameBut.update _ _ _).2 b (hne b o e)];exact Heap.get?_push_of_some _ e
 obtain⟨c,g2⟩:=sortedHeap_at (h:=s2.heap.push (seqObj "list" ws.toArray 0)) (a:=s2.heap.objs.size) (vs:=ws) (n:=0) (out:=out) (Heap.get?_push_size _ rfl);exact⟨.ref s2.heap.objs.size,_,I2.laid (t':=s2.toks) (o:=.lst ((gf m).map V.int)) kp (Nat.le_refl _) ⟨lo,out.toList,_,jR ia,g2⟩,rfl,q _ (I2.hok.fresh (Nat.le_refl _))⟩
theorem Bj{d:Dc β}{p:Pos}(hg:Gl X "sorted")(hm:X.mg "sorted"=none)(ha:E X Γ e b d)(h64:d.l.length<64)(hc:X.calm=true:=by rfl)(hs:starEach [e] X.env=(false,eval e X.env)::starEach [] X.env:=by rfl):E X Γ (.Call (.Name "sorted" p) [e] [] pos) true (gf (d.l.map (·.1))):=by
 with_unfolding_all
  exact aF (dI (sF hc) hg hm boot_sorted (aA ha aU hs) (he:=hs)) fun σ H Q ⟨H0,F,O,S,q⟩=>⟨H0,F,O,S,fun v H1 s1 r1=>by
    obtain⟨p,kvs,e,rd,n,rr⟩:=r1
    have key:∀{kvs:List (Key×V)} {l:List (Int×β)} {N:Nn} {G:Hp},Paired (DP X.K N G) kvs l->kvs.map (·.1)=(l.map (·.1)).map Sum.inl:=fun r=>by
     induction r with
     |nil=>rfl
     |cons h _ ih=>rw[List.map_cons,List.map_cons,List.map_cons,ih,h.1]
    refine⟨p,kvs,d.l.map (·.1),by rw[e],aB.rd (aj _ _) rd,key rr,by rw[List.length_map];exact h64,fun l hl'=>?_⟩;obtain⟨z1,z2⟩:=cI (xs:=(gf (d.l.map (·.1))).map V.int) (S.go s1) hl';refine q _ _ (s1.trans z1) ⟨l,_,rfl,dF.of z2,Nf.wk (b:=true) ((S.go s1).gQ hl') z2,?_⟩;generalize gf (d.l.map (·.1))=m
    induction m with
    |nil=>exact .nil
    |cons x m ih=>exact .cons rfl ih⟩
end
def Fm:List (Option Expr)->List Expr->Option (List Int)
 |[],[]=>some []
 |some (.Constant (.int i) _ _)::ks,.Constant (.bool true) _ _::vs=>(Fm ks vs).map (i::·)
 |_,_=>none
def kT(ks:List Int):List (Key×V):=ks.map fun k=>(Sum.inl k,V.bl true)
theorem xt{X:Cx}{pos:Pos}:∀{keys:List (Option Expr)} {values:List Expr} {ks:List Int},Fm keys values=some ks->keys.all (·.isSome)=true/\keys.length=values.length/\keys.length=ks.length/\∃trs,Fo X pos keys values trs/\∀σ H Q,Q ((kT ks).map fun kv=>(kV kv.1,kv.2)) H->pD trs σ H Q:=by
 intro keys
 induction keys with
 |nil =>
  intro values ks h;cases values with
  |nil=>cases h;exact⟨rfl,rfl,rfl,[],B7,fun σ H Q q=>q⟩
  |cons _ _=>cases h
 |cons k keys ih =>
  intro values ks h
  match k,values,h with
  |some (.Constant (.int i) j q),.Constant (.bool true) j' q'::vs',h =>
   have h:(Fm keys vs').map (i::·)=some ks:=h;cases hc:Fm keys vs' with
   |none=>rw[hc] at h;cases h
   |some ms =>
    rw[hc] at h;cases h;obtain⟨h1,h2,h3,trs,h4,h5⟩:=ih hc;exact⟨by simpa using h1,by simp[h2],by simp[h3],_,yZ ya Co h4,fun σ H Q q=>h5 σ H _ q⟩
theorem qZ:∀(ks ms:List Int),(ms++ks).Nodup->hZ (kT ms) (kT ks)=kT (ms++ks)
 |[],ms,_=>by rw[List.append_nil];rfl
 |k::ks,ms,h=>by
  have hn:k∉ms:=fun z=>by
   have:=(List.nodup_append.mp h).2.2 k z k (List.mem_cons_self ..);exact this rfl
  have e:putK (kT ms) (Sum.inl k) (V.bl true)=kT (ms++[k]):=by
   unfold putK;rw[if_neg (fun z=>?_)]
   .unfold kT;rw[List.map_append];rfl
   .obtain⟨kv,h1,h2⟩:=List.any_eq_true.mp z;obtain⟨m,hm,rfl⟩:=List.mem_map.mp h1;have:(Sum.inl m:Key)=Sum.inl k:=of_decide_eq_true h2;cases this;exact hn hm
  show hZ (putK (kT ms) (Sum.inl k) (V.bl true)) (kT ks)=_;rw[e,qZ ks (ms++[k]) (by rw[List.append_assoc];exact h),List.append_assoc];rfl
section
variable{X:Cx}{Γ:aC}{pos:Pos}
theorem GN{keys:List (Option Expr)}{values:List Expr}{ks:List Int}(h:Fm keys values=some ks)(hn:ks.Nodup)(h0:ks≠[])(h15:ks.length<=15):EN X Γ (.Dict keys values pos) (Dc.mk (ks.map fun k=>(k,true))):=by
 obtain⟨h1,h2,h3,trs,h4,h5⟩:=xt (X:=X) (pos:=pos) h;have hk0:keys≠[]:=fun z=>by rw[z] at h3;exact h0 (List.length_eq_zero_iff.mp h3.symm)
 with_unfolding_all
  exact aF (AB h4 h1 h2 hk0 (by rw[h3];exact h15)) fun σ H Q ⟨H0,F,O,Z,q⟩ p hp=>by
   refine h5 σ _ _ ⟨bq,kT ks,rfl,by unfold kT;rw[List.length_map];exact h15,?_⟩;have em:hZ [] (kT ks)=kT ks:=qZ ks [] hn;rw[em];have so:∀a o,H a=some o->a≠p:=fun a o h e=>by rw[e,hp] at h;cases h
   have hx:off (upd (upd H p (.dK [])) p (.dK (kT ks))) O p=some (.dK (kT ks)):=by rw[a7 (Z.kC hp)];exact bq
   refine q _ _ (fun a o h=>?_) ⟨p,kT ks,rfl,.inl hx,⟨hp,hx⟩,?_⟩
   .rw[aO (so a o h),aO (so a o h)];exact h
   .have key:∀{N:Nn} {G:Hp} (l:List Int),Paired (DP (β:=Bool) X.K N G) (kT l) (l.map fun k=>(k,true)):=fun l=>by
     induction l with
     |nil=>exact .nil
     |cons k l ih=>exact .cons ⟨rfl,rfl⟩ ih
    exact key ks
end
open PySem PySem.Spec PyProof.Rows
@[irreducible] def IU{α:Type}[Py α](X:Cx)(Γ:aC)(e:Expr)(post:α->Prop):Prop:=PE X e fun σ H Q=>∃H0 F O,dw X.K H0 F O Γ σ H/\∀a v H',post a->aB H H'->Py.rp X.K (.new H) (off H' O) v a->Q v H'
section
variable{X:Cx}{Γ:aC}{D:GD}{α β γ:Type}[Py α][Py β][Py γ]{e e1 e2:Expr}{b b1 b2:Bool}{pos p:Pos}{rest st:List Stmt}{k:Nat}{name:Str}{ps:List Str}
theorem BD(i:Nat){x:Str}{post:α->Prop}{p:Pos}(hN:X.N.Nodup)(he:IU X Γ e post)(h:∀a,post a->S X (Γ.set i (some (.dpo a))) rest D)(hi:X.N[i]?=some x:=by rfl)(hx:Loc X.env.scope x:=by first|exact Or.inl rfl|exact Or.inr rfl)
  (hs:swapsWith e (some (.Name x p)) pos.line X.env=pure false:=by rfl) (hf:X.fn x=true\/X.env.scope.names.lookup x=some .local:=by first|exact .inl rfl|exact .inr rfl):S X Γ (.Assign [.Name x p] e pos::rest) D:=by
 with_unfolding_all
  exact cS (cR (l_ hN hi hx he hs hf) fun De σ H ⟨H0,F,O,Z,n,_⟩=>⟨H0,F,O,Z,fun a v H1 hz s1 r1=>by
    obtain ⟨Z',so⟩:=Z.uK (i:=i) (v:=v) s1 (fun q=>H q=none/\∃ xs:Mt,H1 q=some (mo xs)) (fun q z=>z) (Bd.dpo a) True.intro (by
     refine Py.tr (fun q xs sq nn=>?_) (fun q xs sq=>aB.rt (aj _ _) sq) r1;have:=(aj _ _) _ _ nn.2
     exact⟨Mo.of this,⟨nn.1,xs,this⟩,this⟩)
    exact n _ _ _ _ so Z' (h a hz)⟩)
end
end L2.EP
namespace PySem
section
variable{prog:Program}{w:World}{A:Around}{s:Shared}{R:Result->Shared->Prop}
variable{I:Addr}{fp wr:List Addr}{G:Array GenState->Array GenState->Prop}{n:Nat}{P:Nat->Value->Prop}{St:Nat->Shared->Prop}
end
section
variable{prog:Program}{w:World}{A:Around}{E:Value->Shared->Prop}{s:Shared}
variable{I:Addr}{fp wr:List Addr}{G:Array GenState->Array GenState->Prop}{n:Nat}{P:Nat->Value->Prop}{St:Nat->Shared->Prop}
end
end PySem
namespace L2.EP
open PySem PySem.Spec PyProof.Rows
section
variable{X:Cx}{Γ:aC}{α:Type}[Py α]{e:Expr}{b:Bool}{pos:Pos}
end
section
variable{X:Cx}{Γ:aC}{α β γ:Type}[Py α][Py β][Py γ]{e1 e2:Expr}{b b1 b2:Bool}{p pos:Pos}{k:Nat}{name:Str}{ps:List Str}
theorem zk{pre:α->β->Prop}{post:α->β->γ->Prop}{c:β}{po:α->Prop}(C:aN X.prog X.w X.K X.mg X.base k name ps (nG X.K pre b post))(hr:cM k X.A)(hg:Gl X name)(h1:EX X Γ e1 b1 po)(h2:E X Γ e2 b2 c)(hp:∀a,po a->pre a c)
  (hs1:starEach [e1,e2] X.env=(false,eval e1 X.env)::starEach [e2] X.env:=by rfl) (hs2:starEach [e2] X.env=(false,eval e2 X.env)::starEach [] X.env:=by rfl) (hdb:(name==("__debug__":Str))=false:=by decide) (hpl:(backTo pos (starEach [e2] X.env)).any (·.1)=false:=by rfl):
  EX X Γ (.Call (.Name name p) [e1,e2] [] pos) b (fun r=>∃a,po a/\post a c r):=by
 with_unfolding_all
  obtain⟨fa,fd,F,B,kp,m⟩:=C.ex
  exact aF (d8 F hr hg m kp B .nil iV (aA h1 (aA h2 aU hs2) hs1) hdb hs1 hpl) fun σ H Q ⟨H0,F,O,S,q⟩=>⟨H0,F,O,S,fun a v1 H1 ha s1 r1=>⟨H0,F,O,S.go s1,fun v2 H2 s2 r2 =>
   ⟨O,v1,v2,a,c,(S.go (s1.trans s2)).own,rfl,a9 bf (aw (ag s2) r1),a9 bf r2,hp a ha,fun z r H' hz s' rz=>q z r H' ⟨a,ha,hz⟩ (s1.trans (s2.trans s')) ((S.go (s1.trans s2)).back rz)⟩⟩⟩
end
section
variable{X:Cx}{R:RB}{Γ:aC}{D:GD}{α β γ δ:Type}[Py α][Py β][Py γ][Py δ]{e e1 e2 e3:Expr}{b b1 b2 b3:Bool}{p pos:Pos}{rest st:List Stmt}{C:Addr}{name:Str}{k:Nat}{ps:List Str}
theorem AE{K:PySem.W.Frag}{N:Nn}{H:Hp}{v:V}{a b c d:PyData}(h:DN K N H v (.tuple [a,b,c,d])):∃q v1 v2 v3 v4,v=.ref q/\Rt H q [v1,v2,v3,v4]/\DN K N H v1 a/\DN K N H v2 b/\DN K N H v3 c/\DN K N H v4 d:=by
 cases h with
 |tup sq q =>
  cases q with
  |cons h1 q =>
   cases q with
   |cons h2 q =>
    cases q with
    |cons h3 q =>
     cases q with
     |cons h4 q =>
      cases q;exact⟨_,_,_,_,_,rfl,sq,h1,h2,h3,h4⟩
theorem AJ(i j l m:Nat){x y z w:Str}{u1 u2 u3 u4:PyData}{p1 p2 p3 p4 p5:Pos}{k:Nat}(hN:X.N.Nodup)(he:E X Γ e b (Dt.mk (.tuple [u1,u2,u3,u4])))(h:S X ((((Γ.set i (some (.val b (Dt.mk u1)))).set j (some (.val b (Dt.mk u2)))).set l (some (.val b (Dt.mk u3)))).set m (some (.val b (Dt.mk u4)))) rest D)(hc:X.calm=true:=by rfl)(hi:X.N[i]?=some x:=by rfl)(hj:X.N[j]?=some y:=by rfl)(hl:X.N[l]?=some z:=by rfl)(hm:X.N[m]?=some w:=by rfl)
  (hx:Loc X.env.scope x:=by first|exact Or.inl rfl|exact Or.inr rfl) (hy:Loc X.env.scope y:=by first|exact Or.inl rfl|exact Or.inr rfl) (hz:Loc X.env.scope z:=by first|exact Or.inl rfl|exact Or.inr rfl) (hw':Loc X.env.scope w:=by first|exact Or.inl rfl|exact Or.inr rfl)
  (hf:X.fn x=true\/X.env.scope.names.lookup x=some .local:=by first|exact .inl rfl|exact .inr rfl) (hf2:X.fn y=true\/X.env.scope.names.lookup y=some .local:=by first|exact .inl rfl|exact .inr rfl) (hf3:X.fn z=true\/X.env.scope.names.lookup z=some .local:=by first|exact .inl rfl|exact .inr rfl) (hf4:X.fn w=true\/X.env.scope.names.lookup w=some .local:=by first|exact .inl rfl|exact .inr rfl)
  (hs:swapsWithSole [.Tuple [.Name x p1,.Name y p2,.Name z p3,.Name w p4] k p5] e pos.line X.env=pure false:=by rfl) (hw:swappedStores [.Tuple [.Name x p1,.Name y p2,.Name z p3,.Name w p4] k p5] e X.env=pure none:=by rfl)
  (h1:(assignEach [.Tuple [.Name x p1,.Name y p2,.Name z p3,.Name w p4] k p5] X.env).map (·.2)=[assign (.Tuple [.Name x p1,.Name y p2,.Name z p3,.Name w p4] k p5) X.env]:=by rfl) (hn:(assignEach [.Name x p1,.Name y p2,.Name z p3,.Name w p4] X.env).length=4:=by rfl)
  (hst:(assignEach [.Name x p1,.Name y p2,.Name z p3,.Name w p4] X.env).findIdx? (·.1)=none:=by rfl) (ha1:assignEach [.Name x p1,.Name y p2,.Name z p3,.Name w p4] X.env=(false,assign (.Name x p1) X.env)::assignEach [.Name y p2,.Name z p3,.Name w p4] X.env:=by rfl) (ha2:assignEach [.Name y p2,.Name z p3,.Name w p4] X.env=(false,assign (.Name y p2) X.env)::assignEach [.Name z p3,.Name w p4] X.env:=by rfl)
  (ha3:assignEach [.Name z p3,.Name w p4] X.env=(false,assign (.Name z p3) X.env)::assignEach [.Name w p4] X.env:=by rfl) (ha4:assignEach [.Name w p4] X.env=(false,assign (.Name w p4) X.env)::assignEach [] X.env:=by rfl):
  S X Γ (.Assign [.Tuple [.Name x p1,.Name y p2,.Name z p3,.Name w p4] k p5] e pos::rest) D:=by
 with_unfolding_all
  exact cS (cR (xC he (tP hc (dO (de hN hi hx hf) (dO (de hN hj hy hf2) (dO (de hN hl hz hf3) (dO (de hN hm hw' hf4) o5))))) hs hw h1) fun De σ H ⟨H0,F,O,Z,n,_⟩=>⟨H0,F,O,Z,fun v H1 s1 r1=>by
    obtain⟨q,v1,v2,v3,v4,e',sq,g1,g2,g3,g4⟩:=AE r1;refine⟨q,_,e',kf (aj _ _) sq,rfl,v1,[v2,v3,v4],rfl,v2,[v3,v4],rfl,v3,[v4],rfl,v4,[],rfl,rfl,?_⟩
    exact n _ _ H1 O (ag s1) (((((Z.go s1).set (α:=Dt) g1).set (α:=Dt) g2).set (α:=Dt) g3).set (α:=Dt) g4) h⟩)
end
end L2.EP
namespace L2.Srt
open PySem PyProof.Rows
def Ja:Bool->Keyed->Array Keyed->Nat->Nat->Nat->StateT SortSt Sem (Option Nat):=sortPriv% PySem.Builtin.gallop
def IW:Array Keyed->Array Keyed->StateT SortSt Sem (Array Keyed):=sortPriv% PySem.Builtin.mergeLo
def IJ:Array Keyed->Array Keyed->StateT SortSt Sem (Array Keyed):=sortPriv% PySem.Builtin.mergeHi
section
variable{w:World}{prog:Program}{s:Shared}{E:Value->Shared->Prop}{A:Around}
def kM(x:Keyed):Prop:=∃n t,x.1=Value.int n t
theorem qu{st:SortSt}{x y:Keyed}{Q:Option Bool->SortSt->Prop}(hk:kindOf st=oneType')(hx:kM x)(hy:kM y)(h:∀b,Q (some b) st):wpS (model prog w) A E s (lt' x y) Q st:=by
 obtain⟨a,t,ea⟩:=hx;obtain⟨b,u,eb⟩:=hy;rw[lt'_eq];refine wpS_bind (wpS_get ?_);rw[hk,keyLt'_oneType,ea,eb];exact wpS_bind (wpS_lift (wpAny_attempt (oneLt_int ⟨rfl,wpS_pure (h _)⟩)))
theorem wp_rule{st:SortSt}{tag:String}{Q:Unit->SortSt->Prop}(h:Q () st):wpS (model prog w) A E s (liftM (rule tag):StateT SortSt Sem Unit) Q st:=wpS_lift (wpAny_rule ⟨rfl,h⟩)
theorem aJ{st:SortSt}{arr:Array Keyed}{i:Nat}{Q:Keyed->SortSt->Prop}(hi:i<arr.size)(h:Q arr[i] st):wpS (model prog w) A E s (elem' arr i) Q st:=by
 rw[elem'_eq,getElem?_pos arr i hi];exact wpS_pure h
theorem rW{st:SortSt}{left:Bool}{key:Keyed}{arr:Array Keyed}{j:Nat}{Q:Option Bool->SortSt->Prop}(hk:kindOf st=oneType')(hK:∀x∈arr,kM x)(hy:kM key)(hj:j<arr.size)(h:∀b,Q (some b) st):
  wpS (model prog w) A E s (elem' arr j >>= fun x=>if left=true then lt' x key else (lt' key x >>= fun r=>pure (Option.map (fun b=>!b) r))) Q st:=by
 refine wpS_bind (aJ hj ?_);have hx:=hK arr[j] (Array.getElem_mem hj);cases left
 .exact wpS_bind (qu hk hy hx fun b=>wpS_pure (h _))
 .exact qu hk hx hy h
theorem ik{st:SortSt}{left:Bool}{key:Keyed}{arr:Array Keyed}{base n hint:Nat}{Q:Option Nat->SortSt->Prop}(hk:kindOf st=oneType')(hK:∀x∈arr,kM x)(hy:kM key)(hh:hint<n)(hb:base+n<=arr.size)(h:∀k,k<=n->Q (some k) st):wpS (model prog w) A E s (Ja left key arr base n hint) Q st:=by
 unfold Ja;refine wpS_bind (rW hk hK hy (by omega) fun right=>?_)
 have stepN:∀{f:Nat->Option (Option Nat)×Nat×Nat->StateT SortSt Sem (ForInStep (Option (Option Nat)×Nat×Nat))} {g:Option (Option Nat)×Nat×Nat->StateT SortSt Sem (Option Nat)} {c:Option (Option Nat)×Nat×Nat} (P:Nat×Nat->Prop),
   (∀i u,P u->wpS (model prog w) A E s (f i (none,u)) (fun r st'=>st'=st/\((∃v,r=.done (none,v)/\P v)\/∃v,r=.yield (none,v)/\P v)) st)->c.1=none->P c.2->(∀u,P u->wpS (model prog w) A E s (g (none,u)) Q st)->wpS (model prog w) A E s (forIn [0:n] c f >>= g) Q st:=by
  intro f g c P hf hc hP hg;refine wpS_bind (wpS_forRange (I:=fun _ c st'=>st'=st/\c.1=none/\P c.2) ?_ ?_ ⟨rfl,hc,hP⟩)
  .rintro i ⟨o,u⟩ st' _ _ ⟨rfl,rfl,hu⟩;refine wpS_mono (hf i u hu) ?_;rintro r st' ⟨rfl,⟨v,rfl,hv⟩|⟨v,rfl,hv⟩⟩
   .exact hg v hv
   .exact⟨rfl,rfl,hv⟩
  .rintro⟨o,u⟩ st' ⟨rfl,rfl,hu⟩;exact hg u hu
 cases right
 .dsimp only;simp only[if_false,Bool.false_eq_true];refine stepN (fun _=>True) ?_ rfl True.intro ?_
  .rintro i ⟨lastofs,ofs⟩ _;dsimp only;by_cases z:ofs≥hint+1
   .rw[if_pos z];exact wpS_pure ⟨rfl,.inl ⟨_,rfl,True.intro⟩⟩
   .rw[if_neg z];refine wpS_bind (rW hk hK hy (by omega) fun b=>?_);cases b
    .exact wpS_pure ⟨rfl,.inr ⟨_,rfl,True.intro⟩⟩
    .exact wpS_pure ⟨rfl,.inl ⟨_,rfl,True.intro⟩⟩
  .rintro⟨lastofs,ofs⟩ _;dsimp only;refine stepN (fun u=>u.2<=n) ?_ rfl (by dsimp only;omega) ?_
   .rintro i ⟨lo,hi⟩ hu;dsimp only at hu ⊢;by_cases z:lo≥hi
    .rw[if_pos z];exact wpS_pure ⟨rfl,.inl ⟨_,rfl,hu⟩⟩
    .rw[if_neg z];refine wpS_bind (rW hk hK hy (by omega) fun b=>?_);cases b
     .exact wpS_pure ⟨rfl,.inr ⟨_,rfl,by dsimp only;omega⟩⟩
     .exact wpS_pure ⟨rfl,.inr ⟨_,rfl,hu⟩⟩
   .rintro⟨lo,hi⟩ hu;exact wpS_pure (h _ hu)
 .dsimp only;simp only[if_true];refine stepN (fun _=>True) ?_ rfl True.intro ?_
  .rintro i ⟨lastofs,ofs⟩ _;dsimp only;by_cases z:ofs≥n-hint
   .rw[if_pos z];exact wpS_pure ⟨rfl,.inl ⟨_,rfl,True.intro⟩⟩
   .rw[if_neg z];refine wpS_bind (rW hk hK hy (by omega) fun b=>?_);cases b
    .exact wpS_pure ⟨rfl,.inl ⟨_,rfl,True.intro⟩⟩
    .exact wpS_pure ⟨rfl,.inr ⟨_,rfl,True.intro⟩⟩
  .rintro⟨lastofs,ofs⟩ _;dsimp only;refine stepN (fun u=>u.2<=n) ?_ rfl (by dsimp only;omega) ?_
   .rintro i ⟨lo,hi⟩ hu;dsimp only at hu ⊢;by_cases z:lo≥hi
    .rw[if_pos z];exact wpS_pure ⟨rfl,.inl ⟨_,rfl,hu⟩⟩
    .rw[if_neg z];refine wpS_bind (rW hk hK hy (by omega) fun b=>?_);cases b
     .exact wpS_pure ⟨rfl,.inr ⟨_,rfl,by dsimp only;omega⟩⟩
     .exact wpS_pure ⟨rfl,.inr ⟨_,rfl,hu⟩⟩
   .rintro⟨lo,hi⟩ hu;exact wpS_pure (h _ hu)
theorem az{α:Type}{c:Prop}[Decidable c]{x y:StateT SortSt Sem α}{Q:α->SortSt->Prop}{st:SortSt}(h1:c->wpS (model prog w) A E s x Q st)(h2:¬c->wpS (model prog w) A E s y Q st):wpS (model prog w) A E s (if c then x else y) Q st:=by
 by_cases z:c
 .rw[if_pos z];exact h1 z
 .rw[if_neg z];exact h2 z
def MI(a b:Array Keyed)(out:Array Keyed)(ia ib:Nat):Prop:=out.toList.Perm (a.toList.take ia++b.toList.take ib)
def Al(a b out:Array Keyed):Prop:=out.toList.Perm (a.toList++b.toList)
theorem Cn{α:Type}(a b c d:List α):((a++b)++(c++d)).Perm ((a++c)++(b++d)):=by
 rw[List.append_assoc,List.append_assoc];refine List.Perm.append_left a ?_;rw[<-List.append_assoc];rw[<-List.append_assoc];exact List.Perm.append_right d List.perm_append_comm
theorem MI.fin{a b out:Array Keyed}{ia ib:Nat}(h:MI a b out ia ib):(out.toList++(a.toList.drop ia++b.toList.drop ib)).Perm (a.toList++b.toList):=by
 refine(List.Perm.append_right _ h).trans ((Cn _ _ _ _).trans ?_);rw[List.take_append_drop,List.take_append_drop]
theorem lK(a:Array Keyed)(i:Nat):(a.extract i a.size).toList=a.toList.drop i:=by
 rw[Array.toList_extract];show(a.toList.drop i).take (a.size-i)=_;rw[List.take_of_length_le (by rw[List.length_drop,Array.length_toList];exact Nat.le_refl _)]
theorem xA(a:Array Keyed)(i k:Nat):(a.extract i (i+k)).toList=(a.toList.drop i).take k:=by
 rw[Array.toList_extract];show(a.toList.drop i).take (i+k-i)=_;rw[Nat.add_sub_cancel_left]
theorem MI.done{a b out:Array Keyed}{ia ib:Nat}(h:MI a b out ia ib):Al a b (out++a.extract ia++b.extract ib):=by
 show(out++a.extract ia a.size++b.extract ib b.size).toList.Perm _;rw[Array.toList_append,Array.toList_append,lK,lK,List.append_assoc];exact h.fin
theorem MI.last{a b out:Array Keyed}{ia ib:Nat}(h:MI a b out ia ib):Al a b (out++b.extract ib++a.extract ia):=by
 show(out++b.extract ib b.size++a.extract ia a.size).toList.Perm _;rw[Array.toList_append,Array.toList_append,lK,lK,List.append_assoc];exact(List.Perm.append_left _ List.perm_append_comm).trans h.fin
theorem o_{a:Array Keyed}{i:Nat}(h:i<a.size):a.toList.take (i+1)=a.toList.take i++[a[i]]:=by
 rw[List.take_add_one];have e:a.toList[i]?=some a[i]:=by rw[Array.getElem?_toList];exact getElem?_pos a i h
 rw[e];rfl
theorem zv(a:Array Keyed)(i k:Nat):a.toList.take (i+k)=a.toList.take i++(a.toList.drop i).take k:=List.take_add ..
theorem MI.b{a b out:Array Keyed}{ia ib:Nat}(h:MI a b out ia ib)(hb:ib<b.size):MI a b (out.push b[ib]) ia (ib+1):=by
 unfold MI;rw[Array.toList_push,o_ hb,<-List.append_assoc];exact List.Perm.append_right _ h
theorem MI.a{a b out:Array Keyed}{ia ib:Nat}(h:MI a b out ia ib)(ha:ia<a.size):MI a b (out.push a[ia]) (ia+1) ib:=by
 unfold MI;rw[Array.toList_push,o_ ha,List.append_assoc];refine(List.Perm.append_right _ h).trans ?_;rw[List.append_assoc];exact List.Perm.append_left _ List.perm_append_comm
theorem MI.bk{a b out:Array Keyed}{ia ib:Nat}(h:MI a b out ia ib)(k:Nat):MI a b (out++b.extract ib (ib+k)) ia (ib+k):=by
 unfold MI;rw[Array.toList_append,xA,zv,<-List.append_assoc];exact List.Perm.append_right _ h
theorem MI.ak{a b out:Array Keyed}{ia ib:Nat}(h:MI a b out ia ib)(k:Nat):MI a b (out++a.extract ia (ia+k)) (ia+k) ib:=by
 unfold MI;rw[Array.toList_append,xA,zv,List.append_assoc];refine(List.Perm.append_right _ h).trans ?_;rw[List.append_assoc];exact List.Perm.append_left _ List.perm_append_comm
def Sg(st st':SortSt):Prop:=kindOf st'=kindOf st/\arrOf st'=arrOf st/\pendingOf st'=pendingOf st/\failedOf st'=failedOf st
theorem Sg.refl(st:SortSt):Sg st st:=⟨rfl,rfl,rfl,rfl⟩
def IZ:Nat->StateT SortSt Sem Unit:=sortPriv% PySem.Builtin.setMinGallop
theorem qb{st0 st:SortSt}{g:Nat}{Q:Unit->SortSt->Prop}(hs:Sg st0 st)(h:∀st',Sg st0 st'->Q () st'):wpS (model prog w) A E s (IZ g) Q st:=by
 unfold IZ;exact wpS_modify (h _ hs)
set_option maxHeartbeats 1000000 in
theorem C_{st:SortSt}{a b:Array Keyed}{Q:Array Keyed->SortSt->Prop}(hk:kindOf st=oneType')(ha:∀x∈a,kM x)(hb:∀x∈b,kM x)(a1:1<=a.size)(b1:1<=b.size)(h:∀out st',Sg st st'->Al a b out->Q out st'):wpS (model prog w) A E s (IW a b) Q st:=by
 have atA:∀{i:Nat} (hi:i<a.size),kM a[i]:=fun hi=>ha _ (Array.getElem_mem hi);have atB:∀{i:Nat} (hi:i<b.size),kM b[i]:=fun hi=>hb _ (Array.getElem_mem hi);unfold IW;refine wpS_bind (wp_rule ?_);dsimp only;refine wpS_bind (aJ (by omega) ?_)
 have m0:MI a b #[b[0]] 0 1:=by
  unfold MI;rw[o_ (by omega:0<b.size)];exact List.Perm.refl _
 by_cases z1:1=b.size
 .rw[if_pos (by simpa using z1)];exact wpS_pure (h _ _ (Sg.refl _) m0.done)
 rw[if_neg (by simpa using z1)];by_cases z2:0+1=a.size
 .rw[if_pos (by simpa using z2)];exact wpS_pure (h _ _ (Sg.refl _) m0.last)
 rw[if_neg (by simpa using z2)];refine wpS_bind (wpS_get ?_);refine wpS_bind (wpS_mono (wpS_forRange (I:=fun i c st'=>Sg st st'/\c.1=none/\MI a b c.2.1 c.2.2.1 c.2.2.2.1/\c.2.2.1+1<a.size/\c.2.2.2.1<b.size/\i+1<=c.2.2.1+c.2.2.2.1) (Q:=fun c st'=>Sg st st'/\∃r,c.1=some r/\Al a b r) ?_ ?_ ⟨Sg.refl _,rfl,m0,by dsimp only;omega,by dsimp only;omega,by dsimp only;omega⟩) ?_)
 .rintro i ⟨o,out,ia,ib,mg⟩ st1 _ hi ⟨sg,eo,mi,la,lb,pr⟩;dsimp only at eo mi la lb pr ⊢;subst eo;refine wpS_bind (wpS_mono (wpS_forRange (I:=fun j c st'=>st'=st1/\c.1=none/\MI a b c.2.1 c.2.2.1 c.2.2.2.1/\c.2.2.1+1<a.size/\c.2.2.2.1<b.size/\ia+ib+j<=c.2.2.1+c.2.2.2.1) (Q:=fun c st'=>st'=st1/\((∃r,c.1=some r/\Al a b r)\/(c.1=none/\MI a b c.2.1 c.2.2.1 c.2.2.2.1/\c.2.2.1+1<a.size/\c.2.2.2.1<b.size/\ia+ib+1<=c.2.2.1+c.2.2.2.1))) ?_ ?_ ⟨rfl,rfl,mi,la,lb,by dsimp only;omega⟩) ?_)
  .rintro j ⟨o,out,ia',ib',ac,bc⟩ st2 _ hj ⟨rfl,eo,mi,la,lb,pr'⟩;dsimp only at eo mi la lb pr' ⊢;subst eo;refine wpS_bind (aJ lb (wpS_bind (aJ (by omega:ia'<a.size) (wpS_bind (qu (by rw[sg.1];exact hk) (atB lb) (atA (by omega)) fun bw=>?_)))));cases bw
   .refine wpS_bind (aJ (by omega:ia'<a.size) ?_);have mi':=mi.a (by omega:ia'<a.size);by_cases z:ia'+1+1=a.size
    .rw[if_pos (by simpa using z)];exact wpS_pure ⟨rfl,.inl ⟨_,rfl,mi'.last⟩⟩
    .rw[if_neg (by simpa using z)];split
     .exact wpS_pure ⟨rfl,.inr ⟨rfl,mi',by dsimp only;omega,lb,by dsimp only;omega⟩⟩
     .exact wpS_pure ⟨rfl,rfl,mi',by dsimp only;omega,lb,by dsimp only;omega⟩
   .refine wpS_bind (aJ lb ?_);have mi':=mi.b lb;by_cases z:ib'+1=b.size
    .rw[if_pos (by simpa using z)];exact wpS_pure ⟨rfl,.inl ⟨_,rfl,mi'.done⟩⟩
    .rw[if_neg (by simpa using z)];split
     .exact wpS_pure ⟨rfl,.inr ⟨rfl,mi',la,by dsimp only;omega,by dsimp only;omega⟩⟩
     .exact wpS_pure ⟨rfl,rfl,mi',la,by dsimp only;omega,by dsimp only;omega⟩
  .rintro⟨o,out,ia',ib',ac,bc⟩ st2 ⟨rfl,eo,mi,la,lb,pr'⟩;dsimp only at eo mi la lb pr';exact⟨rfl,.inr ⟨eo,mi,la,lb,by dsimp only;omega⟩⟩
  .rintro⟨o,out,ia',ib',ac,bc⟩ st2 ⟨rfl,⟨r,er,al⟩|⟨er,mi,la,lb,pr'⟩⟩
   .dsimp only at er ⊢;subst er;exact wpS_pure ⟨sg,r,rfl,al⟩
   .dsimp only at er mi la lb pr' ⊢;subst er;refine wpS_bind (wp_rule ?_);refine wpS_bind (wpS_mono (wpS_forRange (I:=fun j c st'=>Sg st st'/\c.1=none/\MI a b c.2.1 c.2.2.1 c.2.2.2.1/\c.2.2.1+1<a.size/\c.2.2.2.1<b.size/\ia'+ib'<=c.2.2.1+c.2.2.2.1) (Q:=fun c st'=>Sg st st'/\((∃r,c.1=some r/\Al a b r)\/(c.1=none/\MI a b c.2.1 c.2.2.1 c.2.2.2.1/\c.2.2.1+1<a.size/\c.2.2.2.1<b.size/\ia'+ib'<=c.2.2.1+c.2.2.2.1))) ?_ ?_ ⟨sg,rfl,mi,la,lb,Nat.le_refl _⟩) ?_)
    .rintro j ⟨o,out,ia2,ib2,mg2,ac2,bc2⟩ st3 _ hj ⟨sg3,eo,mi,la,lb,pr2⟩;dsimp only at eo mi la lb pr2 ⊢;subst eo;refine az (fun _=>?_) (fun _=>?_)
     all_goals
      refine wpS_bind (qb sg3 fun st4 sg4=>?_);refine wpS_bind (aJ lb ?_);refine wpS_bind (ik (by rw[sg4.1];exact hk) ha (atB lb) (by omega) (by omega) fun k hk1=>?_);dsimp only;refine az (fun k0=>?_) (fun k0=>?_)
      .have mk:=mi.ak k;refine az (fun z=>wpS_pure ⟨sg4,.inl ⟨_,rfl,mk.last⟩⟩) (fun z=>?_);refine az (fun z'=>wpS_pure ⟨sg4,.inl ⟨_,rfl,mk.done⟩⟩) (fun z'=>?_);have la2:ia2+k+1<a.size:=by simp at z z';omega
       refine wpS_bind (aJ lb ?_);have mb:=mk.b lb;refine az (fun z=>wpS_pure ⟨sg4,.inl ⟨_,rfl,mb.done⟩⟩) (fun z=>?_);have lb2:ib2+1<b.size:=by simp at z;omega
       refine wpS_bind (aJ (show ia2+k<a.size by omega) ?_);refine wpS_bind (ik (by rw[sg4.1];exact hk) hb (atA (show ia2+k<a.size by omega)) (by omega) (by omega) fun k' hk'=>?_);dsimp only;refine az (fun k0'=>?_) (fun k0'=>?_)
       .have mb2:=mb.bk k';refine az (fun z=>wpS_pure ⟨sg4,.inl ⟨_,rfl,mb2.done⟩⟩) (fun z=>?_);have lb3:ib2+1+k'<b.size:=by simp at z;omega
        refine wpS_bind (aJ (show ia2+k<a.size by omega) ?_);have me:=mb2.a (show ia2+k<a.size by omega);refine az (fun z=>wpS_pure ⟨sg4,.inl ⟨_,rfl,me.last⟩⟩) (fun z=>?_);have la4:ia2+k+1+1<a.size:=by simp at z;omega
        refine az (fun z=>wpS_pure ⟨sg4,.inr ⟨rfl,me,la4,lb3,by dsimp only;omega⟩⟩) (fun z=>wpS_pure ⟨sg4,rfl,me,la4,lb3,by dsimp only;omega⟩)
       .refine wpS_bind (aJ (show ia2+k<a.size by omega) ?_);have me:=mb.a (show ia2+k<a.size by omega);refine az (fun z=>wpS_pure ⟨sg4,.inl ⟨_,rfl,me.last⟩⟩) (fun z=>?_);have la4:ia2+k+1+1<a.size:=by simp at z;omega
        refine az (fun z=>wpS_pure ⟨sg4,.inr ⟨rfl,me,la4,lb2,by dsimp only;omega⟩⟩) (fun z=>wpS_pure ⟨sg4,rfl,me,la4,lb2,by dsimp only;omega⟩)
      .have mk:=mi;have la2:=la;refine wpS_bind (aJ lb ?_);have mb:=mk.b lb;refine az (fun z=>wpS_pure ⟨sg4,.inl ⟨_,rfl,mb.done⟩⟩) (fun z=>?_);have lb2:ib2+1<b.size:=by simp at z;omega
       refine wpS_bind (aJ (show ia2<a.size by omega) ?_);refine wpS_bind (ik (by rw[sg4.1];exact hk) hb (atA (show ia2<a.size by omega)) (by omega) (by omega) fun k' hk'=>?_);dsimp only;refine az (fun k0'=>?_) (fun k0'=>?_)
       .have mb2:=mb.bk k';refine az (fun z=>wpS_pure ⟨sg4,.inl ⟨_,rfl,mb2.done⟩⟩) (fun z=>?_);have lb3:ib2+1+k'<b.size:=by simp at z;omega
        refine wpS_bind (aJ (show ia2<a.size by omega) ?_);have me:=mb2.a (show ia2<a.size by omega);refine az (fun z=>wpS_pure ⟨sg4,.inl ⟨_,rfl,me.last⟩⟩) (fun z=>?_);have la4:ia2+1+1<a.size:=by simp at z;omega
        refine az (fun z=>wpS_pure ⟨sg4,.inr ⟨rfl,me,la4,lb3,by dsimp only;omega⟩⟩) (fun z=>wpS_pure ⟨sg4,rfl,me,la4,lb3,by dsimp only;omega⟩)
       .refine wpS_bind (aJ (show ia2<a.size by omega) ?_);have me:=mb.a (show ia2<a.size by omega);refine az (fun z=>wpS_pure ⟨sg4,.inl ⟨_,rfl,me.last⟩⟩) (fun z=>?_);have la4:ia2+1+1<a.size:=by simp at z;omega
        refine az (fun z=>wpS_pure ⟨sg4,.inr ⟨rfl,me,la4,lb2,by dsimp only;omega⟩⟩) (fun z=>wpS_pure ⟨sg4,rfl,me,la4,lb2,by dsimp only;omega⟩)
    .rintro⟨o,out,ia2,ib2,mg2,ac2,bc2⟩ st3 ⟨sg3,eo,mi,la,lb,pr2⟩;exact⟨sg3,.inr ⟨eo,mi,la,lb,pr2⟩⟩
    .rintro⟨o,out,ia2,ib2,mg2,ac2,bc2⟩ st3 ⟨sg3,⟨r,er,al⟩|⟨er,mi,la,lb,pr2⟩⟩
     .dsimp only at er ⊢;subst er;exact wpS_pure ⟨sg3,r,rfl,al⟩
     .dsimp only at er mi la lb pr2 ⊢;subst er;exact wpS_bind (qb sg3 fun st4 sg4=>wpS_pure ⟨sg4,rfl,mi,la,lb,by dsimp only;omega⟩)
 .rintro⟨o,out,ia,ib,mg⟩ st1 ⟨sg,eo,mi,la,lb,pr⟩;exfalso;dsimp only at la lb pr;omega
 .rintro⟨o,out,ia,ib,mg⟩ st1 ⟨sg,r,er,al⟩;dsimp only at er ⊢;subst er;exact wpS_pure (h _ _ sg al)
def MH(a b:Array Keyed)(out:Array Keyed)(na nb:Nat):Prop:=out.toList.Perm (a.toList.drop na++b.toList.drop nb)
theorem lg(a:Array Keyed)(n:Nat):(a.extract 0 n).toList=a.toList.take n:=by
 rw[Array.toList_extract];rfl
theorem iH(a:Array Keyed)(i j:Nat):(a.extract i j).toList=(a.toList.drop i).take (j-i):=by
 rw[Array.toList_extract]
theorem MH.fin{a b out:Array Keyed}{na nb:Nat}(h:MH a b out na nb):(a.toList.take na++b.toList.take nb++out.toList.reverse).Perm (a.toList++b.toList):=by
 refine(List.Perm.append_left _ ((List.reverse_perm _).trans h)).trans ((Cn _ _ _ _).trans ?_);rw[List.take_append_drop,List.take_append_drop]
theorem MH.done{a b out:Array Keyed}{na nb:Nat}(h:MH a b out na nb):Al a b (a.extract 0 na++b.extract 0 nb++out.reverse):=by
 unfold Al;rw[Array.toList_append,Array.toList_append,lg,lg,Array.toList_reverse];exact h.fin
theorem MH.first{a b out:Array Keyed}{na nb:Nat}(h:MH a b out na nb):Al a b (b.extract 0 nb++a.extract 0 na++out.reverse):=by
 unfold Al;rw[Array.toList_append,Array.toList_append,lg,lg,Array.toList_reverse];exact(List.Perm.append_right _ List.perm_append_comm).trans h.fin
theorem p_{a:Array Keyed}{n:Nat}(h1:1<=n)(h:n-1<a.size):a.toList.drop (n-1)=a[n-1]::a.toList.drop n:=by
 have e:=List.drop_eq_getElem_cons (l:=a.toList) (i:=n-1) (by rw[Array.length_toList];exact h);rw[e,show n-1+1=n by omega];rfl
theorem MH.a{a b out:Array Keyed}{na nb:Nat}(h:MH a b out na nb)(h1:1<=na)(hn:na-1<a.size):MH a b (out.push a[na-1]) (na-1) nb:=by
 unfold MH;rw[Array.toList_push,p_ h1 hn];exact(List.perm_append_singleton _ _).trans (List.Perm.cons _ h)
theorem MH.b{a b out:Array Keyed}{na nb:Nat}(h:MH a b out na nb)(h1:1<=nb)(hn:nb-1<b.size):MH a b (out.push b[nb-1]) na (nb-1):=by
 unfold MH;rw[Array.toList_push,p_ h1 hn];exact(List.perm_append_singleton _ _).trans ((List.Perm.cons _ h).trans List.perm_middle.symm)
theorem pe{a:Array Keyed}{k n:Nat}(h:k<=n):a.toList.drop k=(a.toList.drop k).take (n-k)++a.toList.drop n:=by
 have e:=(List.take_append_drop (n-k) (a.toList.drop k)).symm;rw[List.drop_drop,show k+(n-k)=n by omega] at e;exact e
theorem MH.ak{a b out:Array Keyed}{na nb k:Nat}(h:MH a b out na nb)(h1:k<=na)(hn:na<=a.size):MH a b (out++(a.extract k na).reverse) k nb:=by
 unfold MH;rw[Array.toList_append,Array.toList_reverse,iH,pe h1,List.append_assoc];rw[show(List.take (na-k) (List.take (na-k) (List.drop k a.toList)++List.drop na a.toList))=List.take (na-k) (List.drop k a.toList) by rw[<-pe h1]];exact(List.perm_append_comm.trans (List.Perm.append (List.reverse_perm _) h))
theorem MH.bk{a b out:Array Keyed}{na nb k:Nat}(h:MH a b out na nb)(h1:k<=nb)(hn:nb<=b.size):MH a b (out++(b.extract k nb).reverse) na k:=by
 unfold MH;rw[Array.toList_append,Array.toList_reverse,iH,pe h1];rw[show(List.take (nb-k) (List.take (nb-k) (List.drop k b.toList)++List.drop nb b.toList))=List.take (nb-k) (List.drop k b.toList) by rw[<-pe h1]];refine(List.Perm.append_right _ h).trans ?_;rw[List.append_assoc];exact List.Perm.append_left _ (List.perm_append_comm.trans (List.Perm.append_right _ (List.reverse_perm _)))
set_option maxHeartbeats 1000000 in
theorem DF{st:SortSt}{a b:Array Keyed}{Q:Array Keyed->SortSt->Prop}(hk:kindOf st=oneType')(ha:∀x∈a,kM x)(hb:∀x∈b,kM x)(a1:1<=a.size)(b1:1<=b.size)(h:∀out st',Sg st st'->Al a b out->Q out st'):wpS (model prog w) A E s (IJ a b) Q st:=by
 have atA:∀{i:Nat} (hi:i<a.size),kM a[i]:=fun hi=>ha _ (Array.getElem_mem hi);have atB:∀{i:Nat} (hi:i<b.size),kM b[i]:=fun hi=>hb _ (Array.getElem_mem hi);unfold IJ;refine wpS_bind (wp_rule ?_);dsimp only;refine wpS_bind (aJ (show a.size-1<a.size by omega) ?_)
 have m0:MH a b #[a[a.size-1]] (a.size-1) b.size:=by
  unfold MH;rw[p_ a1 (by omega),List.drop_of_length_le (by rw[Array.length_toList];exact Nat.le_refl _),List.drop_of_length_le (by rw[Array.length_toList];exact Nat.le_refl _)];exact List.Perm.refl _
 refine az (fun z=>wpS_pure (h _ _ (Sg.refl _) m0.done)) (fun z1=>?_);refine az (fun z=>wpS_pure (h _ _ (Sg.refl _) m0.first)) (fun z2=>?_);have na0:1<=a.size-1:=by simp at z1;omega
 have nb0:2<=b.size:=by simp at z2;omega
 refine wpS_bind (wpS_get ?_);refine wpS_bind (wpS_mono (wpS_forRange (I:=fun i c st'=>Sg st st'/\c.1=none/\MH a b c.2.2.2.1 c.2.1 c.2.2.1/\1<=c.2.1/\c.2.1<=a.size/\2<=c.2.2.1/\c.2.2.1<=b.size/\c.2.1+c.2.2.1+i+1<=a.size+b.size) (Q:=fun c st'=>Sg st st'/\∃r,c.1=some r/\Al a b r) ?_ ?_ ⟨Sg.refl _,rfl,m0,na0,by dsimp only;omega,nb0,Nat.le_refl _,by dsimp only;omega⟩) ?_)
 .rintro i ⟨o,na,nb,out,mg⟩ st1 _ hi ⟨sg,eo,mi,la,la',lb,lb',pr⟩;dsimp only at eo mi la la' lb lb' pr ⊢;subst eo;refine wpS_bind (wpS_mono (wpS_forRange (I:=fun j c st'=>st'=st1/\c.1=none/\MH a b c.2.2.2.1 c.2.1 c.2.2.1/\1<=c.2.1/\c.2.1<=a.size/\2<=c.2.2.1/\c.2.2.1<=b.size/\c.2.1+c.2.2.1+j<=na+nb) (Q:=fun c st'=>st'=st1/\((∃r,c.1=some r/\Al a b r)\/(c.1=none/\MH a b c.2.2.2.1 c.2.1 c.2.2.1/\1<=c.2.1/\c.2.1<=a.size/\2<=c.2.2.1/\c.2.2.1<=b.size/\c.2.1+c.2.2.1+1<=na+nb))) ?_ ?_ ⟨rfl,rfl,mi,la,la',lb,lb',by dsimp only;omega⟩) ?_)
  .rintro j ⟨o,na',nb',out,ac,bc⟩ st2 _ hj ⟨rfl,eo,mi,la,la',lb,lb',pr'⟩;dsimp only at eo mi la la' lb lb' pr' ⊢;subst eo;refine wpS_bind (aJ (show nb'-1<b.size by omega) (wpS_bind (aJ (show na'-1<a.size by omega) (wpS_bind (qu (by rw[sg.1];exact hk) (atB (by omega)) (atA (by omega)) fun bw=>?_)))));cases bw
   .refine wpS_bind (aJ (show nb'-1<b.size by omega) ?_);have mi':=mi.b (show 1<=nb' by omega) (show nb'-1<b.size by omega);refine az (fun z=>wpS_pure ⟨rfl,.inl ⟨_,rfl,mi'.first⟩⟩) (fun z=>?_);have z':2<=nb'-1:=by simp at z;omega
    refine az (fun _=>wpS_pure ⟨rfl,.inr ⟨rfl,mi',la,la',z',by dsimp only;omega,by dsimp only;omega⟩⟩) (fun _=>wpS_pure ⟨rfl,rfl,mi',la,la',z',by dsimp only;omega,by dsimp only;omega⟩)
   .refine wpS_bind (aJ (show na'-1<a.size by omega) ?_);have mi':=mi.a la (show na'-1<a.size by omega);refine az (fun z=>wpS_pure ⟨rfl,.inl ⟨_,rfl,mi'.done⟩⟩) (fun z=>?_);have z':1<=na'-1:=by simp at z;omega
    refine az (fun _=>wpS_pure ⟨rfl,.inr ⟨rfl,mi',z',by dsimp only;omega,lb,lb',by dsimp only;omega⟩⟩) (fun _=>wpS_pure ⟨rfl,rfl,mi',z',by dsimp only;omega,lb,lb',by dsimp only;omega⟩)
  .rintro⟨o,na',nb',out,ac,bc⟩ st2 ⟨rfl,eo,mi,la,la',lb,lb',pr'⟩;dsimp only at eo mi la la' lb lb' pr';exact⟨rfl,.inr ⟨eo,mi,la,la',lb,lb',by dsimp only;omega⟩⟩
  .rintro⟨o,na',nb',out,ac,bc⟩ st2 ⟨rfl,⟨r,er,al⟩|⟨er,mi,la,la',lb,lb',pr'⟩⟩
   .dsimp only at er ⊢;subst er;exact wpS_pure ⟨sg,r,rfl,al⟩
   .dsimp only at er mi la la' lb lb' pr' ⊢;subst er;refine wpS_bind (wp_rule ?_);refine wpS_bind (wpS_mono (wpS_forRange (I:=fun j c st'=>Sg st st'/\c.1=none/\MH a b c.2.2.2.1 c.2.1 c.2.2.1/\1<=c.2.1/\c.2.1<=a.size/\2<=c.2.2.1/\c.2.2.1<=b.size/\c.2.1+c.2.2.1<=na'+nb') (Q:=fun c st'=>Sg st st'/\((∃r,c.1=some r/\Al a b r)\/(c.1=none/\MH a b c.2.2.2.1 c.2.1 c.2.2.1/\1<=c.2.1/\c.2.1<=a.size/\2<=c.2.2.1/\c.2.2.1<=b.size/\c.2.1+c.2.2.1<=na'+nb'))) ?_ ?_ ⟨sg,rfl,mi,la,la',lb,lb',Nat.le_refl _⟩) ?_)
    .rintro j ⟨o,na2,nb2,out,mg2,ac2,bc2⟩ st3 _ hj ⟨sg3,eo,mi,la,la',lb,lb',pr2⟩;dsimp only at eo mi la la' lb lb' pr2 ⊢;subst eo;refine az (fun _=>?_) (fun _=>?_)
     all_goals
      refine wpS_bind (qb sg3 fun st4 sg4=>?_);refine wpS_bind (aJ (show nb2-1<b.size by omega) ?_);refine wpS_bind (ik (by rw[sg4.1];exact hk) ha (atB (show nb2-1<b.size by omega)) (by omega) (by omega) fun k hk1=>?_);dsimp only;refine az (fun k0=>?_) (fun k0=>?_)
      .have mk:=mi.ak hk1 (show na2<=a.size by omega);refine az (fun z'=>wpS_pure ⟨sg4,.inl ⟨_,rfl,mk.done⟩⟩) (fun z'=>?_);have la2:1<=k:=by simp at z';omega
       refine wpS_bind (aJ (show nb2-1<b.size by omega) ?_);have mb:=mk.b (show 1<=nb2 by omega) (show nb2-1<b.size by omega);refine az (fun z=>wpS_pure ⟨sg4,.inl ⟨_,rfl,mb.first⟩⟩) (fun z=>?_);have lb2:2<=nb2-1:=by simp at z;omega
       refine wpS_bind (aJ (show k-1<a.size by omega) ?_);refine wpS_bind (ik (by rw[sg4.1];exact hk) hb (atA (show k-1<a.size by omega)) (by omega) (by omega) fun k' hk'=>?_);dsimp only;refine az (fun k0'=>?_) (fun k0'=>?_)
       .have mb2:=mb.bk hk' (show nb2-1<=b.size by omega);refine az (fun z=>wpS_pure ⟨sg4,.inl ⟨_,rfl,mb2.first⟩⟩) (fun z=>?_);refine az (fun z'=>wpS_pure ⟨sg4,.inl ⟨_,rfl,mb2.done⟩⟩) (fun z'=>?_);have lb3:2<=k':=by simp at z z';omega
        refine wpS_bind (aJ (show k-1<a.size by omega) ?_);have me:=mb2.a (show 1<=k by omega) (show k-1<a.size by omega);refine az (fun z=>wpS_pure ⟨sg4,.inl ⟨_,rfl,me.done⟩⟩) (fun z=>?_);have la4:1<=k-1:=by simp at z;omega
        refine az (fun z=>wpS_pure ⟨sg4,.inr ⟨rfl,me,la4,by dsimp only;omega,lb3,by dsimp only;omega,by dsimp only;omega⟩⟩) (fun z=>wpS_pure ⟨sg4,rfl,me,la4,by dsimp only;omega,lb3,by dsimp only;omega,by dsimp only;omega⟩)
       .refine wpS_bind (aJ (show k-1<a.size by omega) ?_);have me:=mb.a (show 1<=k by omega) (show k-1<a.size by omega);refine az (fun z=>wpS_pure ⟨sg4,.inl ⟨_,rfl,me.done⟩⟩) (fun z=>?_);have la4:1<=k-1:=by simp at z;omega
        refine az (fun z=>wpS_pure ⟨sg4,.inr ⟨rfl,me,la4,by dsimp only;omega,lb2,by dsimp only;omega,by dsimp only;omega⟩⟩) (fun z=>wpS_pure ⟨sg4,rfl,me,la4,by dsimp only;omega,lb2,by dsimp only;omega,by dsimp only;omega⟩)
      .have mk:=mi;have la2:=la;refine wpS_bind (aJ (show nb2-1<b.size by omega) ?_);have mb:=mk.b (show 1<=nb2 by omega) (show nb2-1<b.size by omega);refine az (fun z=>wpS_pure ⟨sg4,.inl ⟨_,rfl,mb.first⟩⟩) (fun z=>?_);have lb2:2<=nb2-1:=by simp at z;omega
       refine wpS_bind (aJ (show na2-1<a.size by omega) ?_);refine wpS_bind (ik (by rw[sg4.1];exact hk) hb (atA (show na2-1<a.size by omega)) (by omega) (by omega) fun k' hk'=>?_);dsimp only;refine az (fun k0'=>?_) (fun k0'=>?_)
       .have mb2:=mb.bk hk' (show nb2-1<=b.size by omega);refine az (fun z=>wpS_pure ⟨sg4,.inl ⟨_,rfl,mb2.first⟩⟩) (fun z=>?_);refine az (fun z'=>wpS_pure ⟨sg4,.inl ⟨_,rfl,mb2.done⟩⟩) (fun z'=>?_);have lb3:2<=k':=by simp at z z';omega
        refine wpS_bind (aJ (show na2-1<a.size by omega) ?_);have me:=mb2.a (show 1<=na2 by omega) (show na2-1<a.size by omega);refine az (fun z=>wpS_pure ⟨sg4,.inl ⟨_,rfl,me.done⟩⟩) (fun z=>?_);have la4:1<=na2-1:=by simp at z;omega
        refine az (fun z=>wpS_pure ⟨sg4,.inr ⟨rfl,me,la4,by dsimp only;omega,lb3,by dsimp only;omega,by dsimp only;omega⟩⟩) (fun z=>wpS_pure ⟨sg4,rfl,me,la4,by dsimp only;omega,lb3,by dsimp only;omega,by dsimp only;omega⟩)
       .refine wpS_bind (aJ (show na2-1<a.size by omega) ?_);have me:=mb.a (show 1<=na2 by omega) (show na2-1<a.size by omega);refine az (fun z=>wpS_pure ⟨sg4,.inl ⟨_,rfl,me.done⟩⟩) (fun z=>?_);have la4:1<=na2-1:=by simp at z;omega
        refine az (fun z=>wpS_pure ⟨sg4,.inr ⟨rfl,me,la4,by dsimp only;omega,lb2,by dsimp only;omega,by dsimp only;omega⟩⟩) (fun z=>wpS_pure ⟨sg4,rfl,me,la4,by dsimp only;omega,lb2,by dsimp only;omega,by dsimp only;omega⟩)
    .rintro⟨o,na2,nb2,out,mg2,ac2,bc2⟩ st3 ⟨sg3,eo,mi,la,la',lb,lb',pr2⟩;exact⟨sg3,.inr ⟨eo,mi,la,la',lb,lb',pr2⟩⟩
    .rintro⟨o,na2,nb2,out,mg2,ac2,bc2⟩ st3 ⟨sg3,⟨r,er,al⟩|⟨er,mi,la,la',lb,lb',pr2⟩⟩
     .dsimp only at er ⊢;subst er;exact wpS_pure ⟨sg3,r,rfl,al⟩
     .dsimp only at er mi la la' lb lb' pr2 ⊢;subst er;exact wpS_bind (qb sg3 fun st4 sg4=>wpS_pure ⟨sg4,rfl,mi,la,la',lb,lb',by dsimp only;omega⟩)
 .rintro⟨o,na,nb,out,mg⟩ st1 ⟨sg,eo,mi,la,la',lb,lb',pr⟩;exfalso;dsimp only at la lb pr;omega
 .rintro⟨o,na,nb,out,mg⟩ st1 ⟨sg,r,er,al⟩;dsimp only at er ⊢;subst er;exact wpS_pure (h _ _ sg al)
end
end L2.Srt
namespace L2.Srt
open PySem PyProof.Rows
section
variable{w:World}{prog:Program}{s:Shared}{E:Value->Shared->Prop}{A:Around}{a₀:Array Keyed}{pd:Array (Nat×Nat×Nat)}
structure PB(a₀:Array Keyed)(pd:Array (Nat×Nat×Nat))(st:SortSt):Prop where
 perm:(arrOf st).Perm a₀
 kind:kindOf st=oneType'
 failed:failedOf st=none
 pend:pendingOf st=pd
theorem PB.size{st:SortSt}(h:PB a₀ pd st):(arrOf st).size=a₀.size:=h.perm.size_eq
theorem PB.IV{st:SortSt}(h:PB a₀ pd st)(h0:∀x∈a₀,kM x):∀x∈arrOf st,kM x:=fun x hx=>h0 x (Array.mem_def.mpr ((Array.perm_iff_toList_perm.mp h.perm).mem_iff.mp (Array.mem_def.mp hx)))
theorem dk{st:SortSt}{i j:Nat}{Q:Option Bool->SortSt->Prop}(hP:PB a₀ pd st)(h0:∀x∈a₀,kM x)(hi:i<a₀.size)(hj:j<a₀.size)(h:∀b,Q (some b) st):wpS (model prog w) A E s (ltAt' i j) Q st:=by
 rw[ltAt'_eq];have hi':i<(arrOf st).size:=by rw[hP.size];exact hi
 have hj':j<(arrOf st).size:=by rw[hP.size];exact hj
 have k:=hP.IV h0;exact wpS_bind (wpS_get (wpS_bind (aJ hi' (wpS_bind (aJ hj' (qu hP.kind (k _ (Array.getElem_mem hi')) (k _ (Array.getElem_mem hj')) h))))))
theorem gI{st:SortSt}{i j:Nat}{Q:Unit->SortSt->Prop}(hP:PB a₀ pd st)(h:∀st',PB a₀ pd st'->Q () st'):wpS (model prog w) A E s (reverseSlice' i j) Q st:=by
 rw[reverseSlice'_eq];exact wpS_modify (h _ ⟨(mirror_perm _ _ _ _).trans hP.perm,hP.kind,hP.failed,hP.pend⟩)
theorem Ea{st:SortSt}{i j:Nat}{Q:Unit->SortSt->Prop}(hP:PB a₀ pd st)(h:∀st',PB a₀ pd st'->Q () st'):wpS (model prog w) A E s (moveDown' i j) Q st:=by
 rw[moveDown'_eq];exact wpS_modify (h _ ⟨(bubble_perm _ _ _).trans hP.perm,hP.kind,hP.failed,hP.pend⟩)
theorem EE{st:SortSt}{lo n ok:Nat}{Q:Bool->SortSt->Prop}(hP:PB a₀ pd st)(h0:∀x∈a₀,kM x)(hn:lo+n<=a₀.size)(h:∀st',PB a₀ pd st'->Q true st'):wpS (model prog w) A E s (binarySort' lo n ok) Q st:=by
 unfold binarySort';refine wpS_bind (wpS_mono (wpS_forRange (I:=fun _ c st'=>PB a₀ pd st'/\c.1=none) (Q:=fun c st'=>PB a₀ pd st'/\c.1=none) ?_ (fun c st' q=>q) ⟨hP,rfl⟩) ?_)
 .rintro k ⟨o,u⟩ st1 _ hk ⟨hP1,eo⟩;dsimp only at eo ⊢;subst eo;refine wpS_bind (wpS_mono (wpS_forRange (I:=fun _ c st'=>st'=st1/\c.1=none/\c.2.2<=k) (Q:=fun c st'=>st'=st1/\c.1=none/\c.2.2<=k) ?_ (fun c st' q=>q) ⟨rfl,rfl,Nat.le_refl _⟩) ?_)
  .rintro j ⟨o,l,r⟩ st2 _ hj ⟨rfl,eo,l1⟩;dsimp only at eo l1 ⊢;subst eo;refine az (fun _=>wpS_pure ⟨rfl,rfl,l1⟩) (fun z=>?_);refine wpS_bind (dk hP1 h0 (by omega) (by omega) fun b=>?_);cases b
   .exact wpS_pure ⟨rfl,rfl,l1⟩
   .exact wpS_pure ⟨rfl,rfl,by dsimp only;omega⟩
  .rintro⟨o,l,r⟩ st2 ⟨rfl,eo,l1⟩;dsimp only at eo ⊢;subst eo;exact wpS_bind (Ea hP1 fun st3 hP3=>wpS_pure ⟨hP3,rfl⟩)
 .rintro⟨o,u⟩ st1 ⟨hP1,eo⟩;dsimp only at eo ⊢;subst eo;exact wpS_pure (h _ hP1)
set_option maxHeartbeats 1000000 in
theorem D5{st:SortSt}{lo nrem:Nat}{Q:Option Nat->SortSt->Prop}(hP:PB a₀ pd st)(h0:∀x∈a₀,kM x)(h1:1<=nrem)(hn:lo+nrem<=a₀.size)(h:∀m st',PB a₀ pd st'->1<=m->m<=nrem->Q (some m) st'):wpS (model prog w) A E s (countRun' lo nrem) Q st:=by
 unfold countRun';refine wpS_bind (wpS_mono (wpS_forRange (I:=fun x c st'=>PB a₀ pd st'/\c.1=none/\1<=c.2/\c.2<=nrem/\(c.2=x\/nrem<=x)) (Q:=fun c st'=>PB a₀ pd st'/\c.1=none/\1<=c.2/\c.2<=nrem) ?_ ?_ ⟨hP,rfl,Nat.le_refl _,h1,.inl rfl⟩) ?_)
 .rintro x ⟨o,n⟩ st1 hx hx' ⟨hP1,eo,l1,l2,l3⟩;dsimp only at eo l1 l2 l3 ⊢;subst eo;refine wpS_bind (dk hP1 h0 (by omega) (by omega) fun b=>?_);cases b
  .exact wpS_pure ⟨hP1,rfl,by dsimp only;omega,by dsimp only;omega,by dsimp only;omega⟩
  .exact wpS_pure ⟨hP1,rfl,l1,l2⟩
 .rintro⟨o,n⟩ st1 ⟨hP1,eo,l1,l2,l3⟩;exact⟨hP1,eo,l1,l2⟩
 .rintro⟨o,n⟩ st1 ⟨hP1,eo,l1,l2⟩;dsimp only at eo l1 l2 ⊢;subst eo;refine az (fun _=>wpS_pure (h _ _ hP1 l1 l2)) (fun z=>?_);have z':n<nrem:=by simp at z;omega
  refine az (fun n1=>?_) (fun n1=>?_)
  .refine wpS_bind (dk hP1 h0 (by omega) (by omega) fun b=>?_);cases b
   .dsimp only;refine az (fun q=>absurd q (by decide)) (fun _=>?_);refine wpS_bind (gI hP1 fun st3 hP3=>?_);refine wpS_bind (wp_rule ?_);refine wpS_bind (wpS_mono (wpS_forRange (I:=fun x c st'=>PB a₀ pd st'/\c.1=none/\1<=c.2.1/\c.2.1<=nrem/\(c.2.1=x\/nrem<=x)) (Q:=fun c st'=>PB a₀ pd st'/\c.1=none/\1<=c.2.1/\c.2.1<=nrem) ?_ ?_ ⟨hP3,rfl,by dsimp only;omega,by dsimp only;omega,.inl rfl⟩) ?_)
    .rintro x ⟨o,n2,ne⟩ st4 hx hx' ⟨hP4,eo,l1,l2,l3⟩;dsimp only at eo l1 l2 l3 ⊢;subst eo;refine wpS_bind (dk hP4 h0 (by omega) (by omega) fun b=>?_);cases b
     .refine wpS_bind (dk hP4 h0 (by omega) (by omega) fun b=>?_);cases b
      .exact wpS_pure ⟨hP4,rfl,by dsimp only;omega,by dsimp only;omega,by dsimp only;omega⟩
      .exact wpS_pure ⟨hP4,rfl,l1,l2⟩
     .dsimp only;refine az (fun _=>?_) (fun q=>absurd rfl q);refine az (fun _=>?_) (fun _=>?_)
      .exact wpS_bind (gI hP4 fun st5 hP5=>wpS_pure ⟨hP5,rfl,by dsimp only;omega,by dsimp only;omega,by dsimp only;omega⟩)
      .exact wpS_pure ⟨hP4,rfl,by dsimp only;omega,by dsimp only;omega,by dsimp only;omega⟩
    .rintro⟨o,n2,ne⟩ st4 ⟨hP4,eo,l1,l2,l3⟩;exact⟨hP4,eo,l1,l2⟩
    .rintro⟨o,n2,ne⟩ st4 ⟨hP4,eo,l1,l2⟩;dsimp only at eo l1 l2 ⊢;subst eo;dsimp only;refine az (fun _=>?_) (fun _=>?_)
     .refine wpS_bind (gI hP4 fun st5 hP5=>?_);refine wpS_bind (gI hP5 fun st6 hP6=>?_);refine wpS_bind (wpS_mono (wpS_forRange (I:=fun x c st'=>PB a₀ pd st'/\c.1=none/\1<=c.2/\c.2<=nrem/\(c.2=x\/nrem<=x)) (Q:=fun c st'=>PB a₀ pd st'/\c.1=none/\1<=c.2/\c.2<=nrem) ?_ ?_ ⟨hP6,rfl,by dsimp only;omega,by dsimp only;omega,.inl rfl⟩) ?_)
      .rintro x ⟨o,n3⟩ st7 hx hx' ⟨hP7,eo,l1,l2,l3⟩;dsimp only at eo l1 l2 l3 ⊢;subst eo;refine wpS_bind (dk hP7 h0 (by omega) (by omega) fun b=>?_);cases b
       .exact wpS_pure ⟨hP7,rfl,by dsimp only;omega,by dsimp only;omega,by dsimp only;omega⟩
       .exact wpS_pure ⟨hP7,rfl,l1,l2⟩
      .rintro⟨o,n3⟩ st7 ⟨hP7,eo,l1,l2,l3⟩;exact⟨hP7,eo,l1,l2⟩
      .rintro⟨o,n3⟩ st7 ⟨hP7,eo,l1,l2⟩;dsimp only at eo l1 l2 ⊢;subst eo;exact wpS_pure (h _ _ hP7 l1 l2)
     .have hP5:=hP4;refine wpS_bind (gI hP5 fun st6 hP6=>?_);refine wpS_bind (wpS_mono (wpS_forRange (I:=fun x c st'=>PB a₀ pd st'/\c.1=none/\1<=c.2/\c.2<=nrem/\(c.2=x\/nrem<=x)) (Q:=fun c st'=>PB a₀ pd st'/\c.1=none/\1<=c.2/\c.2<=nrem) ?_ ?_ ⟨hP6,rfl,by dsimp only;omega,by dsimp only;omega,.inl rfl⟩) ?_)
      .rintro x ⟨o,n3⟩ st7 hx hx' ⟨hP7,eo,l1,l2,l3⟩;dsimp only at eo l1 l2 l3 ⊢;subst eo;refine wpS_bind (dk hP7 h0 (by omega) (by omega) fun b=>?_);cases b
       .exact wpS_pure ⟨hP7,rfl,by dsimp only;omega,by dsimp only;omega,by dsimp only;omega⟩
       .exact wpS_pure ⟨hP7,rfl,l1,l2⟩
      .rintro⟨o,n3⟩ st7 ⟨hP7,eo,l1,l2,l3⟩;exact⟨hP7,eo,l1,l2⟩
      .rintro⟨o,n3⟩ st7 ⟨hP7,eo,l1,l2⟩;dsimp only at eo l1 l2 ⊢;subst eo;exact wpS_pure (h _ _ hP7 l1 l2)
   .exact wpS_pure (h _ _ hP1 l1 l2)
  .have hP3:=hP1;refine wpS_bind (wp_rule ?_);refine wpS_bind (wpS_mono (wpS_forRange (I:=fun x c st'=>PB a₀ pd st'/\c.1=none/\1<=c.2.1/\c.2.1<=nrem/\(c.2.1=x\/nrem<=x)) (Q:=fun c st'=>PB a₀ pd st'/\c.1=none/\1<=c.2.1/\c.2.1<=nrem) ?_ ?_ ⟨hP3,rfl,by dsimp only;omega,by dsimp only;omega,.inl rfl⟩) ?_)
   .rintro x ⟨o,n2,ne⟩ st4 hx hx' ⟨hP4,eo,l1,l2,l3⟩;dsimp only at eo l1 l2 l3 ⊢;subst eo;refine wpS_bind (dk hP4 h0 (by omega) (by omega) fun b=>?_);cases b
    .refine wpS_bind (dk hP4 h0 (by omega) (by omega) fun b=>?_);cases b
     .exact wpS_pure ⟨hP4,rfl,by dsimp only;omega,by dsimp only;omega,by dsimp only;omega⟩
     .exact wpS_pure ⟨hP4,rfl,l1,l2⟩
    .dsimp only;refine az (fun _=>?_) (fun q=>absurd rfl q);refine az (fun _=>?_) (fun _=>?_)
     .exact wpS_bind (gI hP4 fun st5 hP5=>wpS_pure ⟨hP5,rfl,by dsimp only;omega,by dsimp only;omega,by dsimp only;omega⟩)
     .exact wpS_pure ⟨hP4,rfl,by dsimp only;omega,by dsimp only;omega,by dsimp only;omega⟩
   .rintro⟨o,n2,ne⟩ st4 ⟨hP4,eo,l1,l2,l3⟩;exact⟨hP4,eo,l1,l2⟩
   .rintro⟨o,n2,ne⟩ st4 ⟨hP4,eo,l1,l2⟩;dsimp only at eo l1 l2 ⊢;subst eo;dsimp only;refine az (fun _=>?_) (fun _=>?_)
    .refine wpS_bind (gI hP4 fun st5 hP5=>?_);refine wpS_bind (gI hP5 fun st6 hP6=>?_);refine wpS_bind (wpS_mono (wpS_forRange (I:=fun x c st'=>PB a₀ pd st'/\c.1=none/\1<=c.2/\c.2<=nrem/\(c.2=x\/nrem<=x)) (Q:=fun c st'=>PB a₀ pd st'/\c.1=none/\1<=c.2/\c.2<=nrem) ?_ ?_ ⟨hP6,rfl,by dsimp only;omega,by dsimp only;omega,.inl rfl⟩) ?_)
     .rintro x ⟨o,n3⟩ st7 hx hx' ⟨hP7,eo,l1,l2,l3⟩;dsimp only at eo l1 l2 l3 ⊢;subst eo;refine wpS_bind (dk hP7 h0 (by omega) (by omega) fun b=>?_);cases b
      .exact wpS_pure ⟨hP7,rfl,by dsimp only;omega,by dsimp only;omega,by dsimp only;omega⟩
      .exact wpS_pure ⟨hP7,rfl,l1,l2⟩
     .rintro⟨o,n3⟩ st7 ⟨hP7,eo,l1,l2,l3⟩;exact⟨hP7,eo,l1,l2⟩
     .rintro⟨o,n3⟩ st7 ⟨hP7,eo,l1,l2⟩;dsimp only at eo l1 l2 ⊢;subst eo;exact wpS_pure (h _ _ hP7 l1 l2)
    .have hP5:=hP4;refine wpS_bind (gI hP5 fun st6 hP6=>?_);refine wpS_bind (wpS_mono (wpS_forRange (I:=fun x c st'=>PB a₀ pd st'/\c.1=none/\1<=c.2/\c.2<=nrem/\(c.2=x\/nrem<=x)) (Q:=fun c st'=>PB a₀ pd st'/\c.1=none/\1<=c.2/\c.2<=nrem) ?_ ?_ ⟨hP6,rfl,by dsimp only;omega,by dsimp only;omega,.inl rfl⟩) ?_)
     .rintro x ⟨o,n3⟩ st7 hx hx' ⟨hP7,eo,l1,l2,l3⟩;dsimp only at eo l1 l2 l3 ⊢;subst eo;refine wpS_bind (dk hP7 h0 (by omega) (by omega) fun b=>?_);cases b
      .exact wpS_pure ⟨hP7,rfl,by dsimp only;omega,by dsimp only;omega,by dsimp only;omega⟩
      .exact wpS_pure ⟨hP7,rfl,l1,l2⟩
     .rintro⟨o,n3⟩ st7 ⟨hP7,eo,l1,l2,l3⟩;exact⟨hP7,eo,l1,l2⟩
     .rintro⟨o,n3⟩ st7 ⟨hP7,eo,l1,l2⟩;dsimp only at eo l1 l2 ⊢;subst eo;exact wpS_pure (h _ _ hP7 l1 l2)
end
end L2.Srt
namespace L2.Srt
open PySem PyProof.Rows
section
variable{w:World}{prog:Program}{s:Shared}{E:Value->Shared->Prop}{A:Around}{a₀:Array Keyed}{pd:Array (Nat×Nat×Nat)}
theorem Cs{xs:Array Keyed}(sa:Nat):∀(m:List Keyed) (j:Nat) (xs:Array Keyed),sa+j+m.length<=xs.size->((m.zipIdx j).foldl (fun a p=>a.setIfInBounds (sa+p.2) p.1) xs).toList=xs.toList.take (sa+j)++(m++xs.toList.drop (sa+j+m.length))
 |[],j,xs,_=>by
  show xs.toList=_;rw[List.nil_append];exact(List.take_append_drop _ _).symm
 |p::m,j,xs,h=>by
  rw[List.length_cons] at h;rw[List.zipIdx_cons,List.foldl_cons];have ih:=Cs (xs:=xs) sa m (j+1) (xs.setIfInBounds (sa+j) p) (by rw[Array.size_setIfInBounds];omega);rw[ih,Array.toList_setIfInBounds];have hl:sa+j<xs.toList.length:=by rw[Array.length_toList];omega
  rw[show sa+(j+1)=sa+j+1 by omega,List.take_add_one,List.take_set_of_le (Nat.le_refl _),List.getElem?_set_self hl,List.drop_set_of_lt (by omega),List.length_cons,List.append_assoc];rw[show sa+j+1+m.length=sa+j+(m.length+1) by omega];rfl
theorem Dq{st st1:SortSt}{Q:PUnit->SortSt->Prop}(h:Q ⟨⟩ st1):wpS (model prog w) A E s (set st1:StateT SortSt Sem PUnit) Q st:=wpAny_pure ⟨rfl,h⟩
set_option maxHeartbeats 1000000 in
theorem Dn{st:SortSt}{i sa na pw sb nb q:Nat}{Q:Bool->SortSt->Prop}(hP:PB a₀ pd st)(h0:∀x∈a₀,kM x)(p1:pd[i]?=some (sa,na,pw))(p2:pd[i+1]?=some (sb,nb,q))(e:sb=sa+na)(hn:sb+nb<=a₀.size)(n1:1<=na)(n2:1<=nb)(h:∀st',PB a₀ ((pd.setIfInBounds i (sa,na+nb,pw)).eraseIdxIfInBounds (i+1)) st'->Q true st'):wpS (model prog w) A E s (mergeAt' i) Q st:=by
 unfold mergeAt';refine wpS_bind (wpS_get ?_);have hs:=hP.size;have hK:=hP.IV h0;obtain⟨kd,ar,pn,mg,fl⟩:=st;have e1:kd=oneType':=hP.kind;have e2:fl=none:=hP.failed;have e3:pn=pd:=hP.pend;have e4:ar.Perm a₀:=hP.perm;subst e1 e2 e3;have hs':ar.size=a₀.size:=hs;have hK':∀x∈ar,kM x:=hK;dsimp only;rw[p1,p2];dsimp only;refine wpS_bind (Dq ?_);refine wpS_bind (aJ (show sb<ar.size by omega) ?_);refine wpS_bind (ik rfl hK' (hK' _ (Array.getElem_mem _)) (by omega) (by omega) fun k hk=>?_);dsimp only;have hP1:PB a₀ ((pn.setIfInBounds i (sa,na+nb,pw)).eraseIdxIfInBounds (i+1)) (SortSt.mk' oneType' ar ((pn.setIfInBounds i (sa,na+nb,pw)).eraseIdxIfInBounds (i+1)) mg none):=⟨e4,rfl,rfl,rfl⟩;refine az (fun _=>wpS_pure (h _ hP1)) (fun z=>?_);have z':k<na:=by simp at z;omega
 refine wpS_bind (aJ (show sa+k+(na-k)-1<ar.size by omega) ?_);refine wpS_bind (ik rfl hK' (hK' _ (Array.getElem_mem _)) (by omega) (by omega) fun m hm=>?_);dsimp only;refine az (fun _=>wpS_pure (h _ hP1)) (fun z2=>?_);have z2':1<=m:=by simp at z2;omega
 have sx:(ar.extract (sa+k) sb).size=na-k:=by rw[Array.size_extract];omega
 have sy:(ar.extract sb (sb+m)).size=m:=by rw[Array.size_extract];omega
 have kx:∀ x∈ar.extract (sa + k) sb,kM x:=fun x hx=>hK' x (by
  have:=Array.mem_def.mp hx;rw[iH] at this
  exact Array.mem_def.mpr (List.mem_of_mem_drop (List.mem_of_mem_take this)))
 have ky:∀ x∈ar.extract sb (sb + m),kM x:=fun x hx=>hK' x (by
  have:=Array.mem_def.mp hx;rw[iH] at this
  exact Array.mem_def.mpr (List.mem_of_mem_drop (List.mem_of_mem_take this)))
 have wb:∀merged:Array Keyed,Al (ar.extract (sa+k) sb) (ar.extract sb (sb+m)) merged->(merged.toList.zipIdx.foldl (fun a x=>match x with|(p,j)=>a.setIfInBounds (sa+k+j) p) ar).Perm a₀:=fun merged al=>by
  refine(Array.perm_iff_toList_perm.mpr ?_).trans e4;have al':merged.toList.Perm ((ar.extract (sa+k) sb).toList++(ar.extract sb (sb+m)).toList):=al;have ml:merged.toList.length=na-k+m:=by rw[al'.length_eq,List.length_append,Array.length_toList,Array.length_toList,sx,sy]
  have ew:=Cs (xs:=ar) (sa+k) merged.toList 0 ar (by rw[ml];omega);have ew':(merged.toList.zipIdx.foldl (fun a x=>match x with|(p,j)=>a.setIfInBounds (sa+k+j) p) ar).toList=_:=ew;rw[ew',Nat.add_zero,ml]
  have e5:(ar.extract (sa+k) sb).toList++(ar.extract sb (sb+m)).toList=(ar.toList.drop (sa+k)).take (na-k+m):=by
   rw[iH,iH,List.take_add,List.drop_drop];rw[show sb-(sa+k)=na-k by omega,show sb+m-sb=m by omega,show sa+k+(na-k)=sb by omega]
  rw[e5] at al';refine(List.Perm.append_left _ (List.Perm.append_right _ al')).trans ?_;have e7:ar.toList.drop (sa+k+(na-k+m))=(ar.toList.drop (sa+k)).drop (na-k+m):=by rw[List.drop_drop]
  rw[e7,List.take_append_drop,List.take_append_drop]
 refine az (fun _=>?_) (fun _=>?_)
 .refine wpS_bind (C_ rfl kx ky (by omega) (by omega) fun merged st2 sg al=>?_);obtain⟨k2,a2,p2',g2,f2⟩:=st2;have e1:k2=oneType':=sg.1;have e2:a2=ar:=sg.2.1;have e3:p2'=_:=sg.2.2.1;have e6:f2=none:=sg.2.2.2;subst e1 e2 e3 e6;refine wpS_bind (wpS_modify ?_);refine wpS_bind (wpS_get ?_);exact wpS_pure (h _ ⟨wb merged al,rfl,rfl,rfl⟩)
 .refine wpS_bind (DF rfl kx ky (by omega) (by omega) fun merged st2 sg al=>?_);obtain⟨k2,a2,p2',g2,f2⟩:=st2;have e1:k2=oneType':=sg.1;have e2:a2=ar:=sg.2.1;have e3:p2'=_:=sg.2.2.1;have e6:f2=none:=sg.2.2.2;subst e1 e2 e3 e6;refine wpS_bind (wpS_modify ?_);refine wpS_bind (wpS_get ?_);exact wpS_pure (h _ ⟨wb merged al,rfl,rfl,rfl⟩)
def Cg:List (Nat×Nat×Nat)->Nat->Nat->Prop
 |[],b,e=>b=e
 |u::l,b,e=>u.1=b/\1<=u.2.1/\Cg l (b+u.2.1) e
theorem Cw:∀{l:List (Nat×Nat×Nat)} {b e:Nat},Cg l b e->b<=e
 |[],_,_,h=>Nat.le_of_eq h
 |_::_,_,_,⟨_,_,h⟩=>Nat.le_trans (Nat.le_add_right _ _) (Cw h)
theorem zM:∀{l:List (Nat×Nat×Nat)} {b e i:Nat} {u v:Nat×Nat×Nat},Cg l b e->l[i]?=some u->l[i+1]?=some v->(v.1=u.1+u.2.1/\1<=u.2.1/\1<=v.2.1/\v.1+v.2.1<=e)/\Cg ((l.set i (u.1,u.2.1+v.2.1,u.2.2)).eraseIdx (i+1)) b e
 |[],_,_,_,_,_,_,h,_=>by cases h
 |[_],_,_,0,_,_,_,_,h=>by cases h
 |x::y::l,b,e,0,u,v,⟨h1,h2,h3,h4,h5⟩,hu,hv=>by
  cases hu;cases hv;have:=Cw h5;refine⟨⟨by rw[h3,h1],h2,h4,by rw[h3];exact this⟩,h1,by dsimp only;omega,?_⟩;show Cg l (b+(x.2.1+y.2.1)) e;rw[<-Nat.add_assoc];exact h5
 |x::l,b,e,i+1,u,v,⟨h1,h2,h3⟩,hu,hv=>by
  obtain⟨a,c⟩:=zM (i:=i) h3 hu hv;exact⟨a,h1,h2,c⟩
theorem zq:∀{l:List (Nat×Nat×Nat)} {b e n q:Nat},Cg l b e->1<=n->Cg (l++[(e,n,q)]) b (e+n)
 |[],_,_,_,_,h,h1=>by cases h;exact⟨rfl,h1,rfl⟩
 |_::_,_,_,_,_,⟨a,c,d⟩,h1=>⟨a,c,zq d h1⟩
theorem lL{pd:Array (Nat×Nat×Nat)}{e n q:Nat}(h:Cg pd.toList 0 e)(h1:1<=n):Cg (pd.push (e,n,q)).toList 0 (e+n):=by
 rw[Array.toList_push];exact zq h h1
theorem xG{f:Nat×Nat×Nat->Nat×Nat×Nat}(hf:∀u,(f u).1=u.1/\(f u).2.1=u.2.1):∀{l:List (Nat×Nat×Nat)} {b e:Nat} (i:Nat),Cg l b e->Cg (l.modify i f) b e
 |[],_,_,i,h=>by rw[List.modify_nil];exact h
 |u::l,b,e,0,⟨h1,h2,h3⟩=>by
  rw[List.modify_zero_cons];refine⟨(hf u).1.trans h1,by rw[(hf u).2];exact h2,by rw[(hf u).2];exact h3⟩
 |u::l,b,e,i+1,⟨h1,h2,h3⟩=>by
  rw[List.modify_succ_cons];exact⟨h1,h2,xG hf i h3⟩
theorem ur{pd:Array (Nat×Nat×Nat)}{e i:Nat}{f:Nat×Nat×Nat->Nat×Nat×Nat}(h:Cg pd.toList 0 e)(hf:∀u,(f u).1=u.1/\(f u).2.1=u.2.1:=by intro u;exact⟨rfl,rfl⟩):Cg (pd.modify i f).toList 0 e:=by
 rw[Array.toList_modify];exact xG hf i h
theorem An{st:SortSt}{i lo:Nat}{Q:Bool->SortSt->Prop}(hP:PB a₀ pd st)(h0:∀x∈a₀,kM x)(hc:Cg pd.toList 0 lo)(hlo:lo<=a₀.size)(hi:i+1<pd.size)(h:∀pd' st',PB a₀ pd' st'->Cg pd'.toList 0 lo->Q true st'):wpS (model prog w) A E s (mergeAt' i) Q st:=by
 obtain⟨⟨sa,na,pw⟩,p1⟩:∃u,pd[i]?=some u:=⟨_,getElem?_pos pd i (by omega)⟩;obtain⟨⟨sb,nb,q⟩,p2⟩:∃u,pd[i+1]?=some u:=⟨_,getElem?_pos pd (i+1) hi⟩;have q1:pd.toList[i]?=some (sa,na,pw):=by rw[Array.getElem?_toList];exact p1
 have q2:pd.toList[i+1]?=some (sb,nb,q):=by rw[Array.getElem?_toList];exact p2
 obtain⟨⟨a1,a2,a3,a4⟩,c⟩:=zM hc q1 q2;refine Dn hP h0 p1 p2 a1 (by dsimp only at a4;omega) a2 a3 fun st' hP'=>h _ st' hP' ?_;rw[Array.eraseIdxIfInBounds,dif_pos (by rw[Array.size_setIfInBounds];exact hi),Array.toList_eraseIdx,Array.toList_setIfInBounds];exact c
theorem PB.uO{st:SortSt}{u:Nat×Nat×Nat}(h:PB a₀ pd st):PB a₀ (pd.push u) (SortSt.mk' (kindOf st) (arrOf st) ((pendingOf st).push u) (gallopOf st) (failedOf st)):=⟨h.perm,h.kind,h.failed,by show(pendingOf st).push u=_;rw[h.pend]⟩
theorem PB.Fv{st:SortSt}{f:Nat×Nat×Nat->Nat×Nat×Nat}(h:PB a₀ pd st):PB a₀ (pd.modify (pd.size-1) f) (SortSt.mk' (kindOf st) (arrOf st) ((pendingOf st).modify ((pendingOf st).size-1) f) (gallopOf st) (failedOf st)):=⟨h.perm,h.kind,h.failed,by show(pendingOf st).modify ((pendingOf st).size-1) f=_;rw[h.pend]⟩
set_option maxHeartbeats 2000000 in
theorem Eh{st:SortSt}{Q:Unit->SortSt->Prop}(hP:PB a₀ #[] st)(h0:∀x∈a₀,kM x)(h:∀st' pd,PB a₀ pd st'->Q () st'):wpS (model prog w) A E s sortRuns' Q st:=by
 unfold sortRuns';refine wpS_bind (wpS_get ?_);have hs:=hP.size;dsimp only[arrOf] at hs;dsimp only;rw[hs];refine wpS_bind (wpS_mono (wpS_forRange (I:=fun _ c st'=>∃pd',PB a₀ pd' st'/\c.1=none/\Cg pd'.toList 0 c.2/\c.2<=a₀.size) (Q:=fun c st'=>∃pd',PB a₀ pd' st'/\c.1=none/\Cg pd'.toList 0 c.2/\c.2<=a₀.size) ?_ (fun c st' q=>q) ⟨#[],hP,rfl,(show Cg [] 0 0 from rfl),Nat.zero_le _⟩) ?_)
 .rintro x ⟨o,lo⟩ st1 _ hx ⟨pd1,hP1,eo,hc,hlo⟩;dsimp only at eo hc hlo ⊢;subst eo;refine az (fun _=>wpS_pure ⟨pd1,hP1,rfl,hc,hlo⟩) (fun zl=>?_);refine wpS_bind (D5 hP1 h0 (by omega) (by omega) fun m st2 hP2 m1 m2=>?_);dsimp only;refine az (fun zm=>?_) (fun zm=>?_)
  .refine wpS_bind (wp_rule ?_);refine wpS_bind (EE hP2 h0 (by omega) fun st2 hP2=>?_);refine az (fun q=>absurd q (by decide)) (fun _=>?_)
   have hn1:1<=min (a₀.size-lo) (minRun' a₀.size a₀.size 0):=by
    have:m<minRun' a₀.size a₀.size 0:=zm;omega
   refine wpS_bind (wpS_get ?_);cases hb:(pendingOf st2).back? with
   |none =>
    dsimp only;refine wpS_bind (wpS_modify ?_);exact wpS_pure ⟨_,(hP2.uO),rfl,lL hc hn1,by dsimp only;omega⟩
   |some u =>
    obtain⟨s1,n1,q1⟩:=u;dsimp only;refine wpS_bind (wpS_mono (wpS_forRange (I:=fun _ c st'=>c.1=none/\∃pd',PB a₀ pd' st'/\Cg pd'.toList 0 lo) (Q:=fun c st'=>c.1=none/\∃pd',PB a₀ pd' st'/\Cg pd'.toList 0 lo) ?_ (fun c st' q=>q) ⟨rfl,pd1,hP2,hc⟩) ?_)
    .rintro x2 ⟨o2,u2⟩ st3 _ _ ⟨eo2,pd3,hP3,hc3⟩;dsimp only at eo2 ⊢;subst eo2;refine wpS_bind (wpS_get ?_);obtain⟨k3,a3,p3,g3,f3⟩:=st3;dsimp only;have ep:p3=pd3:=hP3.pend;subst ep;by_cases z3:p3.size>1
     .rw[if_pos z3];rw[getElem?_pos p3 (p3.size-2) (by omega)];dsimp only;refine az (fun _=>wpS_pure ⟨rfl,p3,hP3,hc3⟩) (fun _=>?_);refine wpS_bind (An hP3 h0 hc3 (by omega) (by omega) fun pd4 st4 hP4 hc4=>?_);exact wpS_pure ⟨rfl,pd4,hP4,hc4⟩
     .rw[if_neg z3];exact wpS_pure ⟨rfl,p3,hP3,hc3⟩
    .rintro⟨o2,u2⟩ st3 ⟨eo2,pd3,hP3,hc3⟩;dsimp only at eo2 ⊢;subst eo2;refine wpS_bind (wpS_modify ?_);refine wpS_bind (wpS_modify ?_);exact wpS_pure ⟨_,hP3.Fv.uO,rfl,lL (ur hc3) hn1,by dsimp only;omega⟩
  .have hn1:=m1;refine wpS_bind (wpS_get ?_);cases hb:(pendingOf st2).back? with
   |none =>
    dsimp only;refine wpS_bind (wpS_modify ?_);exact wpS_pure ⟨_,(hP2.uO),rfl,lL hc hn1,by dsimp only;omega⟩
   |some u =>
    obtain⟨s1,n1,q1⟩:=u;dsimp only;refine wpS_bind (wpS_mono (wpS_forRange (I:=fun _ c st'=>c.1=none/\∃pd',PB a₀ pd' st'/\Cg pd'.toList 0 lo) (Q:=fun c st'=>c.1=none/\∃pd',PB a₀ pd' st'/\Cg pd'.toList 0 lo) ?_ (fun c st' q=>q) ⟨rfl,pd1,hP2,hc⟩) ?_)
    .rintro x2 ⟨o2,u2⟩ st3 _ _ ⟨eo2,pd3,hP3,hc3⟩;dsimp only at eo2 ⊢;subst eo2;refine wpS_bind (wpS_get ?_);obtain⟨k3,a3,p3,g3,f3⟩:=st3;dsimp only;have ep:p3=pd3:=hP3.pend;subst ep;by_cases z3:p3.size>1
     .rw[if_pos z3];rw[getElem?_pos p3 (p3.size-2) (by omega)];dsimp only;refine az (fun _=>wpS_pure ⟨rfl,p3,hP3,hc3⟩) (fun _=>?_);refine wpS_bind (An hP3 h0 hc3 (by omega) (by omega) fun pd4 st4 hP4 hc4=>?_);exact wpS_pure ⟨rfl,pd4,hP4,hc4⟩
     .rw[if_neg z3];exact wpS_pure ⟨rfl,p3,hP3,hc3⟩
    .rintro⟨o2,u2⟩ st3 ⟨eo2,pd3,hP3,hc3⟩;dsimp only at eo2 ⊢;subst eo2;refine wpS_bind (wpS_modify ?_);refine wpS_bind (wpS_modify ?_);exact wpS_pure ⟨_,hP3.Fv.uO,rfl,lL (ur hc3) hn1,by dsimp only;omega⟩
 .rintro⟨o,lo⟩ st1 ⟨pd1,hP1,eo,hc,hlo⟩;dsimp only at eo hc hlo ⊢;subst eo;refine wpS_bind (wpS_mono (wpS_forRange (I:=fun _ c st'=>c.1=none/\∃pd',PB a₀ pd' st'/\Cg pd'.toList 0 lo) (Q:=fun c st'=>c.1=none/\∃pd',PB a₀ pd' st'/\Cg pd'.toList 0 lo) ?_ (fun c st' q=>q) ⟨rfl,pd1,hP1,hc⟩) ?_)
  .rintro x2 ⟨o2,u2⟩ st3 _ _ ⟨eo2,pd3,hP3,hc3⟩;dsimp only at eo2 ⊢;subst eo2;refine wpS_bind (wpS_get ?_);obtain⟨k3,a3,p3,g3,f3⟩:=st3;dsimp only;have ep:p3=pd3:=hP3.pend;subst ep;refine az (fun _=>wpS_pure ⟨rfl,p3,hP3,hc3⟩) (fun z=>?_);have key:∀(c:Prop) [Decidable c],(if c then p3.size-2-1 else p3.size-2)+1<p3.size:=fun c _=>by split<;>omega
   refine wpS_bind (An hP3 h0 hc3 (by omega) (key _) fun pd4 st4 hP4 hc4=>?_);exact wpS_pure ⟨rfl,pd4,hP4,hc4⟩
  .rintro⟨o2,u2⟩ st3 ⟨eo2,pd3,hP3,hc3⟩;dsimp only at eo2 ⊢;subst eo2;exact wpS_pure (h _ _ hP3)
end
end L2.Srt
namespace L2.Srt
open PySem PyProof.Rows
section
variable{w:World}{prog:Program}{s:Shared}{E:Value->Shared->Prop}{A:Around}{vs:List Value}{ns:List Int}{a kS:Addr}{keys:Array Value}{e e1:Nat}{P:PySem.Fin->Shared->Prop}
theorem ri:∀{vs:List Value},(∀v∈vs,∃n t,v=Value.int n t)->IntsAre vs (vs.map numOf)
 |[],_=>.nil
 |v::vs,h=>by
  obtain⟨n,t,rfl⟩:=h v (List.mem_cons_self ..);exact .cons n t (ri fun u hu=>h u (List.mem_cons_of_mem _ hu))
theorem wR{us vs:List Value}{ns:List Int}(h:us.Perm vs)(hI:IntsAre vs ns):∃ms,IntsAre us ms/\ms.Perm ns:=by
 refine⟨us.map numOf,ri fun v hv=>hI.all v (h.mem_iff.mp hv),?_⟩;rw[<-hI.nums];exact h.map _
def Kp(a kS:Addr)(h h':Heap):Prop:=∀b o,b≠a->b≠kS->h.get? b=some o->h'.get? b=some o
set_option maxHeartbeats 4000000 in
theorem Ec{st:SortSt}(nk:s.heap.get? kS=some (seqObj "list" keys e))(na:s.heap.get? a=some (seqObj "list" #[] e1))(hka:kS≠a)(hz:keys.size<=1000)(hz2:(arrOf st).size<=1000)(hfl:failedOf st=none)
  (h:∀h' tk c,Kp a kS s.heap h'->h'.get? a=some (seqObj "list" ((arrOf st).map (·.2)) c)->P (.done (.ret .none)) {s with heap:=h',toks:=tk}):wpAny (model prog w) A (ksk_tail a false e1 (.ref kS) st) P E s:=by
 have s1:=Heap.SameBut.update s.heap kS (Obj.mapSeq fun _=>(#[]:Array Value));have na1:(s.heap.update kS (Obj.mapSeq fun _=>(#[]:Array Value))).get? a=some (seqObj "list" #[] e1):=(s1.2 a hka.symm).trans na;have s2:=Heap.SameBut.update (s.heap.update kS (Obj.mapSeq fun _=>(#[]:Array Value))) a (Obj.mapSeq fun _=>(arrOf st).map (·.2));obtain⟨c2,hc2⟩:∃c2,((s.heap.update kS (Obj.mapSeq fun _=>(#[]:Array Value))).update a (Obj.mapSeq fun _=>(arrOf st).map (·.2))).get? a=some (seqObj "list" ((arrOf st).map (·.2)) c2):=⟨_,get?_update_seq na1 fun _=>(arrOf st).map (·.2)⟩;have so:((arrOf st).map (·.2)).size<=1000:=by rw[Array.size_map];exact hz2
 unfold ksk_tail;dsimp only;refine wpAny_bind (listUpdate_at nk rfl ?_ (by rw[sizeLine_eq];omega) (Nat.zero_le _));refine wpAny_bind (wpAny_letGo (wpAny_bind (seqEpoch_at na1 rfl ?_)));refine wpAny_bind (listUpdate_at na1 rfl ?_ (Nat.zero_le _) (by show((arrOf st).map (·.2)).size<=_;rw[sizeLine_eq];omega));rw[hfl];simp only[if_false,Bool.false_eq_true,bne_self_eq_false];refine wpAny_pure (h _ _ c2 (fun b o b1 b2 hb=>?_) hc2);exact(s2.2 b b1).trans ((s1.2 b b2).trans hb)
set_option maxHeartbeats 4000000 in
theorem s_end(nk:s.heap.get? kS=some (seqObj "list" keys e))(na:s.heap.get? a=some (seqObj "list" #[] e1))(hka:kS≠a){kz:List Int}(hk:IntsAre keys.toList kz)(hlen:kz.length=vs.length)(h2:2<=vs.length)(hn:vs.length<=1000)
  (h:∀h' tk out c,Kp a kS s.heap h'->h'.get? a=some (seqObj "list" out c)->out.toList.Perm vs->P (.done (.ret .none)) {s with heap:=h',toks:=tk}):wpAny (model prog w) A (ksk_end a false vs.toArray e1 (.ref kS) keys) P E s:=by
 have hsz:keys.size=vs.length:=by
  have h1:=hk.length;rw[Array.length_toList] at h1;omega
 have hzs:(keys.zip vs.toArray).size=vs.length:=by rw[Array.size_zip,hsz,List.size_toArray,Nat.min_self]
 unfold ksk_end;dsimp only;rw[if_neg (by decide),if_neg (by rw[List.size_toArray];omega),if_neg (by rw[List.size_toArray];omega),ksk_kind hk (by omega)];refine wpAny_bind (wpAny_pure ?_);have h0:∀x∈keys.zip vs.toArray,kM x:=fun x hx=>ksk_intKeys (vs:=vs) hk x (Array.mem_def.mp hx);refine wpAny_bind (wpAny_mono (Eh (a₀:=keys.zip vs.toArray) (st:=SortSt.mk' oneType' (keys.zip vs.toArray) #[] 7 none) (Q:=fun _ st'=>∃pd,PB (keys.zip vs.toArray) pd st') ⟨Array.Perm.refl _,rfl,rfl,rfl⟩ h0 fun st' pd hp=>⟨pd,hp⟩) ?_ fun _ _ z=>z);rintro⟨⟨⟩,st'⟩ s' ⟨rfl,pd,hp⟩;dsimp only;refine Ec nk na hka (by omega) (by rw[hp.size,hzs];exact hn) hp.failed fun h' tk c kp hc=>h h' tk _ c kp hc ?_;have q:=(Array.perm_iff_toList_perm.mp hp.perm).map Prod.snd;rw[Array.toList_map];rw[ksk_zip] at q;have e2:(keys.toList.zip vs).map Prod.snd=vs:=List.map_snd_zip (Nat.le_of_eq (hsz.symm.trans (Array.length_toList (xs:=keys)).symm));rw[e2] at q;exact q
end
end L2.Srt
namespace L2.Srt
open PySem PyProof.Rows
section
variable{w:World}{prog:Program}{s:Shared}{E:Value->Shared->Prop}{A:Around}{vs:List Value}{ns:List Int}{a kS l:Addr}{e e1:Nat}{P:PySem.Fin->Shared->Prop}{Q:Value->Shared->Prop}
def oO(n:Int):Int:=if n<0 then -n else n
theorem zS{us:List Value}{ms:List Int}(h:IntsAre us ms):us.length=ms.length:=h.length
theorem BU{us:List Value}{ms:List Int}{j:Nat}{x:Value}(h:IntsAre us ms)(hx:us[j]?=some x):∃n t,x=Value.int n t/\ms[j]?=some n:=by
 induction h generalizing j with
 |nil=>cases hx
 |cons n t _ ih =>
  cases j with
  |zero=>cases hx;exact⟨n,t,rfl,rfl⟩
  |succ j=>exact ih hx
set_option maxHeartbeats 4000000 in
theorem E5(nk:s.heap.get? kS=some (seqObj "list" #[] 0))(na:s.heap.get? a=some (seqObj "list" #[] e1))(hka:kS≠a)(hI:IntsAre vs ns)(h2:2<=vs.length)(hn:vs.length<=1000)
  (h:∀h' tk out c,Kp a kS s.heap h'->h'.get? a=some (seqObj "list" out c)->out.toList.Perm vs->P (.done (.ret .none)) {s with heap:=h',toks:=tk}):wpAny (model prog w) A (ksk_rest a (.builtin "abs") false vs.toArray e1 (.ref kS)) P E s:=by
 have hln:=zS hI;unfold ksk_rest;refine wpAny_bind (wpAny_rule ?_);rw[List.forIn_toArray];refine wpAny_bind (ksk_fold (fun i s'=>∃h' tk kA e,s'={s with heap:=h',toks:=tk}/\Kp a kS s.heap h'/\h'.get? kS=some (seqObj "list" kA e)/\h'.get? a=some (seqObj "list" #[] e1)/\IntsAre kA.toList ((ns.map oO).take i)) vs 0 s ⟨s.heap,s.toks,#[],0,rfl,fun _ _ _ _ z=>z,nk,na,IntsAre.nil⟩ ?_ ?_)
 .rintro j x s' hx ⟨h',tk,kA,e,rfl,kp,nk',na',hk⟩;simp only[Nat.zero_add] at hk ⊢;obtain⟨n,t,rfl,hnj⟩:=BU hI hx;have hj:j<vs.length:=(List.getElem?_eq_some_iff.mp hx).1;have hkj:(ns.map oO)[j]?=some (oO n):=by rw[List.getElem?_map,hnj];rfl
  have hz:kA.size<=1000:=by
   have h1:=hk.length;rw[Array.length_toList,List.length_take] at h1;omega
  refine wpAny_bind (wpAny_attempt (call_abs_int fun u tk'=>?_));dsimp only;have s1:=Heap.SameBut.update h' kS (Obj.mapSeq (·.push (.int (oO n) u)));obtain⟨c2,hc2⟩:∃c2,(h'.update kS (Obj.mapSeq (·.push (.int (oO n) u)))).get? kS=some (seqObj "list" (kA.push (.int (oO n) u)) c2):=⟨_,get?_update_seq nk' (·.push (.int (oO n) u))⟩;have ek:(ns.map oO).take (j+1)=(ns.map oO).take j++[oO n]:=by rw[List.take_add_one,hkj];rfl
  have ea:(kA.push (Value.int (oO n) u)).toList=kA.toList++[Value.int (oO n) u]:=Array.toList_push ..;refine wpAny_bind (listUpdate_at nk' rfl ?_ (by rw[sizeLine_eq];omega) (Nat.le_trans (Nat.le_of_eq (Array.size_push ..)) (by rw[sizeLine_eq];omega)));refine wpAny_pure ⟨rfl,_,_,kA.push (.int (oO n) u),c2,rfl,fun b o b1 b2 hb=>(s1.2 b b2).trans (kp b o b1 b2 hb),hc2,(s1.2 a hka.symm).trans na',by rw[ea,ek];exact ksk_snoc hk⟩
 .rintro s' ⟨h',tk,kA,e,rfl,kp,nk',na',hk⟩
  have hk':IntsAre kA.toList (ns.map oO):=by
   rw[List.take_of_length_le (by rw[List.length_map];omega)] at hk;exact hk
  refine wpAny_bind (listItems_at nk' rfl ?_);exact s_end nk' na' hka hk' (by rw[List.length_map];omega) h2 hn fun h3 tk3 out c kp3 hc3 pm=>h h3 tk3 out c (fun b o b1 b2 hb=>kp3 b o b1 b2 (kp b o b1 b2 hb)) hc3 pm
set_option maxHeartbeats 4000000 in
theorem ES{n:Nat}(ho:s.heap.get? a=some (seqObj "list" vs.toArray n))(hI:IntsAre vs ns)(h2:2<=vs.length)(hn:vs.length<=1000)
  (h:∀h' tk out c,(∀b o,b≠a->s.heap.get? b=some o->h'.get? b=some o)->h'.get? a=some (seqObj "list" out c)->out.toList.Perm vs->P (.done (.ret .none)) {s with heap:=h',toks:=tk}):wpAny (model prog w) A (ksk_tree a (.builtin "abs") false) P E s:=by
 have ha:a<s.heap.objs.size:=Heap.lt_size ho;have s1:=Heap.SameBut.update s.heap a (Obj.mapSeq fun _=>(#[]:Array Value));obtain⟨e1,ho1⟩:∃e1,(s.heap.update a (Obj.mapSeq fun _=>(#[]:Array Value))).get? a=some (seqObj "list" #[] e1):=⟨_,get?_update_seq ho fun _=>#[]⟩;have hkS:((s.heap.update a (Obj.mapSeq fun _=>(#[]:Array Value))).push (seqObj "tuple" vs.toArray 0)).objs.size=s.heap.objs.size+1:=by rw[size_push',Heap.size_update]
 unfold ksk_tree;refine wpAny_bind (listItems_at ho rfl ?_);refine wpAny_bind (listUpdate_at ho rfl ?_ (by rw[List.size_toArray,sizeLine_eq];omega) (Nat.zero_le _));refine wpAny_bind (seqEpoch_at ho1 rfl (wpAny_bind (wpAny_newTuple ?_ (by show vs.length<=_;rw[sizeLine_eq];omega))));refine wpAny_bind (wpAny_newList ?_ (Nat.zero_le _));refine wpAny_holding ?_;refine E5 (s:={s with heap:=((s.heap.update a (Obj.mapSeq fun _=>(#[]:Array Value))).push (seqObj "tuple" vs.toArray 0)).push (seqObj "list" #[] 0)}) (kS:=((s.heap.update a (Obj.mapSeq fun _=>(#[]:Array Value))).push (seqObj "tuple" vs.toArray 0)).objs.size) (Heap.get?_push_size _ rfl) (Heap.get?_push_of_some _ (Heap.get?_push_of_some _ ho1)) (by rw[hkS];exact Nat.ne_of_gt (Nat.lt_succ_of_lt ha)) hI h2 hn ?_;intro h' tk out c kp hc pm;refine h h' tk out c (fun b o b1 hb=>?_) hc pm;have hlt:b<s.heap.objs.size:=Heap.lt_size hb;exact kp b o b1 (by rw[hkS];exact Nat.ne_of_lt (Nat.lt_succ_of_lt hlt)) (Heap.get?_push_of_some _ (Heap.get?_push_of_some _ ((s1.2 b b1).trans hb)))
set_option maxHeartbeats 4000000 in
theorem yt(hl:s.heap.IsList l vs.toArray)(hI:IntsAre vs ns)(h2:2<=vs.length)(hn:vs.length<=1000)
  (h:∀h' tk out c,(∀b o,s.heap.get? b=some o->h'.get? b=some o)->h'.get? (s.heap.objs.size+1)=some (seqObj "list" out c)->out.toList.Perm vs->Q (.ref (s.heap.objs.size+1)) {s with heap:=h',toks:=tk}):wpAny (model prog w) A (call (.builtin "sorted") [.ref l] [(Str.ofString "key",.builtin "abs")]) Q E s:=by
 refine call_function_entry_kw kind_sorted plain_sorted entry_sorted (ksk_s1 _ _) ?_;unfold Builtin.«sorted»;refine wpAny_bind (m:=checkCount "sorted" 1 1 _) (wpAny_pure (wpAny_bind (collect_list hl ?_ (by rw[sizeLine_eq];omega))));refine wpAny_bind (wpAny_newList ?_ (by rw[sizeLine_eq];omega));have hsz:((s.heap.push (seqObj "list" #[] 0)).update s.heap.objs.size (Obj.mapSeq (·++vs.toArray))).objs.size=s.heap.objs.size+1:=by rw[Heap.size_update,size_push']
 have hoL:(((s.heap.push (seqObj "list" #[] 0)).update s.heap.objs.size (Obj.mapSeq (·++vs.toArray))).push (seqObj "list" vs.toArray 0)).get? (s.heap.objs.size+1)=some (seqObj "list" vs.toArray 0):=by rw[<-hsz];exact Heap.get?_push_size _ rfl
 have keep:∀b o,s.heap.get? b=some o->(((s.heap.push (seqObj "list" #[] 0)).update s.heap.objs.size (Obj.mapSeq (·++vs.toArray))).push (seqObj "list" vs.toArray 0)).get? b=some o:=fun b o q=>by
  have hlt:b<s.heap.objs.size:=Heap.lt_size q;rw[Heap.get?_push_ne _ _ _ (by rw[hsz];exact Nat.ne_of_lt (Nat.lt_succ_of_lt hlt)),Heap.get?_update_ne _ _ _ _ (Nat.ne_of_lt hlt),Heap.get?_push_ne _ _ _ (Nat.ne_of_lt hlt)];exact q
 show wpAny _ _ _ _ _ {s with heap:=((s.heap.push (seqObj "list" #[] 0)).update s.heap.objs.size (Obj.mapSeq (·++vs.toArray))).push (seqObj "list" vs.toArray 0)};rw[hsz];refine wpAny_bind (wpAny_holding (wpAny_call_entry_kw slot_list_sort ⟨_,hoL,rfl⟩ entry_list_sort ?_ (ksk_l1 _ _)));rw[ksk_t4];refine ES hoL hI h2 hn fun h' tk out c kp hc pm=>⟨_,rfl,?_⟩;refine wpAny_pure ⟨_,rfl,h h' tk out c (fun b o hb=>kp b o (fun z=>?_) (keep b o hb)) hc pm⟩;have hlt:b<s.heap.objs.size:=Heap.lt_size hb;rw[z] at hlt;exact absurd hlt (Nat.not_lt.mpr (Nat.le_succ _))
end
end L2.Srt
namespace L2.EP
open PySem PySem.Spec PyProof.Rows
section
variable{X:Cx}{Γ:aC}{e:Expr}{b:Bool}{p q kp pos:Pos}{t:TA}
def IM(K:PySem.W.Frag)(xs:List V)(H:Hp)(Q:VK):Prop:=∃p,∃ns:List Int,xs=[.ref p]/\dF K H p (ns.map V.int)/\2<=ns.length/\ns.length<=1000/\∀l (ms:List Int),H l=none->ms.Perm ns->Q (.ref l) (upd H l (.lst (ms.map V.int)))
theorem tm{pins:List (Addr×Obj)}{s:Shared}{σ:St}{H:Hp}{xs:List V}{us:List Value}{Q:VK}(I:Inv X pins σ H s)(r:Vals xs us)(h:IM X.K xs H Q):wpAny (model X.prog X.w) X.A (call (.builtin "sorted") us [(Str.ofString "key",.builtin "abs")]) (EP X pins σ Q) X.xe s:=by
 obtain⟨p,ns,rfl,sq,h2,hn,q⟩:=h;obtain⟨u,rfl,rx⟩:=vals1 r;cases rx;obtain⟨its,rr,pl,_⟩:=I.list sq;have hi:=intsAre_of rr;have hl:its.length=ns.length:=by rw[<-rr.length,List.length_map]
 refine L2.Srt.yt pl.isList hi (by omega) (by omega) fun h' tk out c kp hc pm=>?_;obtain⟨ms,a1,a2⟩:=L2.Srt.wR pm hi
 have lo:(ms.map V.int).length<=sizeLine:=by
  rw[List.length_map,a2.length_eq];exact Nat.le_trans hn (by decide)
 exact⟨.ref (s.heap.objs.size+1),_,I.laid (t':=tk) (o:=.lst (ms.map V.int)) kp (Nat.le_succ _) ⟨lo,out.toList,c,jR a1,hc⟩,rfl,q _ ms (I.hok.fresh (Nat.le_succ _)) a2⟩
theorem xB(hg:Gl X "sorted")(hm:X.mg "sorted"=none)(hg2:Gl X "abs")(hm2:X.mg "abs"=none)(ha:PA X [e] t)(he:starEach [e] X.env=(false,eval e X.env)::starEach [] X.env:=by rfl):
  PE X (.Call (.Name "sorted" p) [e] [⟨some (Str.ofString "key"),.Name "abs" q,kp⟩] pos) (fun σ H Q=>t σ H fun vs H1=>IM X.K vs H1 Q):=by
 intro pins s σ H Q I h;refine wpAny_Call_Name_kw (eO I hg hm boot_sorted ?_);refine callWith_kw (bO (ha pos pins s σ H _ I h) fun us s1 ⟨vs,H1,I1,r1,q1⟩=>?_) (by rw[he];rfl) (by rw[he];rfl);refine kws_cons (eO I1 hg2 hm2 boot_abs (kws_nil ?_));exact tm I1 r1 q1
theorem yM{ns:List Int}(hg:Gl X "sorted")(hm:X.mg "sorted"=none)(hg2:Gl X "abs")(hm2:X.mg "abs"=none)(ha:E X Γ e b ns)(h2:2<=ns.length)(hn:ns.length<=1000)(hs:starEach [e] X.env=(false,eval e X.env)::starEach [] X.env:=by rfl):
  EX X Γ (.Call (.Name "sorted" p) [e] [⟨some (Str.ofString "key"),.Name "abs" q,kp⟩] pos) true (fun ms:List Int=>ms.Perm ns):=by
 with_unfolding_all
  exact aF (xB hg hm hg2 hm2 (aA ha aU hs) hs) fun σ H Q ⟨H0,F,O,S,q⟩=>⟨H0,F,O,S,fun v H1 s1 r1=>by
    obtain⟨p,vs,e,sq,n,r⟩:=r1;rw[pb r] at sq;refine⟨p,ns,by rw[e],(aj _ _).seq sq,h2,hn,fun l ms hl' pm=>?_⟩;obtain⟨z1,z2⟩:=cI (xs:=ms.map V.int) (S.go s1) hl';refine q ms _ _ pm (s1.trans z1) ⟨l,_,rfl,dF.of z2,Nf.wk (b:=true) ((S.go s1).gQ hl') z2,?_⟩;generalize ms=m
    induction m with
    |nil=>exact .nil
    |cons x m ih=>exact .cons rfl ih⟩
end
section
variable{X:Cx}
def HV(K:PySem.W.Frag)(neg:Bool):R2:=fun x y H Q=>∃p xs d ds,y=.ref p/\dF K H p xs/\DR K H x d/\wW K H xs ds/\d.canLay0=true/\PyData.canLayAll0 ds=true/\d.depth<=50/\Q (.bl (if neg then !(ds.any fun e=>PyData.eqv e d) else ds.any fun e=>PyData.eqv e d)) H
theorem qO{h:Heap}:∀{us:List Value} {ds:List PyData} {as:List Addr},ReadsAll h us ds as->PyData.canLayAll0 ds=true->∀u∈us,∃c cs,Reads h u c cs/\c.canLay0=true/\c∈ds
 |_,_,_,.nil,_,u,hu=>by cases hu
 |_,_,_,.cons r rs,hl,u,hu=>by
  rw[PyData.canLayAll0,Bool.and_eq_true] at hl;rcases List.mem_cons.mp hu with rfl|hu
  .exact⟨_,_,r,hl.1,List.mem_cons_self ..⟩
  .obtain⟨c,cs,a,b,m⟩:=qO rs hl.2 u hu;exact⟨c,cs,a,b,List.mem_cons_of_mem _ m⟩
theorem og{h:Heap}{f:Value->Bool}{g:PyData->Bool}:∀{us:List Value} {ds:List PyData} {as:List Addr},ReadsAll h us ds as->PyData.canLayAll0 ds=true->(∀u c cs,Reads h u c cs->c.canLay0=true->f u=g c)->us.any f=ds.any g
 |_,_,_,.nil,_,_=>rfl
 |_,_,_,.cons r rs,hl,k=>by
  rw[PyData.canLayAll0,Bool.and_eq_true] at hl;rw[List.any_cons,List.any_cons,k _ _ _ r hl.1,og rs hl.2 k]
noncomputable def eD(h:Heap)(d:PyData)(w:Value):Bool:=open Classical in decide (∃c cs,Reads h w c cs/\c.canLay0=true/\PyData.eqv c d=true)
theorem FJ{h:Heap}{d c:PyData}{w:Value}{cs:List Addr}(r:Reads h w c cs)(lc:c.canLay0=true):eD h d w=PyData.eqv c d:=by
 unfold eD;cases z:PyData.eqv c d with
 |true=>exact @decide_eq_true _ (Classical.propDecidable _) ⟨c,cs,r,lc,z⟩
 |false =>
  refine @decide_eq_false _ (Classical.propDecidable _) ?_;rintro⟨c',cs',r',l',z'⟩;have:=SeqAt.Reads.unique c c' w cs cs' lc r r';rw[<-this,z] at z';cases z'
theorem wF(hu:X.A.units+60<cLine){neg:Bool}{op:CmpOp}(ho:op=if neg then .NotIn else .In):i7 X (compareOp op) (HV X.K neg):=by
 intro pins s σ H x y v u Q I rx ry h;obtain⟨p,xs,d,ds,rfl,hq,hd,hs,c1,c2,dp,q⟩:=h;cases ry;obtain⟨its,r,pl,hz⟩:=I.list hq;obtain⟨as,ra⟩:=hd.reads I rx;obtain⟨bs,rb⟩:=hs.reads I r;have key:∀w c cs,Reads s.heap w c cs->c.canLay0=true->eD s.heap d w=PyData.eqv c d:=fun w c cs r' lc=>FJ r' lc
 have he:∀w,w∈its.toArray->SeqAt.EqAt X.A.in1 s w v (eD s.heap d w):=fun w hw=>by
  obtain⟨c,cs,rc,lc,_⟩:=qO rb c2 w (by simpa using hw);rw[key w c cs rc lc];refine SeqAt.eqAt_reads c d X.A.in1 s w v cs as rc ra lc c1 ?_;have h1:=Nat.min_le_right c.depth d.depth;have h2:X.A.in1.units=X.A.units+1:=rfl;omega
 have ea:its.toArray.any (eD s.heap d)=ds.any fun e=>PyData.eqv e d:=by
  rw[show its.toArray.any (eD s.heap d)=its.any (eD s.heap d) by simp];exact og rb c2 key
 subst ho;cases neg
 .exact SeqAt.in_listAt _ pl.isList he ⟨.bl _,H,I,rfl,by rw[ea];exact q⟩
 .exact SeqAt.notIn_listAt _ pl.isList he ⟨.bl _,H,I,rfl,by rw[ea];exact q⟩
theorem B2{α:Type}[PyD α]{a:α}{as:List α}{c:Bool}(h:c=true↔a∈as):((as.map PyD.dat).any fun e=>PyData.eqv e (PyD.dat a))=c:=by
 rw[Bool.eq_iff_iff,h,List.any_eq_true];constructor
 .rintro⟨x,hx,e⟩;obtain⟨b,hb,rfl⟩:=List.mem_map.mp hx;rw[<-(PyD.eqv b a).mp e];exact hb
 .intro m;exact⟨_,List.mem_map_of_mem m,(PyD.eqv a a).mpr rfl⟩
theorem AZ{α:Type}[PyD α]{a:α}{as:List α}{c:Bool}(hu:X.A.units+60<cLine)(hd:PyD.dep α<=50)(h:c=true↔a∈as):CV X .NotIn a as (!c):=⟨_,wF hu (neg:=true) rfl,fun N N' H u v Q h1 h2 q=>by
 obtain⟨p,vs,e,sq,n,r⟩:=h2
 exact⟨p,vs,_,_,e,sq,PyD.dr h1,lY r,PyD.lay a,mH as,Nat.le_trans (PyD.depth a) hd,by rw[B2 h];exact q⟩⟩
end
def Bn{β:Type}[Py β](K:PySem.W.Frag)(b:Bool)(post:β->Prop):Sp:=fun vs H Q _=>∃O,kY H O/\vs=[]/\∀z r H',post z->aB H H'->Py.rp K (Nf H b) (off H' O) r z->Q r H'
section
variable{X:Cx}{Γ:aC}{β:Type}[Py β]{b:Bool}{p pos:Pos}{k:Nat}{name:Str}{ps:List Str}
theorem xT{post:β->Prop}(C:aN X.prog X.w X.K X.mg X.base k name ps (Bn X.K b post))(hr:cM k X.A)(hg:Gl X name)(hdb:(name==("__debug__":Str))=false:=by decide):
  EX X Γ (.Call (.Name name p) [] [] pos) b post:=by
 with_unfolding_all
  obtain⟨fa,fd,F,B,kp,m⟩:=C.ex;exact aF (xK F hr hg m kp B .nil iV hdb) fun σ H Q ⟨H0,F,O,S,q⟩=>⟨O,S.own,rfl,fun z r H' hz s' rz=>q z r H' hz s' (S.back rz)⟩
end
section
variable{P:Program}{w:World}{K:PySem.W.Frag}{mg:Str->Option Value}{base:Heap}{N:List Str}{x qual:Str}{st:Stmt}{f:Addr}{fd:FuncData}{k:Nat}{ps:List Str}
theorem HQ{β:Type}[Py β]{b:Bool}{post:β->Prop}(F:sC K x qual st f fd)(sc:ai N ps (af st))(hl:ps.length=0)(B:Body P w K mg base N qual st f k [] (xu b post)):fe P w K mg base nC (k+1) f fd ps (Bn K b post):=by
 with_unfolding_all
  refine F.ok sc (fun vs H Q E h=>?_) fun cdv A outer s H vs Q E hr h=>?_
  .obtain⟨O,_,rfl,_⟩:=h;rw[hl];rfl
  .obtain⟨O,ho,rfl,q⟩:=h;exact iM B hr ho .nil q
end
def wD{α β γ δ ε:Type}[Py α][Py β][Py γ][Py δ][Py ε](K:PySem.W.Frag)(pre:α->β->γ->δ->Prop)(b:Bool)(post:α->β->γ->δ->ε->Prop):Sp:=fun vs H Q _=>∃O v w x y a c d g,kY H O/\vs=[v,w,x,y]/\Py.rp K .any (off H O) v a/\Py.rp K .any (off H O) w c/\Py.rp K .any (off H O) x d/\Py.rp K .any (off H O) y g/\pre a c d g/\∀z r H',post a c d g z->aB H H'->Py.rp K (Nf H b) (off H' O) r z->Q r H'
section
variable{X:Cx}{Γ:aC}{D:GD}{α β γ δ ε:Type}[Py α][Py β][Py γ][Py δ][Py ε]{e e1 e2 e3 e4:Expr}{b b1 b2 b3 b4:Bool}{p pos:Pos}{rest:List Stmt}{k:Nat}{name:Str}{ps:List Str}
theorem qz{pre:α->β->γ->δ->Prop}{post:α->β->γ->δ->ε->Prop}{a:α}{c:β}{d:γ}{g:δ}(C:aN X.prog X.w X.K X.mg X.base k name ps (wD X.K pre b post))(hr:cM k X.A)(hg:Gl X name)(h1:E X Γ e1 b1 a)(h2:E X Γ e2 b2 c)(h3:E X Γ e3 b3 d)(h4:E X Γ e4 b4 g)(hp:pre a c d g)
  (hs1:starEach [e1,e2,e3,e4] X.env=(false,eval e1 X.env)::starEach [e2,e3,e4] X.env:=by rfl) (hs2:starEach [e2,e3,e4] X.env=(false,eval e2 X.env)::starEach [e3,e4] X.env:=by rfl) (hs3:starEach [e3,e4] X.env=(false,eval e3 X.env)::starEach [e4] X.env:=by rfl) (hs4:starEach [e4] X.env=(false,eval e4 X.env)::starEach [] X.env:=by rfl)
  (hdb:(name==("__debug__":Str))=false:=by decide) (hpl:(backTo pos (starEach [e2,e3,e4] X.env)).any (·.1)=false:=by rfl):
  EX X Γ (.Call (.Name name p) [e1,e2,e3,e4] [] pos) b (post a c d g):=by
 with_unfolding_all
  obtain⟨fa,fd,F,B,kp,m⟩:=C.ex
  exact aF (d8 F hr hg m kp B .nil iV (aA h1 (aA h2 (aA h3 (aA h4 aU hs4) hs3) hs2) hs1) hdb hs1 hpl) fun σ H Q ⟨H0,F,O,S,q⟩=>⟨H0,F,O,S,fun v1 H1 s1 r1=>⟨H0,F,O,S.go s1,fun v2 H2 s2 r2=>⟨H0,F,O,S.go (s1.trans s2),fun v3 H3 s3 r3=>⟨H0,F,O,S.go (s1.trans (s2.trans s3)),fun v4 H4 s4 r4 =>
   ⟨O,v1,v2,v3,v4,a,c,d,g,(S.go (s1.trans (s2.trans (s3.trans s4)))).own,rfl,a9 bf (aw ((ag s2).trans ((ag s3).trans (ag s4))) r1),a9 bf (aw ((ag s3).trans (ag s4)) r2),a9 bf (aw (ag s4) r3),a9 bf r4,hp,fun z r H' hz s' rz=>q z r H' hz (s1.trans (s2.trans (s3.trans (s4.trans s')))) ((S.go (s1.trans (s2.trans (s3.trans s4)))).back rz)⟩⟩⟩⟩⟩
theorem xh{pre:α->Prop}{post:α->β->Prop}{a:α}(C:aN X.prog X.w X.K X.mg X.base k name ps (uq X.K pre true post))(hr:cM k X.A)(hg:Gl X name)(h1:E X Γ e1 b1 a)(hp:pre a)
  (hs1:starEach [e1] X.env=(false,eval e1 X.env)::starEach [] X.env:=by rfl) (hdb:(name==("__debug__":Str))=false:=by decide) (hpl:(backTo pos (starEach [] X.env)).any (·.1)=false:=by rfl):
  IU X Γ (.Call (.Name name p) [e1] [] pos) (post a):=by
 with_unfolding_all
  obtain⟨fa,fd,F,B,kp,m⟩:=C.ex
  exact aF (d8 F hr hg m kp B .nil iV (aA h1 aU hs1) hdb hs1 hpl) fun σ H Q ⟨H0,F,O,S,q⟩=>⟨H0,F,O,S,fun v1 H1 s1 r1 =>
   ⟨O,v1,a,(S.go s1).own,rfl,a9 bf r1,hp,fun z r H' hz s' rz=>q z r H' hz (s1.trans s') (l6 s1 rz)⟩⟩
theorem A7{post:α->Prop}{post':Option α->Prop}(h:EX X Γ e b post)(hp:∀a,post a->post' (some a)):EX X Γ e b post':=by
 with_unfolding_all
  exact aF h fun σ H Q ⟨H0,F,O,S,q⟩=>⟨H0,F,O,S,fun a v H' hz s' r=>q (some a) v H' (hp a hz) s' r⟩
theorem DC{post:Option α->Prop}{post':α->Prop}(h:EX X Γ e b post)(hp:∀o,post o->∃a,o=some a/\post' a):EX X Γ e b post':=by
 with_unfolding_all
  exact aF h fun σ H Q ⟨H0,F,O,S,q⟩=>⟨H0,F,O,S,fun o v H' hz s' r=>by
   obtain⟨a,rfl,ha⟩:=hp o hz
   exact q a v H' ha s' r⟩
theorem pE[PyT α]{xs:List α}{p:Pos}(hg:Gl X "list")(hm:X.mg "list"=none)(ha:E X Γ e b (qJ.mk xs))(hs:starEach [e] X.env=(false,eval e X.env)::starEach [] X.env:=by rfl):E X Γ (.Call (.Name "list" p) [e] [] pos) true xs:=by
 with_unfolding_all
  exact aF (ka jJ hg hm PyProof.Rows.boot_list (aA ha aU hs) (he:=hs)) fun σ H Q ⟨H0,F,O,S,q⟩=>⟨H0,F,O,S,fun v H1 s1 r1=>by
    obtain⟨p,vs,e,sq,r⟩:=r1;refine⟨p,vs,by rw[e],.inr (bY (aj _ _) sq).t,fun l hl=>?_⟩;obtain⟨z1,z2⟩:=cI (xs:=vs) (S.go s1) hl
    exact q _ _ (s1.trans z1) ⟨l,vs,rfl,dF.of z2,Nf.wk ((S.go s1).gQ hl) z2,bM (fun _ _ z=>PyT.free (fun _ _ t=>aB.rt (ag z1) t) z) r⟩⟩
end
section
variable{P:Program}{w:World}{K:PySem.W.Frag}{mg:Str->Option Value}{base:Heap}{N:List Str}{x qual:Str}{st:Stmt}{f:Addr}{fd:FuncData}{k:Nat}{ps:List Str}
theorem GJ{α β γ δ ε:Type}[Py α][Py β][Py γ][Py δ][Py ε]{pre:α->β->γ->δ->Prop}{b:Bool}{post:α->β->γ->δ->ε->Prop}(F:sC K x qual st f fd)(sc:ai N ps (af st))(hl:ps.length=4)(B:∀a c d g,pre a c d g->Body P w K mg base N qual st f k [.val false a,.val false c,.val false d,.val false g] (xu b (post a c d g))):
  fe P w K mg base nC (k+1) f fd ps (wD K pre b post):=by
 with_unfolding_all
  refine F.ok sc (fun vs H Q E h=>?_) fun cdv A outer s H vs Q E hr h=>?_
  .obtain⟨O,v,v2,v3,v4,a,c,d,g,_,rfl,_⟩:=h;rw[hl];rfl
  .obtain⟨O,v,v2,v3,v4,a,c,d,g,ho,rfl,r,r2,r3,r4,hp,q⟩:=h;exact iM (B a c d g hp) hr ho (.cons r (.cons r2 (.cons r3 (.cons r4 .nil)))) q
end
end L2.EP
namespace L2.EP.K
open PySem PySem.Spec PyProof.Rows
open Q (fr fd)
def top(i:Nat):Stmt:=PySem.Challenge.pw_everyplace_k63_built_rows.main.body.getD i (.Pass ⟨0,0,0,0⟩)
abbrev lj:Stmt:=top 4
abbrev vO:List Str:=["base","exponent","answer","step"]
theorem jl:ai vO ["base","exponent"] (af lj):=⟨rfl,rfl,rfl,by decide +kernel,rfl,by decide +kernel,by decide +kernel⟩
abbrev gE:Stmt:=top 5
abbrev mY:List Str:=["base","exponent","m","answer","square"]
theorem bP:ai mY ["base","exponent","m"] (af gE):=⟨rfl,rfl,rfl,by decide +kernel,rfl,by decide +kernel,by decide +kernel⟩
abbrev fF:Stmt:=top 6
abbrev kW:List Str:=["k","divisor","often","left"]
theorem cY:ai kW ["k","divisor"] (af fF):=⟨rfl,rfl,rfl,by decide +kernel,rfl,by decide +kernel,by decide +kernel⟩
abbrev dH:Stmt:=top 7
abbrev iQ:List Str:=["k","root"]
theorem eP:ai iQ ["k"] (af dH):=⟨rfl,rfl,rfl,by decide +kernel,rfl,by decide +kernel,by decide +kernel⟩
abbrev bD:Stmt:=top 8
abbrev dv:List Str:=["k","root"]
theorem c7:ai dv ["k"] (af bD):=⟨rfl,rfl,rfl,by decide +kernel,rfl,by decide +kernel,by decide +kernel⟩
abbrev cE:Stmt:=top 10
abbrev fZ:List Str:=["a","b","rest"]
theorem b8:ai fZ ["a","b"] (af cE):=⟨rfl,rfl,rfl,by decide +kernel,rfl,by decide +kernel,by decide +kernel⟩
abbrev dz:Stmt:=top 11
abbrev ja:List Str:=["top","bottom","divisor"]
theorem iz:ai ja ["top","bottom"] (af dz):=⟨rfl,rfl,rfl,by decide +kernel,rfl,by decide +kernel,by decide +kernel⟩
abbrev dg:Stmt:=top 15
abbrev g7:List Str:=["k","begin","end","divisor"]
theorem gP:ai g7 ["k","begin","end"] (af dg):=⟨rfl,rfl,rfl,by decide +kernel,rfl,by decide +kernel,by decide +kernel⟩
abbrev gG:Stmt:=top 16
abbrev mn:List Str:=["k"]
theorem rL:ai mn ["k"] (af gG):=⟨rfl,rfl,rfl,by decide +kernel,rfl,by decide +kernel,by decide +kernel⟩
abbrev eE:Stmt:=top 17
abbrev jW:List Str:=["k","answer"]
theorem fJ:ai jW ["k"] (af eE):=⟨rfl,rfl,rfl,by decide +kernel,rfl,by decide +kernel,by decide +kernel⟩
abbrev iE:Stmt:=top 18
abbrev oG:List Str:=["k","end","out","found","left","divisor"]
theorem cj:ai oG ["k","end"] (af iE):=⟨rfl,rfl,rfl,by decide +kernel,rfl,by decide +kernel,by decide +kernel⟩
abbrev lG:Stmt:=top 19
abbrev uP:List Str:=["k","known","last"]
theorem mw:ai uP ["k"] (af lG):=⟨rfl,rfl,rfl,by decide +kernel,rfl,by decide +kernel,by decide +kernel⟩
abbrev eB:Stmt:=top 20
abbrev jT:List Str:=["k","known","root"]
theorem fK:ai jT ["k"] (af eB):=⟨rfl,rfl,rfl,by decide +kernel,rfl,by decide +kernel,by decide +kernel⟩
abbrev lr:Stmt:=top 21
abbrev vn:List Str:=["u","known","number","root","part"]
theorem eV:ai vn ["u"] (af lr):=⟨rfl,rfl,rfl,by decide +kernel,rfl,by decide +kernel,by decide +kernel⟩
abbrev iK:Stmt:=top 22
abbrev nW:List Str:=["k"]
theorem sN:ai nW ["k"] (af iK):=⟨rfl,rfl,rfl,by decide +kernel,rfl,by decide +kernel,by decide +kernel⟩
abbrev fv:Stmt:=top 24
abbrev kO:List Str:=["k","p","rest"]
theorem jB:ai kO ["k","p"] (af fv):=⟨rfl,rfl,rfl,by decide +kernel,rfl,by decide +kernel,by decide +kernel⟩
abbrev bZ:Stmt:=top 25
abbrev fg:List Str:=["p","k"]
theorem cP:ai fg ["p"] (af bZ):=⟨rfl,rfl,rfl,by decide +kernel,rfl,by decide +kernel,by decide +kernel⟩
abbrev eZ:Stmt:=top 27
abbrev jb:List Str:=["k","p","out","rest"]
theorem cU:ai jb ["k","p"] (af eZ):=⟨rfl,rfl,rfl,by decide +kernel,rfl,by decide +kernel,by decide +kernel⟩
abbrev cW:Stmt:=top 28
abbrev hV:List Str:=["k","p"]
theorem k6:ai hV ["k","p"] (af cW):=⟨rfl,rfl,rfl,by decide +kernel,rfl,by decide +kernel,by decide +kernel⟩
abbrev gJ:Stmt:=top 29
abbrev mx:List Str:=["one","other","reasons"]
theorem dS:ai mx ["one","other"] (af gJ):=⟨rfl,rfl,rfl,by decide +kernel,rfl,by decide +kernel,by decide +kernel⟩
abbrev gi:Stmt:=top 30
abbrev mN:List Str:=["one","other","p","said"]
theorem dJ:ai mN ["one","other","p"] (af gi):=⟨rfl,rfl,rfl,by decide +kernel,rfl,by decide +kernel,by decide +kernel⟩
abbrev oQ:Stmt:=top 31
abbrev zr:List Str:=["a","b","p","one","other"]
theorem qa:ai zr ["a","b","p"] (af oQ):=⟨rfl,rfl,rfl,by decide +kernel,rfl,by decide +kernel,by decide +kernel⟩
abbrev fh:Stmt:=top 32
abbrev kK:List Str:=["numbers","found","k","part"]
theorem ef:ai kK ["numbers"] (af fh):=⟨rfl,rfl,rfl,by decide +kernel,rfl,by decide +kernel,by decide +kernel⟩
abbrev e8:Stmt:=top 33
abbrev jf:List Str:=["a","b","one","other"]
theorem g9:ai jf ["a","b"] (af e8):=⟨rfl,rfl,rfl,by decide +kernel,rfl,by decide +kernel,by decide +kernel⟩
abbrev jE:Stmt:=top 35
abbrev r8:List Str:=["a","b","divisor"]
theorem nV:ai r8 ["a","b"] (af jE):=⟨rfl,rfl,rfl,by decide +kernel,rfl,by decide +kernel,by decide +kernel⟩
abbrev eC:Stmt:=top 40
abbrev jt:List Str:=["p","no_square"]
theorem iW:ai jt ["p"] (af eC):=⟨rfl,rfl,rfl,by decide +kernel,rfl,by decide +kernel,by decide +kernel⟩
abbrev bU:Stmt:=top 41
abbrev eK:List Str:=["one","other","p","rest"]
theorem dZ:ai eK ["one","other","p"] (af bU):=⟨rfl,rfl,rfl,by decide +kernel,rfl,by decide +kernel,by decide +kernel⟩
abbrev a8:Stmt:=top 42
abbrev cg:List Str:=["found","p"]
theorem bB:ai cg [] (af a8):=⟨rfl,rfl,rfl,by decide +kernel,rfl,by decide +kernel,by decide +kernel⟩
abbrev dq:Stmt:=top 43
abbrev gN:List Str:=["k","places"]
theorem nO:ai gN ["k","places"] (af dq):=⟨rfl,rfl,rfl,by decide +kernel,rfl,by decide +kernel,by decide +kernel⟩
abbrev bK:Stmt:=top 44
abbrev dA:List Str:=["k","places","wishes","answer","p","classes","own"]
theorem b_:ai dA ["k","places","wishes"] (af bK):=⟨rfl,rfl,rfl,by decide +kernel,rfl,by decide +kernel,by decide +kernel⟩
abbrev fC:Stmt:=top 45
abbrev kQ:List Str:=["classes","wishes","own","wish"]
theorem jL:ai kQ ["classes","wishes"] (af fC):=⟨rfl,rfl,rfl,by decide +kernel,rfl,by decide +kernel,by decide +kernel⟩
abbrev ck:Stmt:=top 46
abbrev eJ:List Str:=["places","wishes","starts","k","known","further","left","classes"]
theorem bp:ai eJ ["places","wishes"] (af ck):=⟨rfl,rfl,rfl,by decide +kernel,rfl,by decide +kernel,by decide +kernel⟩
abbrev hU:Stmt:=top 49
abbrev mW:List Str:=["wish","below","number","noes"]
theorem iG:ai mW ["wish"] (af hU):=⟨rfl,rfl,rfl,by decide +kernel,rfl,by decide +kernel,by decide +kernel⟩
abbrev cK:Stmt:=top 50
abbrev fM:List Str:=["number","noes","p"]
theorem lO:ai fM ["number","noes","p"] (af cK):=⟨rfl,rfl,rfl,by decide +kernel,rfl,by decide +kernel,by decide +kernel⟩
abbrev eM:Stmt:=top 51
abbrev jh:List Str:=["number","noes","wishes","first"]
theorem hE:ai jh ["number","noes"] (af eM):=⟨rfl,rfl,rfl,by decide +kernel,rfl,by decide +kernel,by decide +kernel⟩
abbrev gM:Stmt:=top 52
abbrev mE:List Str:=["size","signs","number","answer"]
theorem kN:ai mE ["size","signs","number"] (af gM):=⟨rfl,rfl,rfl,by decide +kernel,rfl,by decide +kernel,by decide +kernel⟩
abbrev cm:Stmt:=top 53
abbrev eU:List Str:=["one","other"]
theorem k4:ai eU ["one","other"] (af cm):=⟨rfl,rfl,rfl,by decide +kernel,rfl,by decide +kernel,by decide +kernel⟩
abbrev eW:Stmt:=top 54
abbrev l5:List Str:=["size","signs","number","noes","first","left","others"]
theorem dQ:ai l5 ["size","signs","number","noes"] (af eW):=⟨rfl,rfl,rfl,by decide +kernel,rfl,by decide +kernel,by decide +kernel⟩
abbrev k_:Stmt:=top 55
abbrev u6:List Str:=["wish"]
theorem yi:ai u6 ["wish"] (af k_):=⟨rfl,rfl,rfl,by decide +kernel,rfl,by decide +kernel,by decide +kernel⟩
abbrev dE:Stmt:=top 57
abbrev iY:List Str:=["_law_script","_law_k"]
theorem lQ:ai iY ["_law_script","_law_k"] (af dE):=⟨rfl,rfl,rfl,by decide +kernel,rfl,by decide +kernel,by decide +kernel⟩
abbrev iC:Stmt:=top 58
abbrev nZ:List Str:=["_law_cell","_law_k","_law_number","_law_j","_law_part"]
theorem dC:ai nZ ["_law_cell","_law_k"] (af iC):=⟨rfl,rfl,rfl,by decide +kernel,rfl,by decide +kernel,by decide +kernel⟩
abbrev fA:Stmt:=top 59
abbrev kD:List Str:=["_law_cell","_law_number","_law_bits","_law_p"]
theorem cy:ai kD ["_law_cell"] (af fA):=⟨rfl,rfl,rfl,by decide +kernel,rfl,by decide +kernel,by decide +kernel⟩
abbrev eA:Stmt:=top 60
abbrev ju:List Str:=["_law_a","_law_b","_law_rest"]
theorem dG:ai ju ["_law_a","_law_b"] (af eA):=⟨rfl,rfl,rfl,by decide +kernel,rfl,by decide +kernel,by decide +kernel⟩
abbrev gj:Stmt:=top 61
abbrev lX:List Str:=["_law_k","_law_root_here"]
theorem iu:ai lX ["_law_k"] (af gj):=⟨rfl,rfl,rfl,by decide +kernel,rfl,by decide +kernel,by decide +kernel⟩
abbrev gq:Stmt:=top 62
abbrev mL:List Str:=["_law_number","_law_left","_law_free_here","_law_d","_law_often"]
theorem bt:ai mL ["_law_number"] (af gq):=⟨rfl,rfl,rfl,by decide +kernel,rfl,by decide +kernel,by decide +kernel⟩
abbrev cz:Stmt:=top 63
abbrev fO:List Str:=["_law_one","_law_other","_law_part"]
theorem fE:ai fO ["_law_one","_law_other"] (af cz):=⟨rfl,rfl,rfl,by decide +kernel,rfl,by decide +kernel,by decide +kernel⟩
abbrev fB:Stmt:=top 64
abbrev kR:List Str:=["_law_k","_law_often","_law_p","_law_found"]
theorem bF:ai kR ["_law_k","_law_often","_law_p"] (af fB):=⟨rfl,rfl,rfl,by decide +kernel,rfl,by decide +kernel,by decide +kernel⟩
abbrev ff:Stmt:=top 65
abbrev kL:List Str:=["_law_k","_law_p","_law_often"]
theorem d_:ai kL ["_law_k","_law_p"] (af ff):=⟨rfl,rfl,rfl,by decide +kernel,rfl,by decide +kernel,by decide +kernel⟩
abbrev gH:Stmt:=top 66
abbrev mz:List Str:=["_law_a","_law_b","_law_p","_law_alpha","_law_u","_law_beta","_law_v","_law_turns"]
theorem bE:ai mz ["_law_a","_law_b","_law_p"] (af gH):=⟨rfl,rfl,rfl,by decide +kernel,rfl,by decide +kernel,by decide +kernel⟩
abbrev gB:Stmt:=top 67
abbrev mf:List Str:=["_law_row","_law_places_here","_law_noes_here","_law_p","_law_many","_law_i","_law_j"]
theorem cw:ai mf ["_law_row","_law_places_here"] (af gB):=⟨rfl,rfl,rfl,by decide +kernel,rfl,by decide +kernel,by decide +kernel⟩
abbrev dy:Stmt:=top 68
abbrev gL:List Str:=["_law_cell","_law_size","_law_signs","_law_number","_law_rest","_law_noes_here","_law_bits","_law_p","_law_below"]
theorem aP:ai gL ["_law_cell"] (af dy):=⟨rfl,rfl,rfl,by decide +kernel,rfl,by decide +kernel,by decide +kernel⟩
abbrev bV:Stmt:=top 69
abbrev eR:List Str:=["_law_k","_law_p","_law_often","_law_left"]
theorem dX:ai eR ["_law_k","_law_p"] (af bV):=⟨rfl,rfl,rfl,by decide +kernel,rfl,by decide +kernel,by decide +kernel⟩
abbrev f7:Stmt:=top 70
abbrev kh:List Str:=["_law_size","_law_signs","_law_number","_law_noes_here","_law_below"]
theorem my:ai kh ["_law_size","_law_signs","_law_number","_law_noes_here"] (af f7):=⟨rfl,rfl,rfl,by decide +kernel,rfl,by decide +kernel,by decide +kernel⟩
abbrev ez:Stmt:=top 71
abbrev jV:List Str:=["_law_row","_law_places_here","_law_number","_law_left","_law_d"]
theorem bH:ai jV ["_law_row"] (af ez):=⟨rfl,rfl,rfl,by decide +kernel,rfl,by decide +kernel,by decide +kernel⟩
abbrev dR:Stmt:=top 72
abbrev ij:List Str:=["_law_row","_law_wish_here","_law_size","_law_signs","_law_number","_law_noes_here","_law_made","_law_k"]
theorem c_:ai ij ["_law_row","_law_wish_here"] (af dR):=⟨rfl,rfl,rfl,by decide +kernel,rfl,by decide +kernel,by decide +kernel⟩
abbrev v_:Stmt:=top 73
abbrev CK:List Str:=["_law_script","_law_k","_law_wish_here","_law_due_here","_law_noes_here","_law_said","_law_row"]
theorem ji:ai CK ["_law_script"] (af v_):=⟨rfl,rfl,rfl,by decide +kernel,rfl,by decide +kernel,by decide +kernel⟩
section
variable{P:Program}{w:World}{K:PySem.W.Frag}{mg:Str->Option Value}{base:Heap}{f:Addr}{k:Nat}(B:Bu mg)
def xw(b e m:Int):Int:=b^e.toNat%m
theorem a_{a m:Int}(h:1<=m):a.fmod m=a%m:=Int.fmod_eq_emod_of_nonneg a (by omega)
theorem vd{A S m:Int}{n:Nat}(h:n%2=1):(A*S%m)*(S*S%m)^(n/2)%m=A*S^n%m:=by
 rw[Int.mul_emod,Int.emod_emod_of_dvd _ (Int.dvd_refl m),Q.fW,<-Int.mul_emod,Int.mul_pow,<-Int.pow_add,Int.mul_assoc];congr 2;have e:S^n=S^(1+(n/2+n/2)):=by congr 1;omega
 rw[e,Int.pow_add S 1,Int.pow_succ,Int.pow_zero,Int.one_mul,Int.pow_add]
theorem qr{A S m:Int}{n:Nat}(h:n%2=0):A*(S*S%m)^(n/2)%m=A*S^n%m:=by
 rw[Int.mul_emod,Q.fW,<-Int.mul_emod,Int.mul_pow,<-Int.pow_add];congr 3;omega
theorem lZ{e:Int}(h:0<=e):(e.fdiv 2).toNat=e.toNat/2/\0<=e.fdiv 2:=by
 rw[Int.fdiv_eq_ediv_of_nonneg _ (by decide)];omega
theorem uB(x e m:Int)(he:0<=e)(hm:1<=m)(hm2:m<2^62):Body P w K mg base mY "power_by" gE f kk [.val false x,.val false e,.val false m] (RT true (xw x e m)):=by
 intro cdv A outer s H E hr;refine ah 3 bP.nd (aG ae (aa 2) (by omega)) ?_;refine ah 4 bP.nd (aG (aa 0) (aa 2) (by omega)) ?_;rw[a_ hm,a_ hm]
 refine bJ (ι:=Bool×Int×Int×Int) (fun i Γ=>Γ=[some (.val false x),some (.val i.1 i.2.1),some (.val false m),some (.val true i.2.2.1),some (.val true i.2.2.2)]/\0<=i.2.1/\i.2.2.1*i.2.2.2^i.2.1.toNat%m=x^e.toNat%m/\0<=i.2.2.1/\i.2.2.1<m/\0<=i.2.2.2/\i.2.2.2<m) (fun i=>i.2.1.toNat) (false,e,1%m,x%m)
  ⟨rfl,he,by dsimp only;rw[Int.mul_emod,Int.emod_emod_of_dvd _ (Int.dvd_refl m),Q.fW,<-Int.mul_emod,Int.one_mul],Int.emod_nonneg _ (by omega),Int.emod_lt_of_pos _ (by omega),Int.emod_nonneg _ (by omega),Int.emod_lt_of_pos _ (by omega)⟩ ?_
 rintro⟨bb,n,a,q⟩ Γ' ⟨rfl,hn,hi,a0,a1,q0,q1⟩;dsimp only at *;refine⟨_,ao cJ (aa 1) ae,fun hc=>?_,fun hc=>?_⟩
 .have hpos:0<n:=by simpa using hc
  have hh:=lZ hn;have z1:=Int.emod_nonneg (q*q) (show m≠0 by omega);have z2:=Int.emod_lt_of_pos (q*q) (show 0<m by omega);refine aL (ao av (aG (aa 1) ae (by decide)) ae) (fun hc=>?_) (fun hc=>?_)
  .have ho:n.toNat%2=1:=by
    have:n.fmod 2=1:=by simpa using hc
    rw[a_ (by decide)] at this;omega
   refine ah 3 bP.nd (aG (aM (aa 3) (aa 4) (mulL (by omega) (by omega))) (aa 2) (by omega)) (ay ?_);refine ah 4 bP.nd (aG (aM (aa 4) (aa 4) (mulL (by omega) (by omega))) (aa 2) (by omega)) ?_;refine ah 1 bP.nd (aI (aa 1) ae jk) ?_;rw[a_ hm,a_ hm];refine ay ⟨(true,n.fdiv 2,a*q%m,q*q%m),⟨rfl,hh.2,?_,Int.emod_nonneg _ (by omega),Int.emod_lt_of_pos _ (by omega),z1,z2⟩,?_⟩
   .dsimp only;rw[hh.1,vd ho,hi]
   .dsimp only;omega
  .have ho:n.toNat%2=0:=by
    have:¬n.fmod 2=1:=by simpa using hc
    rw[a_ (by decide)] at this;omega
   refine ah 4 bP.nd (aG (aM (aa 4) (aa 4) (mulL (by omega) (by omega))) (aa 2) (by omega)) ?_;refine ah 1 bP.nd (aI (aa 1) ae jk) ?_;rw[a_ hm];refine ay ⟨(true,n.fdiv 2,a,q*q%m),⟨rfl,hh.2,?_,a0,a1,z1,z2⟩,?_⟩
   .dsimp only;rw[hh.1,qr ho,hi]
   .dsimp only;omega
 .have hz:n.toNat=0:=by
   have:¬0<n:=by simpa using hc
   omega
  rw[hz,Int.pow_zero,Int.mul_one,Int.emod_eq_of_lt a0 a1] at hi;refine ax (aa 3) ?_;show Bd.val _ _=Bd.val _ _;unfold xw;rw[<-hi]
theorem uh{k d l n:Int}(h0:0<=n)(he:k=l*d^n.toNat)(hd:2<=d)(hl:l.fmod d=0)(hz:l≠0):0<=n+1/\k=l.fdiv d*d^(n+1).toNat/\l.fdiv d≠0/\(l.fdiv d).natAbs<l.natAbs:=by
 obtain⟨a,b,c⟩:=Q.rN hd (Q.dm.mp hl) hz;refine⟨by omega,?_,b,c⟩;rw[show(n+1).toNat=n.toNat+1 by omega,Int.pow_succ,he];generalize d^n.toNat=t;generalize l.fdiv d=q at *;rw[<-a];grind
theorem qL(x d:Int)(h0:x≠0)(hd:2<=d)(hs:Sm 9000 d):Body P w K mg base kW "taken_out" fF f kk [.val false x,.val false d] (RT true (Q.aZ x d)):=by
 intro cdv A outer s H E hr;refine ah 2 cY.nd ae ?_;refine ah 3 cY.nd (aa 0) ?_;refine bJ (ι:=Bool×Int×Int) (fun i Γ=>Γ=[some (.val false x),some (.val false d),some (.val true i.2.1),some (.val i.1 i.2.2)]/\0<=i.2.1/\x=i.2.2*d^i.2.1.toNat/\i.2.2≠0) (fun i=>i.2.2.natAbs) (false,0,x) ⟨rfl,Int.le_refl 0,by dsimp only;rw[show(0:Int).toNat=0 from rfl,Int.pow_zero,Int.mul_one],h0⟩ ?_;rintro⟨bb,n,l⟩ Γ' ⟨rfl,hn,he,hl⟩;dsimp only at *;refine⟨_,ao av (aG (aa 3) (aa 1) (by omega)) ae,fun hc=>?_,fun hc=>?_⟩
 .have hc':l.fmod d=0:=by simpa using hc
  refine ah 3 cY.nd (aI (aa 3) (aa 1) (hs.div (by omega))) ?_;refine ah 2 cY.nd (bg (aa 2) ae) ?_;obtain⟨a1,a2,a3,a4⟩:=uh hn he hd hc' hl;exact ay ⟨(true,n+1,l.fdiv d),⟨rfl,a1,a2,a3⟩,a4⟩
 .have hc':¬l.fmod d=0:=by simpa using hc
  refine ax (bQ (aa 2) (gT (b':=true) (aa 3))) ?_;show Bd.val _ _=Bd.val _ _;rw[Q.ie hd (r:=(n,l)) ⟨hn,he,fun z=>hc' (Q.dm.mpr z)⟩];rfl
theorem Bm{k:Int}(h0:0<=k):k<(2:Int)^((Builtin.Int.intBits k+1)/2)*2^((Builtin.Int.intBits k+1)/2):=by
 have hb:k.natAbs<2^Builtin.Int.intBits k:=by
  unfold Builtin.Int.intBits;by_cases hz:k=0
  .subst hz;decide
  .rw[if_neg (by simpa using hz)];exact Nat.lt_log2_self
 have h2:Builtin.Int.intBits k<=(Builtin.Int.intBits k+1)/2+(Builtin.Int.intBits k+1)/2:=by omega
 have h3:(2:Nat)^Builtin.Int.intBits k<=2^((Builtin.Int.intBits k+1)/2+(Builtin.Int.intBits k+1)/2):=Nat.pow_le_pow_right (by decide) h2;rw[<-Int.pow_add];have h4:((2^((Builtin.Int.intBits k+1)/2+(Builtin.Int.intBits k+1)/2):Nat):Int)=(2:Int)^((Builtin.Int.intBits k+1)/2+(Builtin.Int.intBits k+1)/2):=by rw[Int.natCast_pow];rfl
 rw[<-h4];omega
theorem nL(x:Int)(h0:0<=x)(hs:Sm 8000 x):Body P w K mg base iQ "square_root" dH f k [.val false x] (RT true (Q.rt x)):=by
 intro cdv A outer s H E hr;have hb:Builtin.Int.intBits x<=8000:=hs.bits
 have hj:((Builtin.Int.intBits x:Int)+1).fdiv 2=(((Builtin.Int.intBits x+1)/2:Nat):Int):=by
  rw[Int.fdiv_eq_ediv_of_nonneg _ (by decide)];omega
 refine ah 1 eP.nd (FI ae (aI (bg (Dd (aa 0)) ae) ae jk) ⟨by rw[hj];omega,by rw[hj];omega,by decide⟩) ?_;rw[hj,Int.one_mul,Int.toNat_natCast];have hR:=Bm h0
 have hS:Sm 8001 ((2:Int)^((Builtin.Int.intBits x+1)/2)):=by
  unfold Sm;rw[Int.natAbs_pow];exact Nat.pow_lt_pow_right (by decide) (by omega)
 have hp:(0:Int)<2^((Builtin.Int.intBits x+1)/2):=Int.pow_pos (by decide);generalize (2:Int)^((Builtin.Int.intBits x+1)/2)=R at *
 refine bJ (ι:=Int) (fun r Γ=>Γ=[some (.val false x),some (.val true r)]/\0<=r/\r<=R/\x < (r + 1) * (r + 1)) (fun r=>r.toNat) R ⟨rfl,by omega,by omega,by
  have:R*R<=(R+1)*(R+1):=Q.yB (by omega) (by omega)
  omega⟩ ?_
 rintro r Γ' ⟨rfl,r0,r1,r2⟩;have hSr:Sm 8001 r:=Sm.of_le (by omega) hS;refine⟨_,ao cJ (aM (aa 1) (aa 1) (hSr.ok hSr)) (aa 0),fun hc=>?_,fun hc=>?_⟩
 .have hc':x<r*r:=by simpa using hc
  have hpos:0<r:=by
   rcases Int.lt_or_eq_of_le r0 with z|z
   .exact z
   .rw[<-z] at hc';simp at hc';omega
  refine ah 1 eP.nd (aI (bg (aa 1) (aI (aa 0) (aa 1) (hSr.div (by omega)))) ae jk) ?_;obtain⟨n0,n1,n2⟩:=Q.yP h0 hpos hc';exact ay ⟨_,⟨rfl,n0,by omega,n2⟩,by omega⟩
 .have hc':r*r<=x:=by simpa using hc
  refine ax (aa 1) ?_;show Bd.val _ _=Bd.val _ _;rw[Q.f9 r0 hc' r2]
def B4(k:Int):Option Int:=if k<0 then none else if Q.rt k*Q.rt k=k then some (Q.rt k) else none
theorem G3{k:Int}{n:Nat}(h0:0<=k)(hs:Sm n k):Sm n (Q.rt k):=by
 have h1:=Q.vE h0;have h2:=Q.eI k;refine Sm.of_le ?_ hs
 have:Q.rt k<=k:=by
  rcases Int.lt_or_le (Q.rt k) 1 with z|z
  .omega
  .have:Q.rt k*1<=Q.rt k*Q.rt k:=Int.mul_le_mul_of_nonneg_left z h2;omega
 omega
theorem gU(c_square_root:aN P w K mg base 1 "square_root" ["k"] (gS K (fun k=>0<=k/\Sm 8000 k) true Q.rt))(x:Int)(hs:Sm 8000 x):Body P w K mg base dv "square_root_or_none" bD f 1 [.val false x] (RT true (B4 x)):=by
 intro cdv A outer s H E hr;refine aL (ao jU (aa 0) ae) (fun hc=>?_) (fun hc=>?_)
 .have e:B4 x=none:=if_pos (by simpa using hc);rw[e];exact ax (rB (α:=Int)) rfl
 have h0:¬x<0:=by simpa using hc
 refine ah 1 c7.nd (bh c_square_root (hr.mono (by decide)) rfl (aa 0) ⟨by omega,hs⟩) ?_;have hS:=G3 (by omega) hs;refine ax (jg (ao av (aM (aa 1) (aa 1) (hS.ok hS)) (aa 0)) (fun _=>(aa 1).some) fun _=>rB (α:=Int)) ?_;show Bd.val _ _=Bd.val _ _;congr 1;unfold B4;rw[if_neg h0];by_cases z:Q.rt x*Q.rt x=x
 .rw[if_pos z,if_pos (by simpa using z)]
 .rw[if_neg z,if_neg (by simpa using z)]
include B in
theorem j8(a b:Int):Body P w K mg base fZ "common_divisor" cE f k [.val false a,.val false b] (RT true ((Int.gcd a b:Nat):Int)):=by
 intro cdv A outer s H E hr;refine bJ (ι:=Bool×Bool×Int×Int) (fun i Γ=>∃r,Γ=[some (.val i.1 i.2.2.1),some (.val i.2.1 i.2.2.2),r]/\Int.gcd i.2.2.1 i.2.2.2=Int.gcd a b) (fun i=>i.2.2.2.natAbs) (false,false,a,b) ⟨none,rfl,rfl⟩ ?_;rintro⟨b1,b2,x,y⟩ Γ' ⟨r,rfl,hg⟩;refine⟨_,ao eN (aa 1) ae,fun hc=>?_,fun hc=>?_⟩
 .have hy:y≠0:=by simpa using hc
  refine ah 2 b8.nd (aG (aa 0) (aa 1) hy) ?_;refine ah 0 b8.nd (aa 1) ?_;refine ah 1 b8.nd (aa 2) ?_;exact ay ⟨(b2,true,y,x.fmod y),⟨_,rfl,(Q.rH x y).trans hg⟩,Q.we x y hy⟩
 .have hy:y=0:=by simpa using hc
  refine ax (g6 rfl B.abs (aa 0)) ?_;dsimp only at hg ⊢;rw[hy,Int.gcd_zero_right] at hg;rw[<-hg];show Bd.val _ _=Bd.val _ _;congr 1;split<;>omega
def IL(_ b:Int):Prop:=b≠0/\Sm 9000 b
theorem sW(c_common_divisor:aN P w K mg base 1 "common_divisor" ["a","b"] (cT K (fun _ _=>True) true fun a b=>((Int.gcd a b:Nat):Int)))(t b:Int)(hb:b≠0)(hs:Sm 9000 b):
  Body P w K mg base ja "fraction" dz f 1 [.val false t,.val false b] (RT true (fr t b)):=by
 intro cdv A outer s H E hr;have hn:=Q.FE (t:=t) hb;have hz:Sm 9000 (fd t b):=Sm.of_le (Q.GR hb) hs;refine ah 2 iz.nd (aE c_common_divisor hr rfl (aa 0) (aa 1) True.intro) ?_
 have last:∀d:Int,d=fd t b->S (cx P w K mg base ja "fraction" dz f cdv A outer s H E) [some (.val false t),some (.val false b),some (.val true d)] [(cL dz).getD 2 (.Pass ⟨0,0,0,0⟩)] (RT true (fr t b)):=by
  rintro d rfl;exact ax (bQ (aI (aa 0) (aa 2) (hz.div hn)) (aI (aa 1) (aa 2) (hz.div hn))) rfl
 refine aL (ao jU (aa 1) ae) (fun hc=>?_) (fun hc=>?_)
 .refine ah 2 iz.nd (iU (aa 2)) (ay ?_);exact last _ (by unfold fd;rw[if_pos (by simpa using hc)])
 .exact last _ (by unfold fd;rw[if_neg (by simpa using hc)])
theorem Gq{b m:Int}{i:Nat}:i<(Builtin.Range.rangeSize b m 2).toNat↔b+(i:Int)*2<m:=by
 unfold Builtin.Range.rangeSize;simp;split<;>omega
include B in
theorem l8(c_square_root:aN P w K mg base 1 "square_root" ["k"] (gS K (fun k=>0<=k/\Sm 8000 k) true Q.rt))(x b e:Int)(hp:1<=x/\Sm 8000 x/\1<=b/\b<2^62/\-(2^62)<=e/\e<2^62):
  Body P w K mg base g7 "next_divisor" dg f 1 [.val false x,.val false b,.val false e] (RT true (Q.kE x b e)):=by
 intro cdv A outer s H E hr;obtain⟨h1,h2,h3,h4,h5,h6⟩:=hp;have hrt:=Q.eI x;have hm:-(2^62)<=(if Q.rt x+1<e then Q.rt x+1 else e)/\(if Q.rt x+1<e then Q.rt x+1 else e)<2^62:=by split<;>omega
 have hv:Q.kE x b e=Q.Fn x b (if Q.rt x+1<e then Q.rt x+1 else e):=rfl;refine qt (fun i Γ=>∃r,Γ=[some (.val false x),some (.val false b),some (.val false e),r]/\∀j:Nat,j<i->¬(b+(j:Int)*2)∣x) rfl B.range (cQ 3 gP.nd) (aa 1) (Ck rfl rfl B.min (aa 2) (bg (bh c_square_root (hr.mono (by decide)) rfl (aa 0) ⟨by omega,h2⟩) ae)) ae ⟨by omega,h4,hm.1,hm.2⟩ (by decide) ⟨none,rfl,fun j hj=>absurd hj (Nat.not_lt_zero _)⟩ ?_ ?_
 .rintro i Γ' hi ⟨r,rfl,hj⟩;have hi':=Gq.mp hi;refine aL (ao av (aG (aa 0) (aa 3) (by omega)) ae) (fun hc=>?_) (fun hc=>?_)
  .have hd:(b+(i:Int)*2)∣x:=Q.dm.mp (by simpa using hc);refine ax (aa 3).some ?_;show Bd.val _ _=Bd.val _ _;rw[hv,<-Q.pY (r:=some (b+(i:Int)*2)) ⟨by omega,hi',by omega,hd,fun d' q1 q2 q3=>?_⟩];have:=hj ((d'-b)/2).toNat (by omega)
   rwa [show b+((((d'-b)/2).toNat:Nat):Int)*2=d' by omega] at this
  .have hd:¬(b+(i:Int)*2)∣x:=fun z=>by
    have:=Q.dm.mpr z;simp[this] at hc
   refine ay ⟨_,rfl,fun j hji=>?_⟩;rcases Nat.lt_succ_iff_lt_or_eq.mp hji with z|z
   .exact hj j z
   .rw[z];exact hd
 .rintro Γ' ⟨r,rfl,hj⟩;refine ax (rB (α:=Int)) ?_;show Bd.val _ _=Bd.val _ _;rw[hv,<-Q.pY (r:=none) fun d' q1 q2 q3=>?_];have:=hj ((d'-b)/2).toNat (Gq.mpr (by omega))
  rwa [show b+((((d'-b)/2).toNat:Nat):Int)*2=d' by omega] at this
theorem Cv(k:Int):k.fmod 2=k%2:=Int.fmod_eq_emod_of_nonneg k (by decide)
theorem tq(c_next_divisor:aN P w K mg base 2 "next_divisor" ["k","begin","end"] (kF K (fun k b e=>1<=k/\Sm 8000 k/\1<=b/\b<2^62/\-(2^62)<=e/\e<2^62) true Q.kE))(x:Int)(hx:x<2^62):
  Body P w K mg base mn "is_prime" gG f 2 [.val false x] (RT true (Q.aR x)):=by
 intro cdv A outer s H E hr;refine aL (TW.t (fV (ao jU (aa 0) ae) fun _=>(fI (ao av (aG (aa 0) ae (by decide)) ae)))) (fun hc=>?_) (fun hc=>?_)
 .have hc':x<3\/x%2=0:=by simpa [Cv] using hc
  refine ax (bx av (aa 0) ae) ?_;show Bd.val _ _=Bd.val _ _;congr 1;rw[Bool.eq_iff_iff,Q.bC,decide_eq_true_iff];constructor
  .exact .inl
  .rintro(z|z)<;>omega
 .have hc':3<=x/\x%2=1:=by
   have:¬(x<3\/x%2=0):=by simpa [Cv] using hc
   omega
  refine ax (Gs (bS c_next_divisor (hr.mono (by decide)) rfl (aa 0) ae (aa 0) ⟨by omega,Sm.le (m:=62) (by unfold Sm;omega) (by decide),by decide,by decide,by omega,hx⟩) fun _ _ _ _ h=>nomatch h) ?_;show Bd.val _ _=Bd.val _ _;rw[Q.AH hc'.1 hc'.2]
def Hu(k e:Int):Prop:=1<=k/\Sm 900 k/\0<=e/\e<2^61
theorem yN:∀{us:List (Int×Int)} {a b:Int},1<=a->Q.e_ a us b->(2:Int)^us.length<=Q.pp us
 |[],_,_,_,_=>by show(2:Int)^0<=1;decide
 |u::us,a,b,ha,h=>by
  have h1:=yN (show 1<=u.1 by have:=h.1;omega) h.2.2.2
  have hu:(2:Int)<=u.1^u.2.toNat:=by
   have e:u.2.toNat=(u.2.toNat-1)+1:=by have:=h.2.2.1;omega
   rw[e,Int.pow_succ];have:(0:Int)<u.1^(u.2.toNat-1):=Int.pow_pos (by have:=h.1;omega);have:=h.1;have:1*2<=u.1^(u.2.toNat-1)*u.1:=Int.mul_le_mul (by omega) (by omega) (by decide) (by omega);omega
  show(2:Int)^(us.length+1)<=u.1^u.2.toNat*Q.pp us;rw[Int.pow_succ,Int.mul_comm];have h0:(0:Int)<2^us.length:=Int.pow_pos (by decide);exact Int.mul_le_mul hu h1 (by omega) (by omega)
theorem zO{k:Int}{fs:List (Int×Int)}{l b:Int}(I:Q.uC k fs l b):l<=k/\(2:Int)^fs.length<=k:=by
 have h1:=I.prod;have h2:=Q.gh (by decide) I.rise;have h3:=I.pos;have h4:=yN (Int.le_refl 1) I.rise;have h5:1*l<=Q.pp fs*l:=Int.mul_le_mul_of_nonneg_right (by omega) (by omega);have h6:Q.pp fs*1<=Q.pp fs*l:=Int.mul_le_mul_of_nonneg_left (by omega) (by omega);omega
theorem uL{m:Nat}{k:Int}(h:(2:Int)^m<=k)(hs:Sm 900 k):m<=900:=by
 apply Classical.byContradiction;intro hn;unfold Sm at hs;have h1:(2:Nat)^900<=2^m:=Nat.pow_le_pow_right (by decide) (by omega);have h2:((2^m:Nat):Int)=(2:Int)^m:=by rw[Int.natCast_pow];rfl
 omega
set_option maxHeartbeats 0 in
theorem xq(c_taken_out:aN P w K mg base 1 "taken_out" ["k","divisor"] (cT K (fun k d=>k≠0/\2<=d/\Sm 9000 d) true Q.aZ))(c_next_divisor:aN P w K mg base 2 "next_divisor" ["k","begin","end"] (kF K (fun k b e=>1<=k/\Sm 8000 k/\1<=b/\b<2^62/\-(2^62)<=e/\e<2^62) true Q.kE))(x e:Int)(hp:Hu x e):
  Body P w K mg base oG "divided" iE f 2 [.val false x,.val false e] (RT true (Q.aW x e)):=by
 intro cdv A outer s H E hr;obtain⟨h1,h2,h3,h4⟩:=hp;obtain⟨I0,hle0⟩:=Q.ke h1;have two:Sm 9000 (2:Int):=Sm.le (m:=2) (by unfold Sm;decide) (by decide);refine ah 2 cj.nd (aE c_taken_out (hr.mono (by decide)) rfl (aa 0) ae ⟨by omega,by decide,two⟩) ?_;refine tj 3 cj.nd (F7 (ao cJ (bX (aa 2)) ae) (fun _=>tX (α:=Int×Int) (aD (bQ ae (bX (aa 2))) bG) (Nat.le_of_ble_eq_true rfl)) fun _=>tX (α:=Int×Int) (b:=true) bG (Nat.le_of_ble_eq_true rfl)) ?_
 have e0:(if decide (0<(Q.aZ x 2).1)=true then [((2:Int),(Q.aZ x 2).1)] else [])=Q.qQ x:=by
  unfold Q.qQ;by_cases z:0<(Q.aZ x 2).1
  .rw[if_pos z,if_pos (by simpa using z)]
  .rw[if_neg z,if_neg (by simpa using z)]
 rw[e0];refine yO (α:=Int×Int) 3 true rfl ?_;refine ah 4 cj.nd (b7 (aa 2)) ?_;have sm8:∀l:Int,0<l->l<=x->Sm 8000 l:=fun l a b=>Sm.le (Sm.of_le (by omega) h2) (by decide);have hp0:=I0.pos;refine ah 5 cj.nd (bS c_next_divisor (hr.mono (by decide)) rfl (aa 4) ae (aa 1) ⟨by omega,sm8 _ hp0 hle0,by decide,by decide,by omega,by omega⟩) ?_;refine bJ (ι:=Nat×List (Int×Int)×Int×Int) (fun i Γ=>∃r,Γ=[some (.val false x),some (.val false e),r,some (.own true i.2.1),some (.val true i.2.2.1),some (.val true (Q.kE i.2.2.1 i.2.2.2 e))]/\Q.uC x i.2.1 i.2.2.1 i.2.2.2/\i.2.2.1<=(i.1:Int)/\Q.xc e i.1 i.2.1 i.2.2.1 i.2.2.2=Q.aW x e) (fun i=>i.1) (x.toNat,Q.qQ x,(Q.aZ x 2).2,3) ⟨_,rfl,I0,by dsimp only;omega,rfl⟩ ?_;rintro⟨n,fs,l,b⟩ Γ' ⟨r,rfl,I,hn,hd⟩;dsimp only at *;have hl0:=I.pos;have hb3:=I.b3;obtain⟨hlx,hlen⟩:=zO I;cases n with
 |zero=>omega
 |succ n =>
 refine⟨_,G_ (α:=Int) (aa 5) o6,fun hc=>?_,fun hc=>?_⟩
 .cases hnd:Q.kE l b e with
  |none=>rw[hnd] at hc;cases hc
  |some d =>
   obtain⟨d1,d2,d3,d4,d5,d6⟩:=Q.gX (by omega) (by omega) hnd;obtain⟨t1,t2,t3,t4⟩:=Q.t_ (show 2<=d by omega) hl0 d5;refine ah 2 cj.nd (aE c_taken_out (hr.mono (by decide)) rfl (aa 4) (mX (α:=Int) (a:=d) (aa 5)) ⟨by omega,by omega,Sm.le (m:=62) (by unfold Sm;omega) (by decide)⟩) ?_;refine fR 3 rfl (gT (b':=true) (bQ (mX (α:=Int) (a:=d) (aa 5)) (bX (aa 2)))) (by have:=uL hlen h2;omega) ?_;refine ah 4 cj.nd (b7 (aa 2)) ?_;refine ah 5 cj.nd (bS c_next_divisor (hr.mono (by decide)) rfl (aa 4) (bg (mX (α:=Int) (a:=d) (aa 5)) ae) (aa 1) ⟨by omega,sm8 _ t1 (by omega),by omega,by omega,by omega,by omega⟩) ?_;refine ay ⟨(n,fs++[(d,(Q.aZ l d).1)],(Q.aZ l d).2,d+2),⟨_,rfl,I.step hnd,by dsimp only;omega,?_⟩,by dsimp only;omega⟩;rw[<-hd];show _=Q.xc e (n+1) fs l b;rw[Q.xc,hnd]
 .have hnd:Q.kE l b e=none:=by
   cases hz:Q.kE l b e with
   |none=>rfl
   |some d=>rw[hz] at hc;cases hc
  refine ip 3 rfl ?_;have e2:Q.xc e (n+1) fs l b=(fs,l):=by rw[Q.xc,hnd]
  rw[<-hd,e2];refine ax (bQ (aa 3) (aa 4)) ?_;rfl
theorem Bx(c_divided:aN P w K mg base 3 "divided" ["k","end"] (cT K Hu true Q.aW))(x:Int)(hp:1<=x/\x<2^60):Body P w K mg base uP "parts" lG f 3 [.val false x] (RT true (Q.nM x)):=by
 intro cdv A outer s H E hr;have hs:Sm 900 x:=Sm.le (m:=60) (by unfold Sm;omega) (by decide);refine ah 1 mw.nd (aE c_divided (hr.mono (by decide)) rfl (aa 0) (bg (aa 0) ae) ⟨hp.1,hs,by omega,by omega⟩) ?_;refine ah 2 mw.nd (jg (ao cJ (b7 (aa 1)) ae) (fun _=>(dM (α:=Int×Int) (aD (bQ (b7 (aa 1)) ae) bG) (Nat.le_of_ble_eq_true rfl))) fun _=>(dM (α:=Int×Int) bG (Nat.le_of_ble_eq_true rfl))) ?_;obtain⟨b,I,_⟩:=Q.iJ (e:=x+1) hp.1;obtain⟨_,hlen⟩:=zO I;have hl:=uL hlen hs;refine ax (ng (bX (aa 1)) (aa 2) ?_) ?_
 .split
  .show _+1<=1000;omega
  .show _+0<=1000;omega
 .show Bd.val _ _=Bd.val _ _;unfold Q.nM;congr 2;by_cases z:1<(Q.aW x (x+1)).2
  .rw[if_pos z,if_pos (by simpa using z)]
  .rw[if_neg z,if_neg (by simpa using z)]
noncomputable def E7(k:Int):Option (List (Int×Int)×Int) :=
 if 1<(Q.aW k 32768).2/\(Q.aW k 32768).2<1073741824 then some ((Q.aW k 32768).1++[((Q.aW k 32768).2,1)],1) else (B4 (Q.aW k 32768).2).map fun q=>((Q.aW k 32768).1,q)
theorem pW(g_GREAT_PRIMES_FROM:sG mg "GREAT_PRIMES_FROM" 32768)(g_GREAT_FROM:sG mg "GREAT_FROM" 1073741824)(c_divided:aN P w K mg base 3 "divided" ["k","end"] (cT K Hu true Q.aW))(c_square_root_or_none:aN P w K mg base 2 "square_root_or_none" ["k"] (gS K (fun k=>Sm 8000 k) true B4))(x:Int)(hp:1<=x/\Sm 900 x):
  Body P w K mg base jT "tame_parts" eB f 3 [.val false x] (RT true (E7 x)):=by
 intro cdv A outer s H E hr;refine ah 1 fK.nd (aE c_divided (hr.mono (by decide)) rfl (aa 0) (yp rfl g_GREAT_PRIMES_FROM) ⟨hp.1,hp.2,by decide,by decide⟩) ?_;obtain⟨b,I,_⟩:=Q.iJ (e:=32768) hp.1;obtain⟨hle,hlen⟩:=zO I;have hl:=uL hlen hp.2;have hpos:=I.pos;refine aL (B6 jU jU ae (b7 (aa 1)) (yp rfl g_GREAT_FROM)) (fun hc=>?_) (fun hc=>?_)
 .have e:E7 x=some ((Q.aW x 32768).1++[((Q.aW x 32768).2,1)],1):=if_pos (by simpa using hc);rw[e];exact ax (xY (bQ (ng (bX (aa 1)) (dM (α:=Int×Int) (b:=true) (aD (gT (b':=true) (bQ (b7 (aa 1)) ae)) bG) (Nat.le_of_ble_eq_true rfl)) (by show _+1<=1000;omega)) ae)) rfl
 have e:E7 x=(B4 (Q.aW x 32768).2).map fun q=>((Q.aW x 32768).1,q):=if_neg (by simpa using hc);rw[e];refine ah 2 fK.nd (bh c_square_root_or_none (hr.mono (by decide)) rfl (b7 (aa 1)) (Sm.le (Sm.of_le (by omega) hp.2) (by decide))) ?_;cases ho:B4 (Q.aW x 32768).2 with
 |none=>exact ax (jg (α:=Option (List (Int×Int)×Int)) (x:=none) (y:=none) (yg (α:=Int) (x:=none) (aa 2) o6) (fun _=>rB (α:=List (Int×Int)×Int)) fun h=>absurd h (by decide)) rfl
 |some r =>
  refine ax (jg (α:=Option (List (Int×Int)×Int)) (x:=none) (y:=some ((Q.aW x 32768).1,r)) (yg (α:=Int) (x:=some r) (aa 2) o6) (fun h=>absurd h Bool.false_ne_true) fun _=>xY (bQ (bX (aa 1)) (mX (α:=Int) (a:=r) (aa 2)))) ?_;rfl
def Hr(b e:Int):Int:=b^e.toNat
def ID(b e:Int):Prop:=1<=b/\0<=e/\e<2^62/\Sm 1000 (b^e.toNat)/\Sm 1000 b
theorem rX{b:Int}(hb:1<=b){m n:Nat}(h:m<=n):b^m<=b^n:=by
 obtain⟨d,rfl⟩:∃d,n=m+d:=⟨n-m,by omega⟩;rw[Int.pow_add];exact Q.gA (Int.pow_pos (by omega)) (by have:=Int.pow_pos (n:=b) (m:=d) (by omega);omega)
include B in
theorem AS(b e:Int)(hp:ID b e):Body P w K mg base vO "power" lj f kk [.val false b,.val false e] (RT true (Hr b e)):=by
 intro cdv A outer s H E hr;obtain⟨h1,h2,h3,h4,h5⟩:=hp;refine ah 2 jl.nd ae ?_;refine gF (n:=e) (fun i Γ=>∃r,Γ=[some (.val false b),some (.val false e),some (.val true (b^i)),r]) rfl B.range (cQ 3 jl.nd) (aa 1) (by omega) h3 ⟨none,by rw[Int.pow_zero];rfl⟩ ?_ ?_
 .rintro i Γ' hi ⟨r,rfl⟩
  have hm:Sm 1000 (b^i):=by
   have:=rX h1 (Nat.le_of_lt hi);have:=Int.pow_pos (n:=b) (m:=i) (by omega);exact Sm.of_le (by omega) h4
  refine ah 2 jl.nd (aM (aa 2) (aa 0) (hm.ok h5)) ?_;exact ay ⟨_,by rw[Int.pow_succ];rfl⟩
 .rintro Γ' ⟨r,rfl⟩;exact ax (aa 2) rfl
theorem Bl{α β:Type}[Py α][Py β](K:PySem.W.Frag)(N:Nn)(H:Hp)(a:α×β):¬Py.rp K N H .non a:=fun⟨_,_,_,e,_⟩=>nomatch e
theorem oO(i:Int):(if i<0 then -i else i)=(i.natAbs:Int):=by split<;>omega
def HM(u:Int×Int):Prop:=u.1≠0/\1<=u.2/\Sm 400 u.1/\Sm 400 u.2/\Q.Tame (u.1.natAbs*u.2)
theorem zC{k:Int}(hk:1<=k)(ht:Q.Tame k):E7 k=some (Q.kZ k):=by
 obtain⟨h1,_,_,_⟩:=Q.s_ hk ht;obtain⟨b,I,_⟩:=Q.iJ (k:=k) (e:=32768) hk;have hp:=I.pos;unfold E7 Q.kZ;by_cases z:1<(Q.aW k 32768).2/\(Q.aW k 32768).2<1073741824
 .rw[if_pos z,if_pos z]
 .rw[if_neg z,if_neg z]
  have h2:Q.rt (Q.aW k 32768).2*Q.rt (Q.aW k 32768).2=(Q.aW k 32768).2:=by
   rcases h1 with h1|h1
   .exact absurd h1 z
   .exact h1
  unfold B4;rw[if_neg (by omega),if_pos h2];rfl
set_option maxHeartbeats 1000000 in
include B in
theorem Bz(c_power:aN P w K mg base 1 "power" ["base","exponent"] (cT K ID true Hr))(c_fraction:aN P w K mg base 2 "fraction" ["top","bottom"] (cT K IL true fr))(c_tame_parts:aN P w K mg base 4 "tame_parts" ["k"] (gS K (fun k=>1<=k/\Sm 900 k) true E7))(u:Int×Int)(hp:HM u):
  Body P w K mg base vn "freed" lr f 4 [.val false u] (RT true (Q.Gu u)):=by
 intro cdv A outer s H E hr;obtain⟨h0,h1,s0,s1,ht⟩:=hp;have s0':Sm 400 (u.1.natAbs:Int):=Sm.of_le (by omega) s0
 have hk:1<=(u.1.natAbs:Int)*u.2:=by
  have:0<(u.1.natAbs:Int)*u.2:=Int.mul_pos (by omega) (by omega);omega
 have sk:Sm 800 ((u.1.natAbs:Int)*u.2):=s0'.mul s1;refine ah 1 eV.nd (bh c_tame_parts (hr.mono (by decide)) rfl (ic (aM (g6 rfl B.abs (bX (aa 0))) (b7 (aa 0)) (by rw[oO];exact s0'.ok s1)) (by rw[oO])) ⟨hk,Sm.le sk (by decide)⟩) ?_;rw[zC hk ht];obtain⟨_,⟨b,hri⟩,hR,hprod⟩:=Q.s_ hk ht;have hfr:Q.Gu u=(((Q.kZ (u.1.natAbs*u.2)).1.foldl Q.jM (if 0<u.1 then 1 else -1,(Q.kZ (u.1.natAbs*u.2)).2)).1,fr ((Q.kZ (u.1.natAbs*u.2)).1.foldl Q.jM (if 0<u.1 then 1 else -1,(Q.kZ (u.1.natAbs*u.2)).2)).2 u.2):=rfl;rw[hfr];generalize (u.1.natAbs:Int)*u.2=k at *;generalize hT:Q.kZ k=T at *;refine aL (yg (α:=List (Int×Int)×Int) (x:=some T) (aa 1) Bl) (fun hc=>absurd hc (by simp)) (fun hc=>?_);refine ah 2 eV.nd (jg (ao cJ (bX (aa 0)) ae) (fun _=>ae) fun _=>(iU ae)) ?_
 have hsg:(if decide (0<u.1)=true then (1:Int) else -1)=(if 0<u.1 then 1 else -1):=by
  by_cases z:0<u.1
  .rw[if_pos (by simpa using z),if_pos z]
  .rw[if_neg (by simpa using z),if_neg z]
 rw[hsg];have hsg':(if 0<u.1 then (1:Int) else -1)=1\/(if 0<u.1 then (1:Int) else -1)=-1:=by split<;>simp
 generalize (if 0<u.1 then (1:Int) else -1)=sg at *;refine ah 3 eV.nd (b7 (mX (α:=List (Int×Int)×Int) (a:=T) (aa 1))) ?_;have bd:=fun i=>Q.Bt hri hR hsg' i;rw[hprod] at bd
 have hTk:Q.pp T.1<=k:=by
  rw[<-hprod];exact Q.gA (Q.gh (by decide) hri) (by have:=Int.mul_pos hR hR;omega)
 refine oA (fun i Γ=>∃r,Γ=[some (.val false u),some (.val true (some T)),some (.val true ((T.1.take i).foldl Q.jM (sg,T.2)).1),some (.val true ((T.1.take i).foldl Q.jM (sg,T.2)).2),r]) (cQ 4 eV.nd) (cD (bX (mX (α:=List (Int×Int)×Int) (a:=T) (aa 1)))) ⟨none,rfl⟩ ?_ ?_
 .rintro i v Γ' hv ⟨r,rfl⟩;obtain⟨b1,b2,b3⟩:=bd i;obtain⟨v1,v2,v3,v4,v5⟩:=Q.AW hri hv;have et:(T.1.take (i+1)).foldl Q.jM (sg,T.2)=Q.jM ((T.1.take i).foldl Q.jM (sg,T.2)) v:=j0 hv;rw[et];generalize (T.1.take i).foldl Q.jM (sg,T.2)=c at *;have sn:Sm 800 c.1:=Sm.of_le b1 sk;have sr:Sm 800 c.2:=Sm.of_le (by omega) sk;have sv:Sm 800 v.1:=Sm.of_le (by omega) sk;have sp:Sm 800 (v.1^(v.2/2).toNat):=Sm.of_le (by have:=Int.pow_pos (n:=v.1) (m:=(v.2/2).toNat) (by omega);omega) sk;have ed:v.2.fdiv 2=v.2/2:=Int.fdiv_eq_ediv_of_nonneg _ (by decide)
  have v2b:v.2<2^62:=by
   apply Classical.byContradiction;intro hn
   have g1:(2:Int)^900<=v.1^(v.2/2).toNat:=by
    have a1:(2:Int)^900<=2^(v.2/2).toNat:=rX (by decide) (by omega)
    have a2:∀n:Nat,(2:Int)^n<=v.1^n:=fun n=>by
     induction n with
     |zero=>rw[Int.pow_zero,Int.pow_zero];decide
     |succ n ih =>
      rw[Int.pow_succ,Int.pow_succ];exact Int.mul_le_mul ih v1 (by decide) (Int.le_of_lt (Int.pow_pos (by omega)))
    have:=a2 (v.2/2).toNat;omega
   have g2:(v.1^(v.2/2).toNat).natAbs<2^800:=sp;have g3:((2:Int)^800)<2^900:=by decide +kernel
   have g4:((2^800:Nat):Int)=(2:Int)^800:=by decide +kernel
   omega
  refine dY (fun Γ=>Γ=[some (.val false u),some (.val true (some T)),some (.val true (if v.2%2=1 then c.1*v.1 else c.1)),some (.val true c.2),some (.val true v)]) (ao av (aG (b7 (aa 4)) ae (by decide)) ae) (fun hc=>?_) (fun hc=>?_) ?_
  .have hc':v.2%2=1:=by simpa [a_] using hc
   rw[if_pos hc'];exact ah 2 eV.nd (aM (aa 2) (bX (aa 4)) (sn.ok sv)) (ay rfl)
  .have hc':¬v.2%2=1:=by simpa [a_] using hc
   rw[if_neg hc'];exact ay rfl
  rintro Γ' rfl;refine ah 3 eV.nd (aM (aa 3) (aE c_power (hr.mono (by decide)) rfl (bX (aa 4)) (aI (b7 (aa 4)) ae jk) ⟨by omega,by rw[ed];omega,by rw[ed];omega,by rw[ed];exact Sm.le sp (by decide),Sm.le sv (by decide)⟩) (by show IntMulOk c.2 (v.1^(v.2.fdiv 2).toNat);rw[ed];exact sr.ok sp)) ?_;refine ay ⟨some (.val true v),?_⟩;unfold Q.jM Hr;rw[ed];rfl
 .rintro Γ' ⟨r,rfl⟩;rw[List.take_length];refine ax (bQ (aa 2) (aE c_fraction (hr.mono (by decide)) rfl (aa 3) (b7 (aa 0)) ⟨by omega,Sm.le s1 (by decide)⟩)) ?_;rfl
noncomputable def oF(k:Int):Int:=(Q.Gu (k,1)).1
def Fi(k:Int):Prop:=k≠0/\Sm 400 k/\Q.Tame k.natAbs
theorem wY(c_freed:aN P w K mg base 5 "freed" ["u"] (gS K HM true Q.Gu))(k:Int)(hp:Fi k):Body P w K mg base nW "free_of" iK f 5 [.val false k] (RT true (oF k)):=by
 intro cdv A outer s H E hr;exact ax (bX (bh c_freed (hr.mono (by decide)) rfl (gT (b':=true) (bQ (aa 0) ae)) ⟨hp.1,(by show(1:Int)<=1;decide),hp.2.1,Sm.le (m:=2) (by show(1:Int).natAbs<2^2;decide) (by decide),by rw[show((k,(1:Int)).1.natAbs:Int)*(k,(1:Int)).2=(k.natAbs:Int) from Int.mul_one _];exact hp.2.2⟩)) rfl
open Q (iP aR)
theorem oV{k f s:Int}(hk:k≠0)(hl:k.natAbs<1073741824)(hf:iP f)(hs:0<s)(e:k=f*(s*s)):oF k=f:=by
 have t:Q.Tame (k.natAbs*1):=by rw[Int.mul_one];exact Q.vj (by omega) (by omega)
 show(Q.C9 k 1).1=f;rw[Q.Eo hk (by decide) t hf hs (by rw[Int.mul_one];exact e)]
theorem iX{n:Int}(h0:n≠0)(h:∀q,aR q=true->¬q*q∣n):iP n:=⟨h0,fun d hd z=>by
 obtain⟨q,h1,h2⟩:=Q.fT hd
 exact h q h1 (Int.dvd_trans (Int.mul_dvd_mul h2 h2) z)⟩
def nB(a b:Int):Int:=a.fdiv ((Int.gcd a b:Nat):Int)*b.fdiv ((Int.gcd a b:Nat):Int)
def A3(a b:Int):Prop:=a≠0/\b≠0/\Sm 400 a/\Sm 400 b
theorem zH{a g:Int}(h:g∣a)(ha:a≠0):g≠0/\a.fdiv g≠0/\(a.fdiv g).natAbs<=a.natAbs:=by
 obtain⟨c,rfl⟩:=h;have hg:g≠0:=fun z=>ha (by rw[z,Int.zero_mul]);have hc:c≠0:=fun z=>ha (by rw[z,Int.mul_zero]);rw[Int.mul_fdiv_cancel_left c hg];refine⟨hg,hc,?_⟩;rw[Int.natAbs_mul];exact Nat.le_mul_of_pos_left _ (by omega)
theorem jx{a b:Int}(ha:a≠0)(hb:b≠0):((Int.gcd a b:Nat):Int)≠0/\a.fdiv ((Int.gcd a b:Nat):Int)≠0/\(a.fdiv ((Int.gcd a b:Nat):Int)).natAbs<=a.natAbs/\b.fdiv ((Int.gcd a b:Nat):Int)≠0/\(b.fdiv ((Int.gcd a b:Nat):Int)).natAbs<=b.natAbs:=by
 obtain⟨x1,x2,x3⟩:=zH (Int.gcd_dvd_left a b) ha;obtain⟨_,y2,y3⟩:=zH (Int.gcd_dvd_right a b) hb;exact⟨x1,x2,x3,y2,y3⟩
theorem G4{m n:Nat}{a b:Int}(ha:a≠0)(hb:b≠0)(sa:Sm m a)(sb:Sm n b):nB a b≠0/\Sm (m+n) (nB a b):=by
 obtain⟨_,x2,x3,y2,y3⟩:=jx ha hb;exact⟨Int.mul_ne_zero x2 y2,(Sm.of_le x3 sa).mul (Sm.of_le y3 sb)⟩
theorem zp{n:Nat}{a b:Int}(ha:a≠0)(sa:Sm n a):Sm n ((Int.gcd a b:Nat):Int):=by
 have:Int.gcd a b<=a.natAbs:=Nat.le_of_dvd (by omega) (Int.natAbs_dvd_natAbs.mpr (Int.gcd_dvd_left a b));unfold Sm at *;omega
theorem zA(c_common_divisor:aN P w K mg base 1 "common_divisor" ["a","b"] (cT K (fun _ _=>True) true fun a b=>((Int.gcd a b:Nat):Int)))(a b:Int)(hp:A3 a b):Body P w K mg base r8 "joined" jE f 1 [.val false a,.val false b] (RT true (nB a b)):=by
 intro cdv A outer s H E hr;obtain⟨ha,hb,sa,sb⟩:=hp;obtain⟨g0,x2,x3,y2,y3⟩:=jx ha hb;have sg:=zp (b:=b) ha sa;refine ah 2 nV.nd (aE c_common_divisor (hr.mono (by decide)) rfl (aa 0) (aa 1) True.intro) ?_;exact ax (aM (aI (aa 0) (aa 2) (sg.div g0)) (aI (aa 1) (aa 2) (sg.div g0)) ((Sm.of_le x3 sa).ok (Sm.of_le y3 sb))) rfl
theorem xV{k:Int}(h1:k≠0)(h2:k.natAbs<1073741824):Fi k:=⟨h1,(show Sm 30 k by unfold Sm;omega).le (by decide),Q.vj (by omega) (by omega)⟩
theorem qX(c_power_by:aN P w K mg base 1 "power_by" ["base","exponent","m"] (kF K (fun _ e m=>0<=e/\1<=m/\m<2^62) true xw))(x p:Int)(hp:2<=p)(hp2:p<2^62):Body P w K mg base kO "square_by" fv f 1 [.val false x,.val false p] (RT true (Q.bA x p)):=by
 intro cdv A outer s H E hr;have hh:(p-1).fdiv 2=(p-1)/2:=Int.fdiv_eq_ediv_of_nonneg _ (by decide);refine ah 2 jB.nd (aG (aa 0) (aa 1) (by omega)) ?_;rw[a_ (show 1<=p by omega)];refine aL (TW.t (fV (ao av (aa 2) ae) fun _=>(fI (ao av (aa 1) ae)))) (fun hc=>?_) (fun hc=>?_)
 .have hc':x%p=0\/p=2:=by simpa using hc
  have e:Q.bA x p=x%p:=by
   unfold Q.bA;by_cases z:x%p=0
   .rw[if_pos z,z]
   .rcases hc' with w|w
    .exact absurd w z
    .rw[if_neg z,if_pos w];subst w;omega
  rw[e];exact ax (aa 2) rfl
 .have hc':¬(x%p=0\/p=2):=by simpa using hc
  refine ax (jg (ao av (bS c_power_by (hr.mono (by decide)) rfl (aa 2) (aI (cG (aa 1) ae) ae jk) (aa 1) ⟨by rw[hh];omega,by omega,hp2⟩) ae) (fun _=>ae) fun _=>(iU ae)) ?_;show Bd.val _ _=Bd.val _ _;unfold Q.bA xw;rw[if_neg (fun z=>hc' (.inl z)),if_neg (fun z=>hc' (.inr z)),hh];congr 1;by_cases z:(x%p)^((p-1)/2).toNat%p=1
  .rw[if_pos z,if_pos (by simpa using z)]
  .rw[if_neg z,if_neg (by simpa using z)]
theorem jz(c_square_by:aN P w K mg base 2 "square_by" ["k","p"] (cT K (fun _ p=>2<=p/\p<2^62) true Q.bA))(p:Int)(hn:Q.NR p)(hp:2<=p/\p<2^62):Body P w K mg base fg "least_no_square" bZ f 2 [.val false p] (RT true (Q.qf p)):=by
 intro cdv A outer s H E hr;obtain⟨n1,n2,n3⟩:=Q.oU hn;refine ah 1 cP.nd ae ?_;refine bJ (ι:=Int) (fun k Γ=>Γ=[some (.val false p),some (.val true k)]/\2<=k/\k<=Q.qf p) (fun k=>(Q.qf p-k).toNat) 2 ⟨rfl,by decide,n1⟩ ?_;rintro k Γ' ⟨rfl,k2,kn⟩;refine⟨_,ao eN (aE c_square_by (hr.mono (by decide)) rfl (aa 1) (aa 0) hp) (iU ae),fun hc=>?_,fun hc=>?_⟩
 .have hc':Q.bA k p≠-1:=by simpa using hc
  have hne:k≠Q.qf p:=by rintro rfl;exact hc' n2
  exact ah 1 cP.nd (bg (aa 1) ae) (ay ⟨k+1,⟨rfl,by omega,by omega⟩,by omega⟩)
 .have hc':Q.bA k p=-1:=by simpa using hc
  have hk:k=Q.qf p:=by
   rcases Int.lt_or_eq_of_le kn with z|z
   .exact absurd hc' (n3 k k2 z)
   .exact z
  rw[<-hk];exact ax (aa 1) rfl
theorem t9(c_taken_out:aN P w K mg base 1 "taken_out" ["k","divisor"] (cT K (fun k d=>k≠0/\2<=d/\Sm 9000 d) true Q.aZ))(c_square_by:aN P w K mg base 2 "square_by" ["k","p"] (cT K (fun _ p=>2<=p/\p<2^62) true Q.bA))(x p:Int)(h0:x≠0)(hp:2<=p)(hp2:p<2^62):Body P w K mg base jb "class_at" eZ f 2 [.val false x,.val false p] (RT true (Q.cls x p)):=by
 intro cdv A outer s H E hr;refine aL (ao av (aa 1) ae) (fun hc=>?_) (fun hc=>?_)
 .exact absurd (show p=0 by simpa using hc) (by omega)
 refine ah 2 cU.nd (aE c_taken_out (hr.mono (by decide)) rfl (aa 0) (aa 1) ⟨h0,hp,Sm.le (m:=62) (by unfold Sm;omega) (by decide)⟩) ?_;refine ah 3 cU.nd (jg (ao av (aa 1) ae) (fun _=>(aG (b7 (aa 2)) ae (by decide))) fun _=>(aE c_square_by (hr.mono (by decide)) rfl (b7 (aa 2)) (aa 1) ⟨hp,hp2⟩)) ?_;refine ax (bQ (aG (bX (aa 2)) ae (by decide)) (aa 3)) ?_;show Bd.val _ _=Bd.val _ _;unfold Q.cls;rw[a_ (by decide),a_ (by decide)];congr 2;by_cases z:p=2
 .rw[if_pos z,if_pos (by simpa using z)]
 .rw[if_neg z,if_neg (by simpa using z)]
noncomputable def jq(k p:Int):Int⊕(Int×Int):=if p=0 then .inl (if 0<k then 1 else -1) else .inr (Q.cls k p)
theorem qH(c_taken_out:aN P w K mg base 1 "taken_out" ["k","divisor"] (cT K (fun k d=>k≠0/\2<=d/\Sm 9000 d) true Q.aZ))(c_square_by:aN P w K mg base 2 "square_by" ["k","p"] (cT K (fun _ p=>2<=p/\p<2^62) true Q.bA))(x p:Int)(h0:x≠0)(hp:p=0\/(2<=p/\p<2^62)):Body P w K mg base jb "class_at" eZ f 2 [.val false x,.val false p] (RT true (jq x p)):=by
 intro cdv A outer s H E hr;refine aL (ao av (aa 1) ae) (fun hc=>?_) (fun hc=>?_)
 .have e:jq x p=.inl (if decide (0<x)=true then 1 else -1):=by
   unfold jq;rw[if_pos (by simpa using hc)];congr 1;by_cases z:0<x
   .rw[if_pos z,if_pos (by simpa using z)]
   .rw[if_neg z,if_neg (by simpa using z)]
  rw[e];exact ax (yJ (β:=Int×Int) (jg (ao cJ (aa 0) ae) (fun _=>ae) fun _=>(iU ae))) rfl
 have hp0:¬p=0:=by simpa using hc
 have hp':2<=p/\p<2^62:=by omega
 refine ah 2 cU.nd (aE c_taken_out (hr.mono (by decide)) rfl (aa 0) (aa 1) ⟨h0,hp'.1,Sm.le (m:=62) (by unfold Sm;omega) (by decide)⟩) ?_;refine ah 3 cU.nd (jg (ao av (aa 1) ae) (fun _=>(aG (b7 (aa 2)) ae (by decide))) fun _=>(aE c_square_by (hr.mono (by decide)) rfl (b7 (aa 2)) (aa 1) hp')) ?_;refine ax (uR (α:=Int) (bQ (aG (bX (aa 2)) ae (by decide)) (aa 3))) ?_;show Bd.val _ _=Bd.val _ _;unfold jq Q.cls;rw[a_ (by decide),a_ (by decide),if_neg hp0];congr 3;by_cases z:p=2
 .rw[if_pos z,if_pos (by simpa using z)]
 .rw[if_neg z,if_neg (by simpa using z)]
theorem uk(x y:Int×Int):Body P w K mg base mx "two_says" gJ f kk [.val false x,.val false y] (RT true (Q.fc x y)):=by
 intro cdv A outer s H E hr;refine ah 2 dS.nd ae ?_;refine dY (fun Γ=>Γ=[some (.val false x),some (.val false y),some (.val true (0+Q.b1 (decide (x.2.fmod 4=3)&&decide (y.2.fmod 4=3))))]) (TW.t (h_ (ao av (aG (b7 (aa 0)) ae (by decide)) ae) fun _=>(iL (ao av (aG (b7 (aa 1)) ae (by decide)) ae)))) (fun hc=>?_) (fun hc=>?_) ?_
 .exact ah 2 dS.nd (bg (aa 2) ae) (ay (by rw[hc];rfl))
 .exact ay (by rw[hc];rfl)
 rintro Γ' rfl;refine dY (fun Γ=>Γ=[some (.val false x),some (.val false y),some (.val true (0+Q.b1 (decide (x.2.fmod 4=3)&&decide (y.2.fmod 4=3))+Q.b1 (decide (x.1=1)&&(decide ((3:Int)=y.2) || decide ((5:Int)=y.2)))))]) (TW.t (h_ (ao av (bX (aa 0)) ae) fun _=>(iL (ao zE (b7 (aa 1)) (bQ ae ae))))) (fun hc=>?_) (fun hc=>?_) ?_
 .exact ah 2 dS.nd (bg (aa 2) ae) (ay (by rw[hc];rfl))
 .exact ay (by rw[hc];show [_,_,_]=[_,_,_];simp[Q.b1])
 rintro Γ' rfl;refine dY (fun Γ=>Γ=[some (.val false x),some (.val false y),some (.val true (0+Q.b1 (decide (x.2.fmod 4=3)&&decide (y.2.fmod 4=3))+Q.b1 (decide (x.1=1)&&(decide ((3:Int)=y.2) || decide ((5:Int)=y.2)))+Q.b1 (decide (y.1=1)&&(decide ((3:Int)=x.2) || decide ((5:Int)=x.2)))))]) (TW.t (h_ (ao av (bX (aa 1)) ae) fun _=>(iL (ao zE (b7 (aa 0)) (bQ ae ae))))) (fun hc=>?_) (fun hc=>?_) ?_
 .exact ah 2 dS.nd (bg (aa 2) ae) (ay (by rw[hc];rfl))
 .exact ay (by rw[hc];show [_,_,_]=[_,_,_];simp[Q.b1])
 rintro Γ' rfl;refine ax (bx av (aG (aa 2) ae (by decide)) ae) ?_;show Bd.val _ _=Bd.val _ _;unfold Q.fc;congr 1;rw[a_ (by decide),a_ (by decide),a_ (by decide),Int.zero_add];simp only[eq_comm (a:=(3:Int)),eq_comm (a:=(5:Int))]
theorem nX(x p:Int):-2<=Q.bA x p/\Q.bA x p<=2:=by
 unfold Q.bA
 repeat' split
 all_goals decide
theorem tH(c_square_by:aN P w K mg base 2 "square_by" ["k","p"] (cT K (fun _ p=>2<=p/\p<2^62) true Q.bA))(x y:Int×Int)(p:Int)(hp:(-2<=x.2/\x.2<=2)/\(-2<=y.2/\y.2<=2)/\2<=p/\p<2^62):Body P w K mg base mN "odd_says" gi f 2 [.val false x,.val false y,.val false p] (RT true (Q.xm x y p)):=by
 intro cdv A outer s H E hr;obtain⟨hx,hy,hp1,hp2⟩:=hp;have hq:=nX (-1) p;refine ah 3 dJ.nd ae ?_;refine dY (fun Γ=>Γ=[some (.val false x),some (.val false y),some (.val false p),some (.val true (1*(if x.1=1 then y.2 else 1)))]) (ao av (bX (aa 0)) ae) (fun hc=>?_) (fun hc=>?_) ?_
 .exact ah 3 dJ.nd (aM (aa 3) (b7 (aa 1)) (mulL (by decide) (by decide))) (ay (by rw[if_pos (by simpa using hc)];rfl))
 .exact ay (by rw[if_neg (by simpa using hc)];rfl)
 rintro Γ' rfl;refine dY (fun Γ=>Γ=[some (.val false x),some (.val false y),some (.val false p),some (.val true (1*(if x.1=1 then y.2 else 1)*(if y.1=1 then x.2 else 1)))]) (ao av (bX (aa 1)) ae) (fun hc=>?_) (fun hc=>?_) ?_
 .exact ah 3 dJ.nd (aM (aa 3) (b7 (aa 0)) (mulR (by omega) (by omega))) (ay (by rw[if_pos (show y.1=1 by simpa using hc)];rfl))
 .exact ay (by rw[if_neg (show ¬y.1=1 by simpa using hc),Int.mul_one])
 rintro Γ' rfl;refine dY (fun Γ=>Γ=[some (.val false x),some (.val false y),some (.val false p),some (.val true (1*(if x.1=1 then y.2 else 1)*(if y.1=1 then x.2 else 1)*(if x.1=1/\y.1=1 then Q.bA (-1) p else 1)))]) (TW.t (h_ (ao av (bX (aa 0)) ae) fun _=>(iL (ao av (bX (aa 1)) ae)))) (fun hc=>?_) (fun hc=>?_) ?_
 .exact ah 3 dJ.nd (aM (aa 3) (aE c_square_by (hr.mono (by decide)) rfl (iU ae) (aa 2) ⟨hp1,hp2⟩) (mulR (by omega) (by omega))) (ay (by rw[if_pos (show x.1=1/\y.1=1 by simpa using hc)];rfl))
 .exact ay (by rw[if_neg (show ¬(x.1=1/\y.1=1) by simpa using hc),Int.mul_one])
 rintro Γ' rfl;refine ax (bx av (aa 3) ae) ?_;show Bd.val _ _=Bd.val _ _;unfold Q.xm;rw[Int.one_mul]
theorem n_(x:Int){p:Int}(h2:p≠2):-2<=(Q.cls x p).2/\(Q.cls x p).2<=2:=by
 unfold Q.cls;dsimp only;rw[if_neg h2];exact nX _ _
theorem DW(c_class_at:aN P w K mg base 3 "class_at" ["k","p"] (cT K (fun k p=>k≠0/\2<=p/\p<2^62) true Q.cls))(c_two_says:aN P w K mg base 1 "two_says" ["one","other"] (cT K (fun _ _=>True) true Q.fc))
  (c_odd_says:aN P w K mg base 3 "odd_says" ["one","other","p"] (kF K (fun x y p=>(-2<=x.2/\x.2<=2)/\(-2<=y.2/\y.2<=2)/\2<=p/\p<2^62) true Q.xm)) (a b p:Int) (ha:a≠0) (hb:b≠0) (hp:p=0\/(2<=p/\p<2^62)):Body P w K mg base zr "says" oQ f 3 [.val false a,.val false b,.val false p] (RT true (Q.aq a b p)):=by
 intro cdv A outer s H E hr;refine aL (ao av (aa 2) ae) (fun hc=>?_) (fun hc=>?_)
 .have h0:p=0:=by simpa using hc
  have e:Q.aq a b p=(decide (0<a) || decide (0<b)):=if_pos h0;rw[e];exact ax (BE (bx cJ (aa 0) ae) fun _=>(u7 (bx cJ (aa 1) ae))) rfl
 have h0:¬p=0:=by simpa using hc
 have hp':2<=p/\p<2^62:=by omega
 refine ah 3 qa.nd (aE c_class_at (hr.mono (by decide)) rfl (aa 0) (aa 2) ⟨ha,hp'⟩) ?_;refine ah 4 qa.nd (aE c_class_at (hr.mono (by decide)) rfl (aa 1) (aa 2) ⟨hb,hp'⟩) ?_;refine ax (jg (ao av (aa 2) ae) (fun _=>(aE c_two_says (hr.mono (by decide)) rfl (aa 3) (aa 4) True.intro)) fun h2=>(bS c_odd_says (hr.mono (by decide)) rfl (aa 3) (aa 4) (aa 2) ⟨n_ a (by simpa using h2),n_ b (by simpa using h2),hp'⟩)) ?_;show Bd.val _ _=Bd.val _ _;congr 1;unfold Q.aq;rw[if_neg h0];by_cases z:p=2
 .rw[if_pos z,if_pos (by simpa using z)]
 .rw[if_neg z,if_neg (by simpa using z)]
noncomputable def w8(ns:List Int):List Int:=2::ns.flatMap fun k=>(Q.nM (k.natAbs:Int)).map (·.1)
noncomputable def BI(ns:List Int):List Int:=sset (w8 ns)
structure Hw(ns:List Int):Prop where
 len:ns.length<=100
 rng:∀k∈ns,1<=(k.natAbs:Int)/\(k.natAbs:Int)<2^60
 few:(w8 ns).length<64
theorem vL{ns:List Int}{i:Nat}{k:Int}(h:ns[i]?=some k):w8 (ns.take (i+1))=w8 (ns.take i)++(Q.nM (k.natAbs:Int)).map (·.1):=by
 unfold w8;rw[List.take_succ,h];simp[List.flatMap_append]
theorem EC{ns:List Int}(i:Nat):(w8 (ns.take i)).length<=(w8 ns).length:=by
 unfold w8
 have:ns.flatMap (fun k=>(Q.nM (k.natAbs:Int)).map (·.1))=(ns.take i).flatMap (fun k=>(Q.nM (k.natAbs:Int)).map (·.1))++(ns.drop i).flatMap (fun k=>(Q.nM (k.natAbs:Int)).map (·.1)):=by
  rw[<-List.flatMap_append,List.take_append_drop]
 rw[this];simp
theorem mZ(x:Int):(if x<0 then -x else x)=(x.natAbs:Int):=by split<;>omega
include B in
theorem qy(c_parts:aN P w K mg base 4 "parts" ["k"] (gS K (fun k=>1<=k/\k<2^60) true Q.nM))(ns:List Int)(h:Hw ns):Body P w K mg base kK "primes_of" fh f 4 [.val false ns] (RT true (BI ns)):=by
 intro cdv A outer s H E hr;have few:=h.few;refine tj 1 ef.nd (tX (aD ae bG) (by simp)) ?_;refine yO 1 true rfl ?_;refine km (fun i Γ=>∃r2 r3,Γ=[some (.val false ns),some (.own true (w8 (ns.take i))),r2,r3]) (cQ 2 ef.nd) (aa 0) ⟨none,none,rfl⟩ ?_ ?_
 .rintro i k Γ' hk ⟨r2,r3,rfl⟩;obtain⟨k1,k2⟩:=h.rng k (List.mem_of_getElem? hk);rw[vL hk];have le1:=EC (ns:=ns) (i+1);rw[vL hk,List.length_append,List.length_map] at le1;generalize hp:Q.nM (k.natAbs:Int)=pr at *;refine oA (as:=pr) (b:=true) (fun j Γ=>∃r3,Γ=[some (.val false ns),some (.own true (w8 (ns.take i)++(pr.take j).map (·.1))),some (.val false k),r3]) (cQ 3 ef.nd) (cD (ic (bh c_parts (hr.mono (by decide)) rfl (g6 rfl B.abs (aa 2)) (by rw[mZ];exact⟨k1,k2⟩)) (by rw[mZ];exact hp))) ⟨r3,by simp⟩ ?_ ?_
  .rintro j u Γ' hu ⟨r3,rfl⟩;refine fR 1 rfl (gT (b':=true) (bX (aa 3))) ?_ (ay ⟨some (.val true u),?_⟩)
   .have:(pr.take j).length<=pr.length:=by rw[List.length_take];omega
    rw[List.length_append,List.length_map];omega
   .rw[List.take_succ,hu];simp
  .rintro Γ' ⟨r3,rfl⟩;rw[List.take_length];exact ay ⟨_,_,rfl⟩
 .rintro Γ' ⟨r2,r3,rfl⟩;rw[List.take_length];refine ip 1 rfl ?_;exact ax (wZ rfl rfl B.sorted rfl B.set (aa 1) few) rfl
noncomputable def IX(x y:Int):List Int:=((0:Int)::BI [x,y]).filter fun p=>!(Q.aq x y p)
noncomputable def Dm(a b:Int):List Int:=IX (oF a) (oF b)
structure Fy(a b:Int):Prop where
 fa:Fi a
 fb:Fi b
 po:Hw [oF a,oF b]
 na:oF a≠0
 nb:oF b≠0
 pl:∀p∈BI [oF a,oF b],2<=p/\p<2^62
theorem yE(ns:List Int):(sset ns).length<=ns.length:=by
 unfold sset
 induction ns with
 |nil=>exact Nat.le_refl _
 |cons x ns ih =>
  have:∀l:List Int,(i9 x l).length<=l.length+1:=fun l=>by
   induction l with
   |nil=>simp[i9]
   |cons y l ih =>
    unfold i9;split
    .simp
    .split
     .simp
     .simp only[List.length_cons];omega
  have h2:=this (ns.foldr i9 []);show(i9 x (ns.foldr i9 [])).length<=ns.length+1;omega
include B in
theorem uI(c_free_of:aN P w K mg base 6 "free_of" ["k"] (gS K Fi true oF))(c_says:aN P w K mg base 4 "says" ["a","b","p"] (kF K (fun a b p=>a≠0/\b≠0/\(p=0\/(2<=p/\p<2^62))) true Q.aq))(c_primes_of:aN P w K mg base 5 "primes_of" ["numbers"] (gS K Hw true BI))(a b:Int)(h:Fy a b):
  Body P w K mg base jf "all_noes" e8 f 6 [.val false a,.val false b] (RT true (Dm a b)):=by
 intro cdv A outer s H E hr;obtain⟨fa,fb,po,na,nb,pl⟩:=h;refine ah 2 g9.nd (bh c_free_of (hr.mono (by decide)) rfl (aa 0) fa) ?_;refine ah 3 g9.nd (bh c_free_of (hr.mono (by decide)) rfl (aa 1) fb) ?_;unfold Dm;generalize oF a=x at *;generalize oF b=y at *;have lp:(BI [x,y]).length<64:=Nat.lt_of_le_of_lt (yE _) po.few
 have hq:∀q∈[(0:Int)]++BI [x,y],q=0\/(2<=q/\q<2^62):=fun q hq=>by
  rcases List.mem_append.mp hq with z|z
  .exact .inl (List.mem_singleton.mp z)
  .exact .inr (pl q z)
 refine ax (gu (f:=fun q:Int=>q) (p:=fun q=>!(Q.aq x y q)) (b':=true) ["p"] [2,3] (dD (af e8) jf rfl rfl (by decide +kernel)) (cD (ng (dM (aD ae bG) (by simp)) (bh c_primes_of (hr.mono (by decide)) rfl (dM (aD (aa 2) (aD (aa 3) bG)) (by simp)) po) (by simp;omega))) (b9 0) (fun C s H fp=>fX 0 ["p","one","other"]) bL (fun i q hi C s H fp=>jc (iR (di (bS c_says (hr.mono (by decide)) rfl (aa 1) (aa 2) (aa 0) ⟨na,nb,hq q (List.mem_of_getElem? hi)⟩)))) (fun i q hi _ C s H fp=>gT (b':=true) (aa 0)) (by simp;omega)) ?_;show Bd.val _ _=Bd.val _ _;congr 1;rw[List.map_id'];rfl
abbrev jX:=List (Int⊕(Int×Int))
instance:DecidableEq (Int⊕(Int×Int)):=fun a b=>match a,b with
 |.inl x,.inl y=>decidable_of_iff (x=y) ⟨fun h=>by rw[h],fun h=>Sum.inl.inj h⟩
 |.inr x,.inr y=>decidable_of_iff (x=y) ⟨fun h=>by rw[h],fun h=>Sum.inr.inj h⟩
 |.inl _,.inr _=>isFalse fun h=>by cases h
 |.inr _,.inl _=>isFalse fun h=>by cases h
def Hd(c:Int⊕(Int×Int))(cs:jX):Bool:=cs.any fun d=>decide (d=c)
theorem jv{c:Int⊕(Int×Int)}{cs:jX}:Hd c cs=true↔c∈cs:=by
 unfold Hd;rw[List.any_eq_true];constructor
 .rintro⟨d,hd,e⟩;rw[<-of_decide_eq_true e];exact hd
 .intro h;exact⟨c,h,decide_eq_true rfl⟩
noncomputable def xx(k:Int)(ps:List Int):jX:=ps.map (Q.d9 k)
instance{α β:Type}[Py α][Py β][PyT α][PyT β]:PyT (α⊕β) where
 free {K N N' H H' v b} t h:=by
  cases b with
  |inl x=>exact PyT.free (β:=α) (N:=N) (N':=N') t h
  |inr y=>exact PyT.free (β:=β) (N:=N) (N':=N') t h
 nl {K N H q b xs} h e:=by
  cases b with
  |inl x=>exact PyT.nl (β:=α) (N:=N) h e
  |inr y=>exact PyT.nl (β:=β) (N:=N) h e
theorem pZ(c_is_prime:aN P w K mg base 3 "is_prime" ["k"] (gS K (fun k=>k<2^62) true Q.aR))(x:Int)(h2:2<=x)(hx:x<=10000):Body P w K mg base jW "next_prime" eE f 3 [.val false x] (RT true (Q.pf (x+1))):=by
 intro cdv A outer s H E hr;have hPB:Q.PB=1070000011:=rfl;have hb:x+1<=Q.PB:=by omega
 have hpp:=Q.nj hb;have hle:=Q.He hb;have hod:=Q.ue hb (by omega);refine ah 1 fJ.nd (bg (aa 0) ae) ?_;refine bJ (ι:=Int) (fun d Γ=>Γ=[some (.val false x),some (.val true d)]/\x+1<=d/\d<=Q.pf (x+1)) (fun d=>(Q.pf (x+1)-d).toNat) (x+1) ⟨rfl,Int.le_refl _,hod.2⟩ ?_;rintro d Γ' ⟨rfl,h1,h3⟩;refine⟨_,iR (di (bh c_is_prime (hr.mono (by decide)) rfl (aa 1) (by omega))),fun hc=>?_,fun hc=>?_⟩
 .have hd:d≠Q.pf (x+1):=fun z=>by rw[z,hpp] at hc;cases hc
  refine ah 1 fJ.nd (bg (aa 1) ae) ?_;exact ay ⟨d+1,⟨rfl,by omega,by omega⟩,by omega⟩
 .have hp:Q.aR d=true:=by simpa using hc
  have e:Q.pf (x+1)=d:=by
   have hdo:d%2=1:=by
    rcases Q.bC.mp hp with z|z
    .omega
    .exact z.2.1
   have:=Q.nv hp h1 hdo (by omega) (by omega);omega
  rw[e];exact ax (aa 1) rfl
def Io(a b:Int⊕(Int×Int))(p:Int):Prop:=p∈Q.P7/\∃m n:Int,m≠0/\n≠0/\a=Q.d9 m p/\b=Q.d9 n p
theorem Ce{n p:Int}(hp:Q.aR p=true)(hn:n≠0):Sm 4 (Q.cls n p).2:=by
 obtain⟨_,h2,h3⟩:=Q.gp hp hn;by_cases z:p=2
 .have:=h2 z;simp only[List.mem_cons,List.not_mem_nil,or_false] at this;unfold Sm;omega
 .have:=h3 z;unfold Sm;omega
set_option maxHeartbeats 1000000 in
theorem jd(a b:Int⊕(Int×Int))(p:Int)(hp:Io a b p):Body P w K mg base eK "class_of_product" bU f kk [.val false a,.val false b,.val false p] (RT true (Q.k7 a b p)):=by
 intro cdv A outer s H E hr;obtain⟨hp,m,n,m0,n0,rfl,rfl⟩:=hp;rcases Q.cc hp with rfl|⟨p0,pp,_⟩
 .have ea:Q.d9 m 0=Sum.inl (if 0<m then 1 else -1):=if_pos rfl;have eb:Q.d9 n 0=Sum.inl (if 0<n then 1 else -1):=if_pos rfl;rw[ea,eb];have s1:Sm 1 (if 0<m then (1:Int) else -1):=by unfold Sm;split<;>decide
  have s2:Sm 1 (if 0<n then (1:Int) else -1):=by unfold Sm;split<;>decide
  generalize (if 0<m then (1:Int) else -1)=x at *;generalize (if 0<n then (1:Int) else -1)=y at *;refine aL (ao av (aa 2) ae) (fun _=>?_) (fun hc=>absurd hc (by decide));exact ax (yJ (β:=Int×Int) (aM (CF (β:=Int×Int) (a:=x) (aa 0)) (CF (β:=Int×Int) (a:=y) (aa 1)) (s1.ok s2))) rfl
 .have ea:Q.d9 m p=Sum.inr (Q.cls m p):=if_neg p0;have eb:Q.d9 n p=Sum.inr (Q.cls n p):=if_neg p0;have s1:=Ce pp m0;have s2:=Ce pp n0;rw[ea,eb];generalize Q.cls m p=u at *;generalize Q.cls n p=v at *;refine aL (ao av (aa 2) ae) (fun hc=>absurd (by simpa using hc) p0) (fun _=>?_);refine ah 3 dZ.nd (aM (b7 (oM (α:=Int) (a:=u) (aa 0))) (b7 (oM (α:=Int) (a:=v) (aa 1))) (s1.ok s2)) ?_;by_cases z:p=2
  .refine ax (uR (α:=Int) (bQ (aG (bg (bX (oM (α:=Int) (a:=u) (aa 0))) (bX (oM (α:=Int) (a:=v) (aa 1)))) ae (by decide)) (jg (ao av (aa 2) ae) (fun _=>aG (aa 3) ae (by decide)) (fun _=>aa 3)))) ?_;show Bd.val _ _=Bd.val _ (Sum.inr (Q.fS u v p));unfold Q.fS;rw[if_pos z,if_pos (decide_eq_true z),Int.fmod_eq_emod_of_nonneg _ (by decide),Int.fmod_eq_emod_of_nonneg _ (by decide)];rfl
  .refine ax (uR (α:=Int) (bQ (aG (bg (bX (oM (α:=Int) (a:=u) (aa 0))) (bX (oM (α:=Int) (a:=v) (aa 1)))) ae (by decide)) (jg (ao av (aa 2) ae) (fun _=>aG (aa 3) ae (by decide)) (fun _=>aa 3)))) ?_;show Bd.val _ _=Bd.val _ (Sum.inr (Q.fS u v p));unfold Q.fS;rw[if_neg z,if_neg (by rw[decide_eq_false z];decide),Int.fmod_eq_emod_of_nonneg _ (by decide)];rfl
theorem FU{i:Nat}{p:Int}(h:Q.Q6[i]?=some p):p=Q.Q6.getD i 1/\i<6/\0<=p/\p<=13:=by
 have hi:i<6:=(List.getElem?_eq_some_iff.mp h).1;have e:p=Q.Q6.getD i 1:=by rw[List.getD_eq_getElem?_getD,h];rfl
 have m:p∈Q.Q6:=List.mem_of_getElem? h;simp only[Q.Q6,List.mem_cons,List.not_mem_nil,or_false] at m;exact⟨e,hi,by omega,by omega⟩
set_option maxHeartbeats 1000000 in
include B in
theorem hX(g_SMALL_PLACES:qg K mg "SMALL_PLACES" [0,2,3,5,7,11,13]):Body P w K mg base cg "small_free_numbers" a8 f kk [] (xu true (fun(ms:List Int)=>ms.Perm (Q.du 6))):=by
 intro cdv A outer s H E hr;refine ah 0 bB.nd (dM (as:=[(1:Int),-1]) (b:=true) (aD ae (aD (iU ae) bG)) (Nat.le_of_ble_eq_true rfl)) ?_;refine oA (as:=Q.Q6) (fun i Γ=>∃r1,i<=6/\Γ=[some (.val true (Q.du i)),r1]) (cQ 1 bB.nd) (sO (BJ (mQ rfl g_SMALL_PLACES) ae (by decide) (by decide))) ⟨none,by decide,rfl⟩ ?_ ?_
 .rintro i p Γ' hp ⟨r1,i6,rfl⟩;obtain⟨ep,hi,p0,p13⟩:=FU hp;have hl:=Q.AI i i6;have hle:=Q.EL i i6
  refine ah 0 bB.nd (ic (a':=Q.du (i + 1)) (ng (aa 0) (pB (b':=true) (f:=fun k:Int=>k * p) ["k"] [1] (dD (af a8) cg rfl rfl (by decide +kernel)) (cD (aa 0)) (b9 0) (fun C s H fp=>fX 0 ["k","p"]) bL (fun j k hk C s H fp=>by
   have:=hle k (List.mem_of_getElem? hk)
   exact aM (aa 0) (aa 1) ((show Sm 15 k by unfold Sm;omega).ok (show Sm 4 p by unfold Sm;omega))) (by omega)) (by rw[List.length_map];omega)) (by rw[ep];rfl)) ?_
  exact ay ⟨_,by omega,rfl⟩
 .rintro Γ' ⟨r1,_,rfl⟩;have e6:=Q.oy.1;exact sQ (yM rfl B.sorted rfl B.abs (aa 0) (by show 2<=(Q.du 6).length;omega) (by show(Q.du 6).length<=1000;omega)) fun a h=>⟨a,h,rfl⟩
theorem oD{p:Int}(h:p∈Q.P7):p=0\/(2<=p/\p<2^62):=by
 simp only[Q.P7,List.mem_cons,List.not_mem_nil,or_false] at h;omega
theorem pH(c_class_at:aN P w K mg base 3 "class_at" ["k","p"] (cT K (fun k p=>k≠0/\(p=0\/(2<=p/\p<2^62))) true jq))(k:Int)(ps:List Int)(hk:k≠0)(e:ps=Q.P7):Body P w K mg base gN "classes_of" dq f 3 [.val false k,.val false ps] (RT true (xx k ps)):=by
 intro cdv A outer s H E hr;subst e;exact ax (pB (b':=true) (f:=Q.d9 k) ["p"] [0] (dD (af dq) gN rfl rfl (by decide +kernel)) (cD (aa 1)) (b9 0) (fun C s H fp=>fX 0 ["p","k"]) bL (fun j p hp C s H fp=>aE c_class_at (hr.mono (by decide)) rfl (aa 1) (aa 0) ⟨hk,oD (List.mem_of_getElem? hp)⟩) (by decide)) rfl
def BR(ws:List jX):Prop:=ws.length=7/\(∀cs∈ws,cs.length<=100)/\∀j,j<7->∀c∈ws.getD j [],∃n:Int,n≠0/\c=Q.d9 n (Q.P7.getD j 0)
noncomputable def sj(k:Int)(ps:List Int)(ws:List jX):List jX:=(ps.zip ws).map fun u=>u.2.map fun c=>Q.k7 (Q.d9 k u.1) c u.1
theorem Ej{ws:List jX}{i:Nat}{u:Int×jX}(hl:ws.length=7)(h:(Q.P7.zip ws)[i]?=some u):i<7/\u.1=Q.P7.getD i 0/\u.2=ws.getD i []/\u.1∈Q.P7/\u.2∈ws:=by
 have hi:i<(Q.P7.zip ws).length:=(List.getElem?_eq_some_iff.mp h).1;rw[List.length_zip,hl] at hi;have hi':i<7:=by have:Q.P7.length=7:=rfl;omega
 have h1:Q.P7[i]?=some u.1:=by have:=congrArg (Option.map Prod.fst) h;rw[<-List.getElem?_map,List.map_fst_zip (by rw[hl];decide)] at this;exact this
 have h2:ws[i]?=some u.2:=by have:=congrArg (Option.map Prod.snd) h;rw[<-List.getElem?_map,List.map_snd_zip (by rw[hl];decide)] at this;exact this
 exact⟨hi',by rw[List.getD_eq_getElem?_getD,h1];rfl,by rw[List.getD_eq_getElem?_getD,h2];rfl,List.mem_of_getElem? h1,List.mem_of_getElem? h2⟩
set_option maxHeartbeats 1000000 in
include B in
theorem kc(c_class_at:aN P w K mg base 3 "class_at" ["k","p"] (cT K (fun k p=>k≠0/\(p=0\/(2<=p/\p<2^62))) true jq))(c_class_of_product:aN P w K mg base 1 "class_of_product" ["one","other","p"] (kF K Io true Q.k7))(k:Int)(ps:List Int)(ws:List jX)(hk:k≠0)(e:ps=Q.P7)(hw:BR ws):Body P w K mg base dA "wishes_without" bK f 3 [.val false k,.val false ps,.val false ws] (RT true (sj k ps ws)):=by
 intro cdv A outer s H E hr;subst e;obtain⟨hl,h100,hc⟩:=hw;refine xU 3 jX b_.nd ?_;refine oA (as:=Q.P7.zip ws) (fun i Γ=>∃r4 r5 r6,Γ=[some (.val false k),some (.val false Q.P7),some (.val false ws),some (.own true (((Q.P7.zip ws).take i).map fun u=>u.2.map fun c=>Q.k7 (Q.d9 k u.1) c u.1)),r4,r5,r6]) (x9 4 5 b_.nd) (sZ rfl B.zip (aa 1) (aa 2)) ⟨none,none,none,rfl⟩ ?_ ?_
 .rintro i u Γ' hu ⟨r4,r5,r6,rfl⟩;obtain⟨hi,e1,e2,m1,m2⟩:=Ej hl hu;refine ah 6 b_.nd (aE c_class_at (hr.mono (by decide)) rfl (aa 0) (aa (a:=u.1) 4) ⟨hk,oD m1⟩) ?_;have l100:=h100 _ m2;refine fR 3 (a:=u.2.map fun c=>Q.k7 (Q.d9 k u.1) c u.1) rfl (pB (b':=true) (f:=fun c=>Q.k7 (Q.d9 k u.1) c u.1) ["wish"] [6,4] (dD (af bK) dA rfl rfl (by decide +kernel)) (cD (aa (a:=u.2) 5)) (b9 0) (fun C s H fp=>fX 0 ["wish","own","p"]) bL (fun j c hcj C s H fp=>?_) (by omega)) ?_ ?_
  .have mc:c∈u.2:=List.mem_of_getElem? hcj;rw[e2] at mc;obtain⟨n,n0,en⟩:=hc i hi c mc;rw[<-e1] at en;exact bS c_class_of_product (hr.mono (by decide)) rfl (aa 1) (aa 0) (aa 2) ⟨m1,k,n,hk,n0,rfl,en⟩
  .rw[List.length_map,List.length_take];omega
  .refine ay ⟨some (.val false u.1),some (.val false u.2),some (.val true (jq k u.1)),?_⟩;rw[List.take_add_one,hu,Option.toList_some,List.map_append];rfl
 .rintro Γ' ⟨r4,r5,r6,rfl⟩;refine ip 3 rfl ?_;rw[List.take_length];exact ax (aa 3) rfl
def Av(cl:jX)(ws:List jX):Bool:=(cl.zip ws).all fun u=>Hd u.1 u.2
set_option maxHeartbeats 1000000 in
include B in
theorem qP(cl:jX)(ws:List jX):Body P w K mg base kQ "are_among" fC f kk [.val false cl,.val false ws] (RT true (Av cl ws)):=by
 intro cdv A outer s H E hr;refine oA (as:=cl.zip ws) (fun i Γ=>(∀u∈(cl.zip ws).take i,u.1∈u.2)/\∃r2 r3,Γ=[some (.val false cl),some (.val false ws),r2,r3]) (x9 2 3 jL.nd) (sZ rfl B.zip (aa 0) (aa 1)) ⟨(fun u hu=>by rw[List.take_zero] at hu;cases hu),none,none,rfl⟩ ?_ ?_
 .rintro i u Γ' hu ⟨ih,r2,r3,rfl⟩;refine aL (ao (AZ (a:=u.1) (as:=u.2) (c:=Hd u.1 u.2) (i4 hr) (by decide) jv) (aa 2) (aa 3)) (fun hc=>?_) (fun hc=>?_)
  .have hn:Hd u.1 u.2=false:=by simpa using hc
   have e:Av cl ws=false:=by
    unfold Av;rw[List.all_eq_false];exact⟨u,List.mem_of_getElem? hu,by rw[hn];decide⟩
   rw[e];exact ax ni rfl
  .have hm:u.1∈u.2:=jv.mp (by simpa using hc);refine ay ⟨fun x hx=>?_,_,_,rfl⟩;rw[List.take_add_one,hu] at hx;rcases List.mem_append.mp hx with w|w
   .exact ih x w
   .rw[List.mem_singleton.mp w];exact hm
 .rintro Γ' ⟨ih,r2,r3,rfl⟩
  have e:Av cl ws=true:=by
   unfold Av;rw[List.all_eq_true];intro u hu;rw[List.take_length] at ih;exact jv.mpr (ih u hu)
  rw[e];exact ax ni rfl
def Ik(ws:List jX)(n:Int):Prop:=∃k q:Int,n=k*q/\k∈Q.du 6/\(q=1\/(Q.aR q=true/\17<=q/\q<=8089))/\∀j,j<7->Q.d9 n (Q.P7.getD j 0)∈ws.getD j []
theorem F5{f:Int}{ws:List jX}(hl:ws.length=7){j:Nat}(hj:j<7):(sj f Q.P7 ws).getD j []=(ws.getD j []).map fun c=>Q.k7 (Q.d9 f (Q.P7.getD j 0)) c (Q.P7.getD j 0):=by
 have h1:Q.P7[j]?=some (Q.P7.getD j 0):=by rw[List.getD_eq_getElem?_getD,List.getElem?_eq_getElem (show j<Q.P7.length from hj)];rfl
 have h2:ws[j]?=some (ws.getD j []):=by rw[List.getD_eq_getElem?_getD,List.getElem?_eq_getElem (show j<ws.length by omega)];rfl
 unfold sj;rw[List.getD_eq_getElem?_getD,List.getElem?_map,(List.getElem?_zip_eq_some (z:=(Q.P7.getD j 0,ws.getD j []))).mpr ⟨h1,h2⟩];rfl
theorem xO{f k:Int}{ws:List jX}(hl:ws.length=7)(hw:BR ws)(hf:f≠0)(hk:k≠0):Av (xx k Q.P7) (sj f Q.P7 ws)=true↔∀j,j<7->Q.d9 (k*f) (Q.P7.getD j 0)∈ws.getD j []:=by
 have lw:(sj f Q.P7 ws).length=7:=by unfold sj;rw[List.length_map,List.length_zip,hl];rfl
 have p7:∀{j:Nat},j<7->Q.P7.getD j 0∈Q.P7:=fun {j} hj=>by rw[List.getD_eq_getElem?_getD,List.getElem?_eq_getElem (show j<Q.P7.length from hj)];exact List.getElem_mem _
 have key:∀j,j<7->(Q.d9 k (Q.P7.getD j 0)∈(sj f Q.P7 ws).getD j []↔Q.d9 (k*f) (Q.P7.getD j 0)∈ws.getD j []):=fun j hj=>by
  rw[F5 hl hj,List.mem_map];constructor
  .rintro⟨c,hc,e⟩;obtain⟨n,n0,rfl⟩:=hw.2.2 j hj c hc;rw[(Q.rY (p7 hj) hf hk n0).mp e.symm];exact hc
  .intro hm;refine⟨_,hm,?_⟩;exact((Q.rY (p7 hj) hf hk (Int.mul_ne_zero hk hf)).mpr rfl).symm
 unfold Av xx;rw[List.all_eq_true];constructor
 .intro h j hj;rw[<-key j hj]
  have h1:(Q.P7.map (Q.d9 k))[j]?=some (Q.d9 k (Q.P7.getD j 0)):=by
   rw[List.getElem?_map,List.getElem?_eq_getElem (show j<Q.P7.length from hj),List.getD_eq_getElem?_getD,List.getElem?_eq_getElem (show j<Q.P7.length from hj)];rfl
  have h2:(sj f Q.P7 ws)[j]?=some ((sj f Q.P7 ws).getD j []):=by rw[List.getD_eq_getElem?_getD,List.getElem?_eq_getElem (by omega)];rfl
  have:=h (Q.d9 k (Q.P7.getD j 0),(sj f Q.P7 ws).getD j []) (List.mem_of_getElem? ((List.getElem?_zip_eq_some (z:=(Q.d9 k (Q.P7.getD j 0),(sj f Q.P7 ws).getD j []))).mpr ⟨h1,h2⟩));exact jv.mp this
 .intro h u hu;obtain⟨j,hj⟩:=List.mem_iff_getElem?.mp hu;have hz:=(List.getElem?_zip_eq_some (z:=u)).mp hj;have j7:j<7:=by have:=(List.getElem?_eq_some_iff.mp hz.2).1;omega
  have e1:u.1=Q.d9 k (Q.P7.getD j 0):=by
   have:=hz.1;rw[List.getElem?_map,List.getElem?_eq_getElem (show j<Q.P7.length from j7)] at this;rw[List.getD_eq_getElem?_getD,List.getElem?_eq_getElem (show j<Q.P7.length from j7)];exact(Option.some.inj this).symm
  have e2:u.2=(sj f Q.P7 ws).getD j []:=by rw[List.getD_eq_getElem?_getD,hz.2];rfl
  refine jv.mpr ?_;rw[e1,e2,key j j7];exact h j j7
theorem F8{ws:List jX}(hw:BR ws)(hne:∀j,j<7->ws.getD j []≠[]):∃k q,k∈Q.du 6/\Q.aR q=true/\17<=q/\q<=8089/\∀j,j<7->Q.d9 (k*q) (Q.P7.getD j 0)∈ws.getD j []:=by
 have ch:∀j,j<7->∃n:Int,n≠0/\Q.d9 n (Q.P7.getD j 0)∈ws.getD j []:=fun j hj=>by
  obtain⟨c,hc⟩:=List.exists_mem_of_ne_nil _ (hne j hj);obtain⟨n,n0,rfl⟩:=hw.2.2 j hj c hc;exact⟨n,n0,hc⟩
 obtain⟨n0,a0,b0⟩:=ch 0 (by decide);obtain⟨n1,a1,b1⟩:=ch 1 (by decide);obtain⟨n2,a2,b2⟩:=ch 2 (by decide);obtain⟨n3,a3,b3⟩:=ch 3 (by decide);obtain⟨n4,a4,b4⟩:=ch 4 (by decide);obtain⟨n5,a5,b5⟩:=ch 5 (by decide);obtain⟨n6,a6,b6⟩:=ch 6 (by decide)
 obtain ⟨k,q,k1,q1,q2,q3,hq⟩:=Q.x6 (ns:=[n0,n1,n2,n3,n4,n5,n6]) rfl (fun n hn=>by
  simp only[List.mem_cons,List.not_mem_nil,or_false] at hn
  rcases hn with rfl|rfl|rfl|rfl|rfl|rfl|rfl<;>assumption)
 refine⟨k,q,k1,q1,q2,q3,fun j hj=>?_⟩;rw[hq j hj];have:j=0\/j=1\/j=2\/j=3\/j=4\/j=5\/j=6:=by omega
 rcases this with rfl|rfl|rfl|rfl|rfl|rfl|rfl<;>assumption
set_option maxHeartbeats 2000000 in
include B in
theorem nr(g_SMALL_PLACES:qg K mg "SMALL_PLACES" [0,2,3,5,7,11,13])(c_next_prime:aN P w K mg base 4 "next_prime" ["k"] (gS K (fun k=>2<=k/\k<=10000) true (fun k=>Q.pf (k+1))))(c_small_free_numbers:aN P w K mg base 1 "small_free_numbers" [] (Bn K true (fun(ms:List Int)=>ms.Perm (Q.du 6))))(c_classes_of:aN P w K mg base 4 "classes_of" ["k","places"] (cT K (fun(k:Int) (ps:List Int)=>k≠0/\ps=Q.P7) true xx))(c_wishes_without:aN P w K mg base 4 "wishes_without" ["k","places","wishes"] (kF K (fun(k:Int) (ps:List Int) (ws:List jX)=>k≠0/\ps=Q.P7/\BR ws) true sj))(c_are_among:aN P w K mg base 1 "are_among" ["classes","wishes"] (cT K (fun(_:jX) (_:List jX)=>True) true Av))
  (ps:List Int) (ws:List jX) (e:ps=Q.P7) (hw:BR ws) (hne:∀j,j<7->ws.getD j []≠[]):Body P w K mg base eJ "number_among" ck f 4 [.val false ps,.val false ws] (xu true (Ik ws)):=by
 intro cdv A outer s H E hr;subst e;have hl:=hw.1;obtain⟨k0,q0,hk0,p1,p2,p3,hq0⟩:=F8 hw hne;have f6:=Q.oy;refine oW 2 bp.nd (xT c_small_free_numbers (hr.mono (by decide)) rfl) ?_;intro ms hp;have ml:ms.length=128:=by rw[hp.length_eq];exact f6.1
 have mm:∀k∈ms,k≠0/\-30030<=k/\k<=30030:=fun k hk=>by
  have:=f6.2 k (hp.mem_iff.mp hk);exact⟨this.1,this.2.1,this.2.2.1⟩
 refine Ah 4 bp.nd (b':=true) (f:=fun k=>xx k Q.P7) ["k"] [0] (dD (af ck) eJ rfl rfl (by decide +kernel)) (cD (aa 2)) (b9 0) (fun C s H fp=>fX 0 ["k","places"]) bL (fun j k hk C s H fp=>aE c_classes_of (hr.mono (by decide)) rfl (aa 0) (aa 1) ⟨(mm k (List.mem_of_getElem? hk)).1,rfl⟩) (by omega) ?_;refine ah 5 bp.nd ae ?_
 have e17:Q.pf (13+1)=17:=by
  have h1:=Q.nv (k:=14) (p:=17) (Q.mU 17 (by decide)) (by decide) (by decide) (by decide) (by decide);have h2:=Q.ue (k:=14) (by decide) (by decide);have h3:=Q.nj (k:=14) (by decide)
  have:Q.pf 14≠15:=fun z=>by
   rw[z] at h3;have:=(Q.fk h3 (d:=3) (by decide) (by decide));omega
  show Q.pf 14=17;omega
 have hPB:Q.PB=1070000011:=rfl
 have ho:q0%2=1:=by
  rcases Q.bC.mp p1 with z|z
  .omega
  .exact z.2.1
 refine bJ (ι:=Int) (fun q Γ=>∃r3 r6 r7,Γ=[some (.val false Q.P7),some (.val false ws),some (.val true ms),r3,some (.val true (ms.map fun k=>xx k Q.P7)),some (.val true q),r6,r7]/\(q=1\/(Q.aR q=true/\17<=q))/\q<=q0) (fun q=>(q0-q).toNat) 1 ⟨none,none,none,rfl,.inl rfl,by omega⟩ ?_;rintro q Γ' ⟨r3,r6,r7,rfl,hq,hle⟩;have q1:1<=q:=by omega
 refine⟨true,di ni,fun _=>?_,fun z=>nomatch z⟩;refine ah 6 bp.nd (bS c_wishes_without (hr.mono (by decide)) rfl (aa 5) (aa 0) (aa 1) ⟨by omega,rfl,hw⟩) ?_;refine oA (as:=ms.zip (ms.map fun k=>xx k Q.P7)) (fun i Γ=>(∀k∈ms.take i,Av (xx k Q.P7) (sj q Q.P7 ws)=false)/\∃r3 r7,Γ=[some (.val false Q.P7),some (.val false ws),some (.val true ms),r3,some (.val true (ms.map fun k=>xx k Q.P7)),some (.val true q),some (.val true (sj q Q.P7 ws)),r7]) (x9 3 7 bp.nd) (sZ rfl B.zip (aa 2) (aa 4)) ⟨(fun k hk=>by rw[List.take_zero] at hk;cases hk),r3,r7,rfl⟩ ?_ ?_
 .rintro i u Γ' hu ⟨ih,r3,r7,rfl⟩;have hz:=(List.getElem?_zip_eq_some (z:=u)).mp hu;have mk:=List.mem_of_getElem? hz.1;obtain⟨k1,k2,k3⟩:=mm _ mk
  have e2:u.2=xx u.1 Q.P7:=by
   have:=hz.2;rw[List.getElem?_map,hz.1] at this;exact(Option.some.inj this).symm
  refine aL (di (aE c_are_among (hr.mono (by decide)) rfl (aa (a:=u.2) 7) (aa 6) True.intro)) (fun hc=>?_) (fun hc=>?_)
  .rw[e2] at hc;have hj:=(xO hl hw (show q≠0 by omega) k1).mp hc;refine ax (aM (aa (a:=u.1) 3) (aa 5) ((show Sm 15 u.1 by unfold Sm;omega).ok (show Sm 13 q by unfold Sm;omega))) ⟨u.1*q,⟨u.1,q,rfl,hp.mem_iff.mp mk,?_,hj⟩,rfl⟩;rcases hq with z|z
   .exact .inl z
   .exact .inr ⟨z.1,z.2,by omega⟩
  .refine ay ⟨fun k hk=>?_,_,_,rfl⟩;rw[List.take_add_one,hz.1] at hk;rcases List.mem_append.mp hk with w|w
   .exact ih k w
   .rw[List.mem_singleton.mp w,<-e2];exact hc
 .rintro Γ' ⟨ih,r3,r7,rfl⟩;have lz:(ms.zip (ms.map fun k=>xx k Q.P7)).length=ms.length:=by rw[List.length_zip,List.length_map,Nat.min_self]
  rw[lz,List.take_length] at ih
  have hne':q≠q0:=fun z=>by
   have:=ih k0 (hp.mem_iff.mpr hk0);rw[z,(xO hl hw (show q0≠0 by omega) (f6.2 k0 hk0).1).mpr hq0] at this;cases this
  refine ah 5 bp.nd (bh c_next_prime (hr.mono (by decide)) rfl (Cq rfl rfl B.max (aa 5) (mV (a:=13) (mQ rfl g_SMALL_PLACES) ae rfl)) ⟨by split<;>omega,by split<;>omega⟩) ?_;rcases hq with z|⟨z1,z2⟩
  .have e:(if (13:Int)>q then (13:Int) else q)=13:=if_pos (by omega);rw[e,e17];exact ay ⟨17,⟨_,_,_,rfl,.inr ⟨Q.mU 17 (by decide),by decide⟩,p2⟩,by omega⟩
  .have e:(if (13:Int)>q then (13:Int) else q)=q:=if_neg (by omega);rw[e];have h1:=Q.nv (k:=q+1) p1 (by omega) ho (by omega) (by omega);have h2:=Q.ue (k:=q+1) (by omega) (by omega);exact ay ⟨_,⟨_,_,_,rfl,.inr ⟨Q.nj (by omega),by omega⟩,h1⟩,by omega⟩
open Q (Due Res Fh du P7 aq nD t6 d9 Q6 aR)
theorem mC(c_class_at:aN P w K mg base 3 "class_at" ["k","p"] (cT K (fun k p=>k≠0/\(p=0\/(2<=p/\p<2^62))) true jq))(k p:Int)(hk:k≠0)(hp:p∈P7):Body P w K mg base hV "is_square_at" cW f 3 [.val false k,.val false p] (RT true (nD k p)):=by
 intro cdv A outer s H E hr;refine ax (bx (vT (α:=Int⊕(Int×Int)) (i4 hr)) (aE c_class_at (hr.mono (by decide)) rfl (aa 0) (aa 1) ⟨hk,oD hp⟩) (jg (ao av (aa 1) ae) (fun _=>yJ (β:=Int×Int) (a:=(1:Int)) ae) (fun _=>uR (α:=Int) (a:=((0:Int),(1:Int))) (bQ ae ae)))) ?_;show Bd.val _ _=Bd.val _ _;congr 1;unfold nD jq;by_cases h:p=0
 .rw[if_pos h,if_pos h,if_pos (decide_eq_true h)];by_cases z:0<k
  .rw[if_pos z,decide_eq_true z];exact decide_eq_true rfl
  .rw[if_neg z,decide_eq_false z];exact decide_eq_false fun e=>by cases e
 .rw[if_neg h,if_neg h,if_neg (by rw[decide_eq_false h];decide)];by_cases z:Q.cls k p=(0,1)
  .rw[decide_eq_true z];exact decide_eq_true (by rw[z])
  .rw[decide_eq_false z];exact decide_eq_false fun e=>z (Sum.inr.inj e)
theorem Du{p:Int}(hp:p∈P7)(h0:p≠0)(h2:p≠2):Q.NR p/\Sm 4 p/\Sm 4 (Q.qf p):=by
 obtain⟨_,pp,_⟩:=(Q.cc hp).resolve_left h0;have hn:=Q.tL pp h2;obtain⟨g,g1,g2,g3⟩:=Q.Ct pp h2;obtain⟨n1,n2,n3⟩:=Q.oU hn;have:¬g<Q.qf p:=fun z=>n3 g g1 z g3;simp only[P7,List.mem_cons,List.not_mem_nil,or_false] at hp;refine⟨hn,?_,?_⟩
 .unfold Sm;omega
 .unfold Sm;omega
include B in
theorem p8(g_AT_NOUGHT:qg K mg "AT_NOUGHT" [1,-1])(g_AT_TWO:qg K mg "AT_TWO" [1,3,5,7,2,6,10,14])(c_least_no_square:aN P w K mg base 3 "least_no_square" ["p"] (gS K (fun p=>Q.NR p/\2<=p/\p<2^62) true Q.qf))(p:Int)(hp:p∈P7):Body P w K mg base jt "samples_at" eC f 3 [.val false p] (RT true (t6 p)):=by
 intro cdv A outer s H E hr;unfold t6;refine aL (ao av (aa 0) ae) (fun hc=>?_) (fun hc=>?_)
 .rw[if_pos (of_decide_eq_true hc)];exact ax (pE rfl B.list (mQ rfl g_AT_NOUGHT)) rfl
 have h0:p≠0:=of_decide_eq_false hc;rw[if_neg h0];refine aL (ao av (aa 0) ae) (fun hc=>?_) (fun hc=>?_)
 .rw[if_pos (of_decide_eq_true hc)];exact ax (pE rfl B.list (mQ rfl g_AT_TWO)) rfl
 have h2:p≠2:=of_decide_eq_false hc;rw[if_neg h2];obtain⟨n1,n2,n3⟩:=Du hp h0 h2;have:=(oD hp).resolve_left h0;refine ah 1 iW.nd (bh c_least_no_square (hr.mono (by decide)) rfl (aa 0) ⟨n1,this⟩) ?_;exact ax (dM (as:=[1,Q.qf p,p,p*Q.qf p]) (b:=true) (aD ae (aD (aa 1) (aD (gT (b':=true) (aa 0)) (aD (aM (aa 0) (aa 1) (n2.ok n3)) bG)))) (by show 4<=1000;decide)) rfl
noncomputable def yW(n:Int)(ns:List Int)(p:Int):jX:=((t6 p).filter fun k=>!decide (aq k (-n) p=decide (p∈ns))).map fun k=>jq k p
theorem nF(c_class_at:aN P w K mg base 3 "class_at" ["k","p"] (cT K (fun k p=>k≠0/\(p=0\/(2<=p/\p<2^62))) true jq))(c_samples_at:aN P w K mg base 4 "samples_at" ["p"] (gS K (fun(p:Int)=>p∈P7) true t6))(c_says:aN P w K mg base 4 "says" ["a","b","p"] (kF K (fun a b p=>a≠0/\b≠0/\(p=0\/(2<=p/\p<2^62))) true Q.aq))(n:Int)(ns:List Int)(p:Int)(hn:n≠0)(hp:p∈P7):Body P w K mg base fM "classes_for" cK f 4 [.val false n,.val false ns,.val false p] (RT true (yW n ns p)):=by
 intro cdv A outer s H E hr;refine ax (gu (f:=fun k:Int=>jq k p) (p:=fun k=>!decide (aq k (-n) p=decide (p∈ns))) (b':=true) ["k"] [0,1,2] (dD (af cK) fM rfl rfl (by decide +kernel)) (cD (bh c_samples_at (hr.mono (by decide)) rfl (aa 2) hp)) (b9 0) (fun C s H fp=>fX 0 ["k","number","noes","p"]) bL (fun i k hi C s H fp=>jc (ao (kH (α:=Bool) (i4 hr)) (bS c_says (hr.mono (by decide)) rfl (aa 0) (iU (aa 1)) (aa 3) ⟨Q.x4 hp k (List.mem_of_getElem? hi),by omega,oD hp⟩) (bx mr (aa 3) (aa 2)))) (fun i k hi _ C s H fp=>aE c_class_at (hr.mono (by decide)) rfl (aa 0) (aa 3) ⟨Q.x4 hp k (List.mem_of_getElem? hi),oD hp⟩) (by have:=Q.xy p;omega)) rfl
theorem vP{j:Nat}(hj:j<7):P7.getD j 0∈P7:=by
 rw[List.getD_eq_getElem?_getD,List.getElem?_eq_getElem (show j<P7.length from hj)];exact List.getElem_mem _
theorem Gn{p:Int}(hp:p∈P7):∃j,j<7/\P7.getD j 0=p:=by
 obtain⟨j,hj,e⟩:=List.mem_iff_getElem.mp hp;exact⟨j,hj,by rw[List.getD_eq_getElem?_getD,List.getElem?_eq_getElem hj,e];rfl⟩
theorem xS{n:Int}{ns:List Int}{j:Nat}(hj:j<7):(P7.map (yW n ns)).getD j []=yW n ns (P7.getD j 0):=by
 rw[List.getD_eq_getElem?_getD,List.getElem?_map,List.getD_eq_getElem?_getD,List.getElem?_eq_getElem (show j<P7.length from hj)];rfl
theorem Ge{n:Int}{ns:List Int}:BR (P7.map (yW n ns)):=by
 refine⟨rfl,fun cs hc=>?_,fun j hj c hc=>?_⟩
 .obtain⟨p,hp,rfl⟩:=List.mem_map.mp hc;unfold yW;rw[List.length_map];have:=Q.xy p;have:=List.length_filter_le (fun k=>!decide (aq k (-n) p=decide (p∈ns))) (t6 p);omega
 .rw[xS hj] at hc;obtain⟨k,hk,rfl⟩:=List.mem_map.mp hc;exact⟨k,Q.x4 (vP hj) k (List.mem_filter.mp hk).1,rfl⟩
theorem Gx{g n:Int}{ns:List Int}(h:Due 2 g n ns):∀j,j<7->(P7.map (yW n ns)).getD j []≠[]:=fun j hj=>by
 rw[xS hj];have hp:=vP hj;generalize P7.getD j 0=p at *;have n0:=Q.bj h.nm;obtain⟨k,hk,e⟩:=Q.EJ hp (show -n≠0 by omega) (!decide (p∈ns)) (fun z=>h.two rfl p (by simpa using z));refine List.ne_nil_of_mem (a:=jq k p) (List.mem_map.mpr ⟨k,List.mem_filter.mpr ⟨hk,?_⟩,rfl⟩);rw[e];cases decide (p∈ns)<;>rfl
theorem DU{n m:Int}{ns:List Int}(h:∀j,j<7->d9 m (P7.getD j 0)∈(P7.map (yW n ns)).getD j []):∀p∈P7,aq m (-n) p=!decide (p∈ns):=fun p hp=>by
 obtain⟨j,hj,e⟩:=Gn hp;have:=h j hj;rw[xS hj,e] at this;obtain⟨k,hk,ek⟩:=List.mem_map.mp this;rw[Q.yA (show d9 m p=d9 k p from ek.symm)];have:=(List.mem_filter.mp hk).2;revert this;cases aq k (-n) p<;>cases decide (p∈ns)<;>decide
set_option maxHeartbeats 1000000 in
include B in
theorem ub(g_SMALL_PLACES:qg K mg "SMALL_PLACES" [0,2,3,5,7,11,13])(c_classes_for:aN P w K mg base 5 "classes_for" ["number","noes","p"] (kF K (fun(n:Int) (_:List Int) (p:Int)=>n≠0/\p∈P7) true yW))(c_number_among:aN P w K mg base 5 "number_among" ["places","wishes"] (nG K (fun(ps:List Int) (ws:List jX)=>ps=P7/\BR ws/\∀j,j<7->ws.getD j []≠[]) true (fun _ ws (n:Int)=>Ik ws n)))(c_joined:aN P w K mg base 2 "joined" ["a","b"] (cT K A3 true nB))(n:Int)(ns:List Int)(h:∃g,Due 2 g n ns):Body P w K mg base jh "two_with" eM f 5 [.val false n,.val false ns] (xu true (fun row=>∀g,Due 2 g n ns->Res 2 g n ns row)):=by
 intro cdv A outer s H E hr;obtain⟨g0,hd⟩:=h;have n0:=Q.bj hd.nm;have nl:=Q.dW hd.nm;refine Ah 2 hE.nd (b':=true) (f:=yW n ns) ["p"] [0,1] (dD (af eM) jh rfl rfl (by decide +kernel)) (sO (mQ rfl g_SMALL_PLACES)) (b9 0) (fun C s H fp=>fX 0 ["p","number","noes"]) bL (fun j p hp C s H fp=>bS c_classes_for (hr.mono (by decide)) rfl (aa 1) (aa 2) (aa 0) ⟨n0,List.mem_of_getElem? hp⟩) (by decide) ?_;refine oW 3 hE.nd (mF c_number_among (hr.mono (by decide)) rfl (pE rfl B.list (mQ rfl g_SMALL_PLACES)) (aa (a:=P7.map (yW n ns)) 2) ⟨rfl,Ge,Gx hd⟩) ?_;rintro m ⟨k,q,rfl,hk,hq,hj⟩;have k0:=Q.bj hk;have kl:=Q.dW hk;have a0:k*q≠0:=Int.mul_ne_zero k0 (by omega);have sa:Sm 30 (k*q):=(Sm.mul (m:=15) (n:=15) (by unfold Sm;omega) (by unfold Sm;omega));refine ax (dM (as:=[k*q,nB (k*q) n]) (b:=true) (aD (aa 3) (aD (aE c_joined (hr.mono (by decide)) rfl (aa 3) (aa 0) ⟨a0,n0,sa.le (by decide),(show Sm 15 n by unfold Sm;omega).le (by decide)⟩) bG)) (by show 2<=1000;decide)) ⟨_,fun g hg=>?_,rfl⟩;exact Q.AR hg hk hq (DU hj)
noncomputable def CM(s g n:Int):Int:=(if 0<g then (1:Int) else -1)*(if s=3 then ((Q.jn n 30030).natAbs:Int) else 1)
include B in
theorem tK(g_ALL_SMALL_PRIMES:sG mg "ALL_SMALL_PRIMES" 30030)(c_joined:aN P w K mg base 2 "joined" ["a","b"] (cT K A3 true nB))(s0 g n:Int)(hn:n∈du 6):Body P w K mg base mE "first_of" gM f 2 [.val false s0,.val false g,.val false n] (RT true (CM s0 g n)):=by
 intro cdv A outer s H E hr;have n0:=Q.bj hn;have nl:=Q.dW hn;refine ah 3 kN.nd (jg (ao av (aa 0) ae) (fun _=>g6 rfl B.abs (aE c_joined (hr.mono (by decide)) rfl (aa 2) (yp rfl g_ALL_SMALL_PRIMES) ⟨n0,by decide,(show Sm 15 n by unfold Sm;omega).le (by decide),(show Sm 15 30030 by unfold Sm;decide).le (by decide)⟩)) (fun _=>ae)) ?_;refine ax (jg (ao cJ (aa 1) ae) (fun _=>aa 3) (fun _=>iU (aa 3))) ?_;show Bd.val _ _=Bd.val _ _;congr 1;unfold CM;rw[mZ]
 have e:(if decide (s0=3)=true then ((nB n 30030).natAbs:Int) else 1)=(if s0=3 then ((Q.jn n 30030).natAbs:Int) else 1):=by
  by_cases z:s0=3
  .rw[if_pos z,if_pos (decide_eq_true z)];rfl
  .rw[if_neg z,if_neg (by rw[decide_eq_false z];decide)]
 rw[e];by_cases z:0<g
 .rw[if_pos z,if_pos (decide_eq_true z),Int.one_mul]
 .rw[if_neg z,if_neg (by rw[decide_eq_false z];decide),Int.neg_one_mul]
def Ho(a b:List Int):List Int:=P7.filter fun p=>decide (p∈a) != decide (p∈b)
theorem mS(g_SMALL_PLACES:qg K mg "SMALL_PLACES" [0,2,3,5,7,11,13])(a b:List Int):Body P w K mg base eU "in_one_alone" cm f kk [.val false a,.val false b] (RT true (Ho a b)):=by
 intro cdv A outer s H E hr;refine ax (gu (as:=P7) (f:=fun p:Int=>p) (p:=fun p=>decide (p∈a) != decide (p∈b)) (b':=true) ["p"] [0,1] (dD (af cm) eU rfl rfl (by decide +kernel)) (sO (mQ rfl g_SMALL_PLACES)) (b9 0) (fun C s H fp=>fX 0 ["p","one","other"]) bL (fun i p hi C s H fp=>jc (ao (kH (α:=Bool) (i4 hr)) (bx mr (aa 0) (aa 1)) (bx mr (aa 0) (aa 2)))) (fun i p hi _ C s H fp=>gT (b':=true) (aa 0)) (by decide)) ?_;show Bd.val _ _=Bd.val _ _;congr 1;rw[List.map_id'];rfl
theorem lI{k:Int}(h:k∈du 6):oF k=k:=oV (s:=1) (Q.bj h) (by have:=Q.dW h;omega) (Q.lD h) (by decide) (by omega)
theorem E_{a b:Int}(ha:a∈du 6)(hb:b∈du 6):Fy a b:=by
 have a0:=Q.bj ha;have b0:=Q.bj hb;have al:=Q.dW ha;have bl:=Q.dW hb;have ea:=lI ha;have eb:=lI hb;refine⟨xV a0 (by omega),xV b0 (by omega),?_,by rw[ea];exact a0,by rw[eb];exact b0,fun p hp=>?_⟩
 .rw[ea,eb];refine⟨by show 2<=100;decide,fun k hk=>?_,?_⟩
  .simp only[List.mem_cons,List.not_mem_nil,or_false] at hk;rcases hk with rfl|rfl<;>omega
  .have l1:=Q.ve (k:=(a.natAbs:Int)) (by omega) (by omega);have l2:=Q.ve (k:=(b.natAbs:Int)) (by omega) (by omega);unfold w8;simp only[List.flatMap_cons,List.flatMap_nil,List.length_cons,List.length_append,List.length_map,List.length_nil];omega
 .rw[ea,eb] at hp;unfold BI w8 at hp;rw[h9,List.mem_cons,List.mem_flatMap] at hp;rcases hp with rfl|⟨x,hx,hp⟩
  .exact⟨by decide,by decide⟩
  .have hx':1<=(x.natAbs:Int)/\(x.natAbs:Int)<=30030:=by
    simp only[List.mem_cons,List.not_mem_nil,or_false] at hx;rcases hx with rfl|rfl<;>omega
   obtain⟨p1,p2⟩:=(Q.jC hx'.1).mp hp;have:=Int.le_of_dvd (by omega) p2;exact⟨Q.au p1,by omega⟩
theorem Dj{a b p:Int}(ha:a∈du 6)(hb:b∈du 6)(hp:p∈P7):p∈Dm a b↔aq a b p=false:=by
 have a0:=Q.bj ha;have b0:=Q.bj hb;unfold Dm IX;rw[lI ha,lI hb,List.mem_filter];constructor
 .rintro⟨_,h⟩;simpa using h
 .intro h;refine⟨?_,by simpa using h⟩;rcases Q.cc hp with rfl|⟨p0,pp,_⟩
  .exact List.mem_cons_self
  .refine List.mem_cons_of_mem _ ?_;unfold BI w8;rw[h9,List.mem_cons,List.mem_flatMap];by_cases p2:p=2
   .exact .inl p2
   .have key:p∣a\/p∣b:=by
     apply Classical.byContradiction;intro hn;rw[Q.fQ pp p2 (fun z=>hn (.inl z)) fun z=>hn (.inr z)] at h;cases h
    rcases key with z|z
    .exact .inr ⟨a,by simp,(Q.jC (by omega)).mpr ⟨pp,Int.dvd_natAbs.mpr z⟩⟩
    .exact .inr ⟨b,by simp,(Q.jC (by omega)).mpr ⟨pp,Int.dvd_natAbs.mpr z⟩⟩
set_option maxHeartbeats 1000000 in
include B in
theorem uz(c_all_noes:aN P w K mg base 7 "all_noes" ["a","b"] (cT K Fy true Dm))(c_joined:aN P w K mg base 2 "joined" ["a","b"] (cT K A3 true nB))(c_two_with:aN P w K mg base 6 "two_with" ["number","noes"] (nG K (fun(n:Int) (ns:List Int)=>∃g,Due 2 g n ns) true (fun n ns row=>∀g,Due 2 g n ns->Res 2 g n ns row)))(c_first_of:aN P w K mg base 3 "first_of" ["size","signs","number"] (kF K (fun(_ _:Int) (n:Int)=>n∈du 6) true CM))(c_in_one_alone:aN P w K mg base 1 "in_one_alone" ["one","other"] (cT K (fun(_ _:List Int)=>True) true Ho))(m:Nat)(c_row_with:aN P w K mg base (8+m) "row_with" ["size","signs","number","noes"] (wD K (fun s g n ns=>Due s g n ns/\s<=(m:Nat)) true Res))(s0 g n:Int)(ns:List Int)(h:Due s0 g n ns)(hm:s0<=(m+1:Nat)):Body P w K mg base l5 "row_with" eW f (8+m) [.val false s0,.val false g,.val false n,.val false ns] (xu true (Res s0 g n ns)):=by
 intro cdv A outer s H E hr;have hs1:=h.s1;have hs8:=h.s8;refine aL (ao av (aa 0) ae) (fun hc=>?_) (fun hc=>?_)
 .have e:s0=1:=of_decide_eq_true hc;subst e;exact ax (dM (as:=[n]) (b:=true) (aD (gT (b':=true) (aa 2)) bG) (by show 1<=1000;decide)) ⟨_,Q.BA h,rfl⟩
 have h1:s0≠1:=of_decide_eq_false hc;refine aL (ao av (aa 0) ae) (fun hc=>?_) (fun hc=>?_)
 .have e:s0=2:=of_decide_eq_true hc;subst e;exact sQ (mF c_two_with (hr.mono (by omega)) rfl (aa 2) (aa 3) ⟨g,h⟩) fun row hrow=>⟨row,hrow g h,rfl⟩
 have h2:s0≠2:=of_decide_eq_false hc;have hn:=h.nm;have n0:=Q.bj hn;have nl:=Q.dW hn;have F:=Q.E1 (s:=s0) (g:=g) hn (f:=CM s0 g n) rfl;have f0:=Q.bj F.fm;have fl:=Q.dW F.fm;refine ah 4 dQ.nd (bS c_first_of (hr.mono (by omega)) rfl (aa 0) (aa 1) (aa 2) hn) ?_;refine ah 5 dQ.nd (aE c_joined (hr.mono (by omega)) rfl (aa 2) (aa 4) ⟨n0,f0,(show Sm 15 n by unfold Sm;omega).le (by decide),(show Sm 15 (CM s0 g n) by unfold Sm;omega).le (by decide)⟩) ?_;generalize CM s0 g n=a at *;have F:Fh s0 g n a (nB n a):=F;have lm:=F.lm;have han:=fun p hp=>Dj (p:=p) F.fm F.lm hp;generalize nB n a=l at *;have D:=Q.zx h (by omega) F han;refine oW 6 dQ.nd (qz c_row_with (hr.mono (Nat.le_refl _)) rfl (cG (aa 0) ae) (Cq rfl rfl B.max (cG (aa 1) ae) ae) (aa 5) (aE c_in_one_alone (hr.mono (by omega)) rfl (aa 3) (aE c_all_noes (hr.mono (by omega)) rfl (aa 4) (aa 5) (E_ F.fm lm)) True.intro) ⟨?_,by omega⟩) ?_
 .have e:(if (0:Int)>g-1 then (0:Int) else g-1)=(if g-1>0 then g-1 else 0):=by split<;>split<;>omega
  rw[e];exact D
 intro row hR;have e:(if (0:Int)>g-1 then (0:Int) else g-1)=(if g-1>0 then g-1 else 0):=by split<;>split<;>omega
 rw[e] at hR;have hl:=hR.len;exact ax (ng (dM (as:=[a]) (b:=true) (aD (aa 4) bG) (by show 1<=1000;decide)) (aa 6) (by show 1+row.length<=1000;omega)) ⟨_,Q.y8 h (by omega) F han hR,rfl⟩
section
include B
variable(c_all_noes:aN P w K mg base 7 "all_noes" ["a","b"] (cT K Fy true Dm))(c_joined:aN P w K mg base 2 "joined" ["a","b"] (cT K A3 true nB))(c_two_with:aN P w K mg base 6 "two_with" ["number","noes"] (nG K (fun(n:Int) (ns:List Int)=>∃g,Due 2 g n ns) true (fun n ns row=>∀g,Due 2 g n ns->Res 2 g n ns row)))(c_first_of:aN P w K mg base 3 "first_of" ["size","signs","number"] (kF K (fun(_ _:Int) (n:Int)=>n∈du 6) true CM))(c_in_one_alone:aN P w K mg base 1 "in_one_alone" ["one","other"] (cT K (fun(_ _:List Int)=>True) true Ho))
include c_all_noes c_joined c_two_with c_first_of c_in_one_alone
theorem jF{h:Heap}(D:Df K "row_with" eW)(X:K.In h)(G:h.Ns mainGlobals mg):∀m:Nat,aN P w K mg base (8+m) "row_with" ["size","signs","number","noes"] (wD K (fun s g n ns=>Due s g n ns/\s<=(m:Nat)) true Res)
 |0=>D.dt X G (fun _ _ _ _ _ _ us hl=>match us,hl with|[_,_,_,_],_=>rfl) fun f fd F=>GJ F dQ rfl fun a c d e hp=>absurd hp.1.s1 (by have:=hp.2;omega)
 |m+1=>D.dt X G (fun _ _ _ _ _ _ us hl=>match us,hl with|[_,_,_,_],_=>rfl) fun f fd F=>GJ F dQ rfl fun a c d e hp=>uz B c_all_noes c_joined c_two_with c_first_of c_in_one_alone m (jF D X G m) a c d e hp.1 hp.2
end
structure kI where
 s:Int
 g:Int
 n:Int
 ns:List Int
def Iq(w:kI):PyData:=.tuple [.int w.s,.int w.g,.int w.n,.list (w.ns.map .int)]
instance:Py kI where
 rp K N H v a:=Py.rp K N H v (Dt.mk (Iq a))
 tr l t h:=Py.tr (α:=Dt) l t h
theorem zY{X:Cx}{Γ:aC}{e:Expr}{b:Bool}{w:kI}(h:E X Γ e b w):E X Γ e b (Dt.mk (Iq w)):=sX h fun N H v r=>r
theorem Dr{X:Cx}{Γ:aC}{e:Expr}{b:Bool}{w:kI}(h:E X Γ e b (Dt.mk (Iq w))):E X Γ e b w:=sX h fun N H v r=>r
theorem qR{X:Cx}{Γ:aC}{e:Expr}{b:Bool}{w:kI}{pos p:Pos}{j:Nat}(h:E X Γ e b w):E X Γ (.Subscript e (.Constant (.int 0) j p) pos) b w.s:=kj (mV (pK (zY h)) ae rfl)
theorem zL{X:Cx}{Γ:aC}{e:Expr}{b:Bool}{w:kI}{pos p:Pos}{j:Nat}(h:E X Γ e b w):E X Γ (.Subscript e (.Constant (.int 1) j p) pos) b w.g:=kj (mV (pK (zY h)) ae rfl)
theorem zU{X:Cx}{Γ:aC}{e:Expr}{b:Bool}{w:kI}{pos p:Pos}{j:Nat}(h:E X Γ e b w):E X Γ (.Subscript e (.Constant (.int 2) j p) pos) b w.n:=kj (mV (pK (zY h)) ae rfl)
theorem qw{X:Cx}{Γ:aC}{e:Expr}{b:Bool}{w:kI}{pos p:Pos}{j:Nat}(h:E X Γ e b w):E X Γ (.Subscript e (.Constant (.int 3) j p) pos) b w.ns:=vQ (mV (pK (zY h)) ae rfl)
structure kX(w:kI):Prop where
 s1:1<=w.s
 s8:w.s<=8
 g0:0<=w.g
 gs:w.g<=w.s
 nm:w.n∈du 6
 su:w.ns=P7.filter fun p=>decide (p∈w.ns)
theorem kX.sub{w:kI}(h:kX w):∀p∈w.ns,p∈P7:=fun p hp=>by
 rw[h.su] at hp;exact(List.mem_filter.mp hp).1
theorem kX.len{w:kI}(h:kX w):w.ns.length<=7:=by
 rw[h.su];exact Nat.le_trans (List.length_filter_le _ _) (by decide)
noncomputable def sD(s g n:Int)(ns:List Int):Bool :=
 if ((!decide (decide (n<0)=decide ((s-g)%2=1))) || decide ((ns.length:Int)%2=1))=true then false
 else if (!decide (decide ((0:Int)∈ns)=decide ((s-g)*(s-g-1)/2%2=1)))=true then false
 else if s=1 then decide ((ns.length:Int)=0) else decide (2<s) || !(ns.map (nD (-n))).any id
theorem EM{w:kI}(h:kX w)(hd:sD w.s w.g w.n w.ns=true):Due w.s w.g w.n w.ns:=by
 unfold sD at hd;split at hd
 .cases hd
 rename_i h1;split at hd
 .cases hd
 rename_i h2;rw[Bool.or_eq_true,not_or] at h1;have e1:decide (w.n<0)=decide ((w.s-w.g)%2=1):=by simpa using h1.1
 have e2:¬(w.ns.length:Int)%2=1:=by simpa using h1.2
 have e3:decide ((0:Int)∈w.ns)=decide ((w.s-w.g)*(w.s-w.g-1)/2%2=1):=by simpa using h2
 refine⟨h.s1,h.s8,h.g0,h.gs,h.nm,h.sub,h.len,decide_eq_decide.mp e1,?_,decide_eq_decide.mp e3,fun e=>?_,fun e p hp=>?_⟩
 .have:P7.filter (fun p=>!(!decide (p∈w.ns)))=w.ns:=by
   conv=>rhs;rw[h.su]
   congr 1;funext p;rw[Bool.not_not]
  show decide ((P7.filter (fun p=>!(!decide (p∈w.ns)))).length%2=0)=true;rw[this];exact decide_eq_true (by omega)
 .rw[if_pos e] at hd;have:=of_decide_eq_true hd;exact List.length_eq_zero_iff.mp (by omega)
 .rw[if_neg (by omega),decide_eq_false (by omega),Bool.false_or,Bool.not_eq_true'] at hd;cases e4:nD (-w.n) p with
  |false=>rfl
  |true =>
   rw[List.any_eq_false] at hd;exact absurd (show id (nD (-w.n) p)=true from e4) (hd _ (List.mem_map.mpr ⟨p,hp,rfl⟩))
set_option maxHeartbeats 1000000 in
include B in
theorem yU(c_is_square_at:aN P w K mg base 4 "is_square_at" ["k","p"] (cT K (fun(k p:Int)=>k≠0/\p∈P7) true nD))(wi:kI)(h:kX wi):Body P w K mg base mW "can_be" hU f 4 [.val false wi] (RT true (sD wi.s wi.g wi.n wi.ns)):=by
 intro cdv A outer s H E hr;have s1:=h.s1;have s8:=h.s8;have g0:=h.g0;have gs:=h.gs;have hsub:=h.sub;have hlen:=h.len;have n0:=Q.bj h.nm;refine ah 1 iG.nd (cG (qR (aa 0)) (zL (aa 0))) ?_;refine ah 2 iG.nd (zU (aa 0)) ?_;refine ah 3 iG.nd (qw (aa 0)) ?_;unfold sD;refine aL (TW.t (fV (ao (kH (α:=Bool) (i4 hr)) (bx jU (aa 2) ae) (bx av (ic (aG (aa 1) ae (by decide)) (a_ (by decide))) ae)) fun _=>(fI (ao av (ic (aG (fL rfl B.len (aa 3)) ae (by decide)) (a_ (by decide))) ae)))) (fun hc=>?_) (fun hc=>?_)
 .rw[if_pos hc];exact ax ni rfl
 rw[if_neg (by rw[hc];decide)];refine aL (ao (kH (α:=Bool) (i4 hr)) (bx mr ae (aa 3)) (bx av (ic (a':=(wi.s-wi.g)*(wi.s-wi.g-1)/2%2) (aG (aI (aM (aa 1) (cG (aa 1) ae) ((show Sm 4 (wi.s-wi.g) by unfold Sm;omega).ok (show Sm 4 (wi.s-wi.g-1) by unfold Sm;omega))) ae jk) ae (by decide)) (by rw[a_ (by decide),Int.fdiv_eq_ediv_of_nonneg _ (by decide)])) ae)) (fun hc=>?_) (fun hc=>?_)
 .rw[if_pos hc];exact ax ni rfl
 rw[if_neg (by rw[hc];decide)];refine aL (ao av (qR (aa 0)) ae) (fun hc=>?_) (fun hc=>?_)
 .rw[if_pos (of_decide_eq_true hc)];exact ax (bx av (fL rfl B.len (aa 3)) ae) rfl
 rw[if_neg (of_decide_eq_false hc)];exact ax (BE (bx cJ (qR (aa 0)) ae) fun _=>(u7 (GA (FV rfl rfl B.any (pB (b':=true) (f:=nD (-wi.n)) ["p"] [2] (dD (af hU) mW rfl rfl (by decide +kernel)) (cD (aa 3)) (b9 0) (fun C s H fp=>fX 0 ["p","number"]) bL (fun j p hp C s H fp=>aE c_is_square_at (hr.mono (by decide)) rfl (iU (aa 1)) (aa 0) ⟨by omega,hsub p (List.mem_of_getElem? hp)⟩) (by omega)))))) rfl
def Gk(w:kI)(o:Option (List Int)):Prop:=(sD w.s w.g w.n w.ns=true->∃row,o=some row/\Res w.s w.g w.n w.ns row)/\(sD w.s w.g w.n w.ns=false->o=none)
theorem Br(c_can_be:aN P w K mg base 5 "can_be" ["wish"] (gS K kX true (fun w=>sD w.s w.g w.n w.ns)))(c_row_with:aN P w K mg base 16 "row_with" ["size","signs","number","noes"] (wD K (fun s g n ns=>Due s g n ns/\s<=(8:Nat)) true Res))(wi:kI)(h:kX wi):Body P w K mg base u6 "built" k_ f 16 [.val false wi] (xu true (Gk wi)):=by
 intro cdv A outer s H E hr;have s8:=h.s8;refine sQ (G7 (post:=Gk wi) (di (bh c_can_be (hr.mono (by decide)) rfl (aa 0) h)) (fun hc=>?_) (fun hc=>?_)) fun o ho=>⟨o,ho,rfl⟩
 .have D:=EM h hc;exact A7 (qz c_row_with (hr.mono (by decide)) rfl (qR (aa 0)) (zL (aa 0)) (zU (aa 0)) (qw (aa 0)) ⟨D,by omega⟩) fun row hR=>⟨fun _=>⟨row,rfl,hR⟩,fun z=>by rw[hc] at z;cases z⟩
 .exact Gf (rB (α:=List Int)) ⟨fun z=>(by rw[hc] at z;cases z),fun _=>rfl⟩
def qS(xs:List Int)(k:Int):Int:=if k<(xs.length:Int) then xs.getD k.toNat 0 else 0
include B in
theorem nE(xs:List Int)(k:Int)(h0:0<=k):Body P w K mg base iY "_law_cell_at" dE f kk [.val false xs,.val false k] (RT true (qS xs k)):=by
 intro cdv A outer s H E hr;refine aL (ao jU (aa 1) (fL rfl B.len (aa 0))) (fun hc=>?_) (fun hc=>?_)
 .have hc':k<(xs.length:Int):=by simpa using hc
  have e:qS xs k=xs.getD k.toNat 0:=if_pos hc';rw[e];exact ax (gT (vi (aa 0) (aa 1) (zD (d:=0) h0 hc'))) rfl
 .have hc':¬k<(xs.length:Int):=by simpa using hc
  have e:qS xs k=0:=if_neg hc';rw[e];exact ax ae rfl
def Jq(c k j:Int):Int:=(((c.natAbs:Int).fmod 2147483647+97*k+131*j+13)*(16807+j*j+k)).fmod 2147483647
def Hj(c k:Int):Nat->Int
 |0=>0
 |i+1=>Hj c k i*2147483659+(Jq c k i*48271).fmod 2147483647
def GG(c k:Int):Int:=if 10^18<=(c.natAbs:Int) then c else Hj c k 9
include B in
theorem xb(c k:Int)(h0:0<=k)(h1:k<=100):Body P w K mg base nZ "_law_big" iC f kk [.val false c,.val false k] (RT true (GG c k)):=by
 intro cdv A outer s H E hr;have ab:∀i:Int,(if i<0 then -i else i)=(i.natAbs:Int):=fun i=>by split<;>omega
 refine aL (ao CD (g6 rfl B.abs (aa 0)) (FN ae ae Ju)) (fun hc=>?_) (fun hc=>?_)
 .rw[ab] at hc;have e:GG c k=c:=if_pos (by simpa using hc);rw[e];exact ax (gT (aa 0)) rfl
 rw[ab] at hc;have e:GG c k=Hj c k 9:=if_neg (by simpa using hc);rw[e];refine ah 2 dC.nd ae ?_;refine gF (fun i Γ=>∃r r',Γ=[some (.val false c),some (.val false k),some (.val true (Hj c k i)),r,r']) rfl B.range (cQ 3 dC.nd) ae (by decide) (by decide) ⟨none,none,rfl⟩ ?_ ?_
 .rintro i Γ' hi ⟨r,r',rfl⟩;have hi':i<9:=hi;have z0:=eL (a:=(c.natAbs:Int)) (b:=2147483647) (by decide);have hjj:(i:Int)*(i:Int)<=9*9:=Int.mul_le_mul (by omega) (by omega) (by omega) (by decide);have hj0:(0:Int)<=(i:Int)*(i:Int):=Int.mul_nonneg (by omega) (by omega);refine ah 4 dC.nd (bg (bg (bg (aG (g6 rfl B.abs (aa 0)) ae (by decide)) (aM ae (aa 1) (mulL (by decide) (by decide)))) (aM ae (aa 3) (mulL (by decide) (by decide)))) ae) ?_;rw[ab];refine ah 4 dC.nd (aG (aM (aa 4) (bg (bg ae (aM (aa 3) (aa 3) (mulL (by omega) (by omega)))) (aa 1)) (mulL (by omega) (by omega))) ae (by decide)) ?_;have z1:=eL (a:=((c.natAbs:Int).fmod 2147483647+97*k+131*(i:Int)+13)*(16807+(i:Int)*(i:Int)+k)) (b:=2147483647) (by decide);refine ah 2 dC.nd (bg (aM (aa 2) ae (mulR (by decide) (by decide))) (aG (aM (aa 4) ae (mulR (by decide) (by decide))) ae (by decide))) ?_;exact ay ⟨_,_,rfl⟩
 .rintro Γ' ⟨r,r',rfl⟩;exact ax (aa 2) rfl
def SP:List Int:=[2,3,5,7,11,13]
theorem GX:∀p,p∈SP->2<=p/\p<100:=by decide
def oa(c:Int):Nat->Int×Int
 |0=>(1-2*c.fmod 2,c.fdiv 2)
 |i+1=>((if (oa c i).2.fmod 2=1 then (oa c i).1*SP.getD i 1 else (oa c i).1),(oa c i).2.fdiv 2)
def Fp(c:Int):Int:=(oa c 6).1
set_option maxHeartbeats 1000000 in
include B in
theorem rJ(c:Int):Body P w K mg base kD "_law_small" fA f kk [.val false c] (RT true (Fp c)):=by
 intro cdv A outer s H E hr;refine ah 1 cy.nd (cG ae (aM ae (aG (aa 0) ae (by decide)) (mulL (by decide) (by decide)))) ?_;refine ah 2 cy.nd (aI (aa 0) ae jk) ?_;refine km (xs:=SP) (b:=true) (fun i Γ=>∃r3,Γ=[some (.val false c),some (.val true (oa c i).1),some (.val true (oa c i).2),r3]) (cQ 3 cy.nd) (dM (aD ae (aD ae (aD ae (aD ae (aD ae (aD ae bG)))))) (Nat.le_of_ble_eq_true rfl)) ⟨none,rfl⟩ ?_ ?_
 .rintro i a Γ' ha ⟨r3,rfl⟩;have hi:i<6:=(List.getElem?_eq_some_iff.mp ha).1;have eg:SP.getD i 1=a:=by rw[List.getD_eq_getElem?_getD,ha];rfl
  have hm:=GX a (List.mem_of_getElem? ha);have e:oa c (i+1)=((if (oa c i).2.fmod 2=1 then (oa c i).1*a else (oa c i).1),(oa c i).2.fdiv 2):=by rw[<-eg];rfl
  rw[e];refine dY (fun Γ=>Γ=[some (.val false c),some (.val true (if (oa c i).2.fmod 2=1 then (oa c i).1*a else (oa c i).1)),some (.val true (oa c i).2),some (.val true a)]) (ao av (aG (aa 2) ae (by decide)) ae) (fun hc=>?_) (fun hc=>?_) ?_
  .rw[if_pos (by simpa using hc)];refine ah 1 cy.nd (aM (aa 1) (aa 3) (mulR (by omega) (by omega))) ?_;exact ay rfl
  .rw[if_neg (by simpa using hc)];exact ay rfl
  .rintro Γ' rfl;refine ah 2 cy.nd (aI (aa 2) ae jk) ?_;exact ay ⟨_,rfl⟩
 .rintro Γ' ⟨r3,rfl⟩;exact ax (aa 1) rfl
theorem uS(c:Int):∀i,(oa c i).1∈du i
 |0=>by
  have z:=eL (a:=c) (b:=2) (by decide);have:c.fmod 2=0\/c.fmod 2=1:=by omega
  show(1-2*c.fmod 2)∈[(1:Int),-1];rcases this with e|e<;>rw[e]<;>decide
 |i+1=>by
  have ih:=uS c i;show(if (oa c i).2.fmod 2=1 then (oa c i).1*SP.getD i 1 else (oa c i).1)∈du i++(du i).map fun k=>k*Q6.getD i 1;split
  .exact List.mem_append_right _ (List.mem_map.mpr ⟨_,ih,rfl⟩)
  .exact List.mem_append_left _ ih
theorem Bw(c:Int):Fp c∈du 6:=uS c 6
def Ff(a b:Int):Int:=((Int.gcd a b:Nat):Int)
include B in
theorem oR(a b:Int):Body P w K mg base ju "_law_common" eA f k [.val false a,.val false b] (RT true (Ff a b)):=by
 intro cdv A outer s H E hr;refine bJ (ι:=Bool×Bool×Int×Int) (fun i Γ=>∃r,Γ=[some (.val i.1 i.2.2.1),some (.val i.2.1 i.2.2.2),r]/\Int.gcd i.2.2.1 i.2.2.2=Int.gcd a b) (fun i=>i.2.2.2.natAbs) (false,false,a,b) ⟨none,rfl,rfl⟩ ?_;rintro⟨b1,b2,x,y⟩ Γ' ⟨r,rfl,hg⟩;refine⟨_,ao eN (aa 1) ae,fun hc=>?_,fun hc=>?_⟩
 .have hy:y≠0:=by simpa using hc
  refine ah 2 dG.nd (aG (aa 0) (aa 1) hy) ?_;refine ah 0 dG.nd (aa 1) ?_;refine ah 1 dG.nd (aa 2) ?_;exact ay ⟨(b2,true,y,x.fmod y),⟨_,rfl,(Q.rH x y).trans hg⟩,Q.we x y hy⟩
 .have hy:y=0:=by simpa using hc
  refine ax (g6 rfl B.abs (aa 0)) ?_;dsimp only at hg ⊢;rw[hy,Int.gcd_zero_right] at hg;unfold Ff;rw[<-hg];show Bd.val _ _=Bd.val _ _;congr 1;split<;>omega
theorem sH(x:Int)(h0:0<=x)(hs:Sm 8000 x):Body P w K mg base lX "_law_root" gj f k [.val false x] (RT true (Q.rt x)):=by
 intro cdv A outer s H E hr;refine ah 1 iu.nd (aa 0) ?_
 refine bJ (ι:=Bool × Int) (fun i Γ=>Γ=[some (.val false x),some (.val i.1 i.2)]/\0<=i.2/\i.2<=x/\x < (i.2 + 1) * (i.2 + 1)) (fun i=>i.2.toNat) (false,x) ⟨rfl,h0,Int.le_refl x,by
  dsimp only;have:(x+1)*1<=(x+1)*(x+1):=Int.mul_le_mul_of_nonneg_left (by omega) (by omega)
  omega⟩ ?_
 rintro⟨bb,r⟩ Γ' ⟨rfl,r0,r1,r2⟩;dsimp only at *;have hSr:Sm 8000 r:=Sm.of_le (by omega) hs;refine⟨_,ao cJ (aM (aa 1) (aa 1) (hSr.ok hSr)) (aa 0),fun hc=>?_,fun hc=>?_⟩
 .have hc':x<r*r:=by simpa using hc
  have hpos:0<r:=by
   rcases Int.lt_or_eq_of_le r0 with z|z
   .exact z
   .rw[<-z] at hc';simp at hc';omega
  refine ah 1 iu.nd (aI (bg (aa 1) (aI (aa 0) (aa 1) (hSr.div (by omega)))) ae jk) ?_;obtain⟨n0,n1,n2⟩:=Q.yP h0 hpos hc';exact ay ⟨(true,(r+x.fdiv r).fdiv 2),⟨rfl,n0,by dsimp only;omega,n2⟩,by dsimp only;omega⟩
 .have hc':r*r<=x:=by simpa using hc
  rw[<-Q.f9 r0 hc' r2];exact ax (gT (aa 1)) rfl
open Q (iP aR)
structure xg(n fr l d:Int):Prop where
 d2:2<=d
 l0:0<l
 f0:0<fr
 sq:iP fr
 lo:∀q,aR q=true->q<d->¬q∣l
 hi:∀q,aR q=true->d<=q->¬q∣fr
 ex:∃s,0<s/\n=fr*l*(s*s)
theorem xg.le{n fr l d:Int}(h:xg n fr l d):fr*l<=n/\l<=n/\fr<=n:=by
 obtain⟨s,s0,e⟩:=h.ex;have l0:=h.l0;have f0:=h.f0;have p:0<fr*l:=Int.mul_pos f0 l0;have q:1<=s*s:=Int.mul_pos s0 s0;have a:=Int.mul_le_mul_of_nonneg_left q (show 0<=fr*l by omega);have b:=Int.mul_le_mul_of_nonneg_right (show 1<=fr by omega) (show 0<=l by omega);have c:=Int.mul_le_mul_of_nonneg_left (show 1<=l by omega) (show 0<=fr by omega);rw[e];omega
theorem xg.start{n:Int}(h:0<n):xg n 1 n 2:=⟨by decide,h,by decide,Q.iB,fun q hq hl=>by have:=Q.au hq;omega,fun q hq _ z=>by
 have:=Int.le_of_dvd (by decide) z;have:=Q.au hq
 omega,1,by decide,by rw[Int.one_mul,Int.mul_one,Int.mul_one]⟩
theorem xg.prime{n fr l0 l d:Int}{v:Nat}(h:xg n fr l0 d)(e:l0=l*d^(v+1)):aR d=true:=by
 have hd:d∣l0:=⟨l*d^v,by rw[e,Int.pow_succ];grind⟩;obtain⟨q,h1,h2⟩:=Q.fT h.d2;have h3:=Int.le_of_dvd (by have:=h.d2;omega) h2;by_cases z:q<d
 .exact absurd (Int.dvd_trans h2 hd) (h.lo q h1 z)
 .rw[show d=q by omega];exact h1
theorem xg.step{n fr l0 l d:Int}{v:Nat}(h:xg n fr l0 d)(e:l0=l*d^v)(hn:¬d∣l)(hl:0<l):xg n (if v%2=1 then fr*d else fr) l (d+1):=by
 have d2:=h.d2;have dl:l∣l0:=⟨_,e⟩;obtain⟨s,s0,ex⟩:=h.ex
 have lo':∀q,aR q=true->q<d+1->¬q∣l:=fun q hq hlt z=>by
  by_cases w:q<d
  .exact h.lo q hq w (Int.dvd_trans z dl)
  .rw[show q=d by omega] at z;exact hn z
 have pw:∀m:Nat,0<d^m:=fun m=>Int.pow_pos (by omega);by_cases o:v%2=1
 .rw[if_pos o];obtain⟨m,hm⟩:∃m,v=2*m+1:=⟨v/2,by omega⟩;have hp:aR d=true:=h.prime (v:=2*m) (by rw[e,hm]);refine⟨by omega,hl,Int.mul_pos h.f0 (by omega),Q.fG h.sq hp (h.hi d hp (Int.le_refl d)),lo',fun q hq hge z=>?_,s*d^m,Int.mul_pos s0 (pw m),?_⟩
  .rcases Q.euclid hq z with z|z
   .exact h.hi q hq (by omega) z
   .have:=Int.le_of_dvd (by omega) z;omega
  .rw[ex,e,hm,Int.pow_succ,show 2*m=m+m by omega,Int.pow_add];grind
 .rw[if_neg o];obtain⟨m,hm⟩:∃m,v=2*m:=⟨v/2,by omega⟩;refine⟨by omega,hl,h.f0,h.sq,lo',fun q hq hge z=>h.hi q hq (by omega) z,s*d^m,Int.mul_pos s0 (pw m),?_⟩;rw[ex,e,hm,show 2*m=m+m by omega,Int.pow_add];grind
theorem xg.done{n fr l d:Int}(h:xg n fr l d)(hd:l<d*d*d):∃s,0<s/\iP (if Q.rt l*Q.rt l=l then fr else fr*l)/\n=(if Q.rt l*Q.rt l=l then fr else fr*l)*(s*s):=by
 obtain⟨s,s0,ex⟩:=h.ex;have l0:=h.l0;have f0:=h.f0;have d2:=h.d2;by_cases r:Q.rt l*Q.rt l=l
 .rw[if_pos r];have r0:Q.rt l≠0:=fun z=>by rw[z] at r;omega
  have ra:0<((Q.rt l).natAbs:Int):=by omega
  refine⟨s*(Q.rt l).natAbs,Int.mul_pos s0 ra,h.sq,?_⟩;have e2:((Q.rt l).natAbs:Int)*((Q.rt l).natAbs:Int)=l:=by rw[<-Int.natCast_mul,Int.natAbs_mul_self,r]
  rw[ex];grind
 .rw[if_neg r]
  have sl:∀q,aR q=true->¬q*q∣l:=fun q hq z=>by
   obtain⟨m,em⟩:=z;have q2:=Q.au hq
   have hqd:d<=q:=by
    by_cases w:q<d
    .exact absurd ⟨q*m,by rw[em];grind⟩ (h.lo q hq w)
    .omega
   have m0:0<m:=by
    by_cases w:0<m
    .exact w
    .have:q*q*m<=0:=Int.mul_nonpos_of_nonneg_of_nonpos (by have:=Int.mul_pos (show 0<q by omega) (show 0<q by omega);omega) (by omega);omega
   by_cases m1:m=1
   .refine r ?_
    have:Q.rt l=q:=by
     rw[em,m1,Int.mul_one];exact(Q.f9 (by omega) (Int.le_refl _) (by grind)).symm
    rw[this,em,m1,Int.mul_one]
   .obtain⟨p,hp,pm⟩:=Q.fT (show 2<=m by omega)
    have hpd:d<=p:=by
     by_cases w:p<d
     .exact absurd (Int.dvd_trans pm ⟨q*q,by rw[em];grind⟩) (h.lo p hp w)
     .omega
    have hpm:=Int.le_of_dvd m0 pm;have a1:d*d<=q*q:=Int.mul_le_mul hqd hqd (by omega) (by omega);have a2:d*d*d<=q*q*m:=Int.mul_le_mul a1 (by omega) (by omega) (by have:=Int.mul_pos (show 0<q by omega) (show 0<q by omega);omega);omega
  refine⟨s,s0,iX (Int.mul_ne_zero (by omega) (by omega)) fun q hq z=>?_,ex⟩;by_cases w:q∣l
  .have hqd:d<=q:=by
    by_cases w':q<d
    .exact absurd w (h.lo q hq w')
    .omega
   have hnf:=h.hi q hq hqd
   have g:Int.gcd (q*q) fr=1:=by
    have g1:Int.gcd fr q=1:=Q.iD hq hnf
    exact Q.ki (fun r hr h1 h2=>by
     have:r∣q:=by rcases Q.euclid hr h1 with z|z<;>exact z
     rw[Q.aK hr hq this] at h2
     exact hnf h2) (by have:=Q.au hq;exact Int.mul_ne_zero (by omega) (by omega))
   rw[Int.mul_comm fr l] at z;exact sl q hq (Q.d7 z g)
  .have g:Int.gcd (q * q) l=1:=Q.ki (fun r hr h1 h2=>by
     have:r∣q:=by rcases Q.euclid hr h1 with z|z<;>exact z
     rw[Q.aK hr hq this] at h2
     exact w h2) (by have:=Q.au hq;exact Int.mul_ne_zero (by omega) (by omega))
   have z':=Q.d7 z g;exact h.sq.2 q (by have:=Q.au hq;omega) z'
set_option maxHeartbeats 2000000 in
include B in
theorem uf(c_law_root:aN P w K mg base 1 "_law_root" ["_law_k"] (gS K (fun k=>0<=k/\Sm 8000 k) true Q.rt))(n:Int)(h0:n≠0)(hl:n.natAbs<1073741824):Body P w K mg base mL "_law_free" gq f 1 [.val false n] (RT true (oF n)):=by
 intro cdv A outer s H E hr;have ab:∀i:Int,(if i<0 then -i else i)=(i.natAbs:Int):=fun i=>by split<;>omega
 refine ah 1 bt.nd (g6 rfl B.abs (aa 0)) ?_;rw[ab];refine ah 2 bt.nd ae ?_;refine ah 3 bt.nd ae ?_;refine bJ (ι:=Int×Int×Int) (fun i Γ=>∃r4,Γ=[some (.val false n),some (.val true i.1),some (.val true i.2.1),some (.val true i.2.2),r4]/\xg n.natAbs i.2.1 i.1 i.2.2/\i.2.2<=n.natAbs+2) (fun i=>(i.1-i.2.2+5).toNat) ((n.natAbs:Int),1,2) ⟨none,rfl,xg.start (by omega),by dsimp only;omega⟩ ?_;rintro⟨l0,fr0,d⟩ Γ' ⟨r4,rfl,hI,hdn⟩;dsimp only at *;have d2:=hI.d2;have p0:=hI.l0;have pf0:=hI.f0;obtain⟨_,le2,le3⟩:=hI.le;have sd:Sm 31 d:=by unfold Sm;omega
 refine⟨_,ao CL (aM (aM (aa 3) (aa 3) (sd.ok sd)) (aa 3) ((sd.mul sd).ok sd)) (aa 1),fun hc=>?_,fun hc=>?_⟩
 .have hc':d*d*d<=l0:=by simpa using hc
  have hdl:d<l0:=by
   have a1:2*d<=d*d:=Int.mul_le_mul_of_nonneg_right d2 (by omega);have a2:d*d*1<=d*d*d:=Int.mul_le_mul_of_nonneg_left (by omega) (by omega);omega
  refine ah 4 bt.nd ae ?_;refine bJ (ι:=Int×Int) (fun i Γ=>Γ=[some (.val false n),some (.val true i.1),some (.val true fr0),some (.val true d),some (.val true i.2)]/\0<=i.2/\l0=i.1*d^i.2.toNat/\0<i.1) (fun i=>i.1.natAbs) (l0,0) ⟨rfl,Int.le_refl 0,by dsimp only;rw[show(0:Int).toNat=0 from rfl,Int.pow_zero,Int.mul_one],p0⟩ ?_;rintro⟨l,v⟩ Γ' ⟨rfl,hv,he,hl0⟩;dsimp only at *;refine⟨_,ao av (aG (aa 1) (aa 3) (by omega)) ae,fun hc=>?_,fun hc=>?_⟩
  .have hc2:l.fmod d=0:=by simpa using hc
   refine ah 1 bt.nd (aI (aa 1) (aa 3) (sd.div (by omega))) ?_;refine ah 4 bt.nd (bg (aa 4) ae) ?_;obtain⟨a1,a2,a3,a4⟩:=uh hv he d2 hc2 (by omega);obtain⟨b1,_,_⟩:=Q.rN d2 (Q.dm.mp hc2) (show l≠0 by omega)
   have pos:0<l.fdiv d:=by
    by_cases w:0<l.fdiv d
    .exact w
    .have:=Int.mul_nonpos_of_nonneg_of_nonpos (show 0<=d by omega) (show l.fdiv d<=0 by omega);have:=Int.mul_nonpos_of_nonpos_of_nonneg (show l.fdiv d<=0 by omega) (show 0<=d by omega);omega
   exact ay ⟨(l.fdiv d,v+1),⟨rfl,a1,a2,pos⟩,a4⟩
  .have hc2:¬d∣l:=fun z=>by
    have:=Q.dm.mpr z;rw[decide_eq_true this] at hc;cases hc
   have hS:=hI.step (v:=v.toNat) he hc2 hl0
   have ll:l<=l0:=by
    have:=Int.le_of_dvd p0 (show l∣l0 from ⟨_,he⟩);exact this
   have mv:v.fmod 2=1↔v.toNat%2=1:=by
    rw[Int.fmod_eq_emod_of_nonneg _ (by decide)];omega
   refine dY (fun Γ=>Γ=[some (.val false n),some (.val true l),some (.val true (if v.toNat%2=1 then fr0*d else fr0)),some (.val true d),some (.val true v)]) (ao av (aG (aa 4) ae (by decide)) ae) (fun hc=>?_) (fun hc=>?_) ?_
   .have hv1:v.toNat%2=1:=mv.mp (by simpa using hc);rw[if_pos hv1];refine ah 2 bt.nd (aM (aa 2) (aa 3) ((show Sm 31 fr0 by unfold Sm;omega).ok sd)) ?_;exact ay rfl
   .have hv1:¬v.toNat%2=1:=fun w=>by
     have:=mv.mpr w;rw[decide_eq_true this] at hc;cases hc
    rw[if_neg hv1];exact ay rfl
   rintro Γ' rfl;refine ah 3 bt.nd (bg (aa 3) ae) ?_;exact ay ⟨(l,(if v.toNat%2=1 then fr0*d else fr0),d+1),⟨_,rfl,hS,by dsimp only;omega⟩,by dsimp only;omega⟩
 .have hc':l0<d*d*d:=by
   have:¬d*d*d<=l0:=by simpa using hc
   omega
  obtain⟨s',s0,q1,q2⟩:=hI.done hc';have sl:Sm 8000 l0:=(show Sm 31 l0 by unfold Sm;omega).le (by decide)
  have sr:Sm 31 (Q.rt l0):=by
   have w1:=Q.vE (show 0<=l0 by omega);have w2:=Q.eI l0
   have w3:Q.rt l0<=l0:=by
    by_cases w:Q.rt l0=0
    .omega
    .have:=Int.mul_le_mul_of_nonneg_left (show 1<=Q.rt l0 by omega) w2;omega
   unfold Sm;omega
  refine dY (fun Γ=>Γ=[some (.val false n),some (.val true l0),some (.val true (if Q.rt l0*Q.rt l0=l0 then fr0 else fr0*l0)),some (.val true d),r4]) (ao eN (aM (bh c_law_root (hr.mono (by decide)) rfl (aa 1) ⟨by omega,sl⟩) (bh c_law_root (hr.mono (by decide)) rfl (aa 1) ⟨by omega,sl⟩) (sr.ok sr)) (aa 1)) (fun hc=>?_) (fun hc=>?_) ?_
  .have hc2:¬Q.rt l0*Q.rt l0=l0:=by simpa using hc
   rw[if_neg hc2];refine ah 2 bt.nd (aM (aa 2) (aa 1) ((show Sm 31 fr0 by unfold Sm;omega).ok (show Sm 31 l0 by unfold Sm;omega))) ?_;exact ay rfl
  .have hc2:Q.rt l0*Q.rt l0=l0:=by simpa using hc
   rw[if_pos hc2];exact ay rfl
  rintro Γ' rfl;generalize (if Q.rt l0*Q.rt l0=l0 then fr0 else fr0*l0)=g at *;refine aL (ao jU (aa 0) ae) (fun hc=>?_) (fun hc=>?_)
  .have hn:n<0:=by simpa using hc
   have e:oF n=-g:=oV h0 hl (Q.qc q1) s0 (by
    have:n=-(n.natAbs:Int):=by omega
    rw[this,q2]
    grind)
   rw[e,show -g=0-g by omega];exact ax (cG ae (aa 2)) rfl
  .have hn:¬n<0:=by simpa using hc
   have e:oF n=g:=oV h0 hl q1 s0 (by
    have:n=(n.natAbs:Int):=by omega
    rw[this]
    exact q2)
   rw[e];exact ax (aa 2) rfl
theorem kq(c_law_common:aN P w K mg base 1 "_law_common" ["_law_a","_law_b"] (cT K (fun _ _=>True) true Ff))(a b:Int)(hp:A3 a b):Body P w K mg base fO "_law_free_times" cz f 1 [.val false a,.val false b] (RT true (nB a b)):=by
 intro cdv A outer s H E hr;obtain⟨ha,hb,sa,sb⟩:=hp;obtain⟨g0,x2,x3,y2,y3⟩:=jx ha hb;have sg:=zp (b:=b) ha sa;refine ah 2 fE.nd (aE c_law_common (hr.mono (by decide)) rfl (aa 0) (aa 1) True.intro) ?_;exact ax (aM (aI (aa 0) (aa 2) (Sm.div (j:=Ff a b) sg g0)) (aI (aa 1) (aa 2) (Sm.div (j:=Ff a b) sg g0)) ((Sm.of_le x3 sa).ok (Sm.of_le y3 sb))) rfl
theorem qk(x e m:Int)(he:0<=e)(hm1:2<=m)(hm2:m<2^62):Body P w K mg base kR "_law_power" fB f kk [.val false x,.val false e,.val false m] (RT true (xw x e m)):=by
 intro cdv A outer s H E hr;have hm:1<=m:=by omega
 refine ah 3 bF.nd (ic ae (show(1:Int)=1%m from (Int.emod_eq_of_lt (by decide) (by omega)).symm)) ?_;refine ah 0 bF.nd (aG (aa 0) (aa 2) (by omega)) ?_;rw[a_ hm]
 refine bJ (ι:=Bool×Int×Int×Int) (fun i Γ=>Γ=[some (.val true i.2.2.2),some (.val i.1 i.2.1),some (.val false m),some (.val true i.2.2.1)]/\0<=i.2.1/\i.2.2.1*i.2.2.2^i.2.1.toNat%m=x^e.toNat%m/\0<=i.2.2.1/\i.2.2.1<m/\0<=i.2.2.2/\i.2.2.2<m) (fun i=>i.2.1.toNat) (false,e,1%m,x%m)
  ⟨rfl,he,by dsimp only;rw[Int.mul_emod,Int.emod_emod_of_dvd _ (Int.dvd_refl m),Q.fW,<-Int.mul_emod,Int.one_mul],Int.emod_nonneg _ (by omega),Int.emod_lt_of_pos _ (by omega),Int.emod_nonneg _ (by omega),Int.emod_lt_of_pos _ (by omega)⟩ ?_
 rintro⟨bb,n,a,q⟩ Γ' ⟨rfl,hn,hi,a0,a1,q0,q1⟩;dsimp only at *;refine⟨_,ao cJ (aa 1) ae,fun hc=>?_,fun hc=>?_⟩
 .have hpos:0<n:=by simpa using hc
  have hh:=lZ hn;have z1:=Int.emod_nonneg (q*q) (show m≠0 by omega);have z2:=Int.emod_lt_of_pos (q*q) (show 0<m by omega);refine aL (ao av (aG (aa 1) ae (by decide)) ae) (fun hc=>?_) (fun hc=>?_)
  .have ho:n.toNat%2=1:=by
    have:n.fmod 2=1:=by simpa using hc
    rw[a_ (by decide)] at this;omega
   refine ah 3 bF.nd (aG (aM (aa 3) (aa 0) (mulL (by omega) (by omega))) (aa 2) (by omega)) (ay ?_);refine ah 0 bF.nd (aG (aM (aa 0) (aa 0) (mulL (by omega) (by omega))) (aa 2) (by omega)) ?_;refine ah 1 bF.nd (aI (aa 1) ae jk) ?_;rw[a_ hm,a_ hm];refine ay ⟨(true,n.fdiv 2,a*q%m,q*q%m),⟨rfl,hh.2,?_,Int.emod_nonneg _ (by omega),Int.emod_lt_of_pos _ (by omega),z1,z2⟩,?_⟩
   .dsimp only;rw[hh.1,vd ho,hi]
   .dsimp only;omega
  .have ho:n.toNat%2=0:=by
    have:¬n.fmod 2=1:=by simpa using hc
    rw[a_ (by decide)] at this;omega
   refine ah 0 bF.nd (aG (aM (aa 0) (aa 0) (mulL (by omega) (by omega))) (aa 2) (by omega)) ?_;refine ah 1 bF.nd (aI (aa 1) ae jk) ?_;rw[a_ hm];refine ay ⟨(true,n.fdiv 2,a,q*q%m),⟨rfl,hh.2,?_,a0,a1,z1,z2⟩,?_⟩
   .dsimp only;rw[hh.1,qr ho,hi]
   .dsimp only;omega
 .have hz:n.toNat=0:=by
   have:¬0<n:=by simpa using hc
   omega
  rw[hz,Int.pow_zero,Int.mul_one,Int.emod_eq_of_lt a0 a1] at hi;refine ax (aa 3) ?_;show Bd.val _ _=Bd.val _ _;unfold xw;rw[<-hi]
theorem rf(x d:Int)(h0:x≠0)(hd:2<=d)(hs:Sm 9000 d):Body P w K mg base kL "_law_split" ff f kk [.val false x,.val false d] (RT true (Q.aZ x d)):=by
 intro cdv A outer s H E hr;refine ah 2 d_.nd ae ?_;refine bJ (ι:=Bool×Int×Int) (fun i Γ=>Γ=[some (.val i.1 i.2.2),some (.val false d),some (.val true i.2.1)]/\0<=i.2.1/\x=i.2.2*d^i.2.1.toNat/\i.2.2≠0) (fun i=>i.2.2.natAbs) (false,0,x) ⟨rfl,Int.le_refl 0,by dsimp only;rw[show(0:Int).toNat=0 from rfl,Int.pow_zero,Int.mul_one],h0⟩ ?_;rintro⟨bb,n,l⟩ Γ' ⟨rfl,hn,he,hl⟩;dsimp only at *;refine⟨_,ao av (aG (aa 0) (aa 1) (by omega)) ae,fun hc=>?_,fun hc=>?_⟩
 .have hc':l.fmod d=0:=by simpa using hc
  refine ah 0 d_.nd (aI (aa 0) (aa 1) (hs.div (by omega))) ?_;refine ah 2 d_.nd (bg (aa 2) ae) ?_;obtain⟨a1,a2,a3,a4⟩:=uh hn he hd hc' hl;exact ay ⟨(true,n+1,l.fdiv d),⟨rfl,a1,a2,a3⟩,a4⟩
 .have hc':¬l.fmod d=0:=by simpa using hc
  refine ax (bQ (aa 2) (gT (b':=true) (aa 0))) ?_;show Bd.val _ _=Bd.val _ _;rw[Q.ie hd (r:=(n,l)) ⟨hn,he,fun z=>hc' (Q.dm.mpr z)⟩];rfl
open Q (aR qv nM Pl)
def HA(a b p:Int):Prop:=(a≠0/\a.natAbs<1073741824)/\(b≠0/\b.natAbs<1073741824)/\(p=0\/(aR p=true/\p<2^31))
theorem yx{a p:Int}(ha:a≠0)(hl:a.natAbs<1073741824)(hp:2<=p):(0<=(Q.aZ a p).1/\(Q.aZ a p).1<2^30)/\(Q.aZ a p).2.natAbs<1073741824/\¬p∣(Q.aZ a p).2:=by
 obtain⟨h1,h2,h3⟩:=Q.gK hp ha;generalize Q.aZ a p=r at *;obtain⟨v,u⟩:=r;have h1:0<=v:=h1;have h2:a=u*p^v.toNat:=h2;have h3:¬p∣u:=h3;have u0:u≠0:=fun z=>h3 (by rw[z];exact Int.dvd_zero p);have e:a.natAbs=u.natAbs*(p^v.toNat).natAbs:=by rw[h2,Int.natAbs_mul]
 have pp:1<=(p^v.toNat).natAbs:=by have:=Int.pow_pos (n:=p) (m:=v.toNat) (by omega);omega
 have k1:u.natAbs<=a.natAbs:=by rw[e];exact Nat.le_mul_of_pos_right _ pp
 have k2:(p^v.toNat).natAbs<=a.natAbs:=by rw[e];exact Nat.le_mul_of_pos_left _ (by omega)
 have k3:v.toNat<(p^v.toNat).natAbs:=by
  rw[Int.natAbs_pow];exact Nat.lt_pow_self (by omega)
 exact⟨⟨h1,by show v<_;omega⟩,by show u.natAbs<_;omega,h3⟩
theorem t7{u p:Int}(hp:aR p=true)(h2:p≠2)(hu:¬p∣u):(xw u ((p-1)/2) p=1)↔Q.bA u p=1:=by
 have p2:=Q.au hp;rw[Q.df hp h2 hu];unfold xw;generalize u^((p-1)/2).toNat=q;constructor
 .intro z;refine Int.dvd_of_emod_eq_zero ?_;rw[Int.sub_emod,z,show(1:Int)%p=1 from Int.emod_eq_of_lt (by decide) (by omega)];rfl
 .rintro⟨c,hc⟩;rw[show q=1+p*c by omega,Int.add_mul_emod_self_left];exact Int.emod_eq_of_lt (by decide) (by omega)
set_option maxHeartbeats 1000000 in
theorem tu(c_law_power:aN P w K mg base 1 "_law_power" ["_law_k","_law_often","_law_p"] (kF K (fun _ e m=>0<=e/\2<=m/\m<2^62) true xw))(c_law_split:aN P w K mg base 1 "_law_split" ["_law_k","_law_p"] (cT K (fun k d=>k≠0/\2<=d/\Sm 9000 d) true Q.aZ))(a b p:Int)(hp:HA a b p):Body P w K mg base mz "_law_says" gH f 1 [.val false a,.val false b,.val false p] (RT true (Q.aq a b p)):=by
 intro cdv A outer s H E hr;obtain⟨⟨a0,al⟩,⟨b0,bl⟩,hpp⟩:=hp;refine aL (ao av (aa 2) ae) (fun hc=>?_) (fun hc=>?_)
 .have hc':p=0:=of_decide_eq_true hc;subst hc';rw[Q.aH];exact ax (BE (bx cJ (aa 0) ae) fun _=>(u7 (bx cJ (aa 1) ae))) rfl
 have p0:p≠0:=of_decide_eq_false hc;obtain⟨hp,hlt⟩:=hpp.resolve_left p0;have p2:=Q.au hp;have s9:Sm 9000 p:=(show Sm 31 p by unfold Sm;omega).le (by decide);obtain⟨⟨v0,v1⟩,u1,un⟩:=yx a0 al p2;obtain⟨⟨w0,w1⟩,t1,tn⟩:=yx b0 bl p2;refine sS 3 4 bE.nd (aE c_law_split (hr.mono (by decide)) rfl (aa 0) (aa 2) ⟨a0,p2,s9⟩) ?_;refine sS 5 6 bE.nd (aE c_law_split (hr.mono (by decide)) rfl (aa 1) (aa 2) ⟨b0,p2,s9⟩) ?_;have ec:∀k:Int,Q.cls k p=((Q.aZ k p).1%2,if p=2 then (Q.aZ k p).2%8 else Q.bA (Q.aZ k p).2 p):=fun k=>rfl;by_cases h2:p=2
 .have e:Q.aq a b p=Q.fc (Q.cls a p) (Q.cls b p):=by subst h2;exact Q.aS
  rw[e,ec,ec,if_pos h2,if_pos h2];generalize Q.aZ a p=ta at *;generalize Q.aZ b p=tb at *;obtain⟨A1,u⟩:=ta;obtain⟨B1,v⟩:=tb;dsimp only at *;have uo:u%2=1:=by rw[h2] at un;omega
  have vo:v%2=1:=by rw[h2] at tn;omega
  refine aL (ao av (aa 2) ae) (fun _=>?_) (fun hc=>absurd h2 (of_decide_eq_false hc));have su:Sm 30 u:=u1;have sv:Sm 30 v:=t1;have sA:Sm 30 A1:=by unfold Sm;omega
  have sB:Sm 30 B1:=by unfold Sm;omega
  have q8:∀{x:Int},Sm 30 x->Sm 64 ((x*x-1).fdiv 8):=fun {x} hx=>by
   rw[Int.fdiv_eq_ediv_of_nonneg _ (by decide)];have h:=hx.mul hx;unfold Sm at h ⊢;omega
  refine ah 7 bE.nd (aM (aI (cG (aa 4) ae) ae jk) (aI (cG (aa 6) ae) ae jk) (Sm.ok (m:=40) (n:=40) (by rw[Int.fdiv_eq_ediv_of_nonneg _ (by decide)];unfold Sm;omega) (by rw[Int.fdiv_eq_ediv_of_nonneg _ (by decide)];unfold Sm;omega))) ?_;refine ah 7 bE.nd (bg (aa 7) (aM (aa 3) (aI (cG (aM (aa 6) (aa 6) (sv.ok sv)) ae) ae jk) (sA.ok (q8 sv)))) ?_;refine ah 7 bE.nd (bg (aa 7) (aM (aa 5) (aI (cG (aM (aa 4) (aa 4) (su.ok su)) ae) ae jk) (sB.ok (q8 su)))) ?_;refine ax (bx av (aG (aa 7) ae (by decide)) ae) ?_;show Bd.val _ _=Bd.val _ _;congr 1;rw[<-Q.B9 uo vo,a_ (by decide),Int.fdiv_eq_ediv_of_nonneg _ (by decide),Int.fdiv_eq_ediv_of_nonneg _ (by decide),Int.fdiv_eq_ediv_of_nonneg _ (by decide),Int.fdiv_eq_ediv_of_nonneg _ (by decide)]
 .have e:Q.aq a b p=Q.i5 (Q.cls a p) (Q.cls b p) (Q.bA (-1) p):=Q.ba p0 h2;rw[e,ec,ec,if_neg h2,if_neg h2];generalize Q.aZ a p=ta at *;generalize Q.aZ b p=tb at *;obtain⟨A1,u⟩:=ta;obtain⟨B1,v⟩:=tb;dsimp only at *;rw[<-Q.AA hp h2 un tn];refine aL (ao av (aa 2) ae) (fun hc=>absurd (of_decide_eq_true hc) h2) (fun _=>?_);have sA:Sm 30 A1:=by unfold Sm;omega
  have sB:Sm 30 B1:=by unfold Sm;omega
  have eh:(p-1).fdiv 2=(p-1)/2:=Int.fdiv_eq_ediv_of_nonneg _ (by decide);refine ah 7 bE.nd (aM (aM (aa 3) (aa 5) (sA.ok sB)) (aI (cG (aa 2) ae) ae jk) (Sm.ok (m:=60) (n:=40) (sA.mul sB) (by rw[eh];unfold Sm;omega))) ?_;have pu:=t7 hp h2 un;have pv:=t7 hp h2 tn;refine dY (fun Γ=>Γ=[some (.val false a),some (.val false b),some (.val false p),some (.val true A1),some (.val true u),some (.val true B1),some (.val true v),some (.val true (A1*B1*((p-1)/2)+if Q.bA u p≠1 then B1 else 0))]) (ao eN (bS c_law_power (hr.mono (by decide)) rfl (aa 4) (aI (cG (aa 2) ae) ae jk) (aa 2) ⟨by rw[eh];omega,p2,by omega⟩) ae) (fun hc=>?_) (fun hc=>?_) ?_
  .rw[eh] at hc ⊢;rw[if_pos (fun z=>by rw[decide_eq_true (pu.mpr z)] at hc;exact nomatch hc)];refine ah 7 bE.nd (bg (aa 7) (aa 5)) ?_;exact ay rfl
  .rw[eh] at hc ⊢;rw[if_neg (fun z=>z (pu.mp (by simpa using hc))),Int.add_zero];exact ay rfl
  rintro Γ' rfl;refine dY (fun Γ=>Γ=[some (.val false a),some (.val false b),some (.val false p),some (.val true A1),some (.val true u),some (.val true B1),some (.val true v),some (.val true ((A1*B1*((p-1)/2)+if Q.bA u p≠1 then B1 else 0)+if Q.bA v p≠1 then A1 else 0))]) (ao eN (bS c_law_power (hr.mono (by decide)) rfl (aa 6) (aI (cG (aa 2) ae) ae jk) (aa 2) ⟨by rw[eh];omega,p2,by omega⟩) ae) (fun hc=>?_) (fun hc=>?_) ?_
  .rw[eh] at hc;rw[if_pos (c:=Q.bA v p≠1) (fun z=>by rw[decide_eq_true (pv.mpr z)] at hc;exact nomatch hc)];refine ah 7 bE.nd (bg (aa 7) (aa 3)) ?_;exact ay rfl
  .rw[eh] at hc;rw[if_neg (c:=Q.bA v p≠1) (fun z=>z (pv.mp (by simpa using hc))),Int.add_zero];exact ay rfl
  rintro Γ' rfl;refine ax (bx av (aG (aa 7) ae (by decide)) ae) ?_;show Bd.val _ _=Bd.val _ _;rw[a_ (by decide)]
noncomputable def GS(row places:List Int):List Int:=places.filter fun p=>!qv p row
structure Ip(row places:List Int):Prop where
 len:row.length<=8
 nz:∀x∈row,x≠0/\x.natAbs<1073741824
 pl:∀p∈places,p=0\/(aR p=true/\p<2^31)
 few:places.length<=900
theorem Gi{row:List Int}{i:Nat}(h:i<row.length):vJ row (i:Int)=some (row.getD i 0):=by
 exact zD (d:=0) (by omega) (by omega)
set_option maxHeartbeats 2000000 in
include B in
theorem tJ(c_law_says:aN P w K mg base 2 "_law_says" ["_law_a","_law_b","_law_p"] (kF K HA true Q.aq))(row places:List Int)(hp:Ip row places):Body P w K mg base mf "_law_noes" gB f 2 [.val false row,.val false places] (RT true (GS row places)):=by
 intro cdv A outer s H E hr;obtain⟨hl,nz,pl,few⟩:=hp;refine xU 2 Int cw.nd ?_;refine km (b:=false) (fun i Γ=>∃r3 r4 r5 r6,Γ=[some (.val false row),some (.val false places),some (.own true ((places.take i).filter fun p=>!qv p row)),r3,r4,r5,r6]) (cQ 3 cw.nd) (aa 1) ⟨none,none,none,none,rfl⟩ ?_ ?_
 .rintro i p Γ' hpi ⟨r3,r4,r5,r6,rfl⟩;have hpl:=pl p (List.mem_of_getElem? hpi);have hi:i<places.length:=(List.getElem?_eq_some_iff.mp hpi).1;refine ah 4 cw.nd ae ?_;refine gF (n:=(row.length:Int)) (fun j Γ=>∃(n:Int) (r5 r6:Option Bd),Γ=[some (.val false row),some (.val false places),some (.own true ((places.take i).filter fun p=>!qv p row)),some (.val false p),some (.val true n),r5,r6]/\n+(Q.Bf p (row.drop j):Int)=Q.Bf p row) rfl B.range (cQ 5 cw.nd) (fL rfl B.len (aa 0)) (by omega) (by omega) ⟨0,r5,r6,rfl,by rw[List.drop_zero];omega⟩ ?_ ?_
  .rintro j Γ' hj ⟨n,r5,r6,rfl,hn⟩;have hj':j<row.length:=by omega
   have hx:row[j]?=some (row.getD j 0):=by rw[List.getD_eq_getElem?_getD,List.getElem?_eq_getElem hj'];rfl
   have hxm:=nz _ (List.mem_of_getElem? hx);rw[Q.Ai hx,Q.Bf] at hn;generalize hx0:row.getD j 0=x at *;refine ro (lo:=(j:Int)+1) (n:=(row.length:Int)) (fun k Γ=>∃(m:Int) (r6:Option Bd),Γ=[some (.val false row),some (.val false places),some (.own true ((places.take i).filter fun p=>!qv p row)),some (.val false p),some (.val true m),some (.val true (j:Int)),r6]/\m=n+((((row.drop (j+1)).take k).filter fun b=>!Q.aq x b p).length:Int)) rfl B.range (cQ 6 cw.nd) (bg (aa 5) ae) (fL rfl B.len (aa 0)) ⟨by omega,by omega,by omega,by omega⟩ ⟨n,r6,rfl,by simp⟩ ?_ ?_
   .rintro k Γ' hk ⟨m,r6,rfl,hm⟩;have hk':j+1+k<row.length:=by omega
    have hy:(row.drop (j+1))[k]?=some (row.getD (j+1+k) 0):=by rw[List.getElem?_drop,List.getD_eq_getElem?_getD,List.getElem?_eq_getElem hk'];rfl
    have hym:=nz _ (List.mem_of_mem_drop (List.mem_of_getElem? hy));refine aL (iR (di (bS c_law_says (hr.mono (by decide)) rfl (vi (a:=x) (aa 0) (aa 5) (by rw[<-hx0];exact Gi hj')) (vi (a:=row.getD (j+1+k) 0) (aa 0) (aa 6) (by have:=Gi (row:=row) hk';rw[show(((j+1+k:Nat)):Int)=(j:Int)+1+(k:Int) by omega] at this;exact this)) (aa 3) ⟨hxm,hym,hpl⟩))) (fun hc=>?_) (fun hc=>?_)
    .refine ah 4 cw.nd (bg (aa 4) ae) ?_;refine ay (ay ⟨_,_,rfl,?_⟩);rw[List.take_add_one,hy,List.filter_append,List.length_append];rw[show(some (row.getD (j+1+k) 0)).toList=[row.getD (j+1+k) 0] from rfl,List.filter_cons_of_pos (p:=fun b=>!Q.aq x b p) hc];rw[hm,List.filter_nil,List.length_singleton,Int.natCast_add];omega
    .refine ay ⟨_,_,rfl,?_⟩;rw[List.take_add_one,hy,List.filter_append,List.length_append];rw[show(some (row.getD (j+1+k) 0)).toList=[row.getD (j+1+k) 0] from rfl,List.filter_cons_of_neg (p:=fun b=>!Q.aq x b p) (by rw[hc];exact Bool.false_ne_true)];rw[hm,List.filter_nil,List.length_nil];rfl
   .rintro Γ' ⟨m,r6,rfl,hm⟩;refine ay ⟨m,_,_,rfl,?_⟩;rw[show((row.length:Int)-((j:Int)+1)).toNat=(row.drop (j+1)).length by rw[List.length_drop];omega,List.take_length] at hm;omega
  .rintro Γ' ⟨n,r5,r6,rfl,hn⟩;rw[show((row.length:Int)).toNat=row.length from Int.toNat_natCast _,List.drop_length] at hn
   have hn':n=(Q.Bf p row:Int):=by
    have:Q.Bf p []=0:=rfl;omega
   have hpar:=Q.uV p row
   have hnext:(places.take (i+1)).filter (fun p=>!qv p row)=(places.take i).filter (fun p=>!qv p row)++if qv p row then [] else [p]:=by
    rw[List.take_add_one,hpi,List.filter_append];congr 1;show List.filter _ [p]=_;cases hq:qv p row<;>simp[hq]
   refine aL (ao av (aG (aa 4) ae (by decide)) ae) (fun hc=>?_) (fun hc=>?_)
   .have hc':n.fmod 2=1:=of_decide_eq_true hc;rw[a_ (by decide)] at hc'
    have hq:qv p row=false:=by
     rw[<-hpar];exact decide_eq_false (by omega)
    rw[hq] at hnext;refine fR 2 rfl (gT (b':=true) (aa 3)) ?_ ?_
    .exact Nat.le_trans (List.length_filter_le _ _) (by rw[List.length_take];omega)
    refine ay (ay ⟨some (.val false p),some (.val true n),r5,r6,?_⟩);rw[hnext];rfl
   .have hc':¬n.fmod 2=1:=of_decide_eq_false hc;rw[a_ (by decide)] at hc'
    have hq:qv p row=true:=by
     rw[<-hpar];exact decide_eq_true (by omega)
    rw[hq] at hnext;refine ay ⟨some (.val false p),some (.val true n),r5,r6,?_⟩;rw[hnext,if_pos rfl,List.append_nil]
 .rintro Γ' ⟨r3,r4,r5,r6,rfl⟩;rw[List.take_length];refine ip 2 rfl ?_;exact ax (aa 2) rfl
theorem vC{x d:Int}(h2:2<=x)(hs:x<d*d)(hd:2<=d)(hn:∀e:Int,2<=e->e<d->¬e∣x):Q.aR x=true:=by
 rw[Q.bC];by_cases e2:x=2
 .exact .inl e2
 .by_cases d3:d=2
  .subst d3;exact .inr ⟨by omega,by omega,fun e h1 h2 h3=>by have:3*3<=e*e:=Int.mul_le_mul h1 h1 (by decide) (by omega);omega⟩
  .refine .inr ⟨by omega,?_,fun e h1 h2 h3=>hn e (by omega) (Q.rD (by omega) (by omega) (by omega))⟩;have:=hn 2 (by decide) (by omega);omega
def k8(d:Dc Bool):List Int:=d.l.map (·.1)
theorem uZ{d:Dc Bool}{k:Int}{c:Bool}:k8 (d.put k c)=if k∈k8 d then k8 d else k8 d++[k]:=by
 have e:((d.l.any fun u=>decide (u.1=k))=true)↔k∈k8 d:=by
  unfold k8;rw[List.any_eq_true,List.mem_map];constructor
  .rintro⟨u,hu,e⟩;exact⟨u,hu,of_decide_eq_true e⟩
  .rintro⟨u,hu,e⟩;exact⟨u,hu,decide_eq_true e⟩
 unfold Dc.put;by_cases h:k∈k8 d
 .rw[if_pos h,if_pos (e.mpr h)];unfold k8;rw[List.map_map];apply List.map_congr_left;intro u _;show(if u.1=k then (u.1,c) else u).1=u.1;split<;>rfl
 .rw[if_neg h,if_neg (fun z=>h (e.mp z))];unfold k8;rw[List.map_append];rfl
theorem jD{d:Dc Bool}{k q:Int}{c:Bool}:q∈k8 (d.put k c)↔q=k\/q∈k8 d:=by
 rw[uZ];split
 .rename_i h;exact⟨.inr,fun z=>z.elim (fun e=>e▸h) id⟩
 .rw[List.mem_append,List.mem_singleton];exact⟨fun z=>z.elim .inr .inl,fun z=>z.elim .inr .inl⟩
theorem yF{d:Dc Bool}{k:Int}{c:Bool}(h:(k8 d).Nodup):(k8 (d.put k c)).Nodup:=by
 rw[uZ];split
 .exact h
 .rename_i hn;rw[List.nodup_append];exact⟨h,by simp,fun a ha b hb e=>hn (by rw[<-List.mem_singleton.mp hb,<-e];exact ha)⟩
noncomputable def As(row:List Int):List Int:=sset (P7++row.flatMap fun k=>(nM (k.natAbs:Int)).map (·.1))
structure Hs(row:List Int):Prop where
 nz:∀x∈row,x≠0/\x.natAbs<1073741824
 few:∃M:List Int,M.length<=56/\∀x∈row,∀q,aR q=true->q∣x->q∈M
def QB(ns:List Int)(q:Int):Prop:=q∈P7\/(aR q=true/\∃n∈ns,q∣n)
def Fw(d:Dc Bool)(ns:List Int):Prop:=(k8 d).Nodup/\∀q,q∈k8 d↔QB ns q
structure nJ(ns:List Int)(n l d:Int)(dc:Dc Bool):Prop where
 nd:(k8 dc).Nodup
 l1:1<=l
 ln:l∣n
 d2:2<=d
 dn:d<=n.natAbs+2
 lo:∀e:Int,2<=e->e<d->¬e∣l
 so:∀q,q∈k8 dc->QB ns q\/(aR q=true/\q∣n)
 wh:∀q,QB ns q->q∈k8 dc
 co:∀q,aR q=true->q∣n->q∈k8 dc\/q∣l
theorem nJ.le{ns:List Int}{n l d:Int}{dc:Dc Bool}(h:nJ ns n l d dc)(hn:n≠0):l<=n.natAbs:=Int.le_of_dvd (by omega) (Int.dvd_natAbs.mpr h.ln)
theorem nJ.prime{ns:List Int}{n l d:Int}{dc:Dc Bool}(h:nJ ns n l d dc)(hd:d∣l):aR d=true:=by
 have d2:=h.d2;refine vC (d:=d) d2 ?_ d2 fun e h1 h2 z=>h.lo e h1 h2 (Int.dvd_trans z hd);have:=Int.mul_le_mul d2 (Int.le_refl d) (by omega) (by omega);omega
theorem nJ.div{ns:List Int}{n l d:Int}{dc:Dc Bool}(h:nJ ns n l d dc)(hd:d∣l):nJ ns n (l/d) d (dc.put d true)/\l/d<l:=by
 have d2:=h.d2;have l1:=h.l1;have hp:=h.prime hd;obtain⟨c,rfl⟩:=hd;have e:d*c/d=c:=Int.mul_ediv_cancel_left c (by omega);have c1:0<c:=Int.pos_of_mul_pos_right (by omega) (show 0<d by omega);rw[e];refine⟨⟨yF h.nd,by omega,Int.dvd_trans (Int.dvd_mul_left d c) h.ln,d2,h.dn,fun x h1 h2 z=>h.lo x h1 h2 (Int.dvd_trans z (Int.dvd_mul_left d c)),fun q hq=>?_,fun q hq=>jD.mpr (.inr (h.wh q hq)),fun q h1 h2=>?_⟩,?_⟩
 .rcases jD.mp hq with rfl|z
  .exact .inr ⟨hp,Int.dvd_trans (Int.dvd_mul_right q c) h.ln⟩
  .exact h.so q z
 .rcases h.co q h1 h2 with z|z
  .exact .inl (jD.mpr (.inr z))
  .rcases Q.euclid h1 z with z|z
   .exact .inl (jD.mpr (.inl (Q.aK h1 hp z)))
   .exact .inr z
 .have:=Int.mul_le_mul d2 (Int.le_refl c) (by omega) (by omega);omega
theorem nJ.up{ns:List Int}{n l d:Int}{dc:Dc Bool}(h:nJ ns n l d dc)(hn:n≠0)(hs:d<=n.natAbs+1)(hd:¬d∣l):nJ ns n l (d+1) dc :=
 ⟨h.nd,h.l1,h.ln,by have:=h.d2; omega,by omega,fun e h1 h2 z=>by
  by_cases q:e=d
  .rw[q] at z;exact hd z
  .exact h.lo e h1 (by omega) z,h.so,h.wh,h.co⟩
theorem nJ.start{ns:List Int}{n:Int}{dc:Dc Bool}(h:Fw dc ns)(hn:n≠0):nJ ns n (n.natAbs:Int) 2 dc :=
 ⟨h.1,by omega,Int.natAbs_dvd.mpr (Int.dvd_refl n),by decide,by omega,fun e h1 h2=>by omega,fun q hq=>.inl ((h.2 q).mp hq),fun q hq=>(h.2 q).mpr hq,fun q _ h2=>.inr (Int.dvd_natAbs.mpr h2)⟩
theorem vA{ns:List Int}{n q:Int}:QB (ns++[n]) q↔QB ns q\/(aR q=true/\q∣n):=by
 unfold QB;constructor
 .rintro(h|⟨h1,x,hx,hd⟩)
  .exact .inl (.inl h)
  .rcases List.mem_append.mp hx with z|z
   .exact .inl (.inr ⟨h1,x,z,hd⟩)
   .rw[List.mem_singleton.mp z] at hd;exact .inr ⟨h1,hd⟩
 .rintro((h|⟨h1,x,hx,hd⟩)|⟨h1,hd⟩)
  .exact .inl h
  .exact .inr ⟨h1,x,List.mem_append_left _ hx,hd⟩
  .exact .inr ⟨h1,n,by simp,hd⟩
theorem nJ.last{ns:List Int}{n l d:Int}{dc:Dc Bool}(h:nJ ns n l d dc)(hs:l<d*d)(h1:1<l):Fw (dc.put l true) (ns++[n]):=by
 have hp:aR l=true:=vC (by omega) hs h.d2 h.lo;refine⟨yF h.nd,fun q=>?_⟩;rw[jD,vA];constructor
 .rintro(rfl|z)
  .exact .inr ⟨hp,h.ln⟩
  .exact h.so q z
 .rintro(z|⟨z1,z2⟩)
  .exact .inr (h.wh q z)
  .rcases h.co q z1 z2 with z|z
   .exact .inr z
   .exact .inl (Q.aK z1 hp z)
theorem nJ.one{ns:List Int}{n l d:Int}{dc:Dc Bool}(h:nJ ns n l d dc)(h1:¬1<l):Fw dc (ns++[n]):=by
 have e:l=1:=by have:=h.l1;omega
 refine⟨h.nd,fun q=>?_⟩;rw[vA];constructor
 .exact h.so q
 .rintro(z|⟨z1,z2⟩)
  .exact h.wh q z
  .rcases h.co q z1 z2 with z|z
   .exact z
   .rw[e] at z;have:=Int.le_of_dvd (by decide) z;have:=Q.au z1;omega
theorem rK{M:List Int}{dc:Dc Bool}(hM:M.length<=56)(nd:(k8 dc).Nodup)(h:∀q∈k8 dc,q∈P7\/q∈M):dc.l.length<=63:=by
 have:(k8 dc).length<=(P7++M).length:=Q.tR nd fun q hq=>List.mem_append.mpr (h q hq);unfold k8 at this;rw[List.length_map,List.length_append] at this;have:P7.length=7:=rfl;omega
theorem uW{l:List Int}(h:l.Nodup):(gf l).Pairwise (·<·):=by
 obtain⟨p1,p2⟩:=mh l;have nd:(gf l).Nodup:=p1.nodup_iff.mpr h;have:=List.Pairwise.and p2 nd;exact this.imp fun h=>by omega
theorem oZ{row:List Int}(nz:∀x∈row,x≠0){q:Int}:q∈As row↔QB row q:=by
 unfold As QB;rw[h9,List.mem_append,List.mem_flatMap];refine or_congr_right ?_;constructor
 .rintro⟨a,ha,hq⟩;have:=nz a ha;obtain⟨h4,h5⟩:=(Q.jC (by omega)).mp hq;exact⟨h4,a,ha,Int.dvd_natAbs.mp h5⟩
 .rintro⟨h4,a,ha,h5⟩;have:=nz a ha;exact⟨a,ha,(Q.jC (by omega)).mpr ⟨h4,Int.dvd_natAbs.mpr h5⟩⟩
theorem DH{row:List Int}{dc:Dc Bool}(nz:∀x∈row,x≠0)(h:Fw dc row):gf (dc.l.map (·.1))=As row:=by
 refine iw (uW h.1) (gY _) fun q=>?_;rw[(mh _).1.mem_iff];exact(h.2 q).trans (oZ nz).symm
set_option maxHeartbeats 2000000 in
include B in
theorem oY(row:List Int)(hp:Hs row):Body P w K mg base jV "_law_places" ez f kk [.val false row] (RT true (As row)):=by
 intro cdv A outer s H E hr;obtain⟨nz,M,hM,hq⟩:=hp
 have bd:∀{ns:List Int} {n:Int} {dc:Dc Bool},(∀x∈ns,x∈row)->n∈row->(k8 dc).Nodup->(∀q,q∈k8 dc->QB ns q\/(aR q=true/\q∣n))->dc.l.length<=63:=fun {ns n dc} h1 h2 nd so=>rK hM nd fun q hqk=>by
  rcases so q hqk with(h|⟨h3,x,hx,hd⟩)|⟨h3,hd⟩
  .exact .inl h
  .exact .inr (hq x (h1 x hx) q h3 hd)
  .exact .inr (hq n h2 q h3 hd)
 refine tj 1 bH.nd (GN (ks:=[0,2,3,5,7,11,13]) rfl (by decide) (by decide) (by decide)) ?_;refine km (b:=false) (fun i Γ=>∃dc r2 r3 r4,Γ=[some (.val false row),some (.dpo (dc:Dc Bool)),r2,r3,r4]/\Fw dc (row.take i)) (cQ 2 bH.nd) (aa 0) ⟨Dc.mk ([0,2,3,5,7,11,13].map fun k=>(k,true)),none,none,none,rfl,by show [(0:Int),2,3,5,7,11,13].Nodup;decide,fun q=>?_⟩ ?_ ?_
 .show q∈P7↔_;rw[List.take_zero];unfold QB;simp
 .rintro i n Γ' hn ⟨dc,r2,r3,r4,rfl,hk⟩;have hnm:=List.mem_of_getElem? hn;obtain⟨n0,nl⟩:=nz n hnm;have e1:row.take (i+1)=row.take i++[n]:=by rw[List.take_add_one,hn];rfl
  have hns:∀x∈row.take i,x∈row:=fun x hx=>List.mem_of_mem_take hx;rw[e1];generalize row.take i=ns at *;refine ah 3 bH.nd (ic (g6 rfl B.abs (aa 2)) (oO n)) ?_;refine ah 4 bH.nd ae ?_;refine bJ (ι:=Int×Int×Dc Bool) (fun u Γ=>Γ=[some (.val false row),some (.dpo u.2.2),some (.val false n),some (.val true u.1),some (.val true u.2.1)]/\nJ ns n u.1 u.2.1 u.2.2) (fun u=>(u.1+1-u.2.1).toNat) ((n.natAbs:Int),2,dc) ⟨rfl,nJ.start hk n0⟩ ?_;rintro⟨l,d,dc⟩ Γ' ⟨rfl,I⟩;have I:nJ ns n l d dc:=I;have l1:=I.l1;have d2:=I.d2;have ll:=I.le n0;have dn:=I.dn;refine⟨_,ao CL (aM (aa 4) (aa 4) (mulL (by dsimp only;omega) (by dsimp only;omega))) (aa 3),fun hc=>?_,fun hc=>?_⟩
  .have hc':d*d<=l:=of_decide_eq_true hc
   have dl:d<=l:=by
    have:=Int.mul_le_mul d2 (Int.le_refl d) (by omega) (by omega);omega
   refine bJ (ι:=Int×Dc Bool) (fun u Γ=>Γ=[some (.val false row),some (.dpo u.2),some (.val false n),some (.val true u.1),some (.val true d)]/\nJ ns n u.1 d u.2/\u.1<=l) (fun u=>u.1.toNat) (l,dc) ⟨rfl,I,Int.le_refl l⟩ ?_;rintro⟨l',dc'⟩ Γ' ⟨rfl,I',hle⟩;have I':nJ ns n l' d dc':=I';have hle:l'<=l:=hle;have l1':=I'.l1;refine⟨_,ao av (aG (aa 3) (aa 4) (by omega)) ae,fun hc=>?_,fun hc=>?_⟩
   .have hd:d∣l':=Q.dm.mp (of_decide_eq_true hc);obtain⟨J,lt⟩:=I'.div hd;have hlen:=bd hns hnm I'.nd I'.so;refine x8 1 (k:=d) (c:=true) (i4 hr) rfl (aa 4) ni (by dsimp only;omega) ?_;refine ah 3 bH.nd (ic (aI (aa 3) (aa 4) (Sm.div (n:=40) (by unfold Sm;omega) (by omega))) (Int.fdiv_eq_ediv_of_nonneg _ (by omega))) ?_;exact ay ⟨(l'/d,dc'.put d true),⟨rfl,J,by dsimp only;omega⟩,by dsimp only;omega⟩
   .have hd:¬d∣l':=fun z=>absurd (Q.dm.mpr z) (of_decide_eq_false hc);refine ah 4 bH.nd (bg (aa 4) ae) ?_;exact ay ⟨(l',d+1,dc'),⟨rfl,I'.up n0 (by omega) hd⟩,by dsimp only;omega⟩
  .have hs:¬d*d<=l:=of_decide_eq_false hc;refine aL (ao cJ (aa 3) ae) (fun hc=>?_) (fun hc=>?_)
   .have hlen:=bd hns hnm I.nd I.so;refine x8 1 (k:=l) (c:=true) (i4 hr) rfl (aa 3) ni (by dsimp only;omega) ?_;exact ay (ay ⟨_,_,_,_,rfl,I.last (by omega) (of_decide_eq_true hc)⟩)
   .exact ay ⟨_,_,_,_,rfl,I.one (of_decide_eq_false hc)⟩
 .rintro Γ' ⟨dc,r2,r3,r4,rfl,hk⟩;rw[List.take_length] at hk;refine DS 1 rfl ?_
  have hlen:dc.l.length<=63:=rK hM hk.1 fun q hqk=>by
   rcases(hk.2 q).mp hqk with h|⟨h3,x,hx,hd⟩
   .exact .inl h
   .exact .inr (hq x hx q h3 hd)
  rw[<-DH (fun x hx=>(nz x hx).1) hk];exact ax (Bj rfl B.sorted (aa 1) (by omega)) rfl
theorem tO{X:Cx}{Γ:aC}{e:Expr}{c c':Bool}(h:T X Γ e c)(z:c=c'):T X Γ e c':=z▸h
theorem iZ(c_law_power:aN P w K mg base 1 "_law_power" ["_law_k","_law_often","_law_p"] (kF K (fun _ e m=>0<=e/\2<=m/\m<2^62) true xw))(c_law_split:aN P w K mg base 1 "_law_split" ["_law_k","_law_p"] (cT K (fun k d=>k≠0/\2<=d/\Sm 9000 d) true Q.aZ))(k p:Int)(hk:k≠0/\k.natAbs<1073741824)(hp:p∈P7):Body P w K mg base eR "_law_square_there" bV f 1 [.val false k,.val false p] (RT true (nD k p)):=by
 intro cdv A outer s H E hr;unfold nD;refine aL (ao av (aa 1) ae) (fun hc=>?_) (fun hc=>?_)
 .rw[if_pos (of_decide_eq_true hc)];exact ax (bx cJ (aa 0) ae) rfl
 have p0:p≠0:=of_decide_eq_false hc;rw[if_neg p0];obtain⟨_,pp,_⟩:=(Q.cc hp).resolve_left p0;have p2:=Q.au pp;have pl:p<100:=by simp only[P7,List.mem_cons,List.not_mem_nil,or_false] at hp;omega
 have s9:Sm 9000 p:=(show Sm 31 p by unfold Sm;omega).le (by decide);obtain⟨⟨v0,v1⟩,u1,un⟩:=yx hk.1 hk.2 p2;refine sS 2 3 dX.nd (aE c_law_split (hr.mono (by decide)) rfl (aa 0) (aa 1) ⟨hk.1,p2,s9⟩) ?_;have ec:Q.cls k p=((Q.aZ k p).1%2,if p=2 then (Q.aZ k p).2%8 else Q.bA (Q.aZ k p).2 p):=rfl;rw[ec];generalize Q.aZ k p=t at *;obtain⟨v,u⟩:=t;dsimp only at *;refine aL (ao av (ic (aG (aa 2) ae (by decide)) (a_ (by decide))) ae) (fun hc=>?_) (fun hc=>?_)
 .have e:v%2=1:=of_decide_eq_true hc;rw[e,decide_eq_false (fun z=>by cases congrArg Prod.fst z)];exact ax ni rfl
 have e:v%2=0:=by have:¬v%2=1:=of_decide_eq_false hc;omega
 rw[e]
 have e1:∀x:Int,decide (((0:Int),x)=(0,1))=decide (x=1):=fun x=>by
  rw[Bool.eq_iff_iff,decide_eq_true_iff,decide_eq_true_iff];exact⟨fun z=>congrArg Prod.snd z,fun z=>by rw[z]⟩
 rw[e1];refine aL (ao av (aa 1) ae) (fun hc=>?_) (fun hc=>?_)
 .rw[if_pos (of_decide_eq_true hc)];exact ax (bx av (ic (aG (aa 3) ae (by decide)) (a_ (by decide))) ae) rfl
 have h2:p≠2:=of_decide_eq_false hc;rw[if_neg h2];refine ax (bx av (bS c_law_power (hr.mono (by decide)) rfl (aa 3) (ic (aI (cG (aa 1) ae) ae jk) (Int.fdiv_eq_ediv_of_nonneg _ (by decide))) (aa 1) ⟨by omega,p2,by omega⟩) ae) ?_;show Bd.val _ _=Bd.val _ _;congr 1;rw[Bool.eq_iff_iff,decide_eq_true_iff,decide_eq_true_iff];exact t7 pp h2 un
set_option maxHeartbeats 1000000 in
include B in
theorem xl(c_law_square_there:aN P w K mg base 2 "_law_square_there" ["_law_k","_law_p"] (cT K (fun(k p:Int)=>(k≠0/\k.natAbs<1073741824)/\p∈P7) true nD))(s0 g n:Int)(ns:List Int)(h:kX (kI.mk s0 g n ns)):Body P w K mg base kh "_law_due" f7 f 2 [.val false s0,.val false g,.val false n,.val false ns] (RT true (sD s0 g n ns)):=by
 intro cdv A outer s H E hr;have s1:1<=s0:=h.s1;have s8:s0<=8:=h.s8;have g0:0<=g:=h.g0;have gs:g<=s0:=h.gs;have hsub:∀p∈ns,p∈P7:=h.sub;have hlen:ns.length<=7:=h.len;have hn:n∈du 6:=h.nm;have n0:=Q.bj hn;have nl:=Q.dW hn;refine ah 4 my.nd (cG (aa 0) (aa 1)) ?_;unfold sD;refine aL (TW.t (fV (ao (kH (α:=Bool) (i4 hr)) (bx jU (aa 2) ae) (bx av (ic (aG (aa 4) ae (by decide)) (a_ (by decide))) ae)) fun _=>(fI (ao av (ic (aG (fL rfl B.len (aa 3)) ae (by decide)) (a_ (by decide))) ae)))) (fun hc=>?_) (fun hc=>?_)
 .rw[if_pos hc];exact ax ni rfl
 rw[if_neg (by rw[hc];decide)];refine aL (ao (kH (α:=Bool) (i4 hr)) (bx mr ae (aa 3)) (bx av (ic (a':=(s0-g)*(s0-g-1)/2%2) (aG (aI (aM (aa 4) (cG (aa 4) ae) ((show Sm 4 (s0-g) by unfold Sm;omega).ok (show Sm 4 (s0-g-1) by unfold Sm;omega))) ae jk) ae (by decide)) (by rw[a_ (by decide),Int.fdiv_eq_ediv_of_nonneg _ (by decide)])) ae)) (fun hc=>?_) (fun hc=>?_)
 .rw[if_pos hc];exact ax ni rfl
 rw[if_neg (by rw[hc];decide)];refine aL (ao av (aa 0) ae) (fun hc=>?_) (fun hc=>?_)
 .rw[if_pos (of_decide_eq_true hc)];refine ax (bx (vT (α:=List Int) (i4 hr)) (aa 3) (dM (as:=([]:List Int)) (b:=true) bG (by show 0<=1000;decide))) ?_;show Bd.val _ _=Bd.val _ _;congr 1;rw[Bool.eq_iff_iff,decide_eq_true_iff,decide_eq_true_iff];exact⟨fun z=>by rw[z];rfl,fun z=>List.length_eq_zero_iff.mp (by omega)⟩
 rw[if_neg (of_decide_eq_false hc)];refine ax (BE (bx cJ (aa 0) ae) fun _=>(u7 (bx (vT (α:=List Int) (i4 hr)) (gu (f:=fun q:Int=>q) (p:=fun q=>nD (0-n) q) (b':=true) ["_law_p"] [2] (dD (af f7) kh rfl rfl (by decide +kernel)) (cD (aa 3)) (b9 0) (fun C s H fp=>fX 0 ["_law_p","_law_number"]) bL (fun i q hi C s H fp=>jc (di (aE c_law_square_there (hr.mono (by decide)) rfl (cG ae (aa 1)) (aa 0) ⟨⟨by omega,by omega⟩,hsub q (List.mem_of_getElem? hi)⟩))) (fun i q hi _ C s H fp=>gT (b':=true) (aa 0)) (by omega)) (dM (as:=([]:List Int)) (b:=true) bG (by show 0<=1000;decide))))) ?_;show Bd.val _ _=Bd.val _ _;congr 2;rw[List.map_id',Int.zero_sub,Bool.eq_iff_iff,decide_eq_true_iff,Bool.not_eq_true',List.any_eq_false,List.filter_eq_nil_iff];constructor
 .rintro z x hx;obtain⟨p,hp,rfl⟩:=List.mem_map.mp hx;exact z p hp
 .intro z p hp;exact z _ (List.mem_map.mpr ⟨p,hp,rfl⟩)
theorem Ga{ns:List Int}{f:Int->Bool}(h:ns=P7.filter f):ns=P7.filter fun p=>decide (p∈ns):=by
 conv=>lhs;rw[h]
 refine List.filter_congr fun p hp=>?_;rw[Bool.eq_iff_iff,decide_eq_true_iff,h,List.mem_filter];exact⟨fun z=>⟨hp,z⟩,fun z=>z.2⟩
theorem G5:∀i,i<7->P7.getD i 0∉P7.take i:=by decide
theorem nQ{i:Nat}{p:Int}{f:Int->Bool}(hp:P7[i]?=some p)(c:Bool):∃g:Int->Bool,(P7.take (i+1)).filter g=(P7.take i).filter f++(if c then [p] else []):=by
 have hi:i<7:=(List.getElem?_eq_some_iff.mp hp).1;have e:P7.getD i 0=p:=by rw[List.getD_eq_getElem?_getD,hp];rfl
 have nt:=G5 i hi;rw[e] at nt;refine⟨fun x=>if x=p then c else f x,?_⟩;rw[List.take_add_one,hp,List.filter_append];congr 1
 .refine List.filter_congr fun x hx=>?_;rw[if_neg (fun z=>nt (by rw[<-z];exact hx))]
 .show List.filter _ [p]=_;cases c<;>simp
theorem sU{f:Int->Bool}:[(0:Int)]++(P7.filter fun p=>f p&&decide (0<p))=P7.filter fun p=>decide (p=0) || (f p&&decide (0<p)):=by
 have e:P7=0::Q6:=rfl;rw[e,List.filter_cons_of_neg (by simp),List.filter_cons_of_pos (by simp)];show 0::_=0::_;rfl
theorem Aa{f:Int->Bool}{p:Int}(hp:p∈P7):gf ((P7.filter f).filter (fun q=>!decide (q=p))++List.replicate (if (!decide (p∈P7.filter f))=true then (1:Int) else 0).toNat p)=P7.filter fun q=>if q=p then !f p else f q:=by
 have mp:decide (p∈P7.filter f)=f p:=by
  rw[Bool.eq_iff_iff,decide_eq_true_iff,List.mem_filter];exact⟨fun z=>z.2,fun z=>⟨hp,z⟩⟩
 rw[mp];have p7:P7.Nodup:=by decide
 have pi:P7.Pairwise (·<·):=by decide
 refine iw (uW ?_) (List.Pairwise.sublist List.filter_sublist pi) fun q=>?_
 .rw[List.nodup_append];refine⟨(p7.filter _).filter _,?_,fun a ha b hb e=>?_⟩
  .cases f p<;>simp
  .have h1:=(List.mem_filter.mp ha).2;have h2:=List.eq_of_mem_replicate hb;rw[e,h2] at h1;simp at h1
 .rw[(mh _).1.mem_iff,List.mem_append,List.mem_filter,List.mem_filter,List.mem_filter,List.mem_replicate];by_cases z:q=p
  .subst z;cases f q<;>simp[hp]
  .simp[z]
set_option maxHeartbeats 2000000 in
include B in
theorem sR(c_law_small:aN P w K mg base 1 "_law_small" ["_law_cell"] (gS K (fun(_:Int)=>True) true Fp))(c:Int):Body P w K mg base gL "_law_wish" dy f 1 [.val false c] (xu true (fun w=>kX w)):=by
 intro cdv A outer s H E hr;have z8:=eL (a:=c) (b:=8) (by decide);refine ah 1 aP.nd (bg ae (aG (aa 0) ae (by decide))) ?_;generalize hs:1+c.fmod 8=sz;have s1:1<=sz:=by omega
 have s8:sz<=8:=by omega
 have zg:=eL (a:=c.fdiv 8) (b:=sz+1) (by omega);refine ah 2 aP.nd (aG (aI (aa 0) ae jk) (bg (aa 1) ae) (by omega)) ?_;generalize hg:(c.fdiv 8).fmod (sz+1)=g at *;have g0:0<=g:=by omega
 have gs:g<=sz:=by omega
 refine ah 3 aP.nd (bh c_law_small (hr.mono (by decide)) rfl (aI (aa 0) ae jk) True.intro) ?_;have hn:=Bw (c.fdiv 72);generalize Fp (c.fdiv 72)=n at *;refine ah 4 aP.nd (aI (aI (aa 0) ae jk) ae jk) ?_;generalize (c.fdiv 72).fdiv 128=rs;have nl:=Q.dW hn;refine dY (fun Γ=>∃n,n∈du 6/\Γ=[some (.val false c),some (.val true sz),some (.val true g),some (.val true (n:Int)),some (.val true rs),none,none,none,none]) (ao cJ (aG (aa 4) ae (by decide)) ae) (fun hc=>?_) (fun hc=>ay ⟨n,hn,rfl⟩) ?_
 .have z2:=eL (a:=sz-g) (b:=2) (by decide);refine ah 3 aP.nd (aM (g6 rfl B.abs (aa 3)) (cG ae (aM ae (aG (cG (aa 1) (aa 2)) ae (by decide)) (mulL (by decide) (by decide)))) ((show Sm 15 (if n<0 then -n else n) by rw[mZ];unfold Sm;omega).ok (show Sm 3 (1-2*(sz-g).fmod 2) by unfold Sm;omega))) ?_;refine ay ⟨_,?_,rfl⟩;rw[mZ];obtain⟨_,k2,_⟩:=Q.pQ n hn;have:(sz-g).fmod 2=0\/(sz-g).fmod 2=1:=by omega
  rcases this with e|e
  .rw[e,show(1:Int)-2*0=1 by decide,Int.mul_one];exact k2
  .rw[e,show(1:Int)-2*1=-1 by decide,Int.mul_neg_one];exact(Q.pQ _ k2).1
 rintro Γ' ⟨n,hn,rfl⟩;refine xU 5 Int aP.nd ?_;refine ah 6 aP.nd (aI (aa 4) ae jk) ?_;refine km (xs:=P7) (b:=true) (fun i Γ=>∃(f:Int->Bool) (b:Int) (r7:Option Bd),Γ=[some (.val false c),some (.val true sz),some (.val true g),some (.val true n),some (.val true rs),some (.own true ((P7.take i).filter f)),some (.val true b),r7,none]) (cQ 7 aP.nd) (dM (aD ae (aD ae (aD ae (aD ae (aD ae (aD ae (aD ae bG))))))) (Nat.le_of_ble_eq_true rfl)) ⟨fun _=>true,_,none,rfl⟩ ?_ ?_
 .rintro i p Γ' hp ⟨f,b,r7,rfl⟩;refine dY (fun Γ=>∃f:Int->Bool,Γ=[some (.val false c),some (.val true sz),some (.val true g),some (.val true n),some (.val true rs),some (.own true ((P7.take (i+1)).filter f)),some (.val true b),some (.val true p),none]) (ao av (aG (aa 6) ae (by decide)) ae) (fun hc=>?_) (fun hc=>?_) ?_
  .obtain⟨f',hf⟩:=nQ (f:=f) hp true;refine fR 5 (a:=p) rfl (aa 7) (Nat.le_trans (List.length_filter_le _ _) (Nat.le_trans (List.length_take_le _ _) (by show i<=1000;have:i<7:=(List.getElem?_eq_some_iff.mp hp).1;omega))) ?_;refine ay ⟨f',?_⟩;rw[hf];rfl
  .obtain⟨f',hf⟩:=nQ (f:=f) hp false;refine ay ⟨f',?_⟩;rw[hf,if_neg (by decide),List.append_nil];rfl
  .rintro Γ' ⟨f',rfl⟩;refine ah 6 aP.nd (aI (aa 6) ae jk) ?_;exact ay ⟨f',_,_,rfl⟩
 rintro Γ' ⟨f,b,r7,rfl⟩;refine ip 5 rfl ?_;rw[show(P7.take P7.length)=P7 from rfl];refine ah 8 aP.nd (cG (aa 1) (aa 2)) ?_;have fin:∀{f:Int->Bool},kX (kI.mk sz g n (P7.filter f)):=fun {f}=>⟨s1,s8,g0,gs,hn,Ga rfl⟩;have l7:∀f:Int->Bool,(P7.filter f).length<=7:=fun f=>Nat.le_trans (List.length_filter_le _ _) (by decide);refine dY (fun Γ=>∃(f:Int->Bool) (r7:Option Bd),Γ=[some (.val false c),some (.val true sz),some (.val true g),some (.val true n),some (.val true rs),some (.val true (P7.filter f)),some (.val true b),r7,some (.val true (sz-g))]) (ao cJ (aG (aI (aa 4) ae jk) ae (by decide)) ae) (fun hc=>?_) (fun hc=>ay ⟨f,r7,rfl⟩) ?_
 .refine vV (f:=fun q:Int=>q) (p:=fun q=>decide (0<q)) (b':=true) 5 aP.nd ["_law_p"] [] (dD (af dy) gL rfl rfl (by decide +kernel)) (cD (aa 5)) (b9 0) (fun C s H fp=>fX 0 ["_law_p"]) bL (fun i q hi C s H fp=>jc (ao cJ (aa 0) ae)) (fun i q hi _ C s H fp=>gT (b':=true) (aa 0)) (Nat.le_trans (l7 f) (by decide)) ?_;rw[List.map_id',List.filter_filter];refine dY (fun Γ=>∃(f:Int->Bool),Γ=[some (.val false c),some (.val true sz),some (.val true g),some (.val true n),some (.val true rs),some (.val true (P7.filter f)),some (.val true b),r7,some (.val true (sz-g))]) (ao av (aG (aI (aM (aa 8) (cG (aa 8) ae) ((show Sm 4 (sz-g) by unfold Sm;omega).ok (show Sm 4 (sz-g-1) by unfold Sm;omega))) ae jk) ae (by decide)) ae) (fun hc=>?_) (fun hc=>ay ⟨_,rfl⟩) ?_
  .have e:(P7.filter fun a=>decide (0<a)&&f a)=P7.filter fun p=>f p&&decide (0<p):=List.filter_congr fun p _=>Bool.and_comm _ _;refine ah 5 aP.nd (ng (dM (as:=[(0:Int)]) (b:=true) (aD ae bG) (by show 1<=1000;decide)) (aa 5) (by have:=l7 fun a=>decide (0<a)&&f a;show 1+_<=1000;omega)) ?_;rw[e,sU];exact ay ⟨_,rfl⟩
  rintro Γ' ⟨f,rfl⟩;refine aL (ao av (aG (fL rfl B.len (aa 5)) ae (by decide)) ae) (fun hc=>?_) (fun hc=>ay ⟨f,r7,rfl⟩);have z6:=eL (a:=rs.fdiv 2048) (b:=6) (by decide)
  obtain⟨p,hp,hpm⟩:∃p,vJ [(2:Int),3,5,7,11,13] ((rs.fdiv 2048).fmod 6)=some p/\p∈P7:=by
   generalize (rs.fdiv 2048).fmod 6=z at *;have:z=0\/z=1\/z=2\/z=3\/z=4\/z=5:=by omega
   rcases this with rfl|rfl|rfl|rfl|rfl|rfl
   .exact⟨2,rfl,by decide⟩
   .exact⟨3,rfl,by decide⟩
   .exact⟨5,rfl,by decide⟩
   .exact⟨7,rfl,by decide⟩
   .exact⟨11,rfl,by decide⟩
   .exact⟨13,rfl,by decide⟩
  refine ah 7 aP.nd (vi (xs:=[(2:Int),3,5,7,11,13]) (a:=p) (b:=true) (dM (aD ae (aD ae (aD ae (aD ae (aD ae (aD ae bG)))))) (Nat.le_of_ble_eq_true rfl)) (aG (aI (aa 4) ae jk) ae (by decide)) hp) ?_;have lf:=l7 f;have lff:=List.length_filter_le (fun q=>!decide (q=p)) (P7.filter f);have rl:(if (!decide (p∈P7.filter f))=true then (1:Int) else 0)=0\/(if (!decide (p∈P7.filter f))=true then (1:Int) else 0)=1:=by split<;>simp
  have key:=Aa (f:=f) hpm;generalize hk:(if (!decide (p∈P7.filter f))=true then (1:Int) else 0)=kk at *;refine ah 5 aP.nd (AD rfl B.sorted (ng (gu (f:=fun q:Int=>q) (p:=fun q=>!decide (q=p)) (b':=true) ["_law_q"] [7] (dD (af dy) gL rfl rfl (by decide +kernel)) (cD (aa 5)) (b9 0) (fun C s H fp=>fX 0 ["_law_q","_law_p"]) bL (fun i q hi C s H fp=>jc (ao eN (aa 0) (aa 1))) (fun i q hi _ C s H fp=>gT (b':=true) (aa 0)) (by omega)) (ET (a:=p) (k:=kk) (dM (aD (aa 7) bG) (by show 1<=1000;decide)) (ic (C6 rfl B.int (bx B8 (aa 7) (aa 5))) hk) (by omega) (by omega)) (by rw[List.length_map,List.length_replicate];omega)) (by rw[List.length_append,List.length_map,List.length_replicate];omega)) ?_;rw[List.map_id',key];exact ay (ay ⟨_,_,rfl⟩)
 .rintro Γ' ⟨f,r7,rfl⟩;exact ax (Dr (w:=kI.mk sz g n (P7.filter f)) (E9 (ds:=[Dt.mk (.int sz),Dt.mk (.int g),Dt.mk (.int n),Dt.mk (.list ((P7.filter f).map .int))]) (b:=true) (aD (DY (aa 1)) (aD (DY (aa 2)) (aD (DY (aa 3)) (aD (GL (aa 5)) bG)))) (by show 4<=1000;decide))) ⟨_,fin,rfl⟩
theorem D3{a b:Int}(ha:iP a)(hb:iP b):iP (nB a b)/\∃g,0<g/\a*b=nB a b*(g*g):=by
 obtain⟨g0,x2,_,y2,_⟩:=jx ha.1 hb.1;obtain⟨u,hu⟩:=Int.gcd_dvd_left a b;obtain⟨v,hv⟩:=Int.gcd_dvd_right a b
 have eu:a.fdiv ((Int.gcd a b:Nat):Int)=u:=by
  have:=Int.mul_fdiv_cancel_left u g0;rw[<-hu] at this;exact this
 have ev:b.fdiv ((Int.gcd a b:Nat):Int)=v:=by
  have:=Int.mul_fdiv_cancel_left v g0;rw[<-hv] at this;exact this
 have ej:nB a b=u*v:=by unfold nB;rw[eu,ev]
 rw[eu] at x2;rw[ev] at y2;have ua:u∣a:=⟨_,by rw[Int.mul_comm];exact hu⟩;have vb:v∣b:=⟨_,by rw[Int.mul_comm];exact hv⟩
 have no:∀q,aR q=true->q∣u->q∣v->False:=fun q hq ⟨s,hs⟩ ⟨t,ht⟩=>by
  have h1:((Int.gcd a b:Nat):Int)*q∣a:=⟨s,by rw[Int.mul_assoc,<-hs];exact hu⟩;have h2:((Int.gcd a b:Nat):Int)*q∣b:=⟨t,by rw[Int.mul_assoc,<-ht];exact hv⟩;have h3:=Int.dvd_coe_gcd h1 h2;have h4:=Int.le_of_dvd (by omega) h3;have:=Q.au hq;have:=Int.mul_le_mul_of_nonneg_left (show(2:Int)<=q by omega) (show(0:Int)<=((Int.gcd a b:Nat):Int) by omega);omega
 refine⟨?_,((Int.gcd a b:Nat):Int),by omega,?_⟩
 .rw[ej];refine iX (Int.mul_ne_zero x2 y2) fun q hq z=>?_;have q2:=Q.au hq;have qq:q*q≠0:=Int.mul_ne_zero (by omega) (by omega);by_cases w:q∣u
  .have w':¬q∣v:=fun t=>no q hq w t
   have g:Int.gcd (q * q) v=1:=Q.ki (fun r hr h1 h2=>by
    have:r∣q:=by rcases Q.euclid hr h1 with z|z<;>exact z
    rw[Q.aK hr hq this] at h2
    exact w' h2) qq
   exact ha.2 q (by omega) (Int.dvd_trans (Q.d7 z g) ua)
  .have g:Int.gcd (q * q) u=1:=Q.ki (fun r hr h1 h2=>by
    have:r∣q:=by rcases Q.euclid hr h1 with z|z<;>exact z
    rw[Q.aK hr hq this] at h2
    exact w h2) qq
   rw[Int.mul_comm u v] at z;exact hb.2 q (by omega) (Int.dvd_trans (Q.d7 z g) vb)
 .rw[ej,hu,hv];grind
def Ar(row:List Int):Int:=row.foldl (fun n k=>nB n k) 1
theorem yI{row:List Int}(h:∀x∈row,iP x/\x.natAbs<1073741824):∀i,i<=row.length->iP (Ar (row.take i))/\Sm (1+30*i) (Ar (row.take i))/\∃s,0<s/\Q.y4 (row.take i)=Ar (row.take i)*(s*s)
 |0,_=>⟨Q.iB,by show(1:Int).natAbs<2^1;decide,1,by decide,by rw[List.take_zero];rfl⟩
 |i+1,hi=>by
  obtain⟨a,b,s,s0,c⟩:=yI h i (by omega);have hg:row[i]?=some row[i]:=List.getElem?_eq_getElem (by omega);obtain⟨k1,k2⟩:=h _ (List.mem_of_getElem? hg);have e:Ar (row.take (i+1))=nB (Ar (row.take i)) row[i]:=j0 hg
  have e2:∀(xs:List Int) (x:Int),Q.y4 (xs++[x])=Q.y4 xs*x:=fun xs x=>by
   induction xs with
   |nil=>show x*1=1*x;omega
   |cons y ys ih=>show y*Q.y4 (ys++[x])=y*Q.y4 ys*x;rw[ih,Int.mul_assoc]
  obtain⟨j1,g,g0,j2⟩:=D3 a k1;obtain⟨_,j4⟩:=G4 a.1 k1.1 b (show Sm 30 row[i] by unfold Sm;omega);rw[e];refine⟨j1,j4.le (by omega),s*g,Int.mul_pos s0 g0,?_⟩;rw[List.take_add_one,hg];show Q.y4 (row.take i++[row[i]])=_;rw[e2,c];generalize Ar (row.take i)=F at *;generalize row[i]=x at *;rw[show F*(s*s)*x=F*x*(s*s) by grind,j2];grind
theorem FL{s g n:Int}{ns row:List Int}(h:Res s g n ns row)(hn:n∈du 6):Ar row=n:=by
 obtain⟨a,_,t,t0,e⟩:=yI h.nz row.length (Nat.le_refl _);rw[List.take_length] at a e;obtain⟨u,u0,eu⟩:=h.pr;exact(Q.qp a (Q.lD hn) t0 u0 (by rw[<-e,eu])).1
theorem Fs{w:kI}{row:List Int}(hw:kX w)(h:Res w.s w.g w.n w.ns row):GS row (As row)=w.ns:=by
 have pi:P7.Pairwise (·<·):=by decide
 have nz:∀x∈row,x≠0:=fun x hx=>(h.nz x hx).1.1;refine iw (List.Pairwise.sublist List.filter_sublist (gY _)) (by rw[hw.su];exact List.Pairwise.sublist List.filter_sublist pi) fun p=>?_;unfold GS;rw[List.mem_filter,oZ nz];constructor
 .rintro⟨h1,h2⟩
  have pl:Pl p:=by
   rcases h1 with z|z
   .exact Q.Bc z
   .exact .inr z.1
  rw[h.no p pl] at h2;simpa using h2
 .intro z;have z7:=hw.sub p z;refine⟨.inl z7,?_⟩;rw[h.no p (Q.Bc z7),decide_eq_true z];rfl
theorem DE{s g n:Int}{ns row:List Int}(h:Res s g n ns row):Hs row/\(As row).length<=900/\∀p∈As row,p=0\/(aR p=true/\p<2^31):=by
 have nz:∀x∈row,x≠0:=fun x hx=>(h.nz x hx).1.1;obtain⟨q,hq⟩:=h.fw;refine⟨⟨fun x hx=>⟨nz x hx,(h.nz x hx).2⟩,q::Q6,by show 7<=56;decide,hq⟩,?_,fun p hp=>?_⟩
 .have:(As row).length<=(P7++(q::Q6)).length:=Q.tR ((gY _).imp fun h=>by omega) fun p hp=>by
   rcases(oZ nz).mp hp with z|⟨z,x,hx,hd⟩
   .exact List.mem_append_left _ z
   .exact List.mem_append_right _ (hq x hx p z hd)
  have e:(P7++(q::Q6)).length=14:=rfl;omega
 .rcases(oZ nz).mp hp with z|⟨z,x,hx,hd⟩
  .have:p<=13:=by simp only[P7,List.mem_cons,List.not_mem_nil,or_false] at z;omega
   rcases Q.Bc z with y|y
   .exact .inl y
   .exact .inr ⟨y,by omega⟩
  .have x1:=h.nz x hx;have x0:=x1.1.1;have:=Int.le_of_dvd (b:=(x.natAbs:Int)) (by omega) (Int.dvd_natAbs.mpr hd);exact .inr ⟨z,by omega⟩
set_option maxHeartbeats 2000000 in
include B in
theorem qA(c_law_free:aN P w K mg base 2 "_law_free" ["_law_number"] (gS K (fun(n:Int)=>n≠0/\n.natAbs<1073741824) true oF))(c_law_free_times:aN P w K mg base 2 "_law_free_times" ["_law_one","_law_other"] (cT K A3 true nB))(c_law_places:aN P w K mg base 1 "_law_places" ["_law_row"] (gS K Hs true As))(c_law_noes:aN P w K mg base 3 "_law_noes" ["_law_row","_law_places_here"] (cT K Ip true GS))(row:List Int)(wi:kI)(hw:kX wi)(h:Res wi.s wi.g wi.n wi.ns row):Body P w K mg base ij "_law_meets" dR f 3 [.val false row,.val false wi] (xu true (fun(r:Bool)=>r=true)):=by
 intro cdv A outer s H E hr;have hl:=h.len;have s8:=hw.s8;have nz:=h.nz;obtain⟨plc,pl900,ppl⟩:=DE h;refine AJ 2 3 4 5 c_.nd (zY (aa 1)) ?_;refine aL (c:=false) (tO (TW.t (fV (iR (di (Et rfl B.isinstance rfl B.list (aa 0)))) fun _=>(fI (ao eN (fL rfl B.len (aa 0)) (kj (aa 2)))))) (by rw[decide_eq_true hl];rfl)) (fun hc=>nomatch hc) (fun _=>?_);refine ah 6 c_.nd ae ?_;refine km (b:=false) (fun i Γ=>i<=row.length/\∃r,Γ=[some (.val false row),some (.val false wi),some (.val false (Dt.mk (.int wi.s))),some (.val false (Dt.mk (.int wi.g))),some (.val false (Dt.mk (.int wi.n))),some (.val false (Dt.mk (.list (wi.ns.map .int)))),some (.val true (Ar (row.take i))),r]) (cQ 7 c_.nd) (aa 0) ⟨Nat.zero_le _,none,rfl⟩ ?_ ?_
 .rintro i k Γ' hk ⟨hi,r,rfl⟩;have hi':i<row.length:=(List.getElem?_eq_some_iff.mp hk).1;obtain⟨k1,k2⟩:=nz k (List.mem_of_getElem? hk);have k0:=k1.1;obtain⟨a,b,_⟩:=yI nz i hi;have e:Ar (row.take (i+1))=nB (Ar (row.take i)) k:=j0 hk;refine aL (c:=false) (tO (TW.t (fV (iR (di (DK rfl B.isinstance rfl B.int (aa (a:=k) 7)))) fun _=>(fV (di (Er rfl B.isinstance rfl B.bool (aa (a:=k) 7))) fun _=>(fV (ao av (aa (a:=k) 7) ae) fun _=>(fI (ao CD (ic (g6 rfl B.abs (aa (a:=k) 7)) (oO k)) ae)))))) (by rw[decide_eq_false k0,decide_eq_false (show ¬(1073741824:Int)<=(k.natAbs:Int) by omega)];rfl)) (fun hc=>nomatch hc) (fun _=>?_);refine aL (c:=false) (tO (ao eN (bh c_law_free (hr.mono (by decide)) rfl (aa (a:=k) 7) ⟨k0,k2⟩) (aa (a:=k) 7)) (by rw[oV (s:=1) k0 k2 k1 (by decide) (by omega),decide_eq_true rfl];rfl)) (fun hc=>nomatch hc) (fun _=>?_);refine ah 6 c_.nd (aE c_law_free_times (hr.mono (by decide)) rfl (aa 6) (aa (a:=k) 7) ⟨a.1,k0,b.le (by omega),(show Sm 30 k by unfold Sm;omega).le (by decide)⟩) ?_;rw[e];exact ay ⟨hi',_,rfl⟩
 .rintro Γ' ⟨hi,r,rfl⟩;rw[List.take_length,FL h hw.nm];have hsg:=h.sg;refine aL (c:=false) (tO (TW.t (fV (ao eN (fL rfl B.len (gu (f:=fun q:Int=>q) (p:=fun q=>decide (0<q)) (b':=true) ["_law_k"] [] (dD (af dR) ij rfl rfl (by decide +kernel)) (cD (aa 0)) (b9 0) (fun C s H fp=>fX 0 ["_law_k"]) bL (fun i q hi C s H fp=>jc (ao cJ (aa 0) ae)) (fun i q hi hp C s H fp=>gT (aa 0)) (by omega))) (kj (aa 3))) fun _=>(fI (ao eN (aa 6) (kj (aa 4)))))) (by rw[List.length_map,decide_eq_true hsg,decide_eq_true rfl];rfl)) (fun hc=>nomatch hc) (fun _=>?_);refine ax (bx (vT (α:=List Int) (i4 hr)) (aE c_law_noes (hr.mono (by decide)) rfl (aa 0) (bh c_law_places (hr.mono (by decide)) rfl (aa 0) plc) ⟨by omega,fun x hx=>⟨(nz x hx).1.1,(nz x hx).2⟩,ppl,pl900⟩) (vQ (aa 5))) ⟨_,?_,rfl⟩;exact decide_eq_true (Fs hw h)
set_option maxHeartbeats 4000000 in
include B in
theorem F6(c_can_be:aN P w K mg base 5 "can_be" ["wish"] (gS K kX true (fun w=>sD w.s w.g w.n w.ns)))(c_built:aN P w K mg base 17 "built" ["wish"] (uq K kX true Gk))(c_law_cell_at:aN P w K mg base 1 "_law_cell_at" ["_law_script","_law_k"] (cT K (fun _ k=>0<=k) true qS))(c_law_big:aN P w K mg base 1 "_law_big" ["_law_cell","_law_k"] (cT K (fun _ k=>0<=k/\k<=100) true GG))(c_law_wish:aN P w K mg base 2 "_law_wish" ["_law_cell"] (uq K (fun(_:Int)=>True) true (fun _ (w:kI)=>kX w)))(c_law_due:aN P w K mg base 3 "_law_due" ["_law_size","_law_signs","_law_number","_law_noes_here"] (Hq K (fun(s g n:Int) (ns:List Int)=>kX (kI.mk s g n ns)) true sD))(c_law_meets:aN P w K mg base 4 "_law_meets" ["_law_row","_law_wish_here"] (nG K (fun(row:List Int) (w:kI)=>kX w/\Res w.s w.g w.n w.ns row) true (fun _ _ (r:Bool)=>r=true)))(xs:List Int)(hl:xs.length<=63):
  Body P w K mg base CK "law" v_ f 17 [.val false xs] (RT true true):=by
 intro cdv A outer s H E hr;have hl':(if (xs.length:Int)<6 then (xs.length:Int) else 6)<=6/\0<=(if (xs.length:Int)<6 then (xs.length:Int) else 6):=by split<;>omega
 refine gF (fun i Γ=>∃r1 r2 r3 r4 r5 r6,Γ=[some (.val false xs),r1,r2,r3,r4,r5,r6]) rfl B.range (cQ 1 ji.nd) (bg (Ck rfl rfl B.min ae (fL rfl B.len (aa 0))) ae) (by omega) (by omega) ⟨none,none,none,none,none,none,rfl⟩ ?_ ?_
 .rintro i Γ' hi ⟨r1,r2,r3,r4,r5,r6,rfl⟩;have hi':i<=6:=by omega
  refine oW 2 ji.nd (rA c_law_wish (hr.mono (by decide)) rfl (aE c_law_big (hr.mono (by decide)) rfl (aE c_law_cell_at (hr.mono (by decide)) rfl (aa 0) (aa 1) (by omega)) (aa 1) ⟨by omega,by omega⟩) True.intro) fun wi hw=>?_;refine ah 3 ji.nd (Bo c_law_due (hr.mono (by decide)) rfl (qR (aa 2)) (zL (aa 2)) (zU (aa 2)) (qw (aa 2)) hw) ?_;refine ah 4 ji.nd (A8 rfl B.list (qw (aa 2))) ?_;refine ah 5 ji.nd (bh c_can_be (hr.mono (by decide)) rfl (aa 2) hw) ?_;refine BD 6 ji.nd (xh c_built (hr.mono (by decide)) rfl (aa 2) hw) fun o ho=>?_;obtain⟨h1,h2⟩:=ho
  have hB:∀o,Gk wi o->sD wi.s wi.g wi.n wi.ns=true->∃row,o=some row/\kX wi/\Res wi.s wi.g wi.n wi.ns row:=fun o ho hd=>by
   obtain⟨row,e,R⟩:=ho.1 hd;exact⟨row,e,hw,R⟩
  generalize sD wi.s wi.g wi.n wi.ns=d at *;refine aL (c:=false) (tO (TW.t (fV (iR (di (Ei rfl B.isinstance rfl B.bool (aa 5)))) fun _=>(fV (ao (kH (α:=Bool) (i4 hr)) (aa 5) (aa 3)) fun _=>(fI (ao (kH (α:=List Int) (i4 hr)) (qw (aa 2)) (aa 4)))))) (by simp)) (fun hc=>nomatch hc) (fun _=>?_);cases d with
  |true =>
   obtain⟨row,rfl,R⟩:=h1 rfl;refine aL (c:=false) (qB 6 rfl (tO (TW.t (fV (TW.t (h_ (di (aa (a:=true) 3)) fun _=>(iL (iR (di (Cj (a:=true) (mF c_law_meets (hr.mono (by decide)) rfl (mX (aa (a:=some row) 6)) (aa 2) ⟨hw,R⟩) fun _ z=>z)))))) fun _=>(fI (TW.t (h_ (c':=false) (iR (di (aa (a:=true) 3))) fun z=>by cases z))))) rfl)) (fun hc=>by cases hc) (fun _=>?_);refine aL (di (aa (a:=true) 3)) (fun _=>?_) (fun hc=>by cases hc);refine wm 6 rfl ?_;refine yO 6 true rfl ?_;have rl:=R.len;have s8:=hw.s8;refine fR 6 (a:=(0:Int)) rfl ae (by omega) ?_;refine aL (iR (di (Cj (a:=true) (zk c_law_meets (hr.mono (by decide)) rfl (DC (post':=fun row=>kX wi/\Res wi.s wi.g wi.n wi.ns row) (rA c_built (hr.mono (by decide)) rfl (aa 2) hw) fun o ho=>hB o ho rfl) (aa 2) fun a ha=>ha) fun r ⟨_,_,z⟩=>z))) (fun hc=>by cases hc) (fun _=>?_);exact ay (ay ⟨_,_,_,_,_,_,rfl⟩)
  |false =>
   have e:=h2 rfl;subst e;refine aL (c:=false) (qB 6 rfl (tO (TW.t (fV (TW.t (h_ (c':=false) (di (aa (a:=false) 3)) fun z=>by cases z)) fun _=>(fI (TW.t (h_ (iR (di (aa (a:=false) 3))) fun _=>(iL (G_ (α:=List Int) (x:=none) (aa 6) fun K N H a=>BK K N H a))))))) rfl)) (fun hc=>by cases hc) (fun _=>?_);refine aL (di (aa (a:=false) 3)) (fun hc=>by cases hc) (fun _=>?_);exact ay ⟨_,_,_,_,_,_,rfl⟩
 .rintro Γ' ⟨r1,r2,r3,r4,r5,r6,rfl⟩;exact ax ni rfl
end
open Q (iP aR)
open Q (Due Res Fh du P7 aq nD t6 d9 Q6 aR)
open Q (iP aR)
open Q (aR qv nM Pl)
set_option maxHeartbeats 0 in
theorem fin{lp:Program}{w:World}{K:PySem.W.Frag}{h:Heap}{mg:Str->Option Value}{fa:Addr}(X:K.In h)(G:h.Ns mainGlobals mg)(hfa:mg "law"=some (.ref fa))(B:Bu mg)
  (g_GREAT_PRIMES_FROM:sG mg "GREAT_PRIMES_FROM" 32768) (g_GREAT_FROM:sG mg "GREAT_FROM" 1073741824) (g_SMALL_PLACES:qg K mg "SMALL_PLACES" [0,2,3,5,7,11,13]) (g_AT_NOUGHT:qg K mg "AT_NOUGHT" [1,-1]) (g_AT_TWO:qg K mg "AT_TWO" [1,3,5,7,2,6,10,14]) (g_ALL_SMALL_PRIMES:sG mg "ALL_SMALL_PRIMES" 30030) (d_power_by:Df K "power_by" gE) (d_taken_out:Df K "taken_out" fF) (d_square_root:Df K "square_root" dH) (d_square_root_or_none:Df K "square_root_or_none" bD) (d_common_divisor:Df K "common_divisor" cE) (d_fraction:Df K "fraction" dz) (d_next_divisor:Df K "next_divisor" dg) (d_is_prime:Df K "is_prime" gG) (d_divided:Df K "divided" iE) (d_parts:Df K "parts" lG) (d_tame_parts:Df K "tame_parts" eB) (d_power:Df K "power" lj) (d_freed:Df K "freed" lr) (d_free_of:Df K "free_of" iK) (d_joined:Df K "joined" jE) (d_square_by:Df K "square_by" fv) (d_least_no_square:Df K "least_no_square" bZ) (d_class_at:Df K "class_at" eZ) (d_two_says:Df K "two_says" gJ) (d_odd_says:Df K "odd_says" gi) (d_says:Df K "says" oQ) (d_primes_of:Df K "primes_of" fh) (d_all_noes:Df K "all_noes" e8) (d_next_prime:Df K "next_prime" eE) (d_class_of_product:Df K "class_of_product" bU) (d_small_free_numbers:Df K "small_free_numbers" a8) (d_classes_of:Df K "classes_of" dq) (d_wishes_without:Df K "wishes_without" bK) (d_are_among:Df K "are_among" fC) (d_number_among:Df K "number_among" ck) (d_is_square_at:Df K "is_square_at" cW) (d_samples_at:Df K "samples_at" eC) (d_classes_for:Df K "classes_for" cK) (d_two_with:Df K "two_with" eM) (d_first_of:Df K "first_of" gM) (d_in_one_alone:Df K "in_one_alone" cm) (d_row_with:Df K "row_with" eW) (d_can_be:Df K "can_be" hU) (d_built:Df K "built" k_) (d_law_cell_at:Df K "_law_cell_at" dE) (d_law_big:Df K "_law_big" iC) (d_law_small:Df K "_law_small" fA) (d_law_common:Df K "_law_common" eA) (d_law_root:Df K "_law_root" gj) (d_law_free:Df K "_law_free" gq) (d_law_free_times:Df K "_law_free_times" cz) (d_law_power:Df K "_law_power" fB) (d_law_split:Df K "_law_split" ff) (d_law_says:Df K "_law_says" gH) (d_law_noes:Df K "_law_noes" gB) (d_law_places:Df K "_law_places" ez) (d_law_wish:Df K "_law_wish" dy) (d_law_square_there:Df K "_law_square_there" bV) (d_law_due:Df K "_law_due" f7) (d_law_meets:Df K "_law_meets" dR) (d_law:Df K "law" v_):
  ∃fd:FuncData,(∀(s:Shared) (u:Value),BindsTo s fd ⟨[u],[]⟩ [("_law_script",u)])/\∀base:Heap,K.In base->base.Ns mainGlobals mg->fe lp w K mg base nC 18 fa fd ["_law_script"] (qx K):=by
 refine Bv d_law X G hfa (fun _ _ _ _ _ _ s u=>.of_eq rfl) fun base _ _ f fd F=>?_;have c_power_by:aN lp w K mg base 1 "power_by" ["base","exponent","m"] (kF K (fun _ e m=>0<=e/\1<=m/\m<2^62) true xw):=d_power_by.dt X G (fun _ _ _ _ _ _ us hl=>match us,hl with|[_,_,_],_=>rfl) fun f fd F=>Aq F bP rfl fun a b c hp=>uB a b c hp.1 hp.2.1 hp.2.2;have c_taken_out:aN lp w K mg base 1 "taken_out" ["k","divisor"] (cT K (fun k d=>k≠0/\2<=d/\Sm 9000 d) true Q.aZ):=d_taken_out.dt X G (fun _ _ _ _ _ _ us hl=>match us,hl with|[_,_],_=>rfl) fun f fd F=>ny F cY rfl fun a b hp=>qL a b hp.1 hp.2.1 hp.2.2;have c_square_root:aN lp w K mg base 1 "square_root" ["k"] (gS K (fun k=>0<=k/\Sm 8000 k) true Q.rt):=d_square_root.dt X G (fun _ _ _ _ _ _ us hl=>match us,hl with|[_],_=>rfl) fun f fd F=>qj F eP rfl fun a hp=>nL a hp.1 hp.2;have c_square_root_or_none:aN lp w K mg base 2 "square_root_or_none" ["k"] (gS K (fun k=>Sm 8000 k) true B4):=d_square_root_or_none.dt X G (fun _ _ _ _ _ _ us hl=>match us,hl with|[_],_=>rfl) fun f fd F=>qj F c7 rfl fun a hp=>gU c_square_root a hp;have c_common_divisor:aN lp w K mg base 1 "common_divisor" ["a","b"] (cT K (fun _ _=>True) true fun a b=>((Int.gcd a b:Nat):Int)):=d_common_divisor.dt X G (fun _ _ _ _ _ _ us hl=>match us,hl with|[_,_],_=>rfl) fun f fd F=>ny F b8 rfl fun a c _=>j8 B a c;have c_fraction:aN lp w K mg base 2 "fraction" ["top","bottom"] (cT K IL true fr):=d_fraction.dt X G (fun _ _ _ _ _ _ us hl=>match us,hl with|[_,_],_=>rfl) fun f fd F=>ny F iz rfl fun a c hp=>sW c_common_divisor a c hp.1 hp.2;have c_next_divisor:aN lp w K mg base 2 "next_divisor" ["k","begin","end"] (kF K (fun k b e=>1<=k/\Sm 8000 k/\1<=b/\b<2^62/\-(2^62)<=e/\e<2^62) true Q.kE):=d_next_divisor.dt X G (fun _ _ _ _ _ _ us hl=>match us,hl with|[_,_,_],_=>rfl) fun f fd F=>Aq F gP rfl fun a b c hp=>l8 B c_square_root a b c hp;have c_is_prime:aN lp w K mg base 3 "is_prime" ["k"] (gS K (fun k=>k<2^62) true Q.aR):=d_is_prime.dt X G (fun _ _ _ _ _ _ us hl=>match us,hl with|[_],_=>rfl) fun f fd F=>qj F rL rfl fun a hp=>tq c_next_divisor a hp;have c_divided:aN lp w K mg base 3 "divided" ["k","end"] (cT K Hu true Q.aW):=d_divided.dt X G (fun _ _ _ _ _ _ us hl=>match us,hl with|[_,_],_=>rfl) fun f fd F=>ny F cj rfl fun a c hp=>xq c_taken_out c_next_divisor a c hp;have c_parts:aN lp w K mg base 4 "parts" ["k"] (gS K (fun k=>1<=k/\k<2^60) true Q.nM):=d_parts.dt X G (fun _ _ _ _ _ _ us hl=>match us,hl with|[_],_=>rfl) fun f fd F=>qj F mw rfl fun a hp=>Bx c_divided a hp;have c_tame_parts:aN lp w K mg base 4 "tame_parts" ["k"] (gS K (fun k=>1<=k/\Sm 900 k) true E7):=d_tame_parts.dt X G (fun _ _ _ _ _ _ us hl=>match us,hl with|[_],_=>rfl) fun f fd F=>qj F fK rfl fun a hp=>pW g_GREAT_PRIMES_FROM g_GREAT_FROM c_divided c_square_root_or_none a hp;have c_power:aN lp w K mg base 1 "power" ["base","exponent"] (cT K ID true Hr):=d_power.dt X G (fun _ _ _ _ _ _ us hl=>match us,hl with|[_,_],_=>rfl) fun f fd F=>ny F jl rfl fun a c hp=>AS B a c hp;have c_freed:aN lp w K mg base 5 "freed" ["u"] (gS K HM true Q.Gu):=d_freed.dt X G (fun _ _ _ _ _ _ us hl=>match us,hl with|[_],_=>rfl) fun f fd F=>qj F eV rfl fun a hp=>Bz B c_power c_fraction c_tame_parts a hp;have c_free_of:aN lp w K mg base 6 "free_of" ["k"] (gS K Fi true oF):=d_free_of.dt X G (fun _ _ _ _ _ _ us hl=>match us,hl with|[_],_=>rfl) fun f fd F=>qj F sN rfl fun a hp=>wY c_freed a hp;have c_joined:aN lp w K mg base 2 "joined" ["a","b"] (cT K A3 true nB):=d_joined.dt X G (fun _ _ _ _ _ _ us hl=>match us,hl with|[_,_],_=>rfl) fun f fd F=>ny F nV rfl fun a c hp=>zA c_common_divisor a c hp;have c_square_by:aN lp w K mg base 2 "square_by" ["k","p"] (cT K (fun _ p=>2<=p/\p<2^62) true Q.bA):=d_square_by.dt X G (fun _ _ _ _ _ _ us hl=>match us,hl with|[_,_],_=>rfl) fun f fd F=>ny F jB rfl fun a b hp=>qX c_power_by a b hp.1 hp.2;have c_least_no_square:aN lp w K mg base 3 "least_no_square" ["p"] (gS K (fun p=>Q.NR p/\2<=p/\p<2^62) true Q.qf):=d_least_no_square.dt X G (fun _ _ _ _ _ _ us hl=>match us,hl with|[_],_=>rfl) fun f fd F=>qj F cP rfl fun a hp=>jz c_square_by a hp.1 hp.2;have c_class_at:aN lp w K mg base 3 "class_at" ["k","p"] (cT K (fun k p=>k≠0/\2<=p/\p<2^62) true Q.cls):=d_class_at.dt X G (fun _ _ _ _ _ _ us hl=>match us,hl with|[_,_],_=>rfl) fun f fd F=>ny F cU rfl fun a b hp=>t9 c_taken_out c_square_by a b hp.1 hp.2.1 hp.2.2;have c_class_atS:aN lp w K mg base 3 "class_at" ["k","p"] (cT K (fun k p=>k≠0/\(p=0\/(2<=p/\p<2^62))) true jq):=d_class_at.dt X G (fun _ _ _ _ _ _ us hl=>match us,hl with|[_,_],_=>rfl) fun f fd F=>ny F cU rfl fun a b hp=>qH c_taken_out c_square_by a b hp.1 hp.2;have c_two_says:aN lp w K mg base 1 "two_says" ["one","other"] (cT K (fun _ _=>True) true Q.fc):=d_two_says.dt X G (fun _ _ _ _ _ _ us hl=>match us,hl with|[_,_],_=>rfl) fun f fd F=>ny F dS rfl fun a b _=>uk a b;have c_odd_says:aN lp w K mg base 3 "odd_says" ["one","other","p"] (kF K (fun x y p=>(-2<=x.2/\x.2<=2)/\(-2<=y.2/\y.2<=2)/\2<=p/\p<2^62) true Q.xm):=d_odd_says.dt X G (fun _ _ _ _ _ _ us hl=>match us,hl with|[_,_,_],_=>rfl) fun f fd F=>Aq F dJ rfl fun a b c hp=>tH c_square_by a b c hp;have c_says:aN lp w K mg base 4 "says" ["a","b","p"] (kF K (fun a b p=>a≠0/\b≠0/\(p=0\/(2<=p/\p<2^62))) true Q.aq):=d_says.dt X G (fun _ _ _ _ _ _ us hl=>match us,hl with|[_,_,_],_=>rfl) fun f fd F=>Aq F qa rfl fun a b c hp=>DW c_class_at c_two_says c_odd_says a b c hp.1 hp.2.1 hp.2.2;have c_primes_of:aN lp w K mg base 5 "primes_of" ["numbers"] (gS K Hw true BI):=d_primes_of.dt X G (fun _ _ _ _ _ _ us hl=>match us,hl with|[_],_=>rfl) fun f fd F=>qj F ef rfl fun ns hp=>qy B c_parts ns hp;have c_all_noes:aN lp w K mg base 7 "all_noes" ["a","b"] (cT K Fy true Dm):=d_all_noes.dt X G (fun _ _ _ _ _ _ us hl=>match us,hl with|[_,_],_=>rfl) fun f fd F=>ny F g9 rfl fun a b hp=>uI B c_free_of c_says c_primes_of a b hp;have c_next_prime:aN lp w K mg base 4 "next_prime" ["k"] (gS K (fun k=>2<=k/\k<=10000) true (fun k=>Q.pf (k+1))):=d_next_prime.dt X G (fun _ _ _ _ _ _ us hl=>match us,hl with|[_],_=>rfl) fun f fd F=>qj F fJ rfl fun a hp=>pZ c_is_prime a hp.1 hp.2;have c_class_of_product:aN lp w K mg base 1 "class_of_product" ["one","other","p"] (kF K Io true Q.k7):=d_class_of_product.dt X G (fun _ _ _ _ _ _ us hl=>match us,hl with|[_,_,_],_=>rfl) fun f fd F=>Aq F dZ rfl fun a c d hp=>jd a c d hp;have c_small_free_numbers:aN lp w K mg base 1 "small_free_numbers" [] (Bn K true (fun(ms:List Int)=>ms.Perm (Q.du 6))):=d_small_free_numbers.dt X G (fun _ _ _ _ _ _ us hl=>match us,hl with|[],_=>rfl) fun f fd F=>HQ F bB rfl (hX B g_SMALL_PLACES);have c_classes_of:aN lp w K mg base 4 "classes_of" ["k","places"] (cT K (fun(k:Int) (ps:List Int)=>k≠0/\ps=Q.P7) true xx):=d_classes_of.dt X G (fun _ _ _ _ _ _ us hl=>match us,hl with|[_,_],_=>rfl) fun f fd F=>ny F nO rfl fun a c hp=>pH c_class_atS a c hp.1 hp.2;have c_wishes_without:aN lp w K mg base 4 "wishes_without" ["k","places","wishes"] (kF K (fun(k:Int) (ps:List Int) (ws:List jX)=>k≠0/\ps=Q.P7/\BR ws) true sj):=d_wishes_without.dt X G (fun _ _ _ _ _ _ us hl=>match us,hl with|[_,_,_],_=>rfl) fun f fd F=>Aq F b_ rfl fun a c d hp=>kc B c_class_atS c_class_of_product a c d hp.1 hp.2.1 hp.2.2;have c_are_among:aN lp w K mg base 1 "are_among" ["classes","wishes"] (cT K (fun(_:jX) (_:List jX)=>True) true Av):=d_are_among.dt X G (fun _ _ _ _ _ _ us hl=>match us,hl with|[_,_],_=>rfl) fun f fd F=>ny F jL rfl fun a c _=>qP B a c;have c_number_among:aN lp w K mg base 5 "number_among" ["places","wishes"] (nG K (fun(ps:List Int) (ws:List jX)=>ps=Q.P7/\BR ws/\∀j,j<7->ws.getD j []≠[]) true (fun _ ws (n:Int)=>Ik ws n)):=d_number_among.dt X G (fun _ _ _ _ _ _ us hl=>match us,hl with|[_,_],_=>rfl) fun f fd F=>EB F bp rfl fun a c hp=>nr B g_SMALL_PLACES c_next_prime c_small_free_numbers c_classes_of c_wishes_without c_are_among a c hp.1 hp.2.1 hp.2.2;have c_is_square_at:aN lp w K mg base 4 "is_square_at" ["k","p"] (cT K (fun(k p:Int)=>k≠0/\p∈Q.P7) true Q.nD):=d_is_square_at.dt X G (fun _ _ _ _ _ _ us hl=>match us,hl with|[_,_],_=>rfl) fun f fd F=>ny F k6 rfl fun a c hp=>mC c_class_atS a c hp.1 hp.2;have c_samples_at:aN lp w K mg base 4 "samples_at" ["p"] (gS K (fun(p:Int)=>p∈Q.P7) true Q.t6):=d_samples_at.dt X G (fun _ _ _ _ _ _ us hl=>match us,hl with|[_],_=>rfl) fun f fd F=>qj F iW rfl fun a hp=>p8 B g_AT_NOUGHT g_AT_TWO c_least_no_square a hp;have c_classes_for:aN lp w K mg base 5 "classes_for" ["number","noes","p"] (kF K (fun(n:Int) (_:List Int) (p:Int)=>n≠0/\p∈Q.P7) true yW):=d_classes_for.dt X G (fun _ _ _ _ _ _ us hl=>match us,hl with|[_,_,_],_=>rfl) fun f fd F=>Aq F lO rfl fun a c d hp=>nF c_class_atS c_samples_at c_says a c d hp.1 hp.2;have c_two_with:aN lp w K mg base 6 "two_with" ["number","noes"] (nG K (fun(n:Int) (ns:List Int)=>∃g,Due 2 g n ns) true (fun n ns row=>∀g,Due 2 g n ns->Res 2 g n ns row)):=d_two_with.dt X G (fun _ _ _ _ _ _ us hl=>match us,hl with|[_,_],_=>rfl) fun f fd F=>EB F hE rfl fun a c hp=>ub B g_SMALL_PLACES c_classes_for c_number_among c_joined a c hp;have c_first_of:aN lp w K mg base 3 "first_of" ["size","signs","number"] (kF K (fun(_ _:Int) (n:Int)=>n∈Q.du 6) true CM):=d_first_of.dt X G (fun _ _ _ _ _ _ us hl=>match us,hl with|[_,_,_],_=>rfl) fun f fd F=>Aq F kN rfl fun a c d hp=>tK B g_ALL_SMALL_PRIMES c_joined a c d hp;have c_in_one_alone:aN lp w K mg base 1 "in_one_alone" ["one","other"] (cT K (fun(_ _:List Int)=>True) true Ho):=d_in_one_alone.dt X G (fun _ _ _ _ _ _ us hl=>match us,hl with|[_,_],_=>rfl) fun f fd F=>ny F k4 rfl fun a c _=>mS g_SMALL_PLACES a c;have c_row_with:aN lp w K mg base 16 "row_with" ["size","signs","number","noes"] (wD K (fun s g n ns=>Due s g n ns/\s<=(8:Nat)) true Res):=jF B c_all_noes c_joined c_two_with c_first_of c_in_one_alone d_row_with X G 8;have c_can_be:aN lp w K mg base 5 "can_be" ["wish"] (gS K kX true (fun w=>sD w.s w.g w.n w.ns)):=d_can_be.dt X G (fun _ _ _ _ _ _ us hl=>match us,hl with|[_],_=>rfl) fun f fd F=>qj F iG rfl fun a hp=>yU B c_is_square_at a hp;have c_built:aN lp w K mg base 17 "built" ["wish"] (uq K kX true Gk):=d_built.dt X G (fun _ _ _ _ _ _ us hl=>match us,hl with|[_],_=>rfl) fun f fd F=>GQ F yi rfl fun a hp=>Br c_can_be c_row_with a hp;have c_law_cell_at:aN lp w K mg base 1 "_law_cell_at" ["_law_script","_law_k"] (cT K (fun _ k=>0<=k) true qS):=d_law_cell_at.dt X G (fun _ _ _ _ _ _ us hl=>match us,hl with|[_,_],_=>rfl) fun f fd F=>ny F lQ rfl fun a c hp=>nE B a c hp;have c_law_big:aN lp w K mg base 1 "_law_big" ["_law_cell","_law_k"] (cT K (fun _ k=>0<=k/\k<=100) true GG):=d_law_big.dt X G (fun _ _ _ _ _ _ us hl=>match us,hl with|[_,_],_=>rfl) fun f fd F=>ny F dC rfl fun a c hp=>xb B a c hp.1 hp.2;have c_law_small:aN lp w K mg base 1 "_law_small" ["_law_cell"] (gS K (fun(_:Int)=>True) true Fp):=d_law_small.dt X G (fun _ _ _ _ _ _ us hl=>match us,hl with|[_],_=>rfl) fun f fd F=>qj F cy rfl fun a _=>rJ B a;have c_law_common:aN lp w K mg base 1 "_law_common" ["_law_a","_law_b"] (cT K (fun _ _=>True) true Ff):=d_law_common.dt X G (fun _ _ _ _ _ _ us hl=>match us,hl with|[_,_],_=>rfl) fun f fd F=>ny F dG rfl fun a c _=>oR B a c;have c_law_root:aN lp w K mg base 1 "_law_root" ["_law_k"] (gS K (fun k=>0<=k/\Sm 8000 k) true Q.rt):=d_law_root.dt X G (fun _ _ _ _ _ _ us hl=>match us,hl with|[_],_=>rfl) fun f fd F=>qj F iu rfl fun a hp=>sH a hp.1 hp.2;have c_law_free:aN lp w K mg base 2 "_law_free" ["_law_number"] (gS K (fun(n:Int)=>n≠0/\n.natAbs<1073741824) true oF):=d_law_free.dt X G (fun _ _ _ _ _ _ us hl=>match us,hl with|[_],_=>rfl) fun f fd F=>qj F bt rfl fun a hp=>uf B c_law_root a hp.1 hp.2;have c_law_free_times:aN lp w K mg base 2 "_law_free_times" ["_law_one","_law_other"] (cT K A3 true nB):=d_law_free_times.dt X G (fun _ _ _ _ _ _ us hl=>match us,hl with|[_,_],_=>rfl) fun f fd F=>ny F fE rfl fun a c hp=>kq c_law_common a c hp;have c_law_power:aN lp w K mg base 1 "_law_power" ["_law_k","_law_often","_law_p"] (kF K (fun _ e m=>0<=e/\2<=m/\m<2^62) true xw):=d_law_power.dt X G (fun _ _ _ _ _ _ us hl=>match us,hl with|[_,_,_],_=>rfl) fun f fd F=>Aq F bF rfl fun a b c hp=>qk a b c hp.1 hp.2.1 hp.2.2;have c_law_split:aN lp w K mg base 1 "_law_split" ["_law_k","_law_p"] (cT K (fun k d=>k≠0/\2<=d/\Sm 9000 d) true Q.aZ):=d_law_split.dt X G (fun _ _ _ _ _ _ us hl=>match us,hl with|[_,_],_=>rfl) fun f fd F=>ny F d_ rfl fun a b hp=>rf a b hp.1 hp.2.1 hp.2.2;have c_law_says:aN lp w K mg base 2 "_law_says" ["_law_a","_law_b","_law_p"] (kF K HA true Q.aq):=d_law_says.dt X G (fun _ _ _ _ _ _ us hl=>match us,hl with|[_,_,_],_=>rfl) fun f fd F=>Aq F bE rfl fun a b c hp=>tu c_law_power c_law_split a b c hp;have c_law_noes:aN lp w K mg base 3 "_law_noes" ["_law_row","_law_places_here"] (cT K Ip true GS):=d_law_noes.dt X G (fun _ _ _ _ _ _ us hl=>match us,hl with|[_,_],_=>rfl) fun f fd F=>ny F cw rfl fun a c hp=>tJ B c_law_says a c hp;have c_law_places:aN lp w K mg base 1 "_law_places" ["_law_row"] (gS K Hs true As):=d_law_places.dt X G (fun _ _ _ _ _ _ us hl=>match us,hl with|[_],_=>rfl) fun f fd F=>qj F bH rfl fun a hp=>oY B a hp;have c_law_wish:aN lp w K mg base 2 "_law_wish" ["_law_cell"] (uq K (fun(_:Int)=>True) true (fun _ (w:kI)=>kX w)):=d_law_wish.dt X G (fun _ _ _ _ _ _ us hl=>match us,hl with|[_],_=>rfl) fun f fd F=>GQ F aP rfl fun a _=>sR B c_law_small a;have c_law_square_there:aN lp w K mg base 2 "_law_square_there" ["_law_k","_law_p"] (cT K (fun(k p:Int)=>(k≠0/\k.natAbs<1073741824)/\p∈P7) true nD):=d_law_square_there.dt X G (fun _ _ _ _ _ _ us hl=>match us,hl with|[_,_],_=>rfl) fun f fd F=>ny F dX rfl fun a c hp=>iZ c_law_power c_law_split a c hp.1 hp.2;have c_law_due:aN lp w K mg base 3 "_law_due" ["_law_size","_law_signs","_law_number","_law_noes_here"] (Hq K (fun(s g n:Int) (ns:List Int)=>kX (kI.mk s g n ns)) true sD):=d_law_due.dt X G (fun _ _ _ _ _ _ us hl=>match us,hl with|[_,_,_,_],_=>rfl) fun f fd F=>Jk F my rfl fun a c d e hp=>xl B c_law_square_there a c d e hp;have c_law_meets:aN lp w K mg base 4 "_law_meets" ["_law_row","_law_wish_here"] (nG K (fun(row:List Int) (w:kI)=>kX w/\Res w.s w.g w.n w.ns row) true (fun _ _ (r:Bool)=>r=true)):=d_law_meets.dt X G (fun _ _ _ _ _ _ us hl=>match us,hl with|[_,_],_=>rfl) fun f fd F=>EB F c_ rfl fun a c hp=>qA B c_law_free c_law_free_times c_law_places c_law_noes a c hp.1 hp.2;exact qj F ji rfl fun xs hl=>F6 B c_can_be c_built c_law_cell_at c_law_big c_law_wish c_law_due c_law_meets xs hl
end L2.EP.K
namespace PySem.W.Fast
def tw16482748089990857065:Nat:=0
def tw15768468071397101101:Nat:=0
def tw12457922371442853024:Nat:=0
def tw8533400702503677126:Nat:=0
def tw5939167144363410514:Nat:=0
def tw4543265277548800953:Nat:=0
def tw11585484311541225561:Nat:=0
def tw15113929037866861386:Nat:=0
def tw3429416178282819051:Nat:=0
def tw3900070526062162604:Nat:=0
def tw10630502260264130765:Nat:=0
def tw15730463575573783171:Nat:=0
def tw15388148229851487483:Nat:=0
def tw17787851650737650270:Nat:=0
def tw9607563542251363911:Nat:=0
def tw5116626791741857441:Nat:=0
def tw11281137218767538687:Nat:=0
def tw5122205543806455259:Nat:=0
def tw12690440747748372246:Nat:=0
def tw423834216893660565:Nat:=0
def tw5668948968208336157:Nat:=0
def tw7201332735045186777:Nat:=0
def tw1006577698516113748:Nat:=0
def tw16347578466635670809:Nat:=0
def tw15694123105254596897:Nat:=0
def tw218696080598750525:Nat:=0
def tw1872047049811381579:Nat:=0
def tw15132743853933805605:Nat:=0
def tw13764327029156156295:Nat:=0
def tw6172637071158727561:Nat:=0
def tw5494463854337718788:Nat:=0
def tw10255157768495053580:Nat:=0
def tw8847956456702881801:Nat:=0
def tw16979341737221189892:Nat:=0
def tw3100756342397183913:Nat:=0
def tw13706015378295579488:Nat:=0
def tw16954229893790487110:Nat:=0
def tw10391990344803994274:Nat:=0
def tw14645402236499729511:Nat:=0
def tw15117256004811841410:Nat:=0
def tw3131901702962970826:Nat:=0
def tw16846152104178108826:Nat:=0
def tw3141886026556905304:Nat:=0
def tw15245007427535356092:Nat:=0
def tw3733760721930944597:Nat:=0
def tw14297357509299755340:Nat:=0
def tw17231355822387826061:Nat:=0
def tw14189554405947437088:Nat:=0
def tw17149051742516601122:Nat:=0
def tw16531223182733701389:Nat:=0
def tw6951537600846230300:Nat:=0
def tw10535575596584659829:Nat:=0
def tw16289812863941802682:Nat:=0
def tw7969036139891035621:Nat:=0
def tw5943104602974646486:Nat:=0
def tw1952743941358740787:Nat:=0
def tw1530579817438557054:Nat:=0
def tw5287319528486209096:Nat:=0
def tw7412854605804175855:Nat:=0
def tw13950274018744366972:Nat:=0
def tw14709433807508248372:Nat:=0
def tw9392219117991432684:Nat:=0
def tw16881815485211983653:Nat:=0
def tw6439116845136672110:Nat:=0
def tw16963157119045379987:Nat:=0
def tw314033865134495381:Nat:=0
def tw16530388433324224019:Nat:=0
def tw1874463867720660239:Nat:=0
def tw2817333957856583900:Nat:=0
def tw11443713157003854657:Nat:=0
def tw2794227384242783489:Nat:=0
def tw11856303824511922806:Nat:=0
def tw14312185240629048049:Nat:=0
def tw3273419581563538375:Nat:=0
def tw12154272086466668668:Nat:=0
def tw6645465173625928280:Nat:=0
def tw16917334556071122424:Nat:=0
def tw578135859546281020:Nat:=0
def tw11274028364866797582:Nat:=0
def tw10010927580988802451:Nat:=0
def tw15459755967345925683:Nat:=0
def tw12974584467803757418:Nat:=0
def tw15263060203234434716:Nat:=0
def tw9958885918616727540:Nat:=0
def tw8361870145015635833:Nat:=0
def tw5427208938501030471:Nat:=0
def tw412575763001124866:Nat:=0
def tw7304828031816958333:Nat:=0
def tw11124817342284956523:Nat:=0
def tw5776576783406133985:Nat:=0
def tw17137555653922005357:Nat:=0
def tw11217088828352838173:Nat:=0
def tw12219575113928771741:Nat:=0
def tw15402207262621222862:Nat:=0
def tw11196315175007675721:Nat:=0
def tw3181649670004294291:Nat:=0
def tw611061985318416252:Nat:=0
def tw2399098418679038596:Nat:=0
def tw17530115219144505773:Nat:=0
def tw12337566039434914976:Nat:=0
def tw10944479949724937230:Nat:=0
def tw4196610893981934152:Nat:=0
def tw16811323527260695746:Nat:=0
def tw14185129580047449532:Nat:=0
def tw97477670065218480:Nat:=0
def tw1500634255664749430:Nat:=0
def tw7789238117217014833:Nat:=0
def tw3012446788290491537:Nat:=0
def tw833102139955443759:Nat:=0
def tw2652749627293600547:Nat:=0
def tw8175202714398560677:Nat:=0
def tw3353302391928570189:Nat:=0
def tw1920522723776949357:Nat:=0
def tw39671495954399412:Nat:=0
def tw12560108698654623030:Nat:=0
def tw15354050614883703861:Nat:=0
def tw7394205673197002308:Nat:=0
def tw8699616226570721145:Nat:=0
def tw13248528361080732070:Nat:=0
def tw4205454833251900007:Nat:=0
def tw8066093576931740680:Nat:=0
def tw2070523004218173708:Nat:=0
def tw5513303752087786670:Nat:=0
def tw4829402942614563501:Nat:=0
def tw1710599286318303208:Nat:=0
def tw10659049809648229804:Nat:=0
def tw15720936826249697852:Nat:=0
def tw1615310645904696001:Nat:=0
def tw8289991958477324038:Nat:=0
def tw16317167287444150033:Nat:=0
def tw10697005144957271026:Nat:=0
def tw4788960593334891414:Nat:=0
def tw5979419365233410281:Nat:=0
def tw14372549002976241630:Nat:=0
def tw651722706537889854:Nat:=0
def tw10410224272608036439:Nat:=0
def tw15951083209431873447:Nat:=0
def tw13614532239700538460:Nat:=0
def tw6108983806332632025:Nat:=0
def tw5855084395826780544:Nat:=0
def tw4830821092970347851:Nat:=0
def tw2623734967641581667:Nat:=0
def tw6350181369399428104:Nat:=0
def tw847284570869411773:Nat:=0
def tw5349949122675389959:Nat:=0
def tw4599426287091826211:Nat:=0
def tw11180813874888416780:Nat:=0
def tw1872239601335942819:Nat:=0
def tw9967967950996480565:Nat:=0
def tw8359364106052252939:Nat:=0
def tw2960462754193341070:Nat:=0
def tw16798702908411295725:Nat:=0
def tw12931986001628116206:Nat:=0
def tw5453706547921373853:Nat:=0
def tw17238180885579500228:Nat:=0
def tw17965048963184275499:Nat:=0
def tw12596134819072307316:Nat:=0
def tw13734923163546812034:Nat:=0
def tw6714270307739809992:Nat:=0
def tw17630277175679190254:Nat:=0
def tw16805740543685206728:Nat:=0
def tw7321368934748661175:Nat:=0
def tw10852789685783810550:Nat:=0
def tw7514054957735253967:Nat:=0
def tw5715514720786848783:Nat:=0
def tw4784367125083830741:Nat:=0
def tw2724444680972712522:Nat:=0
def tw10330320308816463068:Nat:=0
def tw10711556795364151751:Nat:=0
def tw13976666588953663653:Nat:=0
def tw7617459926107632774:Nat:=0
def tw1530217124074852137:Nat:=0
def tw15236104403484277306:Nat:=0
def tw3528941988787259313:Nat:=0
def tw6231235708356557448:Nat:=0
def tw16423015641602233794:Nat:=0
def tw9939328449954053230:Nat:=0
def tw5354747442426266492:Nat:=0
def tw12128901420056279874:Nat:=0
def tw1703033812252904774:Nat:=0
def tw217929702555595194:Nat:=0
def tw6529154737468397276:Nat:=0
def tw4208059467130366805:Nat:=0
def tw13807806955714161138:Nat:=0
def tw13991388750968252506:Nat:=0
def tw16331697022875575333:Nat:=0
def tw2952014862578092412:Nat:=0
def tw15474313809802298056:Nat:=0
def tw11182531887258461381:Nat:=0
def tw6480549066726760636:Nat:=0
def tw13284558340036878957:Nat:=0
def tw10597439604833922400:Nat:=0
def tw16840253466204170168:Nat:=0
def tw17048577765337602730:Nat:=0
def tw9152491458158851904:Nat:=0
def tw1056989291680152279:Nat:=0
def tw1382090471867608671:Nat:=0
def tw2460562014004357855:Nat:=0
def tw4797390593393788479:Nat:=0
def tw7561320595175578902:Nat:=0
def tw3628105637875761289:Nat:=0
def tw8274027929669871623:Nat:=0
def tw7065110707613609964:Nat:=0
def tw13461613049728232292:Nat:=0
def tw3035012442520793855:Nat:=0
def tw13004367326369673523:Nat:=0
def tw15772562524845978549:Nat:=0
def tw14666728086291597680:Nat:=0
def tw11082749257672940418:Nat:=0
def tw17315907655129387361:Nat:=0
def tw11791662824674200740:Nat:=0
def tw9738732155045380084:Nat:=0
def tw4019038723891063874:Nat:=0
def tw13693140489539651067:Nat:=0
def tw8520520707676805342:Nat:=0
def tw16128960134846813842:Nat:=0
def tw8776295437784999772:Nat:=0
def tw122006485571731261:Nat:=0
def tw11871971802915026458:Nat:=0
def tw7163878536902049287:Nat:=0
def tw6363205104022857512:Nat:=0
def tw2178147742771042083:Nat:=0
def tw11122352597966410702:Nat:=0
def tw14644947578821937508:Nat:=0
def tw4188577246214431911:Nat:=0
def tw4164733073144244663:Nat:=0
def tw11158240819135454744:Nat:=0
def tw10277364850778922917:Nat:=0
def tw16338378898804768690:Nat:=0
def tw16775920504176932312:Nat:=0
def tw9717480948725769029:Nat:=0
def tw16915735272637500841:Nat:=0
def tw11747542137348865547:Nat:=0
def tw15395638276449791811:Nat:=0
def tw12735642083918230221:Nat:=0
def tw15394304410324771770:Nat:=0
def tw16144466612591862364:Nat:=0
def tw7877130710361763927:Nat:=0
def tw5087823292053200155:Nat:=0
def tw18074950974288725546:Nat:=0
def tw7062532998005675405:Nat:=0
def tw9949199893007847148:Nat:=0
def tw5263027094378927836:Nat:=0
def tw6709534340765805992:Nat:=0
end PySem.W.Fast
open PySem PySem.W PyProof.Rows
set_option maxRecDepth 100000 in
set_option maxHeartbeats 0 in
theorem PySem.Challenge.cw_everyplace_k63_built_rows_holds : PySem.Challenge.rw_everyplace_k63_built_rows.Holds := by
 w_on; o_law; k_head; (case hw => w_witness2)
 k_fill
 refine L2.yD (l := PySem.Challenge.rw_everyplace_k63_built_rows) (n := 63) (k := 18) (x := "_law_script") (CX := L2.nC) (sp := L2.EP.qx) rfl (by decide) rfl ⟨rfl, by decide, by decide⟩ (fun w h Y => PySem.W.kIn_of Y) ?F ?S ?C
 case F =>
  intro w mg fa h KX G hmg
  have B : L2.EP.Bu mg := by
   refine' L2.EP.F2 (K := L2.aT KX) KX G ?z1 ?z2 ?z3 ?z4 ?z5 ?z6 ?z7 ?z8 ?z9 ?z10 ?z11 ?z12 ?z13 ?z14 ?z15 ?z16 ?z17 ?z18 ?z19
   all_goals (dsimp only [L2.aT]; k_is)
  have d_power_by : L2.EP.Df (L2.aT KX) "power_by" L2.EP.K.gE := by
   dsimp only [L2.aT]
   refine' L2.EP.Df.mk ?a ?l ?c ?k
   (case a=>k_is);(case l=>k_is);(case c=>k_is);(case k=>k_is)
  have d_taken_out : L2.EP.Df (L2.aT KX) "taken_out" L2.EP.K.fF := by
   dsimp only [L2.aT]
   refine' L2.EP.Df.mk ?a ?l ?c ?k
   (case a=>k_is);(case l=>k_is);(case c=>k_is);(case k=>k_is)
  have d_square_root : L2.EP.Df (L2.aT KX) "square_root" L2.EP.K.dH := by
   dsimp only [L2.aT]
   refine' L2.EP.Df.mk ?a ?l ?c ?k
   (case a=>k_is);(case l=>k_is);(case c=>k_is);(case k=>k_is)
  have d_square_root_or_none : L2.EP.Df (L2.aT KX) "square_root_or_none" L2.EP.K.bD := by
   dsimp only [L2.aT]
   refine' L2.EP.Df.mk ?a ?l ?c ?k
   (case a=>k_is);(case l=>k_is);(case c=>k_is);(case k=>k_is)
  have d_common_divisor : L2.EP.Df (L2.aT KX) "common_divisor" L2.EP.K.cE := by
   dsimp only [L2.aT]
   refine' L2.EP.Df.mk ?a ?l ?c ?k
   (case a=>k_is);(case l=>k_is);(case c=>k_is);(case k=>k_is)
  have d_fraction : L2.EP.Df (L2.aT KX) "fraction" L2.EP.K.dz := by
   dsimp only [L2.aT]
   refine' L2.EP.Df.mk ?a ?l ?c ?k
   (case a=>k_is);(case l=>k_is);(case c=>k_is);(case k=>k_is)
  have d_next_divisor : L2.EP.Df (L2.aT KX) "next_divisor" L2.EP.K.dg := by
   dsimp only [L2.aT]
   refine' L2.EP.Df.mk ?a ?l ?c ?k
   (case a=>k_is);(case l=>k_is);(case c=>k_is);(case k=>k_is)
  have d_is_prime : L2.EP.Df (L2.aT KX) "is_prime" L2.EP.K.gG := by
   dsimp only [L2.aT]
   refine' L2.EP.Df.mk ?a ?l ?c ?k
   (case a=>k_is);(case l=>k_is);(case c=>k_is);(case k=>k_is)
  have d_divided : L2.EP.Df (L2.aT KX) "divided" L2.EP.K.iE := by
   dsimp only [L2.aT]
   refine' L2.EP.Df.mk ?a ?l ?c ?k
   (case a=>k_is);(case l=>k_is);(case c=>k_is);(case k=>k_is)
  have d_parts : L2.EP.Df (L2.aT KX) "parts" L2.EP.K.lG := by
   dsimp only [L2.aT]
   refine' L2.EP.Df.mk ?a ?l ?c ?k
   (case a=>k_is);(case l=>k_is);(case c=>k_is);(case k=>k_is)
  have d_tame_parts : L2.EP.Df (L2.aT KX) "tame_parts" L2.EP.K.eB := by
   dsimp only [L2.aT]
   refine' L2.EP.Df.mk ?a ?l ?c ?k
   (case a=>k_is);(case l=>k_is);(case c=>k_is);(case k=>k_is)
  have d_power : L2.EP.Df (L2.aT KX) "power" L2.EP.K.lj := by
   dsimp only [L2.aT]
   refine' L2.EP.Df.mk ?a ?l ?c ?k
   (case a=>k_is);(case l=>k_is);(case c=>k_is);(case k=>k_is)
  have d_freed : L2.EP.Df (L2.aT KX) "freed" L2.EP.K.lr := by
   dsimp only [L2.aT]
   refine' L2.EP.Df.mk ?a ?l ?c ?k
   (case a=>k_is);(case l=>k_is);(case c=>k_is);(case k=>k_is)
  have d_free_of : L2.EP.Df (L2.aT KX) "free_of" L2.EP.K.iK := by
   dsimp only [L2.aT]
   refine' L2.EP.Df.mk ?a ?l ?c ?k
   (case a=>k_is);(case l=>k_is);(case c=>k_is);(case k=>k_is)
  have d_joined : L2.EP.Df (L2.aT KX) "joined" L2.EP.K.jE := by
   dsimp only [L2.aT]
   refine' L2.EP.Df.mk ?a ?l ?c ?k
   (case a=>k_is);(case l=>k_is);(case c=>k_is);(case k=>k_is)
  have d_square_by : L2.EP.Df (L2.aT KX) "square_by" L2.EP.K.fv := by
   dsimp only [L2.aT]
   refine' L2.EP.Df.mk ?a ?l ?c ?k
   (case a=>k_is);(case l=>k_is);(case c=>k_is);(case k=>k_is)
  have d_least_no_square : L2.EP.Df (L2.aT KX) "least_no_square" L2.EP.K.bZ := by
   dsimp only [L2.aT]
   refine' L2.EP.Df.mk ?a ?l ?c ?k
   (case a=>k_is);(case l=>k_is);(case c=>k_is);(case k=>k_is)
  have d_class_at : L2.EP.Df (L2.aT KX) "class_at" L2.EP.K.eZ := by
   dsimp only [L2.aT]
   refine' L2.EP.Df.mk ?a ?l ?c ?k
   (case a=>k_is);(case l=>k_is);(case c=>k_is);(case k=>k_is)
  have d_two_says : L2.EP.Df (L2.aT KX) "two_says" L2.EP.K.gJ := by
   dsimp only [L2.aT]
   refine' L2.EP.Df.mk ?a ?l ?c ?k
   (case a=>k_is);(case l=>k_is);(case c=>k_is);(case k=>k_is)
  have d_odd_says : L2.EP.Df (L2.aT KX) "odd_says" L2.EP.K.gi := by
   dsimp only [L2.aT]
   refine' L2.EP.Df.mk ?a ?l ?c ?k
   (case a=>k_is);(case l=>k_is);(case c=>k_is);(case k=>k_is)
  have d_says : L2.EP.Df (L2.aT KX) "says" L2.EP.K.oQ := by
   dsimp only [L2.aT]
   refine' L2.EP.Df.mk ?a ?l ?c ?k
   (case a=>k_is);(case l=>k_is);(case c=>k_is);(case k=>k_is)
  have d_primes_of : L2.EP.Df (L2.aT KX) "primes_of" L2.EP.K.fh := by
   dsimp only [L2.aT]
   refine' L2.EP.Df.mk ?a ?l ?c ?k
   (case a=>k_is);(case l=>k_is);(case c=>k_is);(case k=>k_is)
  have d_all_noes : L2.EP.Df (L2.aT KX) "all_noes" L2.EP.K.e8 := by
   dsimp only [L2.aT]
   refine' L2.EP.Df.mk ?a ?l ?c ?k
   (case a=>k_is);(case l=>k_is);(case c=>k_is);(case k=>k_is)
  have d_next_prime : L2.EP.Df (L2.aT KX) "next_prime" L2.EP.K.eE := by
   dsimp only [L2.aT]
   refine' L2.EP.Df.mk ?a ?l ?c ?k
   (case a=>k_is);(case l=>k_is);(case c=>k_is);(case k=>k_is)
  have d_class_of_product : L2.EP.Df (L2.aT KX) "class_of_product" L2.EP.K.bU := by
   dsimp only [L2.aT]
   refine' L2.EP.Df.mk ?a ?l ?c ?k
   (case a=>k_is);(case l=>k_is);(case c=>k_is);(case k=>k_is)
  have d_small_free_numbers : L2.EP.Df (L2.aT KX) "small_free_numbers" L2.EP.K.a8 := by
   dsimp only [L2.aT]
   refine' L2.EP.Df.mk ?a ?l ?c ?k
   (case a=>k_is);(case l=>k_is);(case c=>k_is);(case k=>k_is)
  have d_classes_of : L2.EP.Df (L2.aT KX) "classes_of" L2.EP.K.dq := by
   dsimp only [L2.aT]
   refine' L2.EP.Df.mk ?a ?l ?c ?k
   (case a=>k_is);(case l=>k_is);(case c=>k_is);(case k=>k_is)
  have d_wishes_without : L2.EP.Df (L2.aT KX) "wishes_without" L2.EP.K.bK := by
   dsimp only [L2.aT]
   refine' L2.EP.Df.mk ?a ?l ?c ?k
   (case a=>k_is);(case l=>k_is);(case c=>k_is);(case k=>k_is)
  have d_are_among : L2.EP.Df (L2.aT KX) "are_among" L2.EP.K.fC := by
   dsimp only [L2.aT]
   refine' L2.EP.Df.mk ?a ?l ?c ?k
   (case a=>k_is);(case l=>k_is);(case c=>k_is);(case k=>k_is)
  have d_number_among : L2.EP.Df (L2.aT KX) "number_among" L2.EP.K.ck := by
   dsimp only [L2.aT]
   refine' L2.EP.Df.mk ?a ?l ?c ?k
   (case a=>k_is);(case l=>k_is);(case c=>k_is);(case k=>k_is)
  have d_is_square_at : L2.EP.Df (L2.aT KX) "is_square_at" L2.EP.K.cW := by
   dsimp only [L2.aT]
   refine' L2.EP.Df.mk ?a ?l ?c ?k
   (case a=>k_is);(case l=>k_is);(case c=>k_is);(case k=>k_is)
  have d_samples_at : L2.EP.Df (L2.aT KX) "samples_at" L2.EP.K.eC := by
   dsimp only [L2.aT]
   refine' L2.EP.Df.mk ?a ?l ?c ?k
   (case a=>k_is);(case l=>k_is);(case c=>k_is);(case k=>k_is)
  have d_classes_for : L2.EP.Df (L2.aT KX) "classes_for" L2.EP.K.cK := by
   dsimp only [L2.aT]
   refine' L2.EP.Df.mk ?a ?l ?c ?k
   (case a=>k_is);(case l=>k_is);(case c=>k_is);(case k=>k_is)
  have d_two_with : L2.EP.Df (L2.aT KX) "two_with" L2.EP.K.eM := by
   dsimp only [L2.aT]
   refine' L2.EP.Df.mk ?a ?l ?c ?k
   (case a=>k_is);(case l=>k_is);(case c=>k_is);(case k=>k_is)
  have d_first_of : L2.EP.Df (L2.aT KX) "first_of" L2.EP.K.gM := by
   dsimp only [L2.aT]
   refine' L2.EP.Df.mk ?a ?l ?c ?k
   (case a=>k_is);(case l=>k_is);(case c=>k_is);(case k=>k_is)
  have d_in_one_alone : L2.EP.Df (L2.aT KX) "in_one_alone" L2.EP.K.cm := by
   dsimp only [L2.aT]
   refine' L2.EP.Df.mk ?a ?l ?c ?k
   (case a=>k_is);(case l=>k_is);(case c=>k_is);(case k=>k_is)
  have d_row_with : L2.EP.Df (L2.aT KX) "row_with" L2.EP.K.eW := by
   dsimp only [L2.aT]
   refine' L2.EP.Df.mk ?a ?l ?c ?k
   (case a=>k_is);(case l=>k_is);(case c=>k_is);(case k=>k_is)
  have d_can_be : L2.EP.Df (L2.aT KX) "can_be" L2.EP.K.hU := by
   dsimp only [L2.aT]
   refine' L2.EP.Df.mk ?a ?l ?c ?k
   (case a=>k_is);(case l=>k_is);(case c=>k_is);(case k=>k_is)
  have d_built : L2.EP.Df (L2.aT KX) "built" L2.EP.K.k_ := by
   dsimp only [L2.aT]
   refine' L2.EP.Df.mk ?a ?l ?c ?k
   (case a=>k_is);(case l=>k_is);(case c=>k_is);(case k=>k_is)
  have d_law_cell_at : L2.EP.Df (L2.aT KX) "_law_cell_at" L2.EP.K.dE := by
   dsimp only [L2.aT]
   refine' L2.EP.Df.mk ?a ?l ?c ?k
   (case a=>k_is);(case l=>k_is);(case c=>k_is);(case k=>k_is)
  have d_law_big : L2.EP.Df (L2.aT KX) "_law_big" L2.EP.K.iC := by
   dsimp only [L2.aT]
   refine' L2.EP.Df.mk ?a ?l ?c ?k
   (case a=>k_is);(case l=>k_is);(case c=>k_is);(case k=>k_is)
  have d_law_small : L2.EP.Df (L2.aT KX) "_law_small" L2.EP.K.fA := by
   dsimp only [L2.aT]
   refine' L2.EP.Df.mk ?a ?l ?c ?k
   (case a=>k_is);(case l=>k_is);(case c=>k_is);(case k=>k_is)
  have d_law_common : L2.EP.Df (L2.aT KX) "_law_common" L2.EP.K.eA := by
   dsimp only [L2.aT]
   refine' L2.EP.Df.mk ?a ?l ?c ?k
   (case a=>k_is);(case l=>k_is);(case c=>k_is);(case k=>k_is)
  have d_law_root : L2.EP.Df (L2.aT KX) "_law_root" L2.EP.K.gj := by
   dsimp only [L2.aT]
   refine' L2.EP.Df.mk ?a ?l ?c ?k
   (case a=>k_is);(case l=>k_is);(case c=>k_is);(case k=>k_is)
  have d_law_free : L2.EP.Df (L2.aT KX) "_law_free" L2.EP.K.gq := by
   dsimp only [L2.aT]
   refine' L2.EP.Df.mk ?a ?l ?c ?k
   (case a=>k_is);(case l=>k_is);(case c=>k_is);(case k=>k_is)
  have d_law_free_times : L2.EP.Df (L2.aT KX) "_law_free_times" L2.EP.K.cz := by
   dsimp only [L2.aT]
   refine' L2.EP.Df.mk ?a ?l ?c ?k
   (case a=>k_is);(case l=>k_is);(case c=>k_is);(case k=>k_is)
  have d_law_power : L2.EP.Df (L2.aT KX) "_law_power" L2.EP.K.fB := by
   dsimp only [L2.aT]
   refine' L2.EP.Df.mk ?a ?l ?c ?k
   (case a=>k_is);(case l=>k_is);(case c=>k_is);(case k=>k_is)
  have d_law_split : L2.EP.Df (L2.aT KX) "_law_split" L2.EP.K.ff := by
   dsimp only [L2.aT]
   refine' L2.EP.Df.mk ?a ?l ?c ?k
   (case a=>k_is);(case l=>k_is);(case c=>k_is);(case k=>k_is)
  have d_law_says : L2.EP.Df (L2.aT KX) "_law_says" L2.EP.K.gH := by
   dsimp only [L2.aT]
   refine' L2.EP.Df.mk ?a ?l ?c ?k
   (case a=>k_is);(case l=>k_is);(case c=>k_is);(case k=>k_is)
  have d_law_noes : L2.EP.Df (L2.aT KX) "_law_noes" L2.EP.K.gB := by
   dsimp only [L2.aT]
   refine' L2.EP.Df.mk ?a ?l ?c ?k
   (case a=>k_is);(case l=>k_is);(case c=>k_is);(case k=>k_is)
  have d_law_places : L2.EP.Df (L2.aT KX) "_law_places" L2.EP.K.ez := by
   dsimp only [L2.aT]
   refine' L2.EP.Df.mk ?a ?l ?c ?k
   (case a=>k_is);(case l=>k_is);(case c=>k_is);(case k=>k_is)
  have d_law_wish : L2.EP.Df (L2.aT KX) "_law_wish" L2.EP.K.dy := by
   dsimp only [L2.aT]
   refine' L2.EP.Df.mk ?a ?l ?c ?k
   (case a=>k_is);(case l=>k_is);(case c=>k_is);(case k=>k_is)
  have d_law_square_there : L2.EP.Df (L2.aT KX) "_law_square_there" L2.EP.K.bV := by
   dsimp only [L2.aT]
   refine' L2.EP.Df.mk ?a ?l ?c ?k
   (case a=>k_is);(case l=>k_is);(case c=>k_is);(case k=>k_is)
  have d_law_due : L2.EP.Df (L2.aT KX) "_law_due" L2.EP.K.f7 := by
   dsimp only [L2.aT]
   refine' L2.EP.Df.mk ?a ?l ?c ?k
   (case a=>k_is);(case l=>k_is);(case c=>k_is);(case k=>k_is)
  have d_law_meets : L2.EP.Df (L2.aT KX) "_law_meets" L2.EP.K.dR := by
   dsimp only [L2.aT]
   refine' L2.EP.Df.mk ?a ?l ?c ?k
   (case a=>k_is);(case l=>k_is);(case c=>k_is);(case k=>k_is)
  have d_law : L2.EP.Df (L2.aT KX) "law" L2.EP.K.v_ := by
   dsimp only [L2.aT]
   refine' L2.EP.Df.mk ?a ?l ?c ?k
   (case a=>k_is);(case l=>k_is);(case c=>k_is);(case k=>k_is)
  have g_GREAT_PRIMES_FROM : L2.EP.sG mg "GREAT_PRIMES_FROM" 32768 := by
   refine' L2.EP.sG.mk (K := L2.aT KX) KX G ?ga0
   (case ga0 => dsimp only [L2.aT]; k_is)
  have g_GREAT_FROM : L2.EP.sG mg "GREAT_FROM" 1073741824 := by
   refine' L2.EP.sG.mk (K := L2.aT KX) KX G ?ga1
   (case ga1 => dsimp only [L2.aT]; k_is)
  have g_SMALL_PLACES : L2.EP.qg (L2.aT KX) mg "SMALL_PLACES" [0, 2, 3, 5, 7, 11, 13] := by
   refine' L2.EP.qg.mk (K := L2.aT KX) KX G ?ga2 ?gl2 ?gz2 ?gv2
   (case ga2 => dsimp only [L2.aT]; k_is); (case gl2 => dsimp only [L2.aT]; k_is); (case gz2 => decide); (case gv2 => repeat' (first | exact .nil | refine .cons ⟨_, rfl⟩ ?_))
  have g_AT_NOUGHT : L2.EP.qg (L2.aT KX) mg "AT_NOUGHT" [1, -1] := by
   refine' L2.EP.qg.mk (K := L2.aT KX) KX G ?ga3 ?gl3 ?gz3 ?gv3
   (case ga3 => dsimp only [L2.aT]; k_is); (case gl3 => dsimp only [L2.aT]; k_is); (case gz3 => decide); (case gv3 => repeat' (first | exact .nil | refine .cons ⟨_, rfl⟩ ?_))
  have g_AT_TWO : L2.EP.qg (L2.aT KX) mg "AT_TWO" [1, 3, 5, 7, 2, 6, 10, 14] := by
   refine' L2.EP.qg.mk (K := L2.aT KX) KX G ?ga4 ?gl4 ?gz4 ?gv4
   (case ga4 => dsimp only [L2.aT]; k_is); (case gl4 => dsimp only [L2.aT]; k_is); (case gz4 => decide); (case gv4 => repeat' (first | exact .nil | refine .cons ⟨_, rfl⟩ ?_))
  have g_ALL_SMALL_PRIMES : L2.EP.sG mg "ALL_SMALL_PRIMES" 30030 := by
   refine' L2.EP.sG.mk (K := L2.aT KX) KX G ?ga5
   (case ga5 => dsimp only [L2.aT]; k_is)
  exact L2.EP.K.fin KX G hmg B g_GREAT_PRIMES_FROM g_GREAT_FROM g_SMALL_PLACES g_AT_NOUGHT g_AT_TWO g_ALL_SMALL_PRIMES d_power_by d_taken_out d_square_root d_square_root_or_none d_common_divisor d_fraction d_next_divisor d_is_prime d_divided d_parts d_tame_parts d_power d_freed d_free_of d_joined d_square_by d_least_no_square d_class_at d_two_says d_odd_says d_says d_primes_of d_all_noes d_next_prime d_class_of_product d_small_free_numbers d_classes_of d_wishes_without d_are_among d_number_among d_is_square_at d_samples_at d_classes_for d_two_with d_first_of d_in_one_alone d_row_with d_can_be d_built d_law_cell_at d_law_big d_law_small d_law_common d_law_root d_law_free d_law_free_times d_law_power d_law_split d_law_says d_law_noes d_law_places d_law_wish d_law_square_there d_law_due d_law_meets d_law
 case S => exact fun K H a ns hl hO hS => L2.EP.xo K H a ns hl hS
 case C => exact fun _ _ _ _ z => z
