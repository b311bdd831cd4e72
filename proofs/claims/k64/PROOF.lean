import PyProof.Rows.All
import Wide.All
import OpenK.AllK
import Wide.FinOn
import Lean
import PyProof.EqAt
import PyProof.EqKinds
import PyProof.TupleCall
import PyProof.NeData
import PyProof.P3Eq
import KE.KTryMore
import PyProof.ExcArgs
import PyProof.Rows.CountFlat
import PyProof.ExcBaseAll.ValueError
import PyProof.Conv_int_bool
import PyProof.IsiPairs
import PyProof.IsiNone
import PyProof.IsiStr
import PyProof.IsiBool
import PyProof.IsiHeapPairs
import KE.KRevIter
import PyProof.CollectIter
import PyProof.WalksMore
import PyProof.Rows.SortRunsK
import KE.KSortKey
import PyProof.Rows.RuleN_abs
import PyProof.Rows.CallKwBuiltin
import PySem.Challenge.RW_everyplace_k64_whole_every_row_can_be
set_option Elab.async false
set_option linter.all false
set_option maxRecDepth 100000
namespace L2
open PySem PySem.Spec PyProof.Rows
abbrev Key:=Sum Int Str
def Cr:Key->Value->Bool
 |.inl k,v=>Value.isInt k v
 |.inr x,v=>Value.isStrOf x v
def Iq(w:World):Key->Int
 |.inl k=>hashInt k
 |.inr x=>hashStr w x
theorem bC:∀{k:Key} {v:Value},Cr k v=true->(∃i t,k=Sum.inl i/\v=Value.int i t)\/(∃x t,k=Sum.inr x/\v=Value.str x t)
 |.inl i,v,h=>by
  obtain⟨t,e⟩:=Value.isInt_shape (k:=i) (v:=v) h;exact .inl ⟨i,t,rfl,e⟩
 |.inr x,v,h=>by
  obtain⟨t,e⟩:=Value.isStrOf_shape (x:=x) (v:=v) h;exact .inr ⟨x,t,rfl,e⟩
theorem DO(a b:Int):decide ((Sum.inl a:Key)=Sum.inl b)=(a==b):=by
 by_cases e:a=b
 .subst e;simp
 .have h:¬(Sum.inl a:Key)=Sum.inl b:=fun q=>e (Sum.inl.inj q);rw[decide_eq_false h];exact(beq_eq_false_iff_ne.mpr e).symm
theorem Er(a b:Str):decide ((Sum.inr a:Key)=Sum.inr b)=decide (a=b):=by
 by_cases e:a=b
 .subst e;simp
 .have h:¬(Sum.inr a:Key)=Sum.inr b:=fun q=>e (Sum.inr.inj q);rw[decide_eq_false h,decide_eq_false e]
theorem Dn(a:Int)(b:Str):decide ((Sum.inl a:Key)=Sum.inr b)=false:=decide_eq_false (fun q=>nomatch q)
theorem Dq(a:Str)(b:Int):decide ((Sum.inr a:Key)=Sum.inl b)=false:=decide_eq_false (fun q=>nomatch q)
def vO(prog:Program)(w:World):PySem.KeyKind prog w Key where
 is:=Cr
 hash:=Iq w
 inj:=fun v a b ha hb=>by
  rcases bC ha with⟨i,t,rfl,rfl⟩|⟨x,t,rfl,rfl⟩
  .rcases bC hb with⟨j,u,rfl,e⟩|⟨y,u,rfl,e⟩
   .injection e with e1 _;rw[e1]
   .exact nomatch e
  .rcases bC hb with⟨j,u,rfl,e⟩|⟨y,u,rfl,e⟩
   .exact nomatch e
   .injection e with e1 _;rw[e1]
 byValue:=fun k v h=>by
  rcases bC h with⟨i,t,rfl,rfl⟩|⟨x,t,rfl,rfl⟩<;>rfl
 pyHash:=fun hv h=>by
  rcases bC hv with⟨i,t,rfl,rfl⟩|⟨x,t,rfl,rfl⟩
  .exact wpAny_pyHash_int h
  .exact wpAny_pyHash_str h
 eqBool:=fun hu hv h=>by
  rcases bC hu with⟨i,t,rfl,rfl⟩|⟨x,t,rfl,rfl⟩
  .rcases bC hv with⟨j,u,rfl,rfl⟩|⟨y,u,rfl,rfl⟩
   .rw[DO] at h;exact wpAny_eqBool_int h
   .rw[Dn] at h;exact SeqAt.EqAt.int_str i t y u _ _ _ _ h
  .rcases bC hv with⟨j,u,rfl,rfl⟩|⟨y,u,rfl,rfl⟩
   .rw[Dq] at h;exact SeqAt.EqAt.str_int x t j u _ _ _ _ h
   .rw[Er] at h;exact wpAny_eqBool_str h
 «strs»:=fun k x t v h=>by
  rcases bC h with⟨i,u,rfl,e⟩|⟨y,u,rfl,e⟩
  .exact nomatch e
  .injection e with e1 _;subst e1;cases v<;>rfl
def bI(b:Bool):Int:=if b then 1 else 0
def HJ(k:Int)(v:Value):Bool:=match v with
 |.int i _=>i==k
 |.bool b=>bI b==k
 |_=>false
theorem bP{k:Int}{v:Value}(h:HJ k v=true):(∃t,v=Value.int k t)\/∃b,k=bI b/\v=Value.bool b:=by
 cases v with
 |int i t=>exact .inl ⟨t,by rw[eq_of_beq (show(i==k)=true from h)]⟩
 |bool b=>exact .inr ⟨b,(eq_of_beq (show(bI b==k)=true from h)).symm,rfl⟩
 |_=>exact nomatch h
theorem pJ{prog:Program}{w:World}{A:Around}{E:Value->Shared->Prop}{s:Shared}{b:Bool}{Q:Int->Shared->Prop}(h:Q (hashInt (bI b)) {s with toks:=s.toks+1}):wpAny (model prog w) A (pyHash (.bool b)) Q E s:=by
 refine PySem.W.pyHash_slot (T:="bool") rfl F.slot_bool_hash entry_int_hash (args_int_hash _) (beq_builtin_none _) (.inl rfl) ?_;cases b
 .exact(show wpAny _ _ (do ret (<-mkInt 0)) _ _ s from wpAny_bind (wpAny_mkInt (wpAny_pure ⟨0,_,rfl,h⟩)))
 .exact(show wpAny _ _ (do ret (<-mkInt 1)) _ _ s from wpAny_bind (wpAny_mkInt (wpAny_pure ⟨1,_,rfl,h⟩)))
theorem BA(a b:Int):decide (a=b)=(a==b):=by
 by_cases e:a=b
 .subst e;simp
 .rw[decide_eq_false e];exact(beq_eq_false_iff_ne.mpr e).symm
def zL(prog:Program)(w:World):PySem.KeyKind prog w Int where
 is:=HJ
 hash:=hashInt
 inj:=fun v a b ha hb=>by
  rcases bP ha with⟨t,rfl⟩|⟨x,rfl,rfl⟩
  .rcases bP hb with⟨u,e⟩|⟨y,rfl,e⟩
   .injection e
   .cases e
  .rcases bP hb with⟨u,e⟩|⟨y,rfl,e⟩
   .cases e
   .injection e with e;rw[e]
 byValue:=fun k v h=>by
  rcases bP h with⟨t,rfl⟩|⟨x,rfl,rfl⟩<;>rfl
 pyHash:=fun hv h=>by
  rcases bP hv with⟨t,rfl⟩|⟨x,rfl,rfl⟩
  .exact wpAny_pyHash_int h
  .exact pJ h
 eqBool:=fun {A E s a b u v Q} hu hv h=>by
  rw[BA] at h;rcases bP hu with⟨t,rfl⟩|⟨x,rfl,rfl⟩
  .rcases bP hv with⟨t',rfl⟩|⟨y,rfl,rfl⟩
   .exact wpAny_eqBool_int h
   .exact SeqAt.EqAt.int_bool _ t y _ _ _ _ h
  .rcases bP hv with⟨t',rfl⟩|⟨y,rfl,rfl⟩
   .exact SeqAt.EqAt.bool_int x _ t' _ _ _ _ h
   .refine SeqAt.EqAt.bool_bool x y _ _ _ _ ?_;rw[show(x==y)=(bI x==bI y) by cases x<;>cases y<;>rfl];exact h
 «strs»:=fun k x t v h=>by
  rcases bP h with⟨u,e⟩|⟨y,_,e⟩<;>cases e
def kl(k:Int×Bool):List Int:=[k.1,bI k.2]
theorem Aw{x y:Int×Bool}(h:kl x=kl y):x=y:=by
 obtain⟨x1,x2⟩:=x;obtain⟨y1,y2⟩:=y;have h1:x1=y1/\bI x2=bI y2:=by simpa [kl] using h
 obtain⟨rfl,h2⟩:=h1;cases x2<;>cases y2<;>first|rfl|exact absurd h2 (by decide)
theorem Fd(x y:Int×Bool):decide (kl x=kl y)=decide (x=y):=decide_eq_decide.mpr ⟨Aw,fun h=>by rw[h]⟩
def y6(prog:Program)(w:World):PySem.HeapKind prog w (Int×Bool) where
 is:=fun h k a=>IsTupleKey (zL prog w) h (kl k) a
 hash:=fun k=>tupleKeyHash (zL prog w) (kl k)
 draws:=fun _=>3
 room:=fun A=>A.units<cLine
 inj:=fun hx hy=>Aw (hx.inj hy)
 keeps:=fun x ho hd hs=>x.keeps ho hd hs
 pyHash:=fun hu hk h=>wpAny_pyHash_tuple hu hk h
 eqBool:=fun {A E s x y a b Q} hu hx hy h=>wpAny_eqBool_tuple hu hx hy (by rw[Fd];exact h)
 quiet:=fun hk h=>wpAny_eqIsQuiet_tuple hk h
inductive V where
 |non|bl (b:Bool)|int (i:Int)|str (x:Str)|byt (b:Array UInt8)|flt (b:UInt64)|ref (a:Addr)|ty (n:String)
 deriving DecidableEq
def RelV:V->Value->Prop
 |.non,u=>u=Value.none
 |.bl b,u=>u=Value.bool b
 |.int i,u=>∃t,u=Value.int i t
 |.str x,u=>∃t,u=Value.str x t
 |.byt b,u=>∃t,u=Value.bytes b t
 |.flt b,u=>∃t,u=Value.float b t
 |.ref a,u=>u=Value.ref a
 |.ty n,u=>u=Value.type n
abbrev Vals:List V->List Value->Prop:=Paired RelV
theorem Vals.length{xs:List V}{us:List Value}(r:Vals xs us):xs.length=us.length:=Paired.length r
theorem Vals.get:∀{xs:List V} {us:List Value} {i:Nat} {x:V},Vals xs us->xs[i]?=some x->∃u,us[i]?=some u/\RelV x u
 |_,_,_,_,.nil,e=>by simp at e
 |_,_,0,_,.cons r _,e=>by simp at e;subst e;exact⟨_,rfl,r⟩
 |_,_,i+1,x,.cons _ t,e=>by
  obtain⟨u,h1,h2⟩:=Vals.get (i:=i) (x:=x) t (by simpa using e);exact⟨u,by simpa using h1,h2⟩
theorem Vals.append:∀{xs ys:List V} {us ws:List Value},Vals xs us->Vals ys ws->Vals (xs++ys) (us++ws)
 |_,_,_,_,.nil,s=>s
 |_,_,_,_,.cons r t,s=>.cons r (Vals.append t s)
theorem Vals.take:∀{xs:List V} {us:List Value} (n:Nat),Vals xs us->Vals (xs.take n) (us.take n)
 |_,_,0,_=>.nil
 |_,_,_+1,.nil=>.nil
 |_,_,n+1,.cons r t=>.cons r (Vals.take n t)
theorem Vals.drop:∀{xs:List V} {us:List Value} (n:Nat),Vals xs us->Vals (xs.drop n) (us.drop n)
 |_,_,0,r=>r
 |_,_,_+1,.nil=>.nil
 |_,_,n+1,.cons _ t=>Vals.drop n t
def GF:Option V->Option Value->Prop
 |some v,some u=>RelV v u
 |none,none=>True
 |_,_=>False
def KV{κ:Type}:List (κ×V)->List (κ×Value)->Prop:=Paired fun(p:κ×V) (q:κ×Value)=>p.1=q.1/\RelV p.2 q.2
def kV:Key->V
 |.inl i=>.int i
 |.inr x=>.str x
def kB(k:Int×Bool):List V:=[.int k.1,.bl k.2]
inductive HO where
 |lst (xs:List V)
 |tup (xs:List V)
 |dK (kvs:List (Key×V))|dT (kvs:List (List Key×V))
 |dB (kvs:List ((Int×Bool)×V))
 |set (S:Int->Bool) (n:Nat)
 |ins (C dx:Addr) (fs:List (Str×V))
 |own (x:Addr)
 |xd (fs:List (Str×V))
 |met (f x:Addr)
 |FJ (lo hi:Int)
 |frz (o:Obj) (u:HO)
 |tbl (ps:Array Value)
 |ext (φ:Heap->Prop)
abbrev Hp:=Addr->Option HO
def upd(H:Hp)(a:Addr)(o:HO):Hp:=fun b=>if b=a then some o else H b
theorem bK{H:Hp}{a:Addr}{o:HO}:upd H a o a=some o:=by unfold upd;rw[if_pos rfl]
theorem aS{H:Hp}{a b:Addr}{o:HO}(h:b≠a):upd H a o b=H b:=by unfold upd;rw[if_neg h]
theorem br{H:Hp}{a b:Addr}{o:HO}(h:H a=some o)(h':H b=none):a≠b:=by
 intro e;subst e;rw[h] at h';cases h'
section
variable(P:Program)(w:World)
def fG(H:Hp)(h:Heap)(a:Addr):HO->Prop
 |.lst xs=>xs.length<=sizeLine/\∃(its:List Value) (n:Nat),Vals xs its/\h.get? a=some {cls:=.type "list",data:=.seq its.toArray n}
 |.tup xs=>xs.length<=sizeLine/\∃its:List Value,Vals xs its/\IsTup h a its.toArray
 |.dK kvs=>kvs.length<=sizeLine/\(a==sysModules)=false/\∃vs,KV kvs vs/\h.DictOf (vO P w) a vs
 |.dT kvs=>kvs.length<=sizeLine/\(a==sysModules)=false/\∃xs:List (List Key×Addr×Value),
   Paired (fun(p:List Key×V) (q:List Key×Addr×Value)=>p.1=q.1/\H q.2.1=some (.tup (p.1.map kV))/\RelV p.2 q.2.2) kvs xs /\
   ∃o es ep,h.get? a=some o/\o.ExactDict/\o.data=.dict es ep/\es.toList=xs.map (entryOfKey (tupleKind (vO P w)))/\(xs.map (·.1)).Nodup
 |.dB kvs=>kvs.length<=sizeLine/\(a==sysModules)=false/\∃xs:List ((Int×Bool)×Addr×Value),
   Paired (fun(p:(Int×Bool)×V) (q:(Int×Bool)×Addr×Value)=>p.1=q.1/\H q.2.1=some (.tup (kB p.1))/\RelV p.2 q.2.2) kvs xs /\
   ∃o es ep,h.get? a=some o/\o.ExactDict/\o.data=.dict es ep/\es.toList=xs.map (entryOfKey (y6 P w))/\(xs.map (·.1)).Nodup
 |.set S n=>h.SetOf (intKind P w) a S n
 |.ins C dx fs=>H dx=some (.own a)/\fs.length<=1000/\dx≠a/\h.get? a=some (PySem.W.instObj C dx) /\
   ∃mA,h.Ns1 dx mA/\(∀f,GF (fs.lookup f) (mA f))/\PySem.Within mA (fs.map (·.1))
 |.own _=>∃o,h.get? a=some o
 |.xd fs=>∃mA,h.Ns1 a mA/\∀f,GF (fs.lookup f) (mA f)
 |.FJ lo hi=>∃t u v,h.get? a=some {cls:=.type "range",data:=.fields #[.int lo t,.int hi u,.int 1 v]}
 |.frz o u=>h.get? a=some o/\fG H h a u
 |.tbl ps=>h.get? a=some {cls:=.none,data:=.fields ps}
 |.met f x=>h.get? a=some (PySem.W.methodObj (.ref f) (.ref x))
 |.ext φ=>φ h/\(∃o,h.get? a=some o)/\∀h1 h2:Heap,φ h1->(∀o,h1.get? a=some o->h2.get? a=some o)->φ h2
def lI(H:Hp)(h:Heap):Prop:=∀a o,H a=some o->fG P w H h a o
end
section
variable{P:Program}{w:World}{H H':Hp}{h h':Heap}{a:Addr}{o:HO}
theorem fG.lt(x:fG P w H h a o):a<h.objs.size:=by
 cases o with
 |lst xs=>obtain⟨_,_,_,_,e⟩:=x;exact Heap.lt_size e
 |tup xs=>obtain⟨_,_,_,p⟩:=x;exact p.lt
 |dK kvs=>obtain⟨_,_,_,_,o,_,_,e,_⟩:=x;exact Heap.lt_size e
 |dT kvs=>obtain⟨_,_,_,_,o,_,_,e,_⟩:=x;exact Heap.lt_size e
 |dB kvs=>obtain⟨_,_,_,_,o,_,_,e,_⟩:=x;exact Heap.lt_size e
 |set S n=>obtain⟨o,_,_,_,e,_⟩:=x;exact Heap.lt_size e
 |ins C dx fs=>obtain⟨_,_,_,e,_⟩:=x;exact Heap.lt_size e
 |own y=>obtain⟨_,e⟩:=x;exact Heap.lt_size e
 |xd fs=>obtain⟨_,⟨_,_,_,e,_⟩,_⟩:=x;exact Heap.lt_size e
 |FJ lo hi=>obtain⟨_,_,_,e⟩:=x;exact Heap.lt_size e
 |frz ob u=>obtain⟨e,_⟩:=x;exact Heap.lt_size e
 |tbl ps=>exact Heap.lt_size (show h.get? a=some _ from x)
 |met f y=>exact Heap.lt_size (show h.get? a=some _ from x)
 |ext φ=>obtain⟨_,⟨_,e⟩,_⟩:=x;exact Heap.lt_size e
theorem Paired.Dl{α β:Type}{F G:α->β->Prop}:∀{l₁:List α} {l₂:List β},Paired F l₁ l₂->(∀a b,F a b->G a b)->Paired G l₁ l₂
 |_,_,.nil,_=>.nil
 |_,_,.cons r t,f=>.cons (f _ _ r) (Paired.Dl t f)
theorem fG.rH(x:fG P w H h a o)(k:∀b u,(b=a\/H b=some (.own a))->h.get? b=some u->h'.get? b=some u)
  (ho:∀b,H b=some (.own a)->H' b=some (.own a)) (ht:∀b xs,H b=some (.tup xs)->H' b=some (.tup xs)):fG P w H' h' a o:=by
 induction o with
 |lst xs=>obtain⟨z,its,n,r,e⟩:=x;exact⟨z,its,n,r,k _ _ (.inl rfl) e⟩
 |tup xs=>obtain⟨z,its,r,ob,e,c⟩:=x;exact⟨z,its,r,ob,k _ _ (.inl rfl) e,c⟩
 |dK kvs=>obtain⟨z,y,vs,r,ob,es,ep,e,c⟩:=x;exact⟨z,y,vs,r,ob,es,ep,k _ _ (.inl rfl) e,c⟩
 |dT kvs =>
  obtain⟨z,y,xs,r,ob,es,ep,e,c⟩:=x;exact⟨z,y,xs,Paired.Dl r fun p q z=>⟨z.1,ht _ _ z.2.1,z.2.2⟩,ob,es,ep,k _ _ (.inl rfl) e,c⟩
 |dB kvs =>
  obtain⟨z,y,xs,r,ob,es,ep,e,c⟩:=x;exact⟨z,y,xs,Paired.Dl r fun p q z=>⟨z.1,ht _ _ z.2.1,z.2.2⟩,ob,es,ep,k _ _ (.inl rfl) e,c⟩
 |set S n=>obtain⟨ob,es,ep,t,e,c⟩:=x;exact⟨ob,es,ep,t,k _ _ (.inl rfl) e,c⟩
 |ins C dx fs =>
  obtain⟨d,z,ne,e,mA,⟨od,es,ep,e2,c⟩,r⟩:=x;exact⟨ho _ d,z,ne,k _ _ (.inl rfl) e,mA,⟨od,es,ep,k _ _ (.inr d) e2,c⟩,r⟩
 |own y=>obtain⟨ob,e⟩:=x;exact⟨ob,k _ _ (.inl rfl) e⟩
 |xd fs=>obtain⟨mA,⟨od,es,ep,e,c⟩,r⟩:=x;exact⟨mA,⟨od,es,ep,k _ _ (.inl rfl) e,c⟩,r⟩
 |FJ lo hi=>obtain⟨t,u,v,e⟩:=x;exact⟨t,u,v,k _ _ (.inl rfl) e⟩
 |frz ob u ih=>obtain⟨e,q⟩:=x;exact⟨k _ _ (.inl rfl) e,ih q⟩
 |tbl ps =>
  have e:h.get? a=some {cls:=.none,data:=.fields ps}:=x;show h'.get? a=some {cls:=.none,data:=.fields ps};exact k a _ (.inl rfl) e
 |met f y =>
  have e:h.get? a=some (PySem.W.methodObj (.ref f) (.ref y)):=x;show h'.get? a=some (PySem.W.methodObj (.ref f) (.ref y));exact k a _ (.inl rfl) e
 |ext φ=>obtain⟨p,⟨o,e⟩,st⟩:=x;exact⟨st _ _ p fun o q=>k _ _ (.inl rfl) q,⟨o,k _ _ (.inl rfl) e⟩,st⟩
theorem lI.lt(x:lI P w H h)(e:H a=some o):a<h.objs.size:=(x a o e).lt
theorem lI.fresh(x:lI P w H h)(e:h.objs.size<=a):H a=none:=by
 cases q:H a with
 |none=>rfl
 |some u=>exact absurd (Nat.lt_of_lt_of_le (x.lt q) e) (Nat.lt_irrefl _)
theorem lI.kept(x:lI P w H h)(k:∀b u,h.get? b=some u->h'.get? b=some u):lI P w H h':=fun a o e =>
 (x a o e).rH (fun b u _ q=>k b u q) (fun _ q=>q) fun _ _ q=>q
theorem lI.laid(x:lI P w H h)(k:∀b u,h.get? b=some u->h'.get? b=some u)(hp:h.objs.size<=a)(new:fG P w (upd H a o) h' a o):lI P w (upd H a o) h':=fun b u e=>by
 have hn:=x.fresh hp;by_cases hb:b=a
 .subst hb;rw[bK] at e;cases e;exact new
 .rw[aS hb] at e;exact(x b u e).rH (fun c v _ q=>k c v q) (fun c q=>by rw[aS (br q hn)];exact q) fun c xs q=>by rw[aS (br q hn)];exact q
end
def Rd(H:Hp)(a:Addr)(u:HO):Prop:=H a=some u\/∃o,H a=some (.frz o u)
theorem Rd.ok{P:Program}{w:World}{H:Hp}{h:Heap}{a:Addr}{u:HO}(r:Rd H a u)(x:lI P w H h):fG P w H h a u:=by
 rcases r with r|⟨o,r⟩
 .exact x a u r
 .obtain⟨_,q⟩:=x a _ r;exact q
def HM:Option HO->Prop
 |some (.lst _)=>True
 |some (.dK _)=>True
 |some (.dT _)=>True
 |some (.dB _)=>True
 |some (.set _ _)=>True
 |some (.ins _ _ _)=>True
 |some (.ext _)=>True
 |_=>False
section
variable{P:Program}{w:World}{H:Hp}{h h':Heap}{x e:Addr}{o':HO}
theorem lI.write(ok:lI P w H h)(mu:HM (H x))(he:e=x\/H e=some (.own x))(k:∀b u,b≠e->h.get? b=some u->h'.get? b=some u)(heo:∃u,h'.get? e=some u)
  (new:fG P w (upd H x o') h' x o'):lI P w (upd H x o') h':=fun b u q=>by
 have nown:∀c y,H c=some (.own y)->c≠x:=fun c y r z=>by subst z;rw[r] at mu;exact mu
 have ntup:∀c xs,H c=some (.tup xs)->c≠x:=fun c xs r z=>by subst z;rw[r] at mu;exact mu
 by_cases hb:b=x
 .subst hb;rw[bK] at q;cases q;exact new
 .rw[aS hb] at q;by_cases hbe:b=e
  .have q':H b=some (.own x):=by
    rcases he with z|z
    .exact absurd (hbe.trans z) hb
    .rw[hbe];exact z
   rw[q] at q';cases q';obtain⟨v,hv⟩:=heo;exact⟨v,by rw[hbe];exact hv⟩
  .refine(ok b u q).rH (fun c v hc r=>k c v ?_ r) (fun c r=>by rw[aS (nown c b r)];exact r) fun c xs r=>by rw[aS (ntup c xs r)];exact r
   rcases hc with rfl|hc
   .exact hbe
   .rintro rfl;rcases he with z|z
    .exact nown c b hc z
    .rw[hc] at z;cases z;exact hb rfl
end
structure Un(fs ex:List Addr)(H H':Hp)(h h':Heap):Prop where
 keep:∀b o,h.get? b=some o->H b=none->b∉fs->b∉ex->h'.get? b=some o
 slot:∀b o,h.get? b=some o->H b=none->b∈fs->b∉ex->∃sl,h'.get? b=some {o with slots:=sl}
 free:∀b o,h.get? b=some o->H b=none->b∉ex->H' b=none
 there:∀b o,h.get? b=some o->b∉ex->∃o',h'.get? b=some o'
 tups:∀b xs,H b=some (.tup xs)->H' b=some (.tup xs)
 frzs:∀b o u,H b=some (.frz o u)->H' b=some (.frz o u)
 tbls:∀b ps,H b=some (.tbl ps)->∃more,H' b=some (.tbl (ps++more))
section
variable{fs fs' ex ex':List Addr}{H H1 H2:Hp}{h h1 h2 h':Heap}{a x e:Addr}{o:HO}
theorem Un.any(u:Un fs ex H H1 h h1){b:Addr}{ob:Obj}(q:h.get? b=some ob)(n:H b=none)(hx:b∉ex):∃sl,h1.get? b=some {ob with slots:=sl}:=by
 by_cases hb:b∈fs
 .exact u.slot b ob q n hb hx
 .exact⟨ob.slots,u.keep b ob q n hb hx⟩
theorem Un.trans(a:Un fs ex H H1 h h1)(b:Un fs ex H1 H2 h1 h2):Un fs ex H H2 h h2 where
 keep:=fun c ob q n hc hx=>b.keep c ob (a.keep c ob q n hc hx) (a.free c ob q n hx) hc hx
 slot:=fun c ob q n hc hx=>by
  obtain⟨sl,e1⟩:=a.slot c ob q n hc hx;obtain⟨sl',e2⟩:=b.slot c _ e1 (a.free c ob q n hx) hc hx;exact⟨sl',e2⟩
 free:=fun c ob q n hx=>by
  obtain⟨o',e1⟩:=a.there c ob q hx;exact b.free c o' e1 (a.free c ob q n hx) hx
 there:=fun c ob q hx=>by
  obtain⟨o',e1⟩:=a.there c ob q hx;exact b.there c o' e1 hx
 tups:=fun c xs q=>b.tups c xs (a.tups c xs q)
 frzs:=fun c ob xs q=>b.frzs c ob xs (a.frzs c ob xs q)
 tbls:=fun c ps q=>by
  obtain⟨m1,e1⟩:=a.tbls c ps q;obtain⟨m2,e2⟩:=b.tbls c _ e1;exact⟨m1++m2,by rw[e2,Array.append_assoc]⟩
theorem Un.kept(k:∀b u,h.get? b=some u->h'.get? b=some u):Un fs ex H H h h' :=
 ⟨fun b ob q _ _ _=>k b ob q,fun b ob q _ _ _=>⟨ob.slots,k b ob q⟩,fun _ _ _ n _=>n,fun b ob q _=>⟨ob,k b ob q⟩,fun _ _ q=>q,fun _ _ _ q=>q,fun _ ps q=>⟨#[],by rw[q];simp⟩⟩
theorem Un.refl:Un fs ex H H h h:=Un.kept fun _ _ q=>q
theorem Un.laid(k:∀b u,h.get? b=some u->h'.get? b=some u)(hp:h.objs.size<=a)(hn:H a=none):Un fs ex H (upd H a o) h h' where
 keep:=fun b u q _ _ _=>k b u q
 slot:=fun b u q _ _ _=>⟨u.slots,k b u q⟩
 free:=fun b u q n _=>by rw[aS (Nat.ne_of_lt (Nat.lt_of_lt_of_le (Heap.lt_size q) hp))];exact n
 there:=fun b u q _=>⟨u,k b u q⟩
 tups:=fun b xs q=>by rw[aS (br q hn)];exact q
 frzs:=fun b u xs q=>by rw[aS (br q hn)];exact q
 tbls:=fun b ps q=>⟨#[],by rw[aS (br q hn),q];simp⟩
theorem Un.write(mu:HM (H x))(he:e=x\/H e=some (.own x))(k:∀b u,b≠e->h.get? b=some u->h'.get? b=some u)(heo:∃u,h'.get? e=some u):Un fs ex H (upd H x o) h h':=by
 have hx:∀b,H b=none->b≠x:=fun b n z=>by subst z;rw[n] at mu;exact mu
 have hb:∀b,H b=none->b≠e:=fun b n z=>by
  subst z;rcases he with r|r
  .exact hx b n r
  .rw[n] at r;cases r
 have hm:∀b u,H b=some u->¬HM (some u)->b≠x:=fun b u q nm z=>by subst z;rw[q] at mu;exact nm mu
 refine⟨fun b u q n _ _=>k b u (hb b n) q,fun b u q n _ _=>⟨u.slots,k b u (hb b n) q⟩,fun b u q n _=>by rw[aS (hx b n)];exact n,fun b u q _=>?_,
  fun b xs q=>by rw[aS (hm b _ q fun z=>z)];exact q,fun b u xs q=>by rw[aS (hm b _ q fun z=>z)];exact q,fun b ps q=>⟨#[],by rw[aS (hm b _ q fun z=>z),q];simp⟩⟩
 by_cases hbe:b=e
 .subst hbe;exact heo
 .exact⟨u,k b u hbe q⟩
end
def HV(h:Heap)(H:Hp):List Addr:=(List.range h.objs.size).filter fun a=>(H a).isSome
def pG(h:Heap)(H:Hp):Heap:=PySem.W.hideAll h (HV h H)
theorem wK(h:Heap)(H:Hp):(pG h H).objs.size=h.objs.size:=PySem.W.hideAll_size _ _
theorem zc{h:Heap}{H:Hp}{b:Addr}{o:Obj}(e:h.get? b=some o)(n:H b=none):(pG h H).get? b=some o :=
 PySem.W.hideAll_get _ e fun hm=>by
  have q:(H b).isSome=true:=(List.mem_filter.mp hm).2;rw[n] at q;simp at q
theorem Cq{h:Heap}{H:Hp}{b:Addr}{o:Obj}(e:(pG h H).get? b=some o):h.get? b=some o/\H b=none:=by
 have e':h.get? b=some o:=PySem.W.of_hideAll (HV h H) e;refine⟨e',?_⟩;cases q:H b with
 |none=>rfl
 |some x =>
  have hm:b∈HV h H:=List.mem_filter.mpr ⟨List.mem_range.mpr (Heap.lt_size e'),by simp[q]⟩;have z:(pG h H).get? b=none:=PySem.W.hideAll_none (HV h H) hm;rw[z] at e;cases e
structure Mod(K:PySem.W.Frag)(mg:Str->Option Value)(base:Heap):Prop where
 kin:K.In base
 glob:base.Ns mainGlobals mg
 blt:∃mb,base.Ns builtinsNs mb/\∀x:Str,x≠"__name__"->mb x=bootBuiltins x
 nolimit:base.NoLimit
/-- the context: a def's body (or a comprehension's block) running. base: fixed through the whole law; s₀, H₀: the entry; outer: the frames whose slots others may change (a def's callers); stack: all frames that run;
   ex: iterators that were made ahead of the entry and are walked here (a comprehension's);fn: the names whose cells were made at the entry (a def: all;a comprehension's block: its own);calm: not within an except suite;pn: pins that every state bears;xe: what is wanted of an exception that leaves the code -/
structure Cx where
 prog:Program
 w:World
 K:PySem.W.Frag
 mg:Str->Option Value
 base:Heap
 A:Around
 N:List Str
 s₀:Shared
 H₀:Hp
 env:Env
 outer:List Env
 stack:List Env
 ex:List Addr
 fn:Str->Bool
 calm:Bool
 pn:List (Addr×Obj)
 xe:Value->Shared->Prop
def sL(l:List Env):List Addr:=l.filterMap (·.frame)
abbrev Cx.fs(X:Cx):List Addr:=sL X.outer
def FP(sc:Scope)(x:Str):Prop:=sc.names.lookup x=some .local\/sc.names.lookup x=some .cell\/sc.names.lookup x=some .free
def Loc(sc:Scope)(x:Str):Prop:=sc.names.lookup x=some .local\/sc.names.lookup x=some .cell
def Look(env:Env)(h:Heap)(m:Str->Option Value)(x:Str)(u:Value):Prop :=
 (env.kindOf x=some .local/\m x=some u)\/((env.kindOf x=some .cell\/env.kindOf x=some .free)/\∃c,env.cells.lookup x=some c/\h.IsCell c (some u))
structure Cx.Ok(X:Cx):Prop where
 mod:Mod X.K X.mg X.base
 kind:X.env.scope.kind=.function
 glob:X.env.globals=mainGlobals
 blt:X.env.builtins=builtinsNs
 above:X.s₀.heap.objs.size<=X.env.locals
 inj:∀x y c,X.env.cells.lookup x=some c->X.env.cells.lookup y=some c->x=y
 has:∀x,(X.env.kindOf x=some .cell\/X.env.kindOf x=some .free)->∃c,X.env.cells.lookup x=some c
 cab:∀x c,X.fn x=true->X.env.cells.lookup x=some c->X.s₀.heap.objs.size<=c
 hd:X.calm=true->X.A.handled=none
 frames:X.A.frames=some X.stack
 stk:X.stack=X.outer\/(X.stack=X.env::X.outer/\X.env.frame=some X.env.locals)
 exf:∀b∈X.ex,b≠X.env.locals/\∀x c,X.env.cells.lookup x=some c->c≠b
 bs:∀b o,X.base.get? b=some o->X.s₀.heap.get? b=some o/\X.H₀ b=none
 bsz:X.base.objs.size<=X.s₀.heap.objs.size
 noex:∀b o,X.base.get? b=some o->b∉X.ex
 exfs:∀b∈X.ex,b∉X.fs
 kg:X.s₀.heap.FunFrames X.base X.outer
 frf:∀b∈X.fs,X.H₀ b=none
structure Inv(X:Cx)(pins:List (Addr×Obj))(σ:List (Option V))(H:Hp)(s:Shared):Prop where
 ok:X.Ok
 os:s.os=X.s₀.os
 bare:AllBare s.gens
 base:Un X.fs X.ex X.H₀ H X.s₀.heap s.heap
 loc:∃m,s.heap.Ns X.env.locals m/\∀(i:Nat) (x:Str) (v:V),X.N[i]?=some x->σ[i]?=some (some v)->FP X.env.scope x->∃u,RelV v u/\Look X.env s.heap m x u
 cell:∀x c,X.env.cells.lookup x=some c->∃v,s.heap.IsCell c v
 free:H X.env.locals=none
 freeC:∀x c,X.env.cells.lookup x=some c->H c=none
 pin:∀p∈X.pn++pins,s.heap.get? p.1=some p.2/\H p.1=none/\p.1≠X.env.locals/\p.1∉X.fs/\∀v,p.2.data≠.cell v
 hok:lI X.prog X.w H s.heap
 len:σ.length=X.N.length
section
variable{X:Cx}{pins:List (Addr×Obj)}{σ:List (Option V)}{H H':Hp}{s:Shared}{h':Heap}
theorem Cx.Ok.Ip(ok:X.Ok){b:Addr}{o:Obj}(e:X.base.get? b=some o):b∉X.fs:=fun hb=>by
 have:=(ok.kg.mem hb).1;rw[e] at this;cases this
theorem Inv.bs(I:Inv X pins σ H s):∀b o,X.base.get? b=some o->s.heap.get? b=some o/\H b=none:=fun b o e =>
 ⟨I.base.keep b o (I.ok.bs b o e).1 (I.ok.bs b o e).2 (I.ok.Ip e) (I.ok.noex b o e),I.base.free b o (I.ok.bs b o e).1 (I.ok.bs b o e).2 (I.ok.noex b o e)⟩
theorem Inv.bk(I:Inv X pins σ H s):∀b o,X.base.get? b=some o->s.heap.get? b=some o:=fun b o e=>(I.bs b o e).1
theorem Inv.mod(I:Inv X pins σ H s):Mod X.K X.mg X.base:=I.ok.mod
theorem Inv.Fx(I:Inv X pins σ H s):X.K.In s.heap:=I.ok.mod.kin.keeps I.bk
theorem Inv.lt(I:Inv X pins σ H s):X.env.locals<s.heap.objs.size:=let ⟨_,hn,_⟩:=I.loc;hn.lt
theorem Inv.sz(I:Inv X pins σ H s):X.s₀.heap.objs.size<=s.heap.objs.size:=Nat.le_trans I.ok.above (Nat.le_of_lt I.lt)
theorem Inv.Iv(I:Inv X pins σ H s){a:Addr}(h:s.heap.objs.size<=a):a∉X.fs:=fun hb=>by
 obtain⟨_,o,ho,_⟩:=I.ok.kg.mem hb;exact absurd (Nat.lt_of_lt_of_le (Heap.lt_size ho) (Nat.le_trans I.sz h)) (Nat.lt_irrefl _)
theorem Inv.Ei(I:Inv X pins σ H s):∀x c,X.env.cells.lookup x=some c->c≠X.env.locals:=fun x c e z=>by
 obtain⟨v,o,ho,hd⟩:=I.cell x c e;obtain⟨m,⟨o',es,ep,ho',hd',_⟩,_⟩:=I.loc;rw[z,ho'] at ho;cases ho;rw[hd'] at hd;cases hd
theorem Inv.kg(I:Inv X pins σ H s):s.heap.FunFrames X.base X.outer:=by
 have all:∀(l:List Env),(∀b∈sL l,b∈X.fs)->X.s₀.heap.FunFrames X.base l->s.heap.FunFrames X.base l:=by
  intro l
  induction l with
  |nil=>intro _ _;trivial
  |cons env r ih =>
   intro hs hl;obtain⟨hk,⟨L,o,hf,hn,ho,hd⟩,hr⟩:=hl;have hL:L∈X.fs:=hs L (by unfold sL;rw[List.filterMap_cons,hf];exact List.mem_cons_self);obtain⟨sl,e⟩:=I.base.slot L o ho (I.ok.frf L hL) hL fun z=>I.ok.exfs L z hL;exact⟨hk,⟨L,_,hf,hn,e,hd⟩,ih (fun b hb=>hs b (by unfold sL;rw[List.filterMap_cons,hf];exact List.mem_cons_of_mem _ hb)) hr⟩
 exact all X.outer (fun _ hb=>hb) I.ok.kg
theorem Inv.stack(I:Inv X pins σ H s):s.heap.FunFrames X.base X.stack:=by
 rcases I.ok.stk with e|⟨e,hf⟩
 .rw[e];exact I.kg
 .rw[e];obtain⟨m,hn,_⟩:=I.loc;refine .cons (by rw[I.ok.kind];decide) hf hn ?_ I.kg;exact Heap.get?_none_of_le (Nat.le_trans I.ok.bsz I.ok.above)
theorem Inv.p8(I:Inv X pins σ H s):∀b∈sL X.stack,b∈X.env.locals::X.fs:=fun b hb=>by
 rcases I.ok.stk with e|⟨e,hf⟩
 .rw[e] at hb;exact List.mem_cons_of_mem _ hb
 .rw[e] at hb;unfold sL at hb;rw[List.filterMap_cons,hf] at hb;exact hb
theorem Inv.vq(I:Inv X pins σ H s):∀b∈sL X.stack,H b=none:=fun b hb=>by
 rcases List.mem_cons.mp (I.p8 b hb) with e|hb
 .rw[e];exact I.free
 .obtain⟨_,o,ho,_⟩:=I.ok.kg.mem hb;exact I.base.free b o ho (I.ok.frf b hb) fun z=>I.ok.exfs b z hb
theorem Inv.step{g':Array GenState}{t':Nat}{d':Drawn}{ch:List Addr}(I:Inv X pins σ H s)
  (hch:∀b∈ch,(b∈X.ex\/X.s₀.heap.objs.size<=b)/\b≠X.env.locals/\(∀x c,X.env.cells.lookup x=some c->c≠b)/\∀p∈X.pn++pins,p.1≠b)
  (keep:∀b o,b≠X.env.locals->b∉X.fs->b∉ch->s.heap.get? b=some o->H b=none->h'.get? b=some o)
  (slot:∀b o,b≠X.env.locals->b∈X.fs->b∉ch->s.heap.get? b=some o->H b=none->∃sl,h'.get? b=some {o with slots:=sl}) (free:∀b o,b∉ch->s.heap.get? b=some o->H b=none->H' b=none)
  (there:∀b o,b∉ch->s.heap.get? b=some o->∃o',h'.get? b=some o')
  (tups:∀b xs,H b=some (.tup xs)->H' b=some (.tup xs)) (frzs:∀b o u,H b=some (.frz o u)->H' b=some (.frz o u)) (tbls:∀b ps,H b=some (.tbl ps)->∃more,H' b=some (.tbl (ps++more)))
  (ns:∀m,s.heap.Ns X.env.locals m->h'.Ns X.env.locals m) (hok:lI X.prog X.w H' h') (hg:AllBare g'):
  Inv X pins σ H' {s with heap:=h',gens:=g',drawn:=d',toks:=t'}:=by
 have neL:∀b o,X.s₀.heap.get? b=some o->b≠X.env.locals:=fun b o e=>Nat.ne_of_lt (Nat.lt_of_lt_of_le (Heap.lt_size e) I.ok.above)
 have neC:∀b o,X.s₀.heap.get? b=some o->b∉X.ex->b∉ch:=fun b o e hx hb=>by
  rcases(hch b hb).1 with z|z
  .exact hx z
  .exact absurd (Nat.lt_of_lt_of_le (Heap.lt_size e) z) (Nat.lt_irrefl _)
 have cellK:∀x c,X.env.cells.lookup x=some c->∀v,s.heap.IsCell c v->h'.IsCell c v:=fun x c e v ⟨o,ho,hd⟩=>by
  have nch:c∉ch:=fun z=>(hch c z).2.2.1 x c e rfl;by_cases hc:c∈X.fs
  .obtain⟨sl,q⟩:=slot c o (I.Ei x c e) hc nch ho (I.freeC x c e);exact⟨_,q,hd⟩
  .exact⟨o,keep c o (I.Ei x c e) hc nch ho (I.freeC x c e),hd⟩
 refine⟨I.ok,I.os,hg,⟨fun b o e n hb hx=>?_,fun b o e n hb hx=>?_,fun b o e n hx=>?_,fun b o e hx=>?_,fun b xs e=>tups b xs (I.base.tups b xs e),fun b o xs e=>frzs b o xs (I.base.frzs b o xs e),fun b ps e=>?_⟩,?_,fun x c e=>?_,?_,fun x c e=>?_,fun p hp=>?_,hok,I.len⟩
 .exact keep b o (neL b o e) hb (neC b o e hx) (I.base.keep b o e n hb hx) (I.base.free b o e n hx)
 .obtain⟨sl,e1⟩:=I.base.slot b o e n hb hx;obtain⟨sl',e2⟩:=slot b _ (neL b o e) hb (neC b o e hx) e1 (I.base.free b o e n hx);exact⟨sl',e2⟩
 .obtain⟨o',e1⟩:=I.base.there b o e hx;exact free b o' (neC b o e hx) e1 (I.base.free b o e n hx)
 .obtain⟨o',e1⟩:=I.base.there b o e hx;exact there b o' (neC b o e hx) e1
 .obtain⟨m1,e1⟩:=I.base.tbls b ps e;obtain⟨m2,e2⟩:=tbls b _ e1;exact⟨m1++m2,by rw[e2,Array.append_assoc]⟩
 .obtain⟨m,hn,hl⟩:=I.loc;refine⟨m,ns m hn,fun i x v e1 e2 e3=>?_⟩;obtain⟨u,r,l⟩:=hl i x v e1 e2 e3;refine⟨u,r,?_⟩;rcases l with l|⟨k,c,e,z⟩
  .exact .inl l
  .exact .inr ⟨k,c,e,cellK x c e _ z⟩
 .obtain⟨v,z⟩:=I.cell x c e;exact⟨v,cellK x c e v z⟩
 .obtain⟨m,⟨o,_,_,ho,_⟩,_⟩:=I.loc;exact free _ o (fun z=>(hch _ z).2.1 rfl) ho I.free
 .obtain⟨v,o,ho,hd⟩:=I.cell x c e;exact free c o (fun z=>(hch c z).2.2.1 x c e rfl) ho (I.freeC x c e)
 .obtain⟨e,n,ne,nf,d⟩:=I.pin p hp;have nch:p.1∉ch:=fun z=>(hch p.1 z).2.2.2 p hp rfl;exact⟨keep p.1 p.2 ne nf nch e n,free p.1 p.2 nch e n,ne,nf,d⟩
theorem Inv.un{t':Nat}(I:Inv X pins σ H s)(u:Un X.fs [] H H' s.heap h')(hok:lI X.prog X.w H' h'):Inv X pins σ H' {s with heap:=h',toks:=t'}:=by
 obtain⟨m,⟨o,es,ep,ho,r⟩,_⟩:=id I.loc;obtain⟨sl,hL⟩:=u.any ho I.free (by simp)
 exact I.step (g':=s.gens) (d':=s.drawn) (ch:=[]) (fun _ z=>nomatch z) (fun b o _ hb _ e n=>u.keep b o e n hb (by simp)) (fun b o _ hb _ e n=>u.slot b o e n hb (by simp)) (fun b o _ e n=>u.free b o e n (by simp)) (fun b o _ e=>u.there b o e (by simp)) u.tups u.frzs u.tbls (fun m' hm=>by
  obtain⟨o',es',ep',ho',r'⟩:=hm;rw[ho] at ho';cases ho'
  exact⟨_,es',ep',hL,r'⟩) hok I.bare
theorem Inv.call{g':Array GenState}{t':Nat}{d':Drawn}{ch:List Addr}(I:Inv X pins σ H s)(u:Un (sL X.stack) ch H H' s.heap h')(hok:lI X.prog X.w H' h')(hg:AllBare g')
  (hch:∀b∈ch,(b∈X.ex\/X.s₀.heap.objs.size<=b)/\b≠X.env.locals/\(∀x c,X.env.cells.lookup x=some c->c≠b)/\∀p∈X.pn++pins,p.1≠b):
  Inv X pins σ H' {s with heap:=h',gens:=g',drawn:=d',toks:=t'}:=by
 obtain⟨m,⟨o,es,ep,ho,r⟩,_⟩:=id I.loc;obtain⟨sl,hL⟩:=u.any ho I.free fun z=>(hch _ z).2.1 rfl
 exact I.step (ch:=ch) hch (fun b o hL hb hc e n=>u.keep b o e n (fun z=>(List.mem_cons.mp (I.p8 b z)).elim hL hb) hc) (fun b o _ _ hc e n=>u.any e n hc) (fun b o hc e n=>u.free b o e n hc) (fun b o hc e=>u.there b o e hc) u.tups u.frzs u.tbls (fun m' hm=>by
  obtain⟨o',es',ep',ho',r'⟩:=hm;rw[ho] at ho';cases ho'
  exact⟨_,es',ep',hL,r'⟩) hok hg
theorem Inv.turned{t':Nat}{it:Addr}(I:Inv X pins σ H s)(k:∀b o,b≠it->s.heap.get? b=some o->h'.get? b=some o)(hn:H it=none)(hL:it≠X.env.locals)
  (h1:it∈X.ex\/X.s₀.heap.objs.size<=it) (h2:∀x c,X.env.cells.lookup x=some c->c≠it) (h3:∀p∈X.pn++pins,p.1≠it):Inv X pins σ H {s with heap:=h',toks:=t'}:=by
 have nit:∀b u,H b=some u->b≠it:=fun b u e z=>by rw[z,hn] at e;cases e
 refine I.step (g':=s.gens) (d':=s.drawn) (ch:=[it]) (fun b hb=>?_) (fun b o _ _ hc e _=>k b o (fun z=>hc (by simp[z])) e) (fun b o _ _ hc e _=>⟨o.slots,k b o (fun z=>hc (by simp[z])) e⟩) (fun _ _ _ _ n=>n)
  (fun b o hc e=>⟨o,k b o (fun z=>hc (by simp[z])) e⟩) (fun _ _ e=>e) (fun _ _ _ e=>e) (fun b ps e=>⟨#[],by rw[e];simp⟩) (fun m hm=>?_) (fun b u e=>?_) I.bare
 .have e:b=it:=by simpa using hb
  subst e;exact⟨h1,hL,h2,h3⟩
 .obtain⟨o,es,ep,ho,r⟩:=hm;exact⟨o,es,ep,k _ o (Ne.symm hL) ho,r⟩
 .refine(I.hok b u e).rH (fun c v hc q=>k c v ?_ q) (fun _ q=>q) fun _ _ q=>q;rcases hc with z|z
  .rw[z];exact nit b u e
  .exact nit c _ z
theorem Inv.tok(I:Inv X pins σ H s)(t:Nat):Inv X pins σ H {s with toks:=t}:=I.un (h':=s.heap) (t':=t) Un.refl I.hok
theorem Inv.kept{t':Nat}(I:Inv X pins σ H s)(k:∀b u,s.heap.get? b=some u->h'.get? b=some u):Inv X pins σ H {s with heap:=h',toks:=t'}:=I.un (Un.kept k) (I.hok.kept k)
theorem Inv.laid{a:Addr}{o:HO}{t':Nat}(I:Inv X pins σ H s)(k:∀b u,s.heap.get? b=some u->h'.get? b=some u)(hp:s.heap.objs.size<=a)(new:fG X.prog X.w (upd H a o) h' a o):
  Inv X pins σ (upd H a o) {s with heap:=h',toks:=t'}:=I.un (Un.laid k hp (I.hok.fresh hp)) (I.hok.laid k hp new)
theorem Inv.write{x e:Addr}{o:HO}{t':Nat}(I:Inv X pins σ H s)(mu:HM (H x))(he:e=x\/H e=some (.own x))(k:∀b u,b≠e->s.heap.get? b=some u->h'.get? b=some u)(heo:∃u,h'.get? e=some u)
  (new:fG X.prog X.w (upd H x o) h' x o):Inv X pins σ (upd H x o) {s with heap:=h',toks:=t'}:=I.un (Un.write mu he k heo) (I.hok.write mu he k heo new)
theorem Inv.weak{σ':List (Option V)}(I:Inv X pins σ H s)(hl:σ'.length=σ.length)(w:∀(i:Nat) v,σ'[i]?=some (some v)->σ[i]?=some (some v)):Inv X pins σ' H s :=
 ⟨I.ok,I.os,I.bare,I.base,let ⟨m,hn,hl'⟩:=I.loc;⟨m,hn,fun i x v e1 e2 e3=>hl' i x v e1 (w i v e2) e3⟩,I.cell,I.free,I.freeC,I.pin,I.hok,hl.trans I.len⟩
theorem Inv.jD{pins':List (Addr×Obj)}(I:Inv X pins σ H s)(h:∀p∈pins',s.heap.get? p.1=some p.2/\H p.1=none/\p.1≠X.env.locals/\p.1∉X.fs/\∀v,p.2.data≠.cell v):Inv X pins' σ H s :=
 ⟨I.ok,I.os,I.bare,I.base,I.loc,I.cell,I.free,I.freeC,fun p hp=>(List.mem_append.mp hp).elim (fun z=>I.pin p (List.mem_append_left _ z)) (h p),I.hok,I.len⟩
theorem qZ{N:List Str}(hN:N.Nodup){i j:Nat}{x:Str}(a:N[i]?=some x)(b:N[j]?=some x):i=j:=by
 obtain⟨h1,e1⟩:=List.getElem?_eq_some_iff.mp a;obtain⟨h2,e2⟩:=List.getElem?_eq_some_iff.mp b;exact(List.getElem_inj hN).mp (e1.trans e2.symm)
theorem xt{M:Model}{A:Around}{E:Value->Shared->Prop}{i:Nat}{x:Str}{v:V}{u:Value}{Q:Unit->Shared->Prop}(I:Inv X pins σ H s)(hN:X.N.Nodup)(hi:X.N[i]?=some x)(hx:Loc X.env.scope x)(r:RelV v u)
  (h:∀s',Inv X pins (σ.set i (some v)) H s'->(∃a,Heap.SameBut a s.heap s'.heap/\(a=X.env.locals\/X.env.cells.lookup x=some a))->Q () s') (hf:X.fn x=true\/X.env.scope.names.lookup x=some .local:=by first|exact .inl rfl|exact .inr rfl|assumption):wpAny M A (storeName X.env x u) Q E s:=by
 obtain⟨m,hn,hl⟩:=id I.loc;have hcls:(X.env.scope.kind==.class || (X.env.scope.kind==.module&&X.env.locals != X.env.globals))=false:=by rw[I.ok.kind];rfl
 have hiσ:i<σ.length:=by rw[I.len];exact(List.getElem?_eq_some_iff.mp hi).1
 have Ei:=I.Ei
 have tracked:∀{a:Addr} {h':Heap},(∃o,s.heap.get? a=some o/\H a=none)->Heap.SameBut a s.heap h'->lI X.prog X.w H h':=fun {a h'} ha hs b ob e=>by
  obtain⟨_,_,hfree⟩:=ha;refine(I.hok b ob e).rH (fun c w' hc q=>(hs.2 c ?_).trans q) (fun _ q=>q) fun _ _ q=>q;rintro rfl;rcases hc with rfl|hc
  .rw[hfree] at e;cases e
  .rw[hfree] at hc;cases hc
 rcases hx with hk|hk
 .refine wpAny_storeName_local hk hn (fun h' hn' hs=>?_) hcls;obtain⟨oL,_,_,hoL,_⟩:=id hn;refine h _ ⟨I.ok,I.os,I.bare,⟨fun b o e n hb hx=>?_,fun b o e n hb hx=>?_,I.base.free,fun b o e hx=>?_,I.base.tups,I.base.frzs,I.base.tbls⟩,⟨_,hn',fun j y v' e1 e2 e3=>?_⟩,fun y c e=>?_,I.free,I.freeC,fun p hp=>?_,tracked ⟨oL,hoL,I.free⟩ hs,by simpa using I.len⟩ ⟨_,hs,.inl rfl⟩
  .exact(hs.2 b (Nat.ne_of_lt (Nat.lt_of_lt_of_le (Heap.lt_size e) I.ok.above))).trans (I.base.keep b o e n hb hx)
  .obtain⟨sl,e1⟩:=I.base.slot b o e n hb hx;exact⟨sl,(hs.2 b (Nat.ne_of_lt (Nat.lt_of_lt_of_le (Heap.lt_size e) I.ok.above))).trans e1⟩
  .obtain⟨o',e1⟩:=I.base.there b o e hx;exact⟨o',(hs.2 b (Nat.ne_of_lt (Nat.lt_of_lt_of_le (Heap.lt_size e) I.ok.above))).trans e1⟩
  .by_cases hj:j=i
   .subst hj;rw[hi] at e1;cases e1;rw[List.getElem?_set_self hiσ] at e2;cases e2;exact⟨u,r,.inl ⟨hk,by simp⟩⟩
   .rw[List.getElem?_set_ne (Ne.symm hj)] at e2;obtain⟨u',r',q⟩:=hl j y v' e1 e2 e3;refine⟨u',r',?_⟩;rcases q with⟨k,e⟩|⟨k,c,e,z⟩
    .refine .inl ⟨k,?_⟩;have:y≠x:=fun e=>hj (qZ hN e1 (e▸hi));simp[this,e]
    .exact .inr ⟨k,c,e,z.sameBut hs (Ei y c e)⟩
  .obtain⟨w',z⟩:=I.cell y c e;exact⟨w',z.sameBut hs (Ei y c e)⟩
  .obtain⟨e,n,ne,nf,d⟩:=I.pin p hp;exact⟨(hs.2 p.1 ne).trans e,n,ne,nf,d⟩
 .have hfn:X.fn x=true:=by
   rcases hf with z|z
   .exact z
   .rw[z] at hk;cases hk
  obtain⟨c,hc⟩:=I.ok.has x (.inl hk);obtain⟨w',z⟩:=I.cell x c hc;refine wpAny_storeName_cell I.ok.kind hk hc z (fun h' hc' hs=>?_);obtain⟨oc,hoc,hocd⟩:=id z;refine h {s with heap:=h'} ⟨I.ok,I.os,I.bare,⟨fun b o e n hb hx=>?_,fun b o e n hb hx=>?_,I.base.free,fun b o e hx=>?_,I.base.tups,I.base.frzs,I.base.tbls⟩,⟨m,hn.sameBut hs (Ne.symm (Ei x c hc)),fun j y v' e1 e2 e3=>?_⟩,fun y c' e=>?_,I.free,I.freeC,fun p hp=>?_,tracked ⟨oc,hoc,I.freeC x c hc⟩ hs,by simpa using I.len⟩ ⟨c,hs,.inr hc⟩
  .exact(hs.2 b (Nat.ne_of_lt (Nat.lt_of_lt_of_le (Heap.lt_size e) (I.ok.cab x c hfn hc)))).trans (I.base.keep b o e n hb hx)
  .obtain⟨sl,e1⟩:=I.base.slot b o e n hb hx;exact⟨sl,(hs.2 b (Nat.ne_of_lt (Nat.lt_of_lt_of_le (Heap.lt_size e) (I.ok.cab x c hfn hc)))).trans e1⟩
  .obtain⟨o',e1⟩:=I.base.there b o e hx;exact⟨o',(hs.2 b (Nat.ne_of_lt (Nat.lt_of_lt_of_le (Heap.lt_size e) (I.ok.cab x c hfn hc)))).trans e1⟩
  .by_cases hj:j=i
   .subst hj;rw[hi] at e1;cases e1;rw[List.getElem?_set_self hiσ] at e2;cases e2;exact⟨u,r,.inr ⟨.inl hk,c,hc,hc'⟩⟩
   .rw[List.getElem?_set_ne (Ne.symm hj)] at e2;obtain⟨u',r',q⟩:=hl j y v' e1 e2 e3;refine⟨u',r',?_⟩;rcases q with q|⟨k,c',e,z'⟩
    .exact .inl q
    .refine .inr ⟨k,c',e,z'.sameBut hs ?_⟩;rintro rfl;exact hj (qZ hN e1 (I.ok.inj _ _ _ e hc▸hi))
  .by_cases hcc:c'=c
   .subst hcc;exact⟨_,hc'⟩
   .obtain⟨w2,z2⟩:=I.cell y c' e;exact⟨w2,z2.sameBut hs hcc⟩
  .obtain⟨e,n,ne,nf,d⟩:=I.pin p hp;refine⟨(hs.2 p.1 ?_).trans e,n,ne,nf,d⟩;intro q;rw[q,hoc] at e;have q':oc=p.2:=Option.some.inj e;exact d w' (by rw[<-q'];exact hocd)
theorem qX{M:Model}{A:Around}{E:Value->Shared->Prop}{i:Nat}{x:Str}{v:V}{u:Value}{Q:Unit->Shared->Prop}(I:Inv X pins σ H s)(hN:X.N.Nodup)(hi:X.N[i]?=some x)(hx:Loc X.env.scope x)(r:RelV v u)
  (h:∀s',Inv X pins (σ.set i (some v)) H s'->Q () s') (hf:X.fn x=true\/X.env.scope.names.lookup x=some .local:=by first|exact .inl rfl|exact .inr rfl|assumption):wpAny M A (storeName X.env x u) Q E s :=
 xt I hN hi hx r (fun s' I' _=>h s' I') hf
theorem Inv.F6{s':Shared}{ch:List Addr}(I:Inv X pins σ H s)(ho:s'.os=s.os)(u:Un (sL X.stack) ch H H' s.heap s'.heap)(hok:lI X.prog X.w H' s'.heap)(hg:AllBare s'.gens)
  (hch:∀b∈ch,(b∈X.ex\/X.s₀.heap.objs.size<=b)/\b≠X.env.locals/\(∀x c,X.env.cells.lookup x=some c->c≠b)/\∀p∈X.pn++pins,p.1≠b):Inv X pins σ H' s':=by
 obtain⟨h',g',d',t',o'⟩:=s';have e:o'=s.os:=ho;subst e;exact I.call (g':=g') (t':=t') (d':=d') u hok hg hch
end
abbrev XK:=Value->Option Addr->Hp->Prop
abbrev St:=List (Option V)
abbrev VK:=V->Hp->Prop
abbrev TE:=St->Hp->VK->Prop
abbrev TT:=St->Hp->(Bool->Hp->Prop)->Prop
abbrev TA:=St->Hp->(List V->Hp->Prop)->Prop
structure Ends where
 nx:St->Hp->Prop
 rt:VK
 bk:St->Hp->Prop:=fun _ _=>False
 ct:St->Hp->Prop:=fun _ _=>False
abbrev TS:=Ends->St->Hp->Prop
def EP(X:Cx)(pins:List (Addr×Obj))(σ:St)(Q:VK)(u:Value)(s':Shared):Prop:=∃v H',Inv X pins σ H' s'/\RelV v u/\Q v H'
def TP(X:Cx)(pins:List (Addr×Obj))(σ:St)(Q:Bool->Hp->Prop)(b:Bool)(s':Shared):Prop:=∃H',Inv X pins σ H' s'/\Q b H'
def AP(X:Cx)(pins:List (Addr×Obj))(σ:St)(Q:List V->Hp->Prop)(us:List Value)(s':Shared):Prop:=∃vs H',Inv X pins σ H' s'/\Vals vs us/\Q vs H'
def SP(X:Cx)(pins:List (Addr×Obj))(D:Ends)(f:Flow)(s':Shared):Prop :=
 match f with
 |.next=>∃σ' H',Inv X pins σ' H' s'/\D.nx σ' H'
 |.brk=>∃σ' H',Inv X pins σ' H' s'/\D.bk σ' H'
 |.cont=>∃σ' H',Inv X pins σ' H' s'/\D.ct σ' H'
 |.ret u=>∃v σ' H',Inv X pins σ' H' s'/\RelV v u/\D.rt v H'
def PE(X:Cx)(e:Expr)(t:TE):Prop :=
 ∀(pins:List (Addr×Obj)) (s:Shared) (σ:St) (H:Hp) (Q:VK),Inv X pins σ H s->t σ H Q->wpAny (model X.prog X.w) X.A (eval e X.env) (EP X pins σ Q) X.xe s
def PT(X:Cx)(e:Expr)(t:TT):Prop :=
 ∀(pins:List (Addr×Obj)) (s:Shared) (σ:St) (H:Hp) (Q:Bool->Hp->Prop),Inv X pins σ H s->t σ H Q->wpAny (model X.prog X.w) X.A (isTrue e X.env (eval e X.env)) (TP X pins σ Q) X.xe s
def PW(X:Cx)(e:Expr)(t:TT):Prop :=
 ∀(whole:Sem Value) (pins:List (Addr×Obj)) (s:Shared) (σ:St) (H:Hp) (Q:Bool->Hp->Prop),Inv X pins σ H s->t σ H Q->wpAny (model X.prog X.w) X.A (isTrue e X.env whole) (TP X pins σ Q) X.xe s
theorem PW.pt{X:Cx}{e:Expr}{t:TT}(h:PW X e t):PT X e t:=h _
def PA(X:Cx)(es:List Expr)(t:TA):Prop :=
 ∀(pos:Pos) (pins:List (Addr×Obj)) (s:Shared) (σ:St) (H:Hp) (Q:List V->Hp->Prop),Inv X pins σ H s->t σ H Q->wpAny (model X.prog X.w) X.A (spliced (backTo pos (starEach es X.env))) (AP X pins σ Q) X.xe s
def PS(X:Cx)(st:Stmt)(t:TS):Prop :=
 ∀(pins:List (Addr×Obj)) (s:Shared) (σ:St) (H:Hp) (D:Ends),Inv X pins σ H s->t D σ H->wpAny (model X.prog X.w) X.A (exec st X.env) (SP X pins D) X.xe s
def nr(X:Cx)(st:List Stmt)(t:TS):Prop :=
 ∀(pins:List (Addr×Obj)) (s:Shared) (σ:St) (H:Hp) (D:Ends),Inv X pins σ H s->t D σ H->wpAny (model X.prog X.w) X.A (execs st X.env) (SP X pins D) X.xe s
theorem bV{α:Type}{t:Sem α}{Q Q':α->Shared->Prop}{M:Model}{A:Around}{E:Value->Shared->Prop}{s:Shared}(h:wpAny M A t Q E s)(hQ:∀a s,Q a s->Q' a s):wpAny M A t Q' E s:=wpAny_mono h hQ fun _ _ x=>x
section
variable{X:Cx}
def GI(i:Nat):TE:=fun σ H Q=>∃v,σ[i]?=some (some v)/\Q v H
def tC(v:V):TE:=fun _ H Q=>Q v H
theorem D8{i:Nat}{x:Str}{pos:Pos}(hN:X.N[i]?=some x)(hv:FP X.env.scope x)(hd:(x==("__debug__":Str))=false:=by decide)(hcd:(x==("__classdict__":Str))=false:=by decide):PE X (.Name x pos) (GI i):=by
 intro pins s σ H Q I h;obtain⟨v,e,h⟩:=h;obtain⟨m,hn,hl⟩:=I.loc;obtain⟨u,r,l⟩:=hl i x v hN e hv;have fin:EP X pins σ Q u s:=⟨v,H,I,r,h⟩;rcases l with⟨hk,hm⟩|⟨hk,c,hc,hcell⟩
 .exact wpAny_Name (wpAny_loadName_local I.ok.kind hk hn hm fin) hd
 .rcases hk with hk|hk
  .exact wpAny_Name (wpAny_loadName_cell I.ok.kind hk hc hcell fin) hd
  .exact wpAny_Name (wpAny_loadName_free I.ok.kind hk hc hcell fin hcd) hd
theorem Eo{i j pos}:PE X (.Constant (.int i) j pos) (tC (.int i)):=fun _ _ _ H _ I h=>wpAny_Constant_int ⟨.int i,H,I.tok _,⟨_,rfl⟩,h⟩
theorem Ha{b j pos}:PE X (.Constant (.bool b) j pos) (tC (.bl b)):=fun _ _ _ H _ I h=>Constant_bool ⟨.bl b,H,I,rfl,h⟩
theorem Fq{j pos}:PE X (.Constant .none j pos) (tC .non):=fun _ _ _ H _ I h=>Constant_none ⟨.non,H,I,rfl,h⟩
theorem D3{x j pos}:PE X (.Constant (.str x) j pos) (tC (.str x)):=fun _ _ _ H _ I h=>Calls.Constant_str ⟨.str x,H,I.tok _,⟨_,rfl⟩,h⟩
def Gl(X:Cx)(x:Str):Prop:=X.env.kindOf x=some .globalImplicit
theorem qb{E:Value->Shared->Prop}{pins:List (Addr×Obj)}{s:Shared}{σ:St}{H:Hp}{x:Str}{u:Value}{pos:Pos}{Q:Value->Shared->Prop}(I:Inv X pins σ H s)(hg:Gl X x)(hm:X.mg x=some u)(h:Q u s)
  (hd:(x==("__debug__":Str))=false:=by decide):wpAny (model X.prog X.w) X.A (eval (.Name x pos) X.env) Q E s :=
 Calls.Name_function_global I.ok.kind hg (Calls.loadGlobal_global (by rw[I.ok.glob];exact I.mod.glob.keeps I.bk) hm h) hd
theorem dX{E:Value->Shared->Prop}{pins:List (Addr×Obj)}{s:Shared}{σ:St}{H:Hp}{x:Str}{u:Value}{pos:Pos}{Q:Value->Shared->Prop}(I:Inv X pins σ H s)(hg:Gl X x)(hm:X.mg x=none)(hv:bootBuiltins x=some u)(h:Q u s)
  (hn:x≠"__name__":=by decide) (hd:(x==("__debug__":Str))=false:=by decide):wpAny (model X.prog X.w) X.A (eval (.Name x pos) X.env) Q E s:=by
 obtain⟨mb,h1,h2⟩:=I.mod.blt;exact Calls.Name_function_global I.ok.kind hg (Calls.loadGlobal_builtin (by rw[I.ok.glob];exact I.mod.glob.keeps I.bk) hm (by rw[I.ok.blt];exact h1.keeps I.bk) ((h2 x hn).trans hv) h) hd
theorem vp{x:Str}{v:V}{u:Value}{pos:Pos}(hg:Gl X x)(hm:X.mg x=some u)(r:RelV v u)(hd:(x==("__debug__":Str))=false:=by decide):PE X (.Name x pos) (tC v) :=
 fun _ _ _ H _ I h=>qb I hg hm ⟨v,H,I,r,h⟩ hd
theorem Bp{x:Str}{v:V}{u:Value}{pos:Pos}(hg:Gl X x)(hm:X.mg x=none)(hv:bootBuiltins x=some u)(r:RelV v u)(hn:x≠"__name__":=by decide)(hd:(x==("__debug__":Str))=false:=by decide):PE X (.Name x pos) (tC v) :=
 fun _ _ _ H _ I h=>dX I hg hm hv ⟨v,H,I,r,h⟩ hn hd
variable{a b:Expr}{ta tb:TE}{pos:Pos}
def PC(X:Cx)(op:CmpOp)(a b:Expr)(t:TE):Prop :=
 ∀(pins:List (Addr×Obj)) (s:Shared) (σ:St) (H:Hp) (Q:VK),Inv X pins σ H s->t σ H Q ->
  wpAny (model X.prog X.w) X.A (eval a X.env) (fun v s₁=>wpAny (model X.prog X.w) X.A (eval b X.env) (fun u s₂=>wpAny (model X.prog X.w) X.A (compareOp op v u) (EP X pins σ Q) X.xe s₂) X.xe s₁) X.xe s
theorem se(b:Expr){op:CmpOp}(h:op≠.In)(h2:op≠.NotIn):behindInMarks op b=false:=by
 have e1:(op==CmpOp.In)=false:=by cases op<;>first|rfl|exact absurd rfl h
 have e2:(op==CmpOp.NotIn)=false:=by cases op<;>first|rfl|exact absurd rfl h2
 cases b<;>simp[behindInMarks,e1,e2]
def Im(ta:TE):TE:=fun σ H Q=>ta σ H fun x H1=>Q (.bl (decide (x=.non))) H1
def He(ta:TE):TE:=fun σ H Q=>ta σ H fun x H1=>Q (.bl (!decide (x=.non))) H1
theorem RelV.rE{x:V}{v:Value}(r:RelV x v):(v==Value.none)=decide (x=.non):=by
 cases x with
 |non=>cases r;rfl
 |bl _=>cases r;rfl
 |int _=>obtain⟨t,rfl⟩:=r;rfl
 |str _=>obtain⟨t,rfl⟩:=r;rfl
 |byt _=>obtain⟨t,rfl⟩:=r;rfl
 |flt _=>obtain⟨t,rfl⟩:=r;rfl
 |ref _=>cases r;rfl
 |ty _=>cases r;rfl
theorem x4{j pos'}(ha:PE X a ta):PC X .Is a (.Constant .none j pos') (Im ta):=by
 intro pins s σ H Q I h;refine bV (ha pins s σ H _ I h) fun v s1 ⟨x,H1,I1,r1,q1⟩=>?_;exact Constant_none (is_none_gen ⟨.bl _,H1,I1,by rw[r1.rE];rfl,q1⟩)
theorem A9{j pos'}(ha:PE X a ta):PC X .IsNot a (.Constant .none j pos') (He ta):=by
 intro pins s σ H Q I h;refine bV (ha pins s σ H _ I h) fun v s1 ⟨x,H1,I1,r1,q1⟩=>?_;exact Constant_none (isnot_none_gen ⟨.bl _,H1,I1,by rw[r1.rE];rfl,q1⟩)
def tB(t:TE):TT:=fun σ H Q=>t σ H fun x H1=>∃c,x=.bl c/\Q c H1
theorem Ej{op:CmpOp}{t:TE}(h:PC X op a b t)(h1:behindInMarks op b=false:=by first|exact se _ (by decide) (by decide)|rfl):PE X (.Compare a [op] [b] pos) t:=fun pins s σ H Q I hw=>wpAny_Compare1 (h pins s σ H Q I hw) h1
theorem y4{op:CmpOp}{t:TE}(h:PC X op a b t)(h1:behindInMarks op b=false:=by first|exact se _ (by decide) (by decide)|rfl):PT X (.Compare a [op] [b] pos) (tB t):=by
 intro pins s σ H Q I hw;refine wpAny_isTrue_Compare1 (bV (h pins s σ H _ I hw) fun v s1 h1=>bV h1 fun u s2 h2=>bV h2 fun c s3 ⟨x,H1,I1,r1,q1⟩=>?_) h1;obtain⟨d,rfl,q⟩:=q1;cases r1;exact wpAny_truthy_bool ⟨H1,I1,q⟩
theorem Fo{e:Expr}{t:TE}(h:PE X e t)(he:∀whole,isTrue e X.env whole=(do let v <-whole;standAt e.pos;holding [v] (truthy v)):=by intro _;rfl):PT X e (tB t):=by
 intro pins s σ H Q I hw;refine isTrue_plain (bV (h pins s σ H _ I hw) fun v s1 ⟨x,H1,I1,r1,q1⟩=>?_) (he _);obtain⟨d,rfl,q⟩:=q1;cases r1;exact wpAny_truthy_bool ⟨H1,I1,q⟩
variable{tA tB':TT}{rest:List Expr}
def IQ(t u:TT):TT:=fun σ H Q=>t σ H fun c H1=>if c=true then u σ H1 Q else Q false H1
def J8(t u:TT):TT:=fun σ H Q=>t σ H fun c H1=>if c=true then Q true H1 else u σ H1 Q
def Iy(t:TT):TT:=fun σ H Q=>t σ H fun c H1=>Q (!c) H1
theorem B7(ha:PT X a tA):PW X (.BoolOp .And [a] pos) tA:=by
 intro wh pins s σ H Q I h;refine isTrue_and (bV (ha pins s σ H Q I h) fun c s1 e=>?_);cases c with
 |true=>exact isTrue_and_nil e
 |false=>exact e
theorem Et(ha:PT X a tA):PW X (.BoolOp .Or [a] pos) tA:=by
 intro wh pins s σ H Q I h;refine isTrue_or (bV (ha pins s σ H Q I h) fun c s1 e=>?_);cases c with
 |false=>exact isTrue_or_nil e
 |true=>exact e
theorem x8(ha:PT X a tA)(hb:PW X (.BoolOp .And (b::rest) pos) tB'):PW X (.BoolOp .And (a::b::rest) pos) (IQ tA tB'):=by
 intro wh pins s σ H Q I h;refine isTrue_and (bV (ha pins s σ H _ I h) fun c s1 ⟨H1,I1,q1⟩=>?_);cases c with
 |true=>exact hb wh pins s1 σ H1 Q I1 q1
 |false=>exact⟨H1,I1,q1⟩
theorem C4(ha:PT X a tA)(hb:PW X (.BoolOp .Or (b::rest) pos) tB'):PW X (.BoolOp .Or (a::b::rest) pos) (J8 tA tB'):=by
 intro wh pins s σ H Q I h;refine isTrue_or (bV (ha pins s σ H _ I h) fun c s1 ⟨H1,I1,q1⟩=>?_);cases c with
 |true=>exact⟨H1,I1,q1⟩
 |false=>exact hb wh pins s1 σ H1 Q I1 q1
theorem D4(ha:PT X a tA):PT X (.UnaryOp .Not a pos) (Iy tA):=by
 intro pins s σ H Q I h;exact isTrue_not (ha pins s σ H (fun c H1=>Q (!c) H1) I h)
def HD(ta tb:TE):TE:=fun σ H Q=>ta σ H fun x H1=>∃c,x=.bl c/\if c=true then tb σ H1 Q else Q (.bl false) H1
def Jg(ta tb:TE):TE:=fun σ H Q=>ta σ H fun x H1=>∃c,x=.bl c/\if c=true then Q (.bl true) H1 else tb σ H1 Q
def G7(ta:TE):TE:=fun σ H Q=>ta σ H fun x H1=>∃c,x=.bl c/\Q (.bl (!c)) H1
theorem EH{op}{t:TE}(h:PE X a t):PE X (.BoolOp op [a] pos) t:=fun pins s σ H Q I hw=>BoolOp_one (h pins s σ H Q I hw)
theorem zD(ha:PE X a ta)(hb:PE X (.BoolOp .And (b::rest) pos) tb):PE X (.BoolOp .And (a::b::rest) pos) (HD ta tb):=by
 intro pins s σ H Q I h;refine BoolOp_and (bV (ha pins s σ H _ I h) fun v s1 ⟨x,H1,I1,r1,q1⟩=>?_);obtain⟨c,rfl,q1⟩:=q1;cases r1;refine wpAny_truthy_bool ?_;cases c with
 |true=>exact hb pins s1 σ H1 Q I1 q1
 |false=>exact⟨.bl false,H1,I1,rfl,q1⟩
theorem C3(ha:PE X a ta)(hb:PE X (.BoolOp .Or (b::rest) pos) tb):PE X (.BoolOp .Or (a::b::rest) pos) (Jg ta tb):=by
 intro pins s σ H Q I h;refine BoolOp_or (bV (ha pins s σ H _ I h) fun v s1 ⟨x,H1,I1,r1,q1⟩=>?_);obtain⟨c,rfl,q1⟩:=q1;cases r1;refine wpAny_truthy_bool ?_;cases c with
 |false=>exact hb pins s1 σ H1 Q I1 q1
 |true=>exact⟨.bl true,H1,I1,rfl,q1⟩
theorem EK(ha:PE X a ta):PE X (.UnaryOp .Not a pos) (G7 ta):=by
 intro pins s σ H Q I h;refine UnaryOp_ (bV (ha pins s σ H _ I h) fun v s1 ⟨x,H1,I1,r1,q1⟩=>?_);obtain⟨c,rfl,q1⟩:=q1;cases r1;exact not_of (wpAny_truthy_bool ⟨.bl (!c),H1,I1,rfl,q1⟩)
def JV(t:TT)(ta tb:TE):TE:=fun σ H Q=>t σ H fun c H1=>if c=true then ta σ H1 Q else tb σ H1 Q
theorem fW{c:Expr}(hc:PT X c tA)(ha:PE X a ta)(hb:PE X b tb):PE X (.IfExp c a b pos) (JV tA ta tb):=by
 intro pins s σ H Q I h;refine wpAny_IfExp (bV (hc pins s σ H _ I h) fun d s1 ⟨H1,I1,q1⟩=>?_);cases d with
 |true=>exact ha pins s1 σ H1 Q I1 q1
 |false=>exact hb pins s1 σ H1 Q I1 q1
end
def cW(K:PySem.W.Frag)(H:Hp)(a:Addr)(xs:List V):Prop :=
 Rd H a (.lst xs) \/
  ∃(o:Obj) (its:Array Value) (n:Nat),K.lookup a=some o/\o.cls=.type "list"/\o.dict=none/\o.data=.seq its n/\its.size<=sizeLine/\Vals xs its.toList
def sI(K:PySem.W.Frag)(H:Hp)(a:Addr)(xs:List V):Prop :=
 Rd H a (.tup xs) \/
  ∃(o:Obj) (its:Array Value) (n:Nat),K.lookup a=some o/\o.cls=.type "tuple"/\o.data=.seq its n/\its.size<=sizeLine/\Vals xs its.toList
def Il:Value->Option V
 |.none=>some .non
 |.bool b=>some (.bl b)
 |.int i _=>some (.int i)
 |.str x _=>some (.str x)
 |.bytes b _=>some (.byt b)
 |.float b _=>some (.flt b)
 |.ref a=>some (.ref a)
 |.type n=>some (.ty n)
 |_=>none
theorem RelV.abs{x:V}{u:Value}(r:RelV x u):Il u=some x:=by
 cases x with
 |non=>cases r;rfl
 |bl _=>cases r;rfl
 |int _=>obtain⟨t,rfl⟩:=r;rfl
 |str _=>obtain⟨t,rfl⟩:=r;rfl
 |byt _=>obtain⟨t,rfl⟩:=r;rfl
 |flt _=>obtain⟨t,rfl⟩:=r;rfl
 |ref _=>cases r;rfl
 |ty _=>cases r;rfl
theorem RelV.inj{x y:V}{u:Value}(r:RelV x u)(q:RelV y u):x=y:=Option.some.inj (r.abs.symm.trans q.abs)
theorem Vals.inj:∀{xs ys:List V} {us:List Value},Vals xs us->Vals ys us->xs=ys
 |_,_,_,.nil,.nil=>rfl
 |_,_,_,.cons r t,.cons r' t'=>by rw[r.inj r',Vals.inj t t']
section
variable{X:Cx}{pins:List (Addr×Obj)}{σ:St}{H:Hp}{s:Shared}{a:Addr}{xs ys:List V}
theorem cW.of{K:PySem.W.Frag}(h:H a=some (.lst xs)):cW K H a xs:=.inl (.inl h)
theorem Inv.list(I:Inv X pins σ H s)(h:cW X.K H a xs):∃its:List Value,Vals xs its/\PlainL s.heap a its.toArray/\xs.length<=sizeLine:=by
 rcases h with h|⟨o,its,n,hk,hc,hd,hs,hz,r⟩
 .obtain⟨z,its,n,r,e⟩:=h.ok I.hok;exact⟨its,r,⟨_,n,e,rfl,rfl,rfl⟩,z⟩
 .refine⟨its.toList,r,⟨o,n,I.Fx a o hk,hc,hd,by simpa using hs⟩,?_⟩;have e:=r.length;simp only[Array.length_toList] at e;omega
theorem Inv.tuple(I:Inv X pins σ H s)(h:sI X.K H a xs):∃its:List Value,Vals xs its/\IsTup s.heap a its.toArray/\xs.length<=sizeLine:=by
 rcases h with h|⟨o,its,n,hk,hc,hs,hz,r⟩
 .obtain⟨z,its,r,p⟩:=h.ok I.hok;exact⟨its,r,p,z⟩
 .refine⟨its.toList,r,⟨o,I.Fx a o hk,hc,n,by simpa using hs⟩,?_⟩;have e:=r.length;simp only[Array.length_toList] at e;omega
theorem Inv.jI(I:Inv X pins σ H s)(h:cW X.K H a xs)(h':cW X.K H a ys):xs=ys:=by
 obtain⟨its,r,⟨o,n,e,_,_,d⟩,_⟩:=I.list h;obtain⟨its',r',⟨o',n',e',_,_,d'⟩,_⟩:=I.list h';rw[e] at e';cases e';rw[d] at d';injection d' with d1 _;have:its=its':=by simpa using congrArg Array.toList d1
 subst this;exact r.inj r'
theorem Inv.wN(I:Inv X pins σ H s)(h:sI X.K H a xs)(h':sI X.K H a ys):xs=ys:=by
 obtain⟨its,r,⟨o,e,_,n,d⟩,_⟩:=I.tuple h;obtain⟨its',r',⟨o',e',_,n',d'⟩,_⟩:=I.tuple h';rw[e] at e';cases e';rw[d] at d';injection d' with d1 _;have:its=its':=by simpa using congrArg Array.toList d1
 subst this;exact r.inj r'
end
abbrev Cx.nO(X:Cx)(E:Value->Shared->Prop):Cx:={X with xe:=E}
abbrev Cx.Cs(X:Cx):Cx:=X.nO fun _ _=>False
theorem Cx.Ok.nO{X:Cx}(ok:X.Ok)(E:Value->Shared->Prop):(X.nO E).Ok :=
 ⟨ok.mod,ok.kind,ok.glob,ok.blt,ok.above,ok.inj,ok.has,ok.cab,ok.hd,ok.frames,ok.stk,ok.exf,ok.bs,ok.bsz,ok.noex,ok.exfs,ok.kg,ok.frf⟩
theorem Cx.Ok.hX{X:Cx}{E:Value->Shared->Prop}(ok:(X.nO E).Ok):X.Ok :=
 ⟨ok.mod,ok.kind,ok.glob,ok.blt,ok.above,ok.inj,ok.has,ok.cab,ok.hd,ok.frames,ok.stk,ok.exf,ok.bs,ok.bsz,ok.noex,ok.exfs,ok.kg,ok.frf⟩
section
variable{X:Cx}{pins:List (Addr×Obj)}{σ:St}{H:Hp}{s:Shared}{E:Value->Shared->Prop}
theorem Inv.nO(I:Inv X pins σ H s)(E:Value->Shared->Prop):Inv (X.nO E) pins σ H s:=⟨I.ok.nO E,I.os,I.bare,I.base,I.loc,I.cell,I.free,I.freeC,I.pin,I.hok,I.len⟩
theorem Inv.hX(I:Inv (X.nO E) pins σ H s):Inv X pins σ H s:=⟨I.ok.hX,I.os,I.bare,I.base,I.loc,I.cell,I.free,I.freeC,I.pin,I.hok,I.len⟩
theorem SP.hX{D:Ends}{f:Flow}{s':Shared}(h:SP (X.nO E) pins D f s'):SP X pins D f s':=by
 cases f with
 |next=>obtain⟨σ',H',I,q⟩:=h;exact⟨σ',H',I.hX,q⟩
 |brk=>obtain⟨σ',H',I,q⟩:=h;exact⟨σ',H',I.hX,q⟩
 |cont=>obtain⟨σ',H',I,q⟩:=h;exact⟨σ',H',I.hX,q⟩
 |ret u=>obtain⟨v,σ',H',I,r,q⟩:=h;exact⟨v,σ',H',I.hX,r,q⟩
theorem nr.Cs{st:List Stmt}{t:TS}(h:nr X.Cs st t):nr X st t:=fun pins s σ H D I hw =>
 wpAny_mono (h pins s σ H D (I.nO _) hw) (fun _ _ q=>q.hX) fun _ _ z=>False.elim z
end
section
variable{X:Cx}{st:Stmt}{rest:List Stmt}{t u:TS}{e:Expr}{te:TE}{pos:Pos}
def G5:TS:=fun D σ H=>D.nx σ H
def Ik(t u:TS):TS:=fun D σ H=>t {D with nx:=u D} σ H
theorem Cm:nr X [] G5:=fun _ _ σ H _ I h=>wpAny_execs_nil ⟨σ,H,I,h⟩
theorem Ai(h1:PS X st t)(h2:nr X rest u):nr X (st::rest) (Ik t u):=by
 intro pins s σ H D I h;refine wpAny_execs_cons (bV (h1 pins s σ H {D with nx:=u D} I h) fun f s1 q=>?_);cases f with
 |next =>
  obtain⟨σ',H',I',q⟩:=q;exact h2 pins s1 σ' H' D I' q
 |ret v=>exact q
 |brk=>exact q
 |cont=>exact q
theorem Inv.quiet{pins:List (Addr×Obj)}{σ:St}{H:Hp}{s:Shared}(I:Inv X pins σ H s):interactive X.env=false:=by simp[interactive,I.ok.kind]
def Gh(te:TE):TS:=fun D σ H=>te σ H fun _ H1=>D.nx σ H1
theorem wD(he:PE X e te)(hs:swapsWith e none pos.line X.env=pure false:=by rfl):PS X (.Expr e pos) (Gh te):=by
 intro pins s σ H D I h;exact wpAny_Expr_any (bV (he pins s σ H _ I h) fun v s1 ⟨x,H1,I1,r1,q1⟩=>⟨σ,H1,I1,q1⟩) I.quiet hs
def Jn(te:TE):TS:=fun D σ H=>te σ H D.rt
theorem zB(he:PE X e te):PS X (.Return (some e) pos) (Jn te):=by
 intro pins s σ H D I h;exact wpAny_Return_some (bV (he pins s σ H _ I h) fun v s1 ⟨x,H1,I1,r1,q1⟩=>⟨x,σ,H1,I1,r1,q1⟩)
def Ja(c:TT)(t u:TS):TS:=fun D σ H=>c σ H fun b H1=>if b=true then t D σ H1 else u D σ H1
theorem CB{c:Expr}{a b:List Stmt}{tc:TT}(hc:PT X c tc)(ha:nr X a t)(hb:nr X b u):PS X (.If c a b pos) (Ja tc t u):=by
 intro pins s σ H D I h;refine wpAny_If (bV (hc pins s σ H _ I h) fun d s1 ⟨H1,I1,q1⟩=>?_);cases d with
 |true=>exact ha pins s1 σ H1 D I1 q1
 |false=>exact hb pins s1 σ H1 D I1 q1
def DK:TS:=fun _ _ _=>False
theorem oB{sts:List Stmt}:nr X sts DK:=fun _ _ _ _ _ _ h=>h.elim
end
abbrev TG:=V->St->Hp->(St->Hp->Prop)->Prop
abbrev Eh:=List V->St->Hp->(St->Hp->Prop)->Prop
def PG(X:Cx)(target:Expr)(t:TG):Prop :=
 ∀(pins:List (Addr×Obj)) (s:Shared) (σ:St) (H:Hp) (v:V) (u:Value) (Q:St->Hp->Prop),Inv X pins σ H s->RelV v u->t v σ H Q ->
  wpAny (model X.prog X.w) X.A (assign target X.env u) (fun _ s'=>∃σ' H',Inv X pins σ' H' s'/\Q σ' H') X.xe s
def HY(X:Cx)(ts:List Expr)(t:Eh):Prop :=
 ∀(pins:List (Addr×Obj)) (s:Shared) (σ:St) (H:Hp) (vs:List V) (us:List Value) (Q:St->Hp->Prop),Inv X pins σ H s->Vals vs us->t vs σ H Q ->
  wpAny (model X.prog X.w) X.A (assignInOrder ((assignEach ts X.env).map (·.2)) us) (fun _ s'=>∃σ' H',Inv X pins σ' H' s'/\Q σ' H') X.xe s
section
variable{X:Cx}{pos:Pos}
def jL(i:Nat):TG:=fun v σ H Q=>Q (σ.set i (some v)) H
theorem gq{i:Nat}{x:Str}(hN:X.N.Nodup)(hi:X.N[i]?=some x)(hx:Loc X.env.scope x)(hf:X.fn x=true\/X.env.scope.names.lookup x=some .local:=by first|exact .inl rfl|exact .inr rfl|assumption):PG X (.Name x pos) (jL i):=by
 intro pins s σ H v u Q I r h;exact wpAny_assign_Name (qX I hN hi hx r (fun s' I'=>⟨_,H,I',h⟩) hf)
def E9:Eh:=fun vs σ H Q=>vs=[]/\Q σ H
def sE(t:TG)(u:Eh):Eh:=fun vs σ H Q=>∃v r,vs=v::r/\t v σ H fun σ' H'=>u r σ' H' Q
theorem wz:HY X [] E9:=by
 intro pins s σ H vs us Q I r h;obtain⟨e,h⟩:=h;subst e;cases r;exact assignInOrder_nil ⟨σ,H,I,h⟩
theorem ji{e:Expr}{es:List Expr}{t:TG}{u:Eh}(h1:PG X e t)(h2:HY X es u)
  (hs:(assignEach (e::es) X.env).map (·.2)=assign e X.env::(assignEach es X.env).map (·.2):=by rfl):HY X (e::es) (sE t u):=by
 intro pins s σ H vs us Q I r h;obtain⟨v,vr,e1,h⟩:=h;subst e1;cases r with
 |cons r rr =>
  rw[hs];refine assignInOrder_cons (bV (h1 pins s σ H _ _ _ I r h) fun _ s1 ⟨σ1,H1,I1,q1⟩=>?_);exact h2 pins s1 σ1 H1 _ _ Q I1 rr q1
def DW(K:PySem.W.Frag)(n:Nat)(t:Eh):TG:=fun v σ H Q=>∃a xs,v=.ref a/\sI K H a xs/\xs.length=n/\t xs σ H Q
theorem yW{es:List Expr}{k:Nat}{t:Eh}{n:Nat}(hc:X.calm=true)(h:HY X es t)
  (hn:(assignEach es X.env).length=n:=by rfl) (hst:(assignEach es X.env).findIdx? (·.1)=none:=by rfl):PG X (.Tuple es k pos) (DW X.K n t):=by
 intro pins s σ H v u Q I r hw;obtain⟨a,xs,e1,hq,hl,hw⟩:=hw;subst e1;cases r;obtain⟨its,rv,ht,hz⟩:=I.tuple hq;refine assign_Tuple_tuple (I.ok.hd hc) ht (by simp[hn,<-hl,rv.length]) hst fun h' hx=>?_;have I1:Inv X pins σ H {s with heap:=h'}:=I.kept (t':=s.toks) fun b o e=>hx b o (Nat.ne_of_lt (Heap.lt_size e)) e;exact h pins _ σ H xs _ Q I1 (by simpa using rv) hw
def Hz(te:TE)(g:TG):TS:=fun D σ H=>te σ H fun x H1=>g x σ H1 D.nx
theorem Dz{tg e:Expr}{te:TE}{g:TG}(he:PE X e te)(hg:PG X tg g)(hs:swapsWithSole [tg] e pos.line X.env=pure false:=by rfl)(hw:swappedStores [tg] e X.env=pure none:=by rfl)
  (h1:(assignEach [tg] X.env).map (·.2)=[assign tg X.env]:=by rfl):PS X (.Assign [tg] e pos) (Hz te g):=by
 intro pins s σ H D I h;refine wpAny_Assign_stores (bV (he pins s σ H _ I h) fun v s1 ⟨x,H1,I1,r1,q1⟩=>?_) hs hw;rw[h1];exact bV (hg pins s1 σ H1 x v _ I1 r1 q1) fun _ s2 q=>q
theorem pN{i:Nat}{x:Str}{e:Expr}{te:TE}{pos':Pos}(hN:X.N.Nodup)(hi:X.N[i]?=some x)(hx:Loc X.env.scope x)(he:PE X e te)(hs:swapsWith e (some (.Name x pos')) pos.line X.env=pure false:=by rfl)(hf:X.fn x=true\/X.env.scope.names.lookup x=some .local:=by first|exact .inl rfl|exact .inr rfl|assumption):
  PS X (.Assign [.Name x pos'] e pos) (Hz te (jL i)):=by
 intro pins s σ H D I h;refine wpAny_Assign_Name (bV (he pins s σ H _ I h) fun v s1 ⟨y,H1,I1,r1,q1⟩=>?_) hs;exact qX I1 hN hi hx r1 (fun s2 I2=>⟨_,H1,I2,q1⟩) hf
end
section
variable{X:Cx}{pos:Pos}
def Fl(c:TT)(tb:TS):TS:=fun D σ H=>∃W:Nat->St->Hp->Prop,(∃m,W m σ H)/\∀m σ H,W m σ H ->
 c σ H fun b H1=>if b=true then ∃N:St->Hp->Prop,(∀σ' H',N σ' H'->∃m',m'<m/\W m' σ' H')/\tb {D with nx:=N,ct:=N,bk:=D.nx} σ H1 else D.nx σ H1
theorem yi{c:Expr}{body:List Stmt}{tc:TT}{tb:TS}(hp:PassesOwn (model X.prog X.w) X.A X.env X.xe)(hc:PT X c tc)(hb:nr X body tb):PS X (.While c body [] pos) (Fl tc tb):=by
 intro pins s σ H D I h;obtain⟨W,⟨m0,w0⟩,turn⟩:=h;refine wpAny_While (codeAny_whileLoop (fun n s'=>∃σ' H',Inv X pins σ' H' s'/\W n σ' H') ?_ m0 ⟨σ,H,I,w0⟩);rintro n s1 ⟨σ1,H1,I1,w1⟩;refine wpAny_passesOwn hp (bV (hc pins s1 σ1 H1 _ I1 (turn n σ1 H1 w1)) fun b s2 ⟨H2,I2,q2⟩=>?_);cases b with
 |true =>
  obtain⟨N,hN,q2⟩:=q2;rw[if_pos rfl];refine wpAny_passesOwn hp (bV (hb pins s2 σ1 H2 _ I2 q2) fun f s3 q3=>?_);cases f with
  |next =>
   obtain⟨σ3,H3,I3,n3⟩:=q3;obtain⟨m',hm,w3⟩:=hN σ3 H3 n3;exact⟨m',hm,σ3,H3,I3,w3⟩
  |cont =>
   obtain⟨σ3,H3,I3,n3⟩:=q3;obtain⟨m',hm,w3⟩:=hN σ3 H3 n3;exact⟨m',hm,σ3,H3,I3,w3⟩
  |brk=>exact q3
  |ret v=>exact q3
 |false =>
  rw[if_neg Bool.false_ne_true];exact wpAny_execs_nil ⟨σ1,H2,I2,q2⟩
end
structure It where
 go:Nat->Hp->Prop
 yld:Nat->Hp->V->Hp->Prop
 stop:Nat->Hp->Prop
def nQ(X:Cx)(pins:List (Addr×Obj))(H:Hp)(b:Addr):Prop :=
 H b=none/\b≠X.env.locals/\b∉X.fs/\(b∈X.ex\/X.s₀.heap.objs.size<=b)/\(∀x c,X.env.cells.lookup x=some c->c≠b)/\∀p∈X.pn++pins,p.1≠b
theorem Inv.xM{X:Cx}{pins:List (Addr×Obj)}{σ:St}{H H':Hp}{s:Shared}{b:Addr}(I:Inv X pins σ H s)(hb:s.heap.objs.size<=b)(hn:H' b=none):nQ X pins H' b:=by
 refine⟨hn,Nat.ne_of_gt (Nat.lt_of_lt_of_le I.lt hb),I.Iv hb,.inr (Nat.le_trans I.sz hb),fun x c e z=>?_,fun p hp z=>?_⟩
 .obtain⟨v,q⟩:=I.cell x c e;exact absurd (Nat.lt_of_lt_of_le q.lt (by rw[z];exact hb)) (Nat.lt_irrefl _)
 .exact absurd (Nat.lt_of_lt_of_le (Heap.lt_size (I.pin p hp).1) (by rw[z];exact hb)) (Nat.lt_irrefl _)
structure Turn(P:Program)(w:World)(K:PySem.W.Frag)(tg:Expr)(J:It)(fp:List Addr)(it:Addr)(tn:Nat->Heap->Prop):Prop where
 mem:it∈fp
 obj:∀i h,tn i h->∀b∈fp,∃o,h.get? b=some o/\∀v,o.data≠.cell v
 keep:∀i h h',tn i h->(∀b∈fp,∀o,h.get? b=some o->h'.get? b=some o)->tn i h'
 item:∀(X:Cx),X.prog=P->X.w=w->X.K=K->X.calm=true->∀(i:Nat) (pins:List (Addr×Obj)) (s:Shared) (σ:St) (H:Hp) (E:Value->Shared->Prop),Inv X pins σ H s->(∀b∈fp,nQ X pins H b)->tn i s.heap->J.go i H ->
  wpAny (model P w) X.A (pyNext (.ref it)) (fun r s1=>∃u,r=some u /\
   wpAny (model P w) X.A (letOwnedTupleGo tg (.ref it) u) (fun _ s2=>∃x H',Inv X pins σ H' s2/\RelV x u/\J.yld i H x H'/\tn (i+1) s2.heap/\∀b∈fp,H' b=none) E s1) E s
 done:∀(X:Cx),X.prog=P->X.w=w->X.K=K->X.calm=true->∀(i:Nat) (pins:List (Addr×Obj)) (s:Shared) (σ:St) (H:Hp) (E:Value->Shared->Prop),Inv X pins σ H s->(∀b∈fp,nQ X pins H b)->tn i s.heap->J.stop i H ->
  wpAny (model P w) X.A (pyNext (.ref it)) (fun r s1=>r=none/\Inv X pins σ H s1) E s
 self:∀(A:Around) (i:Nat) (s:Shared) (Q:Value->Shared->Prop) (E:Value->Shared->Prop),tn i s.heap->Q (.ref it) s->wpAny (model P w) A (pyIter (.ref it)) Q E s
abbrev TI:=St->Hp->(It->Hp->Prop)->Prop
def Jf(X:Cx)(pins:List (Addr×Obj))(σ:St)(tg:Expr)(R:It->Hp->Prop)(itv:Value)(s2:Shared):Prop :=
 ∃(it:Addr) (fp:List Addr) (tn:Nat->Heap->Prop) (J:It) (H':Hp),itv=.ref it/\Inv X pins σ H' s2/\Turn X.prog X.w X.K tg J fp it tn/\tn 0 s2.heap/\(∀b∈fp,nQ X pins H' b)/\R J H'
def PI(X:Cx)(tg iter:Expr)(wi:TI):Prop :=
 ∀(pins:List (Addr×Obj)) (s:Shared) (σ:St) (H:Hp) (R:It->Hp->Prop),Inv X pins σ H s->wi σ H R ->
  wpAny (model X.prog X.w) X.A (eval iter X.env) (fun v s1=>wpAny (model X.prog X.w) X.A (pyIter v) (Jf X pins σ tg R) X.xe s1) X.xe s
theorem wH{M : Model}{A : Around}{E : Value->Shared->Prop}{s : Shared}{tg : Expr}{it : Addr}{u : Value}{o : Obj}{n : String}{vs : Array Value}{Q : Unit->Shared->Prop}(ho : s.heap.get? it=some o)(hc : o.cls=.type n)(hd : o.data=.fields vs)
    (hn : ["enumerate","zip","dict_itemiterator","dict_reverseitemiterator","odict_iterator","itertools.zip_longest","itertools.pairwise"].contains n=false) (hQ : Q () s) : wpAny M A (letOwnedTupleGo tg (.ref it) u) Q E s:=by
  unfold letOwnedTupleGo
  cases tg<;>first
    |exact wpAny_pure hQ
    | (cases u <;> first
        |exact wpAny_pure hQ
        | (refine wpAny_bind (wpAny_load ho ?_)
           rw[hc,hd];show wpAny M A (if (["enumerate","zip","dict_itemiterator","dict_reverseitemiterator","odict_iterator","itertools.zip_longest","itertools.pairwise"].contains n&&vs[0]?==some (rawInt _))=true then _ else _) Q E s;rw[if_neg (by intro h;rw[hn,Bool.false_and] at h;cases h)]
           exact wpAny_pure hQ))
def F1(K:PySem.W.Frag)(a:Addr):It :=
 ⟨fun i H=>∃xs x,cW K H a xs/\xs[i]?=some x,fun i H x H'=>H'=H/\∀xs,cW K H a xs->xs[i]?=some x,fun i H=>∃xs,cW K H a xs/\xs.length<=i⟩
def JJ(K:PySem.W.Frag)(a:Addr):It :=
 ⟨fun i H=>∃xs x,sI K H a xs/\xs[i]?=some x,fun i H x H'=>H'=H/\∀xs,sI K H a xs->xs[i]?=some x,fun i H=>∃xs,sI K H a xs/\xs.length<=i⟩
def EL(lo:Int)(n:Nat):It:=⟨fun i _=>i<n,fun i H x H'=>H'=H/\x=.int (lo+i),fun i _=>n<=i⟩
theorem xy{P:Program}{w:World}{K:PySem.W.Frag}{tg:Expr}(a it:Addr):Turn P w K tg (F1 K a) [it] it (fun i h=>h.IsListIter it a i) where
 mem:=by simp
 obj:=fun i h st b hb=>by
  have e:b=it:=by simpa using hb
  subst e;obtain⟨o,e,c,d⟩:=st;exact⟨o,e,fun v z=>by rw[d] at z;cases z⟩
 keep:=fun i h h' st k=>st.at fun o e=>k it (by simp) o e
 item:=by
  intro X hP hw hK hc i pins s σ H E I hf st hg;subst hP hw hK;obtain⟨xs,x,hq,hx⟩:=hg;obtain⟨its,rv,p,hz⟩:=I.list hq;obtain⟨u,hu,ru⟩:=rv.get hx;obtain⟨f0,f1,f2,f3,f4,f5⟩:=hf it (by simp);refine wpAny_pyNext_list_item st p.isList (x:=u) (by simpa using hu) fun h' st' sb=>?_;have I1:Inv X pins σ H {s with heap:=h'}:=I.turned (t':=s.toks) (fun b o hb e=>(sb.2 b hb).trans e) f0 f1 f3 f4 f5;obtain⟨o,e,c,d⟩:=id st';exact⟨u,rfl,wH (s:={s with heap:=h'}) e c d (by decide) ⟨x,H,I1,ru,⟨rfl,fun ys hy=>by rw[I.jI hy hq];exact hx⟩,st',fun b hb=>(hf b hb).1⟩⟩
 done:=by
  intro X hP hw hK hc i pins s σ H E I hf st hg;subst hP hw hK;obtain⟨xs,hq,hx⟩:=hg;obtain⟨its,rv,p,hz⟩:=I.list hq;obtain⟨f0,f1,f2,f3,f4,f5⟩:=hf it (by simp);have hl:=rv.length;exact wpAny_pyNext_list_end (I.ok.hd hc) st p.isList (by simp;omega) fun h' eb=>⟨rfl,I.turned (t':=s.toks) (fun b o hb e=>eb b o hb e) f0 f1 f3 f4 f5⟩
 self:=fun _ _ _ _ _ st h=>wpAny_pyIter_listiter st h
theorem tx{P:Program}{w:World}{K:PySem.W.Frag}{tg:Expr}(a it:Addr):Turn P w K tg (JJ K a) [it] it (fun i h=>h.IsTupleIter it a i) where
 mem:=by simp
 obj:=fun i h st b hb=>by
  have e:b=it:=by simpa using hb
  subst e;obtain⟨o,e,c,d⟩:=st;exact⟨o,e,fun v z=>by rw[d] at z;cases z⟩
 keep:=fun i h h' st k=>st.at fun o e=>k it (by simp) o e
 item:=by
  intro X hP hw hK hc i pins s σ H E I hf st hg;subst hP hw hK;obtain⟨xs,x,hq,hx⟩:=hg;obtain⟨its,rv,p,hz⟩:=I.tuple hq;obtain⟨u,hu,ru⟩:=rv.get hx;obtain⟨f0,f1,f2,f3,f4,f5⟩:=hf it (by simp);refine wpAny_pyNext_tuple_item st (show s.heap.IsTuple a its.toArray from p) (x:=u) (by simpa using hu) fun h' st' sb=>?_;have I1:Inv X pins σ H {s with heap:=h'}:=I.turned (t':=s.toks) (fun b o hb e=>(sb.2 b hb).trans e) f0 f1 f3 f4 f5;obtain⟨o,e,c,d⟩:=id st';exact⟨u,rfl,wH (s:={s with heap:=h'}) e c d (by decide) ⟨x,H,I1,ru,⟨rfl,fun ys hy=>by rw[I.wN hy hq];exact hx⟩,st',fun b hb=>(hf b hb).1⟩⟩
 done:=by
  intro X hP hw hK hc i pins s σ H E I hf st hg;subst hP hw hK;obtain⟨xs,hq,hx⟩:=hg;obtain⟨its,rv,p,hz⟩:=I.tuple hq;obtain⟨f0,f1,f2,f3,f4,f5⟩:=hf it (by simp);have hl:=rv.length;exact wpAny_pyNext_tuple_end (I.ok.hd hc) st (show s.heap.IsTuple a its.toArray from p) (by simp;omega) fun h' eb=>⟨rfl,I.turned (t':=s.toks) (fun b o hb e=>eb b o hb e) f0 f1 f3 f4 f5⟩
 self:=fun _ _ _ _ _ st h=>wpAny_pyIter_tupleiter st h
theorem ti{P:Program}{w:World}{K:PySem.W.Frag}{tg:Expr}(it:Addr)(lo:Int)(n:Nat):Turn P w K tg (EL lo n) [it] it (fun i h=>IsRangeIter h it (lo+(i:Nat)*1) ((n:Int)-(i:Nat)) 1) where
 mem:=by simp
 obj:=fun i h st b hb=>by
  have e:b=it:=by simpa using hb
  subst e
  exact⟨_,st,fun v z=>by
   have z':Data.fields _=Data.cell v:=z
   cases z'⟩
 keep:=fun i h h' st k=>k it (by simp) _ st
 item:=by
  intro X hP hw hK hc i pins s σ H E I hf st hg;subst hP hw hK;obtain⟨f0,f1,f2,f3,f4,f5⟩:=hf it (by simp);have W:=Walks.range (prog:=X.prog) (w:=X.w) (I.ok.hd hc) it lo 1 n;refine W.item i s _ _ hg st fun v h' tk hv st' kk=>?_;obtain⟨t,rfl⟩:=hv;have I1:Inv X pins σ H {s with heap:=h',toks:=tk}:=I.turned (fun b o hb e=>kk b o (by simpa using hb) e) f0 f1 f3 f4 f5;refine⟨_,rfl,wH (s:={s with heap:=h',toks:=tk}) (n:="range_iterator") st' rfl rfl (by decide) ⟨.int (lo+i),H,I1,⟨t,?_⟩,⟨rfl,rfl⟩,st',fun b hb=>(hf b hb).1⟩⟩;rw[Int.mul_one]
 done:=by
  intro X hP hw hK hc i pins s σ H E I hf st hg;subst hP hw hK;obtain⟨f0,f1,f2,f3,f4,f5⟩:=hf it (by simp);exact wpAny_pyNext_range_end (I.ok.hd hc) st (by have:n<=i:=hg;omega) fun h' eb=>⟨rfl,I.turned (t':=s.toks) (fun b o hb e=>eb b o hb e) f0 f1 f3 f4 f5⟩
 self:=fun _ _ _ _ _ st h=>wpAny_pyIter_rangeiter st h
section
variable{X:Cx}{tg:Expr}
def Hs(K:PySem.W.Frag)(tl:TE):TI:=fun σ H R=>tl σ H fun x H1=>∃a,x=.ref a/\(∃xs,cW K H1 a xs)/\R (F1 K a) H1
def Jm(K:PySem.W.Frag)(tl:TE):TI:=fun σ H R=>tl σ H fun x H1=>∃a,x=.ref a/\(∃xs,sI K H1 a xs)/\R (JJ K a) H1
theorem vX{l:Expr}{tl:TE}(hl:PE X l tl):PI X tg l (Hs X.K tl):=by
 intro pins s σ H R I h;refine bV (hl pins s σ H _ I h) fun v s1 ⟨x,H1,I1,r1,q1⟩=>?_;obtain⟨a,e,⟨xs,hq⟩,q⟩:=q1;subst e;cases r1;obtain⟨its,rv,p,hz⟩:=I1.list hq;refine wpAny_pyIter_list p.isList ?_;refine⟨s1.heap.objs.size,[s1.heap.objs.size],_,_,H1,rfl,I1.kept (t':=s1.toks) fun b o e=>Heap.get?_push_of_some _ e,xy a _,⟨_,Heap.get?_push_size _ rfl,rfl,rfl⟩,fun b hb=>?_,q⟩;have e:b=s1.heap.objs.size:=by simpa using hb
 subst e;exact I1.xM (Nat.le_refl _) (I1.hok.fresh (Nat.le_refl _))
theorem Fz{l:Expr}{tl:TE}(hl:PE X l tl):PI X tg l (Jm X.K tl):=by
 intro pins s σ H R I h;refine bV (hl pins s σ H _ I h) fun v s1 ⟨x,H1,I1,r1,q1⟩=>?_;obtain⟨a,e,⟨xs,hq⟩,q⟩:=q1;subst e;cases r1;obtain⟨its,rv,p,hz⟩:=I1.tuple hq;refine wpAny_pyIter_tuple (show s1.heap.IsTuple a its.toArray from p) ?_;refine⟨s1.heap.objs.size,[s1.heap.objs.size],_,_,H1,rfl,I1.kept (t':=s1.toks) fun b o e=>Heap.get?_push_of_some _ e,tx a _,⟨_,Heap.get?_push_size _ rfl,rfl,rfl⟩,fun b hb=>?_,q⟩;have e:b=s1.heap.objs.size:=by simpa using hb
 subst e;exact I1.xM (Nat.le_refl _) (I1.hok.fresh (Nat.le_refl _))
theorem qC{pins:List (Addr×Obj)}{σ:St}{H:Hp}{s:Shared}{R:It->Hp->Prop}{E:Value->Shared->Prop}{lo hi:Int}{t u v:Tok}{tk:Nat}(I:Inv X pins σ H s)(h1:-(2^62)<=lo)(h2:lo<2^62)(h3:-(2^62)<=hi)(h4:hi<2^62)
  (q:R (EL lo (hi-lo).toNat) H):wpAny (model X.prog X.w) X.A (pyIter (.ref s.heap.objs.size)) (Jf X pins σ tg R) E {s with heap:=s.heap.push {cls:=.type "range",data:=.fields #[.int lo t,.int hi u,.int 1 v]},toks:=tk}:=by
 refine wpAny_pyIter_range (IsRange.new ..) (small_one h1 h2 h3 h4) ?_;have I1:Inv X pins σ H {s with heap:=s.heap.push {cls:=.type "range",data:=.fields #[.int lo t,.int hi u,.int 1 v]},toks:=tk}:=I.kept fun b o e=>Heap.get?_push_of_some _ e
 refine⟨(s.heap.push {cls:=.type "range",data:=.fields #[.int lo t,.int hi u,.int 1 v]}).objs.size,[(s.heap.push {cls:=.type "range",data:=.fields #[.int lo t,.int hi u,.int 1 v]}).objs.size],_,_,H,rfl,
  I1.kept (t':=tk) fun b o e=>Heap.get?_push_of_some _ e,ti _ lo (hi-lo).toNat,?_,fun b hb=>?_,q⟩
 .have e1:lo+((0:Nat):Int)*1=lo:=by simp
  have e2:(((hi-lo).toNat:Nat):Int)-((0:Nat):Int)=Builtin.Range.rangeSize lo hi 1:=by rw[rangeSize_one];split<;>omega
  show IsRangeIter _ _ (lo+((0:Nat):Int)*1) ((((hi-lo).toNat:Nat):Int)-((0:Nat):Int)) 1;rw[e1,e2];exact Heap.get?_push_size _ rfl
 .have e:b=(s.heap.push {cls:=.type "range",data:=.fields #[.int lo t,.int hi u,.int 1 v]}).objs.size:=by simpa using hb
  subst e;exact I1.xM (Nat.le_refl _) (I1.hok.fresh (Nat.le_refl _))
def GB(ta:TA):TI:=fun σ H R=>ta σ H fun vs H1=>∃j:Int,vs=[.int j]/\-(2^62)<=j/\j<2^62/\R (EL 0 j.toNat) H1
def Gk(ta:TA):TI:=fun σ H R=>ta σ H fun vs H1=>∃i j:Int,vs=[.int i,.int j]/\(-(2^62)<=i/\i<2^62/\-(2^62)<=j/\j<2^62)/\R (EL i (j-i).toNat) H1
theorem w6{a:Expr}{ta:TA}{p pos:Pos}(hg:Gl X "range")(hm:X.mg "range"=none)(ha:PA X [a] ta)(hs:starEach [a] X.env=[(false,eval a X.env)]:=by rfl):PI X tg (.Call (.Name "range" p) [a] [] pos) (GB ta):=by
 intro pins s σ H R I h;refine Call_ (dX I hg hm boot_range (PyProof.Rows.callWith_type1 (bV (ha pos pins s σ H _ I h) fun us s1 ⟨vs,H1,I1,r1,q1⟩=>?_) hs rfl));obtain⟨j,e,q1,q2,q⟩:=q1;subst e;cases r1 with
 |cons r rr =>
  cases rr;obtain⟨t,rfl⟩:=r;exact call_range_1 (qC I1 (by omega) (by omega) q1 q2 (by simpa using q))
theorem xF{a b:Expr}{ta:TA}{p pos:Pos}(hg:Gl X "range")(hm:X.mg "range"=none)(ha:PA X [a,b] ta)(hs:starEach [a,b] X.env=[(false,eval a X.env),(false,eval b X.env)]:=by rfl)(hs2:starEach [b] X.env=[(false,eval b X.env)]:=by rfl):
  PI X tg (.Call (.Name "range" p) [a,b] [] pos) (Gk ta):=by
 intro pins s σ H R I h;refine Call_ (dX I hg hm boot_range (PyProof.Rows.callWith_type1 (bV (ha pos pins s σ H _ I h) fun us s1 ⟨vs,H1,I1,r1,q1⟩=>?_) (by rw[hs,hs2]) (by rw[hs2];rfl)));obtain⟨i,j,e,⟨q1,q2,q3,q4⟩,q⟩:=q1;subst e;cases r1 with
 |cons r rr =>
  cases rr with
  |cons r' rr =>
   cases rr;obtain⟨t,rfl⟩:=r;obtain⟨t',rfl⟩:=r';exact call_range_2 (qC I1 q1 q2 q3 q4 q)
def IU(wi:TI)(g:TG)(tb:TS):TS:=fun D σ H=>wi σ H fun J H1=>∃W:Nat->Nat->St->Hp->Prop,(∃m,W 0 m σ H1)/\∀i m σ H,W i m σ H ->
 (J.stop i H/\D.nx σ H)\/(J.go i H/\∃N:St->Hp->Prop,(∀σ' H',N σ' H'->∃m',m'<m/\W (i+1) m' σ' H')/\∀x H',J.yld i H x H'->g x σ H' fun σ2 H2=>tb {D with nx:=N,ct:=N,bk:=D.nx} σ2 H2)
def mr(fp:List Addr)(h:Heap):List (Addr×Obj):=fp.filterMap fun b=>(h.get? b).map fun o=>(b,o)
theorem gD{fp:List Addr}{h:Heap}{b:Addr}{o:Obj}(hb:b∈fp)(e:h.get? b=some o):(b,o)∈mr fp h:=List.mem_filterMap.mpr ⟨b,hb,by rw[e];rfl⟩
theorem wX{fp:List Addr}{h:Heap}{p:Addr×Obj}(hp:p∈mr fp h):p.1∈fp/\h.get? p.1=some p.2:=by
 obtain⟨b,hb,e⟩:=List.mem_filterMap.mp hp;cases q:h.get? b with
 |none=>rw[q] at e;cases e
 |some o =>
  rw[q] at e;have e':(b,o)=p:=Option.some.inj e;subst e';exact⟨hb,q⟩
theorem Inv.pinned{pins:List (Addr×Obj)}{σ:St}{H:Hp}{s:Shared}{fp:List Addr}(I:Inv X pins σ H s)(hf:∀b∈fp,nQ X pins H b)(ho:∀b∈fp,∃o,s.heap.get? b=some o/\∀v,o.data≠.cell v):Inv X (pins++mr fp s.heap) σ H s :=
 I.jD fun p hp=>(List.mem_append.mp hp).elim (fun z=>I.pin p (List.mem_append_right _ z)) fun z=>by
  obtain⟨hb,e⟩:=wX z;obtain⟨f0,f1,f2,_⟩:=hf p.1 hb;obtain⟨o,e',d⟩:=ho p.1 hb;rw[e] at e';cases e';exact⟨e,f0,f1,f2,d⟩
theorem Inv.jt{pins pl:List (Addr×Obj)}{σ:St}{H:Hp}{s:Shared}(I:Inv X (pins++pl) σ H s):Inv X pins σ H s:=I.jD fun p hp=>I.pin p (List.mem_append_right _ (List.mem_append_left _ hp))
theorem mw{iter:Expr}{body:List Stmt}{wi:TI}{g:TG}{tb:TS}{pos:Pos}(hp:PassesOwn (model X.prog X.w) X.A X.env X.xe)(hc:X.calm=true)(hi:PI X tg iter wi)(hg:PG X tg g)(hb:nr X body tb)
  (hs:∀x,foldedSetIterable iter X.env x=pure x:=by intro _;rfl):PS X (.For tg iter body [] pos) (IU wi g tb):=by
 intro pins s σ H D I h;refine wpAny_For (bV (hi pins s σ H _ I h) fun v s1 h1=>bV h1 fun itv s2 h2=>?_) hs;obtain⟨it,fp,tn,J,H2,e,I2,T,st2,f2,W,⟨m0,w0⟩,turn⟩:=h2;subst e
 -- what stays true of the iterator's objects through the loop
 have stat:∀{H':Hp},(∀b∈fp,H' b=none)->∀b∈fp,nQ X pins H' b:=fun hn b hb=>⟨hn b hb,(f2 b hb).2⟩;refine codeAny_forLoop_any (fun n s'=>∃i σ' H',Inv X pins σ' H' s'/\tn i s'.heap/\(∀b∈fp,H' b=none)/\W i n σ' H') ?_ m0 ⟨0,σ,H2,I2,st2,fun b hb=>(f2 b hb).1,w0⟩;rintro n s3 ⟨i,σ3,H3,I3,st3,fr3,w3⟩;rcases turn i n σ3 H3 w3 with⟨stop,qn⟩|⟨go,N,hN,step⟩
 .refine wpAny_passesOwn hp (bV (T.done X rfl rfl rfl hc i pins s3 σ3 H3 X.xe I3 (stat fr3) st3 stop) fun r s4 ⟨hr,I4⟩=>?_);subst hr;exact wpAny_execs_nil ⟨σ3,H3,I4,qn⟩
 .refine wpAny_passesOwn hp (bV (T.item X rfl rfl rfl hc i pins s3 σ3 H3 X.xe I3 (stat fr3) st3 go) fun r s4 ⟨u,hr,h4⟩=>?_);subst hr;refine wpAny_passesOwn hp (bV h4 fun _ s5 ⟨x,H5,I5,r5,y5,st5,fr5⟩=>?_);have I5':=I5.pinned (stat fr5) (T.obj _ _ st5);refine wpAny_passesOwn hp (bV (hg _ s5 σ3 H5 x u _ I5' r5 (step x H5 y5)) fun _ s6 ⟨σ6,H6,I6,q6⟩=>?_);refine wpAny_passesOwn hp (bV (hb _ s6 σ6 H6 _ I6 q6) fun f s7 q7=>?_)
  have again:∀{σ7:St} {H7:Hp},Inv X (pins++mr fp s5.heap) σ7 H7 s7->N σ7 H7->∃m,m<n/\∃i σ' H',Inv X pins σ' H' s7/\tn i s7.heap/\(∀b∈fp,H' b=none)/\W i m σ' H':=fun {σ7 H7} I7 n7=>by
   obtain⟨m',hm,w7⟩:=hN σ7 H7 n7;refine⟨m',hm,i+1,σ7,H7,I7.jt,T.keep _ _ _ st5 fun b hb o e=>(I7.pin (b,o) (List.mem_append_right _ (List.mem_append_right _ (gD hb e)))).1,fun b hb=>?_,w7⟩;obtain⟨o,e,d⟩:=T.obj _ _ st5 b hb;exact(I7.pin (b,o) (List.mem_append_right _ (List.mem_append_right _ (gD hb e)))).2.1
  cases f with
  |next=>obtain⟨σ7,H7,I7,n7⟩:=q7;exact again I7 n7
  |cont=>obtain⟨σ7,H7,I7,n7⟩:=q7;exact again I7 n7
  |brk=>obtain⟨σ7,H7,I7,q7⟩:=q7;exact⟨σ7,H7,I7.jt,q7⟩
  |ret v=>obtain⟨x7,σ7,H7,I7,r7,q7⟩:=q7;exact⟨x7,σ7,H7,I7.jt,r7,q7⟩
end
theorem ze{K:PySem.W.Frag}{a:Addr}{xs:List V}{g:TG}{tb:TS}{D:Ends}{σ:St}{H:Hp}(Pv:Nat->St->Hp->Prop)(h0:Pv 0 σ H)(hl:∀i σ H,i<=xs.length->Pv i σ H->cW K H a xs)
  (hs:∀i x σ H,xs[i]?=some x->Pv i σ H->g x σ H fun σ2 H2=>tb {D with nx:=Pv (i+1),ct:=Pv (i+1),bk:=D.nx} σ2 H2) (hd:∀σ H,Pv xs.length σ H->D.nx σ H):
  ∃W:Nat->Nat->St->Hp->Prop,(∃m,W 0 m σ H)/\∀i m σ H,W i m σ H ->
   ((F1 K a).stop i H/\D.nx σ H)\/((F1 K a).go i H/\∃N:St->Hp->Prop,(∀σ' H',N σ' H'->∃m',m'<m/\W (i+1) m' σ' H')/\∀x H',(F1 K a).yld i H x H'->g x σ H' fun σ2 H2=>tb {D with nx:=N,ct:=N,bk:=D.nx} σ2 H2):=by
 refine⟨fun i m σ H=>m=xs.length-i/\i<=xs.length/\Pv i σ H,⟨xs.length,by simp,Nat.zero_le _,h0⟩,?_⟩;rintro i m σ H ⟨rfl,hi,p⟩;have q:=hl i σ H hi p;by_cases hlt:i<xs.length
 .refine .inr ⟨⟨xs,xs[i],q,by simp[hlt]⟩,Pv (i+1),fun σ' H' p'=>⟨xs.length-(i+1),by omega,rfl,hlt,p'⟩,fun x H' y=>?_⟩;obtain⟨e,y⟩:=y;subst e;exact hs i x σ _ (y xs q) p
 .have e:i=xs.length:=by omega
  subst e;exact .inl ⟨⟨xs,q,Nat.le_refl _⟩,hd σ H p⟩
theorem oV{lo:Int}{n:Nat}{g:TG}{tb:TS}{D:Ends}{σ:St}{H:Hp}(Pv:Nat->St->Hp->Prop)(h0:Pv 0 σ H)
  (hs:∀i σ H,i<n->Pv i σ H->g (.int (lo+i)) σ H fun σ2 H2=>tb {D with nx:=Pv (i+1),ct:=Pv (i+1),bk:=D.nx} σ2 H2) (hd:∀σ H,Pv n σ H->D.nx σ H):
  ∃W:Nat->Nat->St->Hp->Prop,(∃m,W 0 m σ H)/\∀i m σ H,W i m σ H ->
   ((EL lo n).stop i H/\D.nx σ H)\/((EL lo n).go i H/\∃N:St->Hp->Prop,(∀σ' H',N σ' H'->∃m',m'<m/\W (i+1) m' σ' H')/\∀x H',(EL lo n).yld i H x H'->g x σ H' fun σ2 H2=>tb {D with nx:=N,ct:=N,bk:=D.nx} σ2 H2):=by
 refine⟨fun i m σ H=>m=n-i/\i<=n/\Pv i σ H,⟨n,by simp,Nat.zero_le _,h0⟩,?_⟩;rintro i m σ H ⟨rfl,hi,p⟩;by_cases hlt:i<n
 .refine .inr ⟨hlt,Pv (i+1),fun σ' H' p'=>⟨n-(i+1),by omega,rfl,hlt,p'⟩,fun x H' y=>?_⟩;obtain⟨e,y⟩:=y;subst e y;exact hs i σ _ hlt p
 .have e:i=n:=by omega
  subst e;exact .inl ⟨Nat.le_refl _,hd σ H p⟩
abbrev R2:=V->V->Hp->VK->Prop
def iR(X:Cx)(f:Value->Value->Sem Value)(r:R2):Prop :=
 ∀(pins:List (Addr×Obj)) (s:Shared) (σ:St) (H:Hp) (x y:V) (v u:Value) (Q:VK),Inv X pins σ H s->RelV x v->RelV y u->r x y H Q ->
  wpAny (model X.prog X.w) X.A (f v u) (EP X pins σ Q) X.xe s
def Jk(X:Cx)(f:Value->Sem Value)(r:V->Hp->VK->Prop):Prop :=
 ∀(pins:List (Addr×Obj)) (s:Shared) (σ:St) (H:Hp) (x:V) (v:Value) (Q:VK),Inv X pins σ H s->RelV x v->r x H Q ->
  wpAny (model X.prog X.w) X.A (f v) (EP X pins σ Q) X.xe s
def gT(X:Cx)(f:Value)(r:List V->Hp->VK->Prop):Prop :=
 ∀(pins:List (Addr×Obj)) (s:Shared) (σ:St) (H:Hp) (xs:List V) (us:List Value) (Q:VK),Inv X pins σ H s->Vals xs us->r xs H Q ->
  wpAny (model X.prog X.w) X.A (call f us) (EP X pins σ Q) X.xe s
def H_(r:R2)(ta tb:TE):TE:=fun σ H Q=>ta σ H fun x H1=>tb σ H1 fun y H2=>r x y H2 Q
def J6(r:V->Hp->VK->Prop)(ta:TE):TE:=fun σ H Q=>ta σ H fun x H1=>r x H1 Q
def rI(C:Int->Int->Prop)(g:Int->Int->V):R2:=fun x y H Q=>∃i j,x=.int i/\y=.int j/\C i j/\Q (g i j) H
def BU(g:Int->Int->V):R2:=fun x y H Q=>∃i j,x=.int i/\y=.int j/\Q (g i j) H
def rU(g:Int->V):V->Hp->VK->Prop:=fun x H Q=>∃i,x=.int i/\Q (g i) H
section
variable{X:Cx}{a b c:Expr}{ta tb tc:TE}{pos:Pos}
theorem D9(ha:PE X a ta)(hb:PE X b tb){pins:List (Addr×Obj)}{s:Shared}{σ:St}{H:Hp}{R:V->V->Hp->Prop}(I:Inv X pins σ H s)
  (h:ta σ H fun x H1=>tb σ H1 fun y H2=>R x y H2) {Q:Value->Shared->Prop} {f:Value->Value->Sem Value}
  (hf:∀v u s2 x y H2,Inv X pins σ H2 s2->RelV x v->RelV y u->R x y H2->wpAny (model X.prog X.w) X.A (f v u) Q X.xe s2):
  wpAny (model X.prog X.w) X.A (eval a X.env) (fun v s₁=>wpAny (model X.prog X.w) X.A (eval b X.env) (fun u s₂=>wpAny (model X.prog X.w) X.A (f v u) Q X.xe s₂) X.xe s₁) X.xe s:=by
 refine bV (ha pins s σ H _ I h) fun v s1 ⟨x,H1,I1,r1,q1⟩=>?_;refine bV (hb pins s1 σ H1 _ I1 q1) fun u s2 ⟨y,H2,I2,r2,q2⟩=>?_;exact hf v u s2 x y H2 I2 r1 r2 q2
theorem vz{op:Operator}{r:R2}(ho:iR X (binaryOp op) r)(ha:PE X a ta)(hb:PE X b tb):PE X (.BinOp a op b pos) (H_ r ta tb):=by
 intro pins s σ H Q I h;exact wpAny_BinOp (D9 ha hb I h fun v u s2 x y H2 I2 rx ry q=>ho pins s2 σ H2 x y v u Q I2 rx ry q)
theorem Hy{op:UnaryOp}{r:V->Hp->VK->Prop}(ho:Jk X (unaryOp op) r)(ha:PE X a ta):PE X (.UnaryOp op a pos) (J6 r ta):=by
 intro pins s σ H Q I h;exact UnaryOp_ (bV (ha pins s σ H _ I h) fun v s1 ⟨x,H1,I1,r1,q1⟩=>ho pins s1 σ H1 x v Q I1 r1 q1)
theorem GV{f:Value->Value->Sem Value}{C:Int->Int->Prop}{g:Int->Int->Int}
  (rule:∀(i j:Int) (t u:Tok) (s:Shared) (Q:Value->Shared->Prop) (E:Value->Shared->Prop),C i j->Q (.int (g i j) s.toks) {s with toks:=s.toks+1}->wpAny (model X.prog X.w) X.A (f (.int i t) (.int j u)) Q E s):
  iR X f (rI C fun i j=>.int (g i j)):=by
 intro pins s σ H x y v u Q I rx ry h;obtain⟨i,j,rfl,rfl,hc,q⟩:=h;obtain⟨t,rfl⟩:=rx;obtain⟨t',rfl⟩:=ry;exact rule i j t t' s _ _ hc ⟨.int (g i j),H,I.tok _,⟨_,rfl⟩,q⟩
theorem HE{f:Value->Value->Sem Value}{g:Int->Int->Int}
  (rule:∀(i j:Int) (t u:Tok) (s:Shared) (Q:Value->Shared->Prop) (E:Value->Shared->Prop),Q (.int (g i j) s.toks) {s with toks:=s.toks+1}->wpAny (model X.prog X.w) X.A (f (.int i t) (.int j u)) Q E s):
  iR X f (BU fun i j=>.int (g i j)):=by
 intro pins s σ H x y v u Q I rx ry h;obtain⟨i,j,rfl,rfl,q⟩:=h;obtain⟨t,rfl⟩:=rx;obtain⟨t',rfl⟩:=ry;exact rule i j t t' s _ _ ⟨.int (g i j),H,I.tok _,⟨_,rfl⟩,q⟩
theorem BF{f:Value->Value->Sem Value}{g:Int->Int->Bool}
  (rule:∀(i j:Int) (t u:Tok) (s:Shared) (Q:Value->Shared->Prop) (E:Value->Shared->Prop),Q (.bool (g i j)) s->wpAny (model X.prog X.w) X.A (f (.int i t) (.int j u)) Q E s):
  iR X f (BU fun i j=>.bl (g i j)):=by
 intro pins s σ H x y v u Q I rx ry h;obtain⟨i,j,rfl,rfl,q⟩:=h;obtain⟨t,rfl⟩:=rx;obtain⟨t',rfl⟩:=ry;exact rule i j t t' s _ _ ⟨.bl (g i j),H,I,rfl,q⟩
def zW(i j:Int):Prop:=0<=j/\j<=1000000/\i.natAbs<2^64
def B2(i j:Int):Prop:=(-(2^64)<i/\i<2^64)\/(-(2^64)<j/\j<2^64)
theorem B2.ok{i j:Int}(h:B2 i j):IntMulOk i j:=by
 rcases h with⟨h1,h2⟩|⟨h1,h2⟩
 .exact .of_left (intBits_le_64 h1 h2)
 .exact .of_right (intBits_le_64 h1 h2)
theorem E5:iR X (binaryOp .Add) (BU fun i j=>.int (i+j)):=HE fun _ _ _ _ _ _ _ q=>add_int q
theorem DX:iR X (binaryOp .Sub) (BU fun i j=>.int (i-j)):=HE fun _ _ _ _ _ _ _ q=>sub_int q
theorem Bo:iR X (binaryOp .Mod) (rI (fun _ j=>j≠0) fun i j=>.int (i.fmod j)):=GV fun _ _ _ _ _ _ _ hc q=>mod_int' hc q
theorem Dr:iR X (binaryOp .Pow) (rI zW fun i j=>.int (i^j.toNat)):=GV fun _ _ _ _ _ _ _ hc q=>pow_int_small hc.1 hc.2.1 hc.2.2 q
theorem FC:iR X (binaryOp .LShift) (rI zW fun i j=>.int (i*2^j.toNat)):=GV fun _ _ _ _ _ _ _ hc q=>lshift_int_small hc.1 hc.2.1 hc.2.2 q
theorem J5{f:Value->Sem Value}{g:Int->Int}
  (rule:∀(i:Int) (t:Tok) (s:Shared) (Q:Value->Shared->Prop) (E:Value->Shared->Prop),Q (.int (g i) s.toks) {s with toks:=s.toks+1}->wpAny (model X.prog X.w) X.A (f (.int i t)) Q E s):
  Jk X f (rU fun i=>.int (g i)):=by
 intro pins s σ H x v Q I rx h;obtain⟨i,rfl,q⟩:=h;obtain⟨t,rfl⟩:=rx;exact rule i t s _ _ ⟨.int (g i),H,I.tok _,⟨_,rfl⟩,q⟩
theorem EM:Jk X (unaryOp .USub) (rU fun i=>.int (-i)):=J5 fun _ _ _ _ _ q=>neg_int q
end
def Hv:V->V->Bool
 |.non,.non=>true|.non,.int _=>true|.int _,.non=>true|.non,.bl _=>true|.bl _,.non=>true|.non,.str _=>true|.str _,.non=>true
 |.int _,.int _=>true|.bl _,.bl _=>true|.str _,.str _=>true|.byt _,.byt _=>true
 |.int _,.str _=>true|.str _,.int _=>true|.bl _,.str _=>true|.str _,.bl _=>true
 |_,_=>false
def JZ:R2:=fun x y H Q=>Hv x y=true/\Q (.bl (decide (x=y))) H
def Ka:R2:=fun x y H Q=>Hv x y=true/\Q (.bl (!decide (x=y))) H
theorem lB{i j:Int}:decide (V.int i=V.int j)=(i==j):=by
 rw[Bool.eq_iff_iff];simp
theorem Ar{i j:Bool}:decide (V.bl i=V.bl j)=(i==j):=by
 rw[Bool.eq_iff_iff];simp
theorem v7{i j:Str}:decide (V.str i=V.str j)=(i==j):=by
 rw[Bool.eq_iff_iff];simp
theorem wC{i j:Array UInt8}:decide (V.byt i=V.byt j)=(i.toList==j.toList):=by
 rw[Bool.eq_iff_iff];cases i;cases j;simp
section
variable{X:Cx}{a b c:Expr}{ta tb tc:TE}{pos:Pos}
theorem aU{pins:List (Addr×Obj)}{σ:St}{H:Hp}{s:Shared}{Q:VK}{k k':Bool}(I:Inv X pins σ H s)(q:Q (.bl k) H)(e:k=k'):EP X pins σ Q (.bool k') s:=by
 subst e;exact⟨.bl k,H,I,rfl,q⟩
theorem HB:iR X (compareOp .Eq) JZ:=by
 intro pins s σ H x y v u Q I rx ry h;obtain⟨hs,q⟩:=h;cases x with
 |non =>
  cases rx;cases y with
  |non=>cases ry;exact PySem.EqNone.eq_none_none (aU I q (by simp))
  |bl j=>cases ry;exact PySem.EqNone.eq_none_bool (aU I q (by simp))
  |int j=>obtain⟨t',rfl⟩:=ry;exact PySem.EqNone.eq_none_int (aU I q (by simp))
  |str j=>obtain⟨t',rfl⟩:=ry;exact PySem.EqNone.eq_none_str (aU I q (by simp))
  |_=>exact absurd (show false=true from hs) Bool.false_ne_true
 |bl i =>
  cases rx;cases y with
  |non=>cases ry;exact PySem.EqNone.eq_bool_none (aU I q (by simp))
  |bl j=>cases ry;exact eq_bool (aU I q Ar)
  |str j=>obtain⟨t',rfl⟩:=ry;exact PySem.EqMixed.eq_bool_str (aU I q (by simp))
  |_=>exact absurd (show false=true from hs) Bool.false_ne_true
 |int i =>
  obtain⟨t,rfl⟩:=rx;cases y with
  |non=>cases ry;exact PySem.EqNone.eq_int_none (aU I q (by simp))
  |int j=>obtain⟨t',rfl⟩:=ry;exact eq_int (aU I q lB)
  |str j=>obtain⟨t',rfl⟩:=ry;exact PySem.EqMixed.eq_int_str (aU I q (by simp))
  |_=>exact absurd (show false=true from hs) Bool.false_ne_true
 |str i =>
  obtain⟨t,rfl⟩:=rx;cases y with
  |non=>cases ry;exact PySem.EqNone.eq_str_none (aU I q (by simp))
  |bl j=>cases ry;exact PySem.EqMixed.eq_str_bool (aU I q (by simp))
  |int j=>obtain⟨t',rfl⟩:=ry;exact PySem.EqMixed.eq_str_int (aU I q (by simp))
  |str j=>obtain⟨t',rfl⟩:=ry;exact eq_str (aU I q v7)
  |_=>exact absurd (show false=true from hs) Bool.false_ne_true
 |byt i =>
  obtain⟨t,rfl⟩:=rx;cases y with
  |byt j=>obtain⟨t',rfl⟩:=ry;exact PySem.W.eq_bytes (aU I q wC)
  |_=>exact absurd (show false=true from hs) Bool.false_ne_true
 |_=>cases y<;>exact absurd (show false=true from hs) Bool.false_ne_true
theorem F9:iR X (compareOp .NotEq) Ka:=by
 intro pins s σ H x y v u Q I rx ry h;obtain⟨hs,q⟩:=h;cases x with
 |non =>
  cases rx;cases y with
  |non=>cases ry;exact PySem.EqNone.ne_none_none (aU I q (by simp))
  |bl j=>cases ry;exact PySem.EqNone.ne_none_bool (aU I q (by simp))
  |int j=>obtain⟨t',rfl⟩:=ry;exact PySem.EqNone.ne_none_int (aU I q (by simp))
  |str j=>obtain⟨t',rfl⟩:=ry;exact PySem.EqNone.ne_none_str (aU I q (by simp))
  |_=>exact absurd (show false=true from hs) Bool.false_ne_true
 |bl i =>
  cases rx;cases y with
  |non=>cases ry;exact PySem.EqNone.ne_bool_none (aU I q (by simp))
  |bl j=>cases ry;exact ne_bool (aU I q (congrArg not Ar))
  |str j=>obtain⟨t',rfl⟩:=ry;exact PySem.EqMixed.ne_bool_str (aU I q (by simp))
  |_=>exact absurd (show false=true from hs) Bool.false_ne_true
 |int i =>
  obtain⟨t,rfl⟩:=rx;cases y with
  |non=>cases ry;exact PySem.EqNone.ne_int_none (aU I q (by simp))
  |int j=>obtain⟨t',rfl⟩:=ry;exact ne_int (aU I q (congrArg not lB))
  |str j=>obtain⟨t',rfl⟩:=ry;exact PySem.EqMixed.ne_int_str (aU I q (by simp))
  |_=>exact absurd (show false=true from hs) Bool.false_ne_true
 |str i =>
  obtain⟨t,rfl⟩:=rx;cases y with
  |non=>cases ry;exact PySem.EqNone.ne_str_none (aU I q (by simp))
  |bl j=>cases ry;exact PySem.EqMixed.ne_str_bool (aU I q (by simp))
  |int j=>obtain⟨t',rfl⟩:=ry;exact PySem.EqMixed.ne_str_int (aU I q (by simp))
  |str j=>obtain⟨t',rfl⟩:=ry;exact ne_str (aU I q (congrArg not v7))
  |_=>exact absurd (show false=true from hs) Bool.false_ne_true
 |byt i =>
  obtain⟨t,rfl⟩:=rx;cases y with
  |byt j=>obtain⟨t',rfl⟩:=ry;exact PySem.W.ne_bytes (aU I q (congrArg not wC))
  |_=>exact absurd (show false=true from hs) Bool.false_ne_true
 |_=>cases y<;>exact absurd (show false=true from hs) Bool.false_ne_true
theorem Gg:iR X (compareOp .Lt) (BU fun i j=>.bl (decide (i<j))):=BF fun _ _ _ _ _ _ _ q=>lt_int q
theorem Gi:iR X (compareOp .LtE) (BU fun i j=>.bl (decide (i<=j))):=BF fun _ _ _ _ _ _ _ q=>le_int q
theorem HC:iR X (compareOp .Gt) (BU fun i j=>.bl (decide (j<i))):=BF fun _ _ _ _ _ _ _ q=>gt_int q
theorem HA:iR X (compareOp .GtE) (BU fun i j=>.bl (decide (j<=i))):=BF fun _ _ _ _ _ _ _ q=>ge_int q
theorem yF(b:Expr){op:CmpOp}(h:op≠.In:=by decide)(h2:op≠.NotIn:=by decide):behindInMarks op b=false:=by
 have e1:(op==CmpOp.In)=false:=by cases op<;>first|rfl|exact absurd rfl h
 have e2:(op==CmpOp.NotIn)=false:=by cases op<;>first|rfl|exact absurd rfl h2
 cases b<;>simp[behindInMarks,e1,e2]
theorem Bq{op:CmpOp}{r:R2}(ho:iR X (compareOp op) r)(ha:PE X a ta)(hb:PE X b tb)(hm:behindInMarks op b=false):PE X (.Compare a [op] [b] pos) (H_ r ta tb):=by
 intro pins s σ H Q I h;exact wpAny_Compare1 (D9 ha hb I h fun v u s2 x y H2 I2 rx ry q=>ho pins s2 σ H2 x y v u Q I2 rx ry q) hm
def CQ(t:TE):TT:=fun σ H Q=>t σ H fun x H'=>∃k,x=.bl k/\Q k H'
theorem Bk{op:CmpOp}{r:R2}(ho:iR X (compareOp op) r)(ha:PE X a ta)(hb:PE X b tb)(hm:behindInMarks op b=false):PT X (.Compare a [op] [b] pos) (CQ (H_ r ta tb)):=by
 intro pins s σ H Q I h
 refine wpAny_isTrue_Compare1 (bV (ha pins s σ H _ I h) fun v s1 ⟨x,H1,I1,r1,q1⟩=>bV (hb pins s1 σ H1 _ I1 q1) fun u s2 ⟨y,H2,I2,r2,q2⟩ =>
  bV (ho pins s2 σ H2 x y v u _ I2 r1 r2 q2) fun c s3 ⟨z,H3,I3,r3,k,e,q3⟩=>?_) hm
 subst e;cases r3;exact wpAny_truthy_bool ⟨H3,I3,q3⟩
def E8(r r':R2)(ta tb tc:TE):TE:=fun σ H Q=>ta σ H fun x H1=>tb σ H1 fun y H2=>r x y H2 fun z H3=>∃k,z=.bl k /\
 (if k=true then tc σ H3 fun w' H4=>r' y w' H4 Q else Q (.bl false) H3)
theorem yr{op op':CmpOp}{r r':R2}(ho:iR X (compareOp op) r)(ho':iR X (compareOp op') r')(ha:PE X a ta)(hb:PE X b tb)(hc:PE X c tc)
  (hm:lastMarks [op,op'] [b,c]=false:=by with_unfolding_all rfl):PT X (.Compare a [op,op'] [b,c] pos) (CQ (E8 r r' ta tb tc)):=by
 intro pins s σ H Q I h
 refine isTrue_chain (bV (ha pins s σ H _ I h) fun v s1 ⟨x,H1,I1,r1,q1⟩=>test_link (bV (hb pins s1 σ H1 _ I1 q1) fun u s2 ⟨y,H2,I2,r2,q2⟩ =>
  bV (ho pins s2 σ H2 x y v u _ I2 r1 r2 q2) fun d s3 ⟨z,H3,I3,r3,k,e,q3⟩=>?_)) hm
 subst e;cases r3;refine wpAny_truthy_bool ?_;cases k with
 |false =>
  obtain⟨k',e',q'⟩:=q3;cases e';exact ite_ff ⟨H3,I3,q'⟩
 |true =>
  refine ite_tt (test_last (bV (hc pins s3 σ H3 _ I3 q3) fun w' s4 ⟨z',H4,I4,r4,q4⟩=>bV (ho' pins s4 σ H4 y z' u w' _ I4 r2 r4 q4) fun d' s5 ⟨z2,H5,I5,r5,k2,e2,q5⟩=>?_));subst e2;cases r5;exact wpAny_truthy_bool ⟨H5,I5,q5⟩
theorem tK:(sizeLine:Nat)<2^63:=by rw[sizeLine_eq];decide
theorem vals1{x:V}{us:List Value}(r:Vals [x] us):∃u,us=[u]/\RelV x u:=by
 cases r with
 |cons r1 r2=>cases r2;exact⟨_,rfl,r1⟩
theorem vals2{x y:V}{us:List Value}(r:Vals [x,y] us):∃u w',us=[u,w']/\RelV x u/\RelV y w':=by
 cases r with
 |cons r1 r2 =>
  cases r2 with
  |cons r3 r4=>cases r4;exact⟨_,_,rfl,r1,r3⟩
theorem zE:gT X (.builtin "abs") (fun xs H Q=>∃i,xs=[.int i]/\Q (.int (if i<0 then -i else i)) H):=by
 intro pins s σ H xs us Q I r h;obtain⟨i,rfl,q⟩:=h;obtain⟨u,rfl,t,rfl⟩:=vals1 r;exact call_abs_int fun u tk=>⟨.int (if i<0 then -i else i),H,I.tok _,⟨_,rfl⟩,q⟩
theorem xv(hc:X.calm=true):gT X (.builtin "max") (fun xs H Q=>∃i j,xs=[.int i,.int j]/\Q (.int (if j>i then j else i)) H):=by
 intro pins s σ H xs us Q I r h;obtain⟨i,j,rfl,q⟩:=h;obtain⟨u,w',rfl,⟨t,rfl⟩,⟨t',rfl⟩⟩:=vals2 r;refine max_two_ints (I.ok.hd hc) fun h' tk k=>⟨_,H,I.kept k,?_,q⟩;by_cases hj:j>i
 .rw[if_pos hj,if_pos hj];exact⟨_,rfl⟩
 .rw[if_neg hj,if_neg hj];exact⟨_,rfl⟩
theorem xB(hc:X.calm=true):gT X (.builtin "min") (fun xs H Q=>∃i j,xs=[.int i,.int j]/\Q (.int (if j<i then j else i)) H):=by
 intro pins s σ H xs us Q I r h;obtain⟨i,j,rfl,q⟩:=h;obtain⟨u,w',rfl,⟨t,rfl⟩,⟨t',rfl⟩⟩:=vals2 r;refine min_two_ints (I.ok.hd hc) fun h' tk k=>⟨_,H,I.kept k,?_,q⟩;by_cases hj:j<i
 .rw[if_pos hj,if_pos hj];exact⟨_,rfl⟩
 .rw[if_neg hj,if_neg hj];exact⟨_,rfl⟩
theorem xp:gT X (.type "int") (fun xs H Q=>(∃i,xs=[.int i]/\Q (.int i) H)\/∃k,xs=[.bl k]/\Q (.int (if k then 1 else 0)) H):=by
 intro pins s σ H xs us Q I r h;rcases h with⟨i,rfl,q⟩|⟨k,rfl,q⟩
 .obtain⟨u,rfl,t,rfl⟩:=vals1 r;exact call_int_int ⟨.int i,H,I,⟨_,rfl⟩,q⟩
 .obtain⟨u,rfl,r1⟩:=vals1 r;cases r1;exact call_int_bool ⟨.int (if k then 1 else 0),H,I.tok _,⟨_,rfl⟩,q⟩
end
structure J2(h:Heap)(x dx C:Addr)(mA:Str->Option Value):Prop where
 obj:h.get? x=some (PySem.W.instObj C dx)
 ns:h.Ns1 dx mA
 ne:dx≠x
section
variable{prog:Program}{w:World}{A:Around}{E:Value->Shared->Prop}{s:Shared}{K:PySem.W.Frag}{x dx C f:Addr}{mA:Str->Option Value}{name:Str}{v:Value}
end
section
variable{P:Program}{w:World}{H H':Hp}{h h':Heap}{a C dx:Addr}{fs fs':List (Str×V)}
end
structure J4(K:PySem.W.Frag)(C:Addr):Prop where
 pg:PySem.W.plainGet K C Str.empty=true
 hd:PySem.W.hasDictIn K C=true
 po:PySem.W.plainOver K C=true
 sa:PySem.W.findIn K (.ref C) "__setattr__"=some (some (.builtin "object.__setattr__"))
structure Ke(K:PySem.W.Frag)(C:Addr)(f:Str)(v:V)(u:Value):Prop where
 at_:PySem.W.findIn K (.ref C) f=some (some u)
 rel:RelV v u
 get:PySem.W.specialIn K u "__get__"=some none
 cp:PySem.W.copiedNames.contains f=false
structure Meth(K:PySem.W.Frag)(C:Addr)(m:Str)(f:Addr):Prop where
 at_:PySem.W.findIn K (.ref C) m=some (some (.ref f))
 fn:PySem.W.isFn K (.ref f)=true
 kp:PySem.W.keepIn K (.ref f)=true
section
variable{X:Cx}{pins:List (Addr×Obj)}{σ:St}{H:Hp}{s:Shared}{a C dx:Addr}{fs:List (Str×V)}{f:Str}{v:V}{A:Around}{E:Value->Shared->Prop}
end
section
variable{X:Cx}{o e value:Expr}{f:Str}{pos pos' tpos:Pos}{ta tv:TE}
end
section
variable{X:Cx}{pins:List (Addr×Obj)}{σ:St}{H:Hp}{s:Shared}{A:Around}{E:Value->Shared->Prop}{Q:Value->Shared->Prop}{c:Value}{b:Bool}
inductive mM(K:PySem.W.Frag)(H:Hp):V->Value->Prop where
 |non:mM K H .non (.type "NoneType")
 |bl (x:Bool):mM K H (.bl x) (.type "bool")
 |int (i:Int):mM K H (.int i) (.type "int")
 |str (x:Str):mM K H (.str x) (.type "str")
 |flt (x:UInt64):mM K H (.flt x) (.type "float")
 |lst {a:Addr} {xs:List V} (e:H a=some (.lst xs)):mM K H (.ref a) (.type "list")
 |frz {a:Addr} {o:Obj} {xs:List V} (e:H a=some (.frz o (.lst xs))):mM K H (.ref a) (.type "list")
 |tup {a:Addr} {xs:List V} (e:H a=some (.tup xs)):mM K H (.ref a) (.type "tuple")
 |dK {a:Addr} {kvs:List (Key×V)} (e:H a=some (.dK kvs)):mM K H (.ref a) (.type "dict")
 |dT {a:Addr} {kvs:List (List Key×V)} (e:H a=some (.dT kvs)):mM K H (.ref a) (.type "dict")
 |ins {a C dx:Addr} {fs:List (Str×V)} (e:H a=some (.ins C dx fs)) (cl:J4 K C) (ha:PySem.W.findIn K (.ref C) "__class__"=some (some (.builtin "object.__class__")))
   (hn:PySem.W.specialIn K (.builtin "object.__class__") "__get__"=some (some (.builtin "getset_descriptor.__get__"))) (htk:PySem.W.takesIn K (.builtin "object.__class__")=some true)
   (hm:PySem.W.mroIn K C (.type "object")=some true):mM K H (.ref a) (.ref C)
end
structure cZ(k:Nat)(A:Around):Prop where
 hd:A.handled=none
 dp:A.depth+3*k+5<recursionLimit
 un:A.units+16*k+200<cLine
theorem cZ.mono{j k:Nat}{A:Around}(r:cZ k A)(h:j<=k):cZ j A:=⟨r.hd,by have:=r.dp;omega,by have:=r.un;omega⟩
theorem cZ.deeper{k:Nat}{A:Around}(r:cZ (k+1) A)(env:Env):cZ k (A.deeper env) :=
 ⟨r.hd,by have:=r.dp;show A.depth+1+3*k+5<_;omega,by have:=r.un;show A.units+3+16*k+200<_;omega⟩
theorem cZ.depth{k:Nat}{A:Around}(r:cZ k A):A.depth<recursionLimit:=by have:=r.dp;omega
def Gf:TA:=fun _ H Q=>Q [] H
def GA(ta:TE)(tr:TA):TA:=fun σ H Q=>ta σ H fun x H1=>tr σ H1 fun xs H2=>Q (x::xs) H2
section
variable{X:Cx}{e:Expr}{es:List Expr}{te:TE}{t:TA}{pos:Pos}
theorem aV:PA X [] Gf:=fun _ _ _ _ H Q I h=>Calls.spliced_nil ⟨[],H,I,.nil,h⟩
theorem aB(ha:PE X e te)(hr:PA X es t)(hs:starEach (e::es) X.env=(false,eval e X.env)::starEach es X.env:=by rfl):PA X (e::es) (GA te t):=by
 intro pos pins s σ H Q I h;rw[hs];show wpAny _ _ (spliced ((false,eval e X.env)::backTo pos (starEach es X.env))) _ _ s;refine Calls.spliced_cons (bV (ha pins s σ H _ I h) fun u s1 ⟨x,H1,I1,r1,q1⟩=>?_);exact bV (hr pos pins s1 σ H1 _ I1 q1) fun us s2 ⟨xs,H2,I2,r2,q2⟩=>⟨x::xs,H2,I2,.cons r1 r2,q2⟩
def ID(t:TA):TE:=fun σ H Q=>t σ H fun xs H1=>xs.length<=sizeLine/\∀p,H1 p=none->Q (.ref p) (upd H1 p (.tup xs))
def Iw(t:TA):TE:=fun σ H Q=>t σ H fun xs H1=>xs.length<=sizeLine/\∀p,H1 p=none->Q (.ref p) (upd H1 p (.lst xs))
theorem yq{x1}(h:PA X es t):PE X (.Tuple es x1 pos) (ID t):=by
 intro pins s σ H Q I hq;refine wpAny_Tuple_spliced (bV (h pos pins s σ H _ I hq) fun us s1 ⟨xs,H1,I1,r,z,q⟩=>⟨by rw[<-r.length];exact z,?_⟩);have hf:H1 s1.heap.objs.size=none:=I1.hok.fresh (Nat.le_refl _);refine⟨.ref s1.heap.objs.size,upd H1 s1.heap.objs.size (.tup xs),I1.laid (t':=s1.toks) (fun b u e=>Heap.get?_push_of_some _ e) (Nat.le_refl _) ?_,rfl,q _ hf⟩;exact⟨z,us,r,⟨_,Heap.get?_push_size _ rfl,rfl,_,rfl⟩⟩
theorem sT(h:PA X es t):PE X (.List es pos) (Iw t):=by
 intro pins s σ H Q I hq;refine wpAny_List_spliced (bV (h pos pins s σ H _ I hq) fun us s1 ⟨xs,H1,I1,r,z,q⟩=>⟨by rw[<-r.length];exact z,?_⟩);have hf:H1 s1.heap.objs.size=none:=I1.hok.fresh (Nat.le_refl _);refine⟨.ref s1.heap.objs.size,upd H1 s1.heap.objs.size (.lst xs),I1.laid (t':=s1.toks) (fun b u e=>Heap.get?_push_of_some _ e) (Nat.le_refl _) ?_,rfl,q _ hf⟩;exact⟨z,us,0,r,Heap.get?_push_size _ rfl⟩
end
abbrev Sp:=List V->Hp->VK->XK->Prop
abbrev xm:=List Env->Hp->Shared->XK->Value->Shared->Prop
structure yX(P:Program)(w:World)(K:PySem.W.Frag)(mg:Str->Option Value)(base:Heap)(A:Around)(outer:List Env)(s:Shared)(H:Hp):Prop where
 frames:A.frames=some outer
 mod:Mod K mg base
 bs:∀b o,base.get? b=some o->s.heap.get? b=some o/\H b=none
 bsz:base.objs.size<=s.heap.objs.size
 kg:s.heap.FunFrames base outer
 frf:∀b∈sL outer,H b=none
 hok:lI P w H s.heap
 bare:AllBare s.gens
def CE(outer:List Env)(P:Program)(w:World)(H:Hp)(s:Shared)(Q:VK)(u:Value)(s':Shared):Prop :=
 ∃v H',s'.os=s.os/\AllBare s'.gens/\Un (sL outer) [] H H' s.heap s'.heap/\lI P w H' s'.heap/\RelV v u/\Q v H'
def CR(CX:xm)(outer:List Env)(P:Program)(w:World)(H:Hp)(s:Shared)(Q:VK)(E:XK)(r:Result)(s':Shared):Prop :=
 match r with
 |.ok (.ret u)=>CE outer P w H s Q u s'
 |.ok _=>False
 |.error e=>CX outer H s E e s'
structure fj(P:Program)(w:World)(K:PySem.W.Frag)(mg:Str->Option Value)(base:Heap)(CX:xm)(k:Nat)(f:Addr)(fd:FuncData)(ps:List Str)(sp:Sp):Prop where
 len:∀vs H Q E,sp vs H Q E->vs.length=ps.length
 run:∀(A:Around) (outer:List Env) (s:Shared) (H:Hp) (args:Args) (us:List Value) (vs:List V) (Q:VK) (E:XK),cZ k A->yX P w K mg base A outer s H->BindsTo s fd args (ps.zip us)->Vals vs us->sp vs H Q E ->
  codeAny (model P w) A (.call (.ref f) args) (CR CX outer P w H s Q E) s
section
variable{X:Cx}{pins:List (Addr×Obj)}{σ:St}{H:Hp}{s s':Shared}
theorem Inv.Jq(I:Inv X pins σ H s):yX X.prog X.w X.K X.mg X.base X.A X.stack s H :=
 ⟨I.ok.frames,I.ok.mod,I.bs,Nat.le_trans I.ok.bsz I.sz,I.stack,I.vq,I.hok,I.bare⟩
theorem Inv.after{Q:VK}{u:Value}(I:Inv X pins σ H s)(h:CE X.stack X.prog X.w H s Q u s'):EP X pins σ Q u s':=by
 obtain⟨v,H',os,bare,un,hok,r,q⟩:=h;obtain⟨hh,g,d,t,os'⟩:=s';obtain rfl:os'=s.os:=os;exact⟨v,H',I.call (h':=hh) (g':=g) (d':=d) (t':=t) (ch:=[]) un hok bare (fun b z=>absurd z (by simp)),r,q⟩
end
def CG(sp:Sp)(dvs:List V)(E:XK)(t:TA):TE:=fun σ H Q=>t σ H fun vs H1=>sp (vs++dvs) H1 Q E
def Binds(K:PySem.W.Frag)(fd:FuncData)(ps:List Str)(ds:List Value):Prop :=
 ∀(s:Shared) (us:List Value),K.In s.heap->(us++ds).length=ps.length->BindsTo s fd ⟨us,[]⟩ (ps.zip (us++ds))
theorem Binds.all{K:PySem.W.Frag}{fd:FuncData}{ps:List Str}(h:∀us:List Value,us.length=ps.length->bindArgs fd ⟨us,[]⟩=pure (ps.zip us)):Binds K fd ps []:=fun s us _ hl=>by
 rw[List.append_nil] at hl ⊢;exact .of_eq (h us hl)
def Passes(CX:xm)(X:Cx)(E:XK):Prop:=∀(pins:List (Addr×Obj)) (σ:St) (H:Hp) (s:Shared) (e:Value) (s':Shared),Inv X pins σ H s->CX X.stack H s E e s'->X.xe e s'
section
variable{X:Cx}{CX:xm}{k:Nat}{f C:Addr}{fd:FuncData}{ps:List Str}{sp:Sp}{dvs:List V}{ds:List Value}{E:XK}{x m:Str}{p pos apos:Pos}{e o:Expr}{es:List Expr}{ta:TE}{t:TA}
theorem yh{pins:List (Addr×Obj)}{σ:St}{H:Hp}{s:Shared}{Q:VK}{us:List Value}{vs:List V}(F:fj X.prog X.w X.K X.mg X.base CX k f fd ps sp)(hr:cZ k X.A)(hb:Binds X.K fd ps ds)(hd:Vals dvs ds)(hx:Passes CX X E)
  (I:Inv X pins σ H s) (r:Vals vs us) (h:sp (vs++dvs) H Q E):wpAny (model X.prog X.w) X.A (call (.ref f) us) (EP X pins σ Q) X.xe s:=by
 have r2:Vals (vs++dvs) (us++ds):=r.append hd;have hl:(us++ds).length=ps.length:=by rw[<-r2.length];exact F.len _ _ _ _ h
 refine wpAny_call (codeAny_mono (F.run X.A X.stack s H ⟨us,[]⟩ (us++ds) (vs++dvs) Q E hr I.Jq (hb s us I.Fx hl) r2 h) fun r s' hq=>?_);cases r with
 |error e=>exact hx pins σ H s e s' I hq
 |ok fl =>
  cases fl with
  |ret u=>exact I.after hq
  |next=>exact False.elim hq
  |brk=>exact False.elim hq
  |cont=>exact False.elim hq
theorem gj(F:fj X.prog X.w X.K X.mg X.base CX k f fd ps sp)(hr:cZ k X.A)(hg:Gl X x)(hm:X.mg x=some (.ref f))(hk:PySem.W.keepIn X.K (.ref f)=true)(hb:Binds X.K fd ps ds)(hd:Vals dvs ds)(hx:Passes CX X E)
  (ha:PA X (e::es) t) (hdb:(x==("__debug__":Str))=false:=by decide) (he:starEach (e::es) X.env=(false,eval e X.env)::starEach es X.env:=by rfl) (hpl:(backTo pos (starEach es X.env)).any (·.1)=false:=by rfl):
  PE X (.Call (.Name x p) (e::es) [] pos) (CG sp dvs E t):=by
 intro pins s σ H Q I h;refine wpAny_Call_Name_kw (qb I hg hm ?_ hdb);refine PySem.W.callWith_K (h₀:=X.base) I.ok.mod.kin hk (bV (ha pos pins s σ H _ I h) fun us s1 ⟨vs,H1,I1,r,q⟩=>⟨I1.Fx,?_⟩) he hpl;exact yh F hr hb hd hx I1 r q
theorem yU(F:fj X.prog X.w X.K X.mg X.base CX k f fd ps sp)(hr:cZ k X.A)(hg:Gl X x)(hm:X.mg x=some (.ref f))(hk:PySem.W.keepIn X.K (.ref f)=true)(hb:Binds X.K fd ps ds)(hd:Vals dvs ds)(hx:Passes CX X E)
  (hdb:(x==("__debug__":Str))=false:=by decide):PE X (.Call (.Name x p) [] [] pos) (CG sp dvs E Gf):=by
 intro pins s σ H Q I h;refine wpAny_Call_Name_kw (qb I hg hm ?_ hdb);exact PySem.W.callWith_K0 I.Fx hk (yh (us:=[]) F hr hb hd hx I .nil h)
structure Mk(K:PySem.W.Frag)(C f:Addr):Prop where
 makes:PySem.W.makesIn K C=true
 init:PySem.W.findIn K (.ref C) "__init__"=some (some (.ref f))
 fn:PySem.W.isFn K (.ref f)=true
 kp:PySem.W.keepIn K (.ref C)=true
end
section
variable{X:Cx}{CX:xm}{k:Nat}{f C:Addr}{fd:FuncData}{ps ks:List Str}{sp:Sp}{E:XK}{x m:Str}{p pos apos kpos:Pos}{e o:Expr}{es:List Expr}{kws:List Keyword}{te ta:TE}{t tk:TA}{nm:Option Str}
structure Jl(K:PySem.W.Frag)(fd:FuncData)(ps ks:List Str)(g:List Value->List Value->List Value)(gV:List V->List V->List V):Prop where
 to:∀(s:Shared) (us ws:List Value),K.In s.heap->(g us ws).length=ps.length->BindsTo s fd ⟨us,ks.zip ws⟩ (ps.zip (g us ws))
 rel:∀{vs:List V} {us:List Value} {zs:List V} {ws:List Value},Vals vs us->Vals zs ws->Vals (gV vs zs) (g us ws)
variable{g:List Value->List Value->List Value}{gV:List V->List V->List V}
end
structure ai(N P:List Str)(sc:Scope):Prop where
 kind:sc.kind=.function
 co:sc.isCoroutine=false
 gen:sc.isGenerator=false
 nd:N.Nodup
 pre:N.take P.length=P
 par:∀x∈P,sc.names.lookup x=some .local\/sc.names.lookup x=some .cell
 nofree:∀y∈sc.names,y.2≠.free
theorem oJ{kindOf:Str->Option NameKind}{x:Str}:∀{binds:List (Str×Value)} {m:Str->Option Value},(∀v,(x,v)∉binds)->bindL kindOf binds m x=m x
 |[],_,_=>rfl
 | (n,v) :: r,m,h=>by
  unfold bindL;rw[oJ fun w hw=>h w (List.mem_cons_of_mem _ hw)];split
  .have:x≠n:=by rintro rfl;exact h v List.mem_cons_self
   simp[this]
  .rfl
theorem om{kindOf:Str->Option NameKind}{x:Str}:∀{binds:List (Str×Value)} {m:Str->Option Value},(∀v,(x,v)∉binds)->bindC kindOf binds m x=m x
 |[],_,_=>rfl
 | (n,v) :: r,m,h=>by
  unfold bindC;rw[om fun w hw=>h w (List.mem_cons_of_mem _ hw)];split
  .rfl
  .have:x≠n:=by rintro rfl;exact h v List.mem_cons_self
   simp[this]
theorem ov{kindOf:Str->Option NameKind}{x:Str}{v:Value}:∀{P:List Str} {vs:List Value} {i:Nat} {m:Str->Option Value},P.Nodup->P[i]?=some x->vs[i]?=some v->kindOf x=some .local ->
  bindL kindOf (P.zip vs) m x=some v
 |[],_,_,_,_,h,_,_=>by simp at h
 |_::_,[],_,_,_,_,h,_=>by simp at h
 |p::P,w::vs,0,m,nd,h1,h2,hk=>by
  simp at h1 h2;subst h1;subst h2;show bindL kindOf ((p,w)::P.zip vs) m p=_;unfold bindL;rw[oJ fun v hv=>(List.nodup_cons.mp nd).1 (List.of_mem_zip hv).1,if_pos hk];simp
 |p::P,w::vs,i+1,m,nd,h1,h2,hk=>by
  show bindL kindOf ((p,w)::P.zip vs) m x=_;unfold bindL;exact ov (i:=i) (List.nodup_cons.mp nd).2 (by simpa using h1) (by simpa using h2) hk
theorem oI{kindOf:Str->Option NameKind}{x:Str}{v:Value}:∀{P:List Str} {vs:List Value} {i:Nat} {m:Str->Option Value},P.Nodup->P[i]?=some x->vs[i]?=some v->kindOf x≠some .local ->
  bindC kindOf (P.zip vs) m x=some v
 |[],_,_,_,_,h,_,_=>by simp at h
 |_::_,[],_,_,_,_,h,_=>by simp at h
 |p::P,w::vs,0,m,nd,h1,h2,hk=>by
  simp at h1 h2;subst h1;subst h2;show bindC kindOf ((p,w)::P.zip vs) m p=_;unfold bindC;rw[om fun v hv=>(List.nodup_cons.mp nd).1 (List.of_mem_zip hv).1,if_neg hk];simp
 |p::P,w::vs,i+1,m,nd,h1,h2,hk=>by
  show bindC kindOf ((p,w)::P.zip vs) m x=_;unfold bindC;exact oI (i:=i) (List.nodup_cons.mp nd).2 (by simpa using h1) (by simpa using h2) hk
def start(N:List Str)(vs:List V):St:=vs.map some++List.replicate (N.length-vs.length) none
def n8(CX:xm)(P:Program)(w:World)(K:PySem.W.Frag)(mg:Str->Option Value)(base:Heap)(N:List Str)(qual:Str)(scope:Scope)(f:Addr)(cd:Value)(A:Around)(outer:List Env)(s:Shared)(H:Hp)(E:XK):Cx where
 prog:=P
 w:=w
 K:=K
 mg:=mg
 base:=base
 A:=A.deeper (envOfC qual scope s.heap.objs.size f cd)
 N:=N
 s₀:=s
 H₀:=H
 env:=envOfC qual scope s.heap.objs.size f cd
 outer:=outer
 stack:=envOfC qual scope s.heap.objs.size f cd::outer
 ex:=[]
 calm:=true
 fn:=fun _=>true
 pn:=[]
 xe:=fun e s'=>wpAny (model P w) (A.deeper (envOfC qual scope s.heap.objs.size f cd)) (leaving (envOfC qual scope s.heap.objs.size f cd) e) (fun _ s''=>CX outer H s E e s'') (fun e' s''=>CX outer H s E e' s'') s'
theorem qU{sc:Scope}{n:Nat}{x:Str}(h:sc.names.lookup x=some .cell):∃c,(cellsFrom n sc.names []).lookup x=some c:=by
 have q:=PySem.W.cellsFrom_some sc.names n [] (.inl h);exact Option.isSome_iff_exists.mp q
theorem xD{CX:xm}{P:Program}{w:World}{K:PySem.W.Frag}{mg:Str->Option Value}{base:Heap}{N ps:List Str}{qual:Str}{scope:Scope}{f:Addr}{cd:Value}{A:Around}{outer:List Env}{s s1:Shared}{H:Hp}{E:XK}{us:List Value}{vs:List V}
  (S:ai N ps scope) (hd:A.handled=none) (e0:yX P w K mg base A outer s H) (hl:vs.length=ps.length) (r:Vals vs us)
  (x:InCallC s s.heap.objs.size (bindL (envOfC qual scope s.heap.objs.size f cd).kindOf (ps.zip us) fun _=>none) (cellsFrom (s.heap.objs.size+1) scope.names []) (bindC (envOfC qual scope s.heap.objs.size f cd).kindOf (ps.zip us) fun _=>none) s1):
  Inv (n8 CX P w K mg base N qual scope f cd A outer s H E) [] (start N vs) H s1:=by
 have hpl:ps.length<=N.length:=by have:=congrArg List.length S.pre;rw[List.length_take] at this;omega
 obtain⟨h1,tk,rfl,hk⟩:=x.done;have noA:∀b:Addr,b∉(n8 CX P w K mg base N qual scope f cd A outer s H E).ex:=fun b z=>absurd (show b∈([]:List Addr) from z) (by simp)
 refine⟨⟨e0.mod,S.kind,rfl,rfl,Nat.le_refl _,fun y z c h1 h2=>?_,fun y hy=>?_,fun y c _ h=>?_,fun _=>hd,Around.frames_deeper e0.frames,.inr ⟨rfl,rfl⟩,fun b z=>absurd z (noA b),e0.bs,e0.bsz,fun b _ _=>noA b,fun b z=>absurd z (noA b),e0.kg,e0.frf⟩,
  rfl,e0.bare,Un.kept hk,⟨_,x.toInCall.ns,fun i y v h1 h2 h3=>?_⟩,fun y c h=>⟨_,x.cell y c h⟩,e0.hok.fresh (Nat.le_refl _),fun y c h=>?_,fun p hp=>absurd (show p∈([]:List (Addr×Obj)) from hp) (by simp),e0.hok.kept hk,?_⟩
 .exact name_of_addr x.apart (PySem.mem_of_lookup h1) (PySem.mem_of_lookup h2)
 .have hy:scope.names.lookup y=some .cell\/scope.names.lookup y=some .free:=hy;rcases hy with hy|hy
  .exact qU hy
  .exact absurd rfl (S.nofree _ (PySem.mem_of_lookup hy))
 .exact Nat.le_of_lt (x.above y c (PySem.mem_of_lookup h))
 .have hi:i<vs.length:=by
   unfold start at h2;by_cases hi:i<vs.length
   .exact hi
   .rw[List.getElem?_append_right (by simpa using hi)] at h2;rw[List.getElem?_replicate] at h2;split at h2<;>cases h2
  have ha:vs[i]?=some v:=by
   unfold start at h2;rw[List.getElem?_append_left (by simpa using hi),List.getElem?_map] at h2;cases e:vs[i]? with
   |none=>rw[e] at h2;cases h2
   |some a=>rw[e] at h2;cases h2;rfl
  obtain⟨u,hu,rv⟩:=r.get ha
  have hp:ps[i]?=some y:=by
   rw[<-S.pre,List.getElem?_take_of_lt (by omega)];exact h1
  have ndP:ps.Nodup:=by rw[<-S.pre];exact S.nd.sublist (List.take_sublist _ _)
  refine⟨u,rv,?_⟩;rcases S.par y (List.mem_of_getElem? hp) with k|k
  .exact .inl ⟨k,ov ndP hp hu k⟩
  .obtain⟨c,e⟩:=qU (n:=s.heap.objs.size+1) k;refine .inr ⟨.inl k,c,e,?_⟩;have q:=x.cell y c e;rw[oI ndP hp hu (by show scope.names.lookup y≠_;rw[k];decide)] at q;exact q
 .exact e0.hok.fresh (Nat.le_of_lt (x.above y c (PySem.mem_of_lookup h)))
 .unfold start;show _=N.length;rw[List.length_append,List.length_map,List.length_replicate];omega
theorem Gn{CX:xm}{P:Program}{w:World}{K:PySem.W.Frag}{mg:Str->Option Value}{base:Heap}{k:Nat}{f:Addr}{name qual:Str}{params:Arguments}{body:List Stmt}{scope:Scope}{dV kV doc pm cdv ct oc:Value}{an od:Option Addr}
  {osl:Array (Option Value)} {N ps:List Str} {sp:Sp} (lk:K.lookup f=some ⟨oc,od,.func (PySem.W.fnOf name qual params body scope dV kV doc pm an cdv ct),osl⟩) (hcd:PySem.W.codeIn K cdv qual=true) (S:ai N ps scope)
  (len:∀vs H Q E,sp vs H Q E->vs.length=ps.length)
  (hbody:∀(A:Around) (outer:List Env) (s:Shared) (H:Hp) (vs:List V) (Q:VK) (E:XK),cZ k (A.deeper (envOfC qual scope s.heap.objs.size f cdv))->sp vs H Q E ->
   ∃t,nr (n8 CX P w K mg base N qual scope f cdv A outer s H E) body t/\t {nx:=fun _ H'=>Q .non H',rt:=Q} (start N vs) H):
  fj P w K mg base CX (k+1) f (PySem.W.fnOf name qual params body scope dV kV doc pm an cdv ct) ps sp:=by
 refine⟨len,fun A outer s H args us vs Q E hr e0 hb r hsp=>?_⟩;have hl:=len _ _ _ _ hsp;have KX:K.In s.heap:=e0.mod.kin.keeps fun b o e=>(e0.bs b o e).1;have lim:s.heap.NoLimit:=e0.mod.nolimit.keeps fun b o e=>(e0.bs b o e).1
 have hkind:∀y∈ps.zip us,scope.names.lookup y.1=some .local\/(scope.names.lookup y.1=some .cell/\((cellsFrom (s.heap.objs.size+1) scope.names []).lookup y.1).isSome=true):=fun⟨n,v⟩ hy=>by
  rcases S.par n (List.of_mem_zip hy).1 with q|q
  .exact .inl q
  .exact .inr ⟨q,PySem.W.cellsFrom_some _ _ _ (.inl q)⟩
 refine codeAny_call_function hr.depth (KX _ _ lk) rfl S.co S.gen rfl (PySem.W.codeRec_of KX hcd) (hb _ _ _ _ ?_);refine wpAny_newFunctionEnv_cells S.kind hkind fun env he s1 x=>?_;subst he;refine⟨lim.keeps x.toInCall.keep,codeAny_func ?_⟩;obtain⟨t,ht,hq⟩:=hbody A outer s H vs Q E (hr.deeper _) hsp;have I:Inv (n8 CX P w K mg base N qual scope f cdv A outer s H E) [] (start N vs) H s1:=xD S hr.hd e0 hl r x;refine wpAny_mono (ht [] s1 (start N vs) H _ I hq) (fun fl s' hs=>?_) fun e s' hs=>hs
 have fin:∀{σ':St} {H':Hp} {v:V} {u:Value},Inv (n8 CX P w K mg base N qual scope f cdv A outer s H E) [] σ' H' s'->RelV v u->Q v H'->CE outer P w H s Q u s' :=
  fun {σ' H' v u} J rv q=>⟨v,H',J.os,J.bare,J.base,J.hok,rv,q⟩
 cases fl with
 |ret u =>
  obtain⟨v,σ',H',J,rv,q⟩:=hs;exact fin J rv q
 |next =>
  obtain⟨σ',H',J,q⟩:=hs;exact fin (v:=V.non) (u:=Value.none) J rfl q
 |brk =>
  obtain⟨_,_,_,q⟩:=hs;exact False.elim q
 |cont =>
  obtain⟨_,_,_,q⟩:=hs;exact False.elim q
section
variable{X:Cx}{x:Str}{p pos:Pos}{e:Expr}{es:List Expr}{t:TA}{id T:String}{r:List V->Hp->VK->Prop}
def JB(r:List V->Hp->VK->Prop)(t:TA):TE:=fun σ H Q=>t σ H fun vs H1=>r vs H1 Q
theorem dP(hc:gT X (.builtin id) r)(hg:Gl X x)(hm:X.mg x=none)(hv:bootBuiltins x=some (.builtin id))(ha:PA X (e::es) t)(hn:x≠"__name__":=by decide)(hdb:(x==("__debug__":Str))=false:=by decide)
  (he:starEach (e::es) X.env=(false,eval e X.env)::starEach es X.env:=by rfl) (hpl:(backTo pos (starEach es X.env)).any (·.1)=false:=by rfl):PE X (.Call (.Name x p) (e::es) [] pos) (JB r t):=by
 intro pins s σ H Q I h;refine wpAny_Call_Name_kw (dX I hg hm hv ?_ hn hdb);exact PyProof.Rows.callWith_builtin1 (bV (ha pos pins s σ H _ I h) fun us s1 ⟨vs,H1,I1,r1,q1⟩=>hc pins s1 σ H1 vs us Q I1 r1 q1) he hpl
theorem oE(hc:gT X (.type T) r)(hg:Gl X x)(hm:X.mg x=none)(hv:bootBuiltins x=some (.type T))(ha:PA X (e::es) t)(hn:x≠"__name__":=by decide)(hdb:(x==("__debug__":Str))=false:=by decide)
  (he:starEach (e::es) X.env=(false,eval e X.env)::starEach es X.env:=by rfl) (hpl:(backTo pos (starEach es X.env)).any (·.1)=false:=by rfl):PE X (.Call (.Name x p) (e::es) [] pos) (JB r t):=by
 intro pins s σ H Q I h;refine wpAny_Call_Name_kw (dX I hg hm hv ?_ hn hdb);exact PyProof.Rows.callWith_type1 (bV (ha pos pins s σ H _ I h) fun us s1 ⟨vs,H1,I1,r1,q1⟩=>hc pins s1 σ H1 vs us Q I1 r1 q1) he hpl
end
end L2
namespace HT
open PySem PyProof.Rows
section
open PySem.SeqAt
open PySem.AutoSeq1 (wpAny_loadPart')
open PySem.MeetsSeq PySem.MeetsSeq2 PySem.MeetsSeq3
end
section
variable{prog:Program}{w:World}{A:Around}{E:Value->Shared->Prop}{s:Shared}
def dI(n d:Nat):Option Int->Nat
 |none=>d
 |some v=>if v<0 then (v+(n:Int)).toNat else min v.toNat n
theorem sD(n d:Nat):dI n d none=d:=rfl
theorem pB(n d k:Nat):dI n d (some (k:Int))=min k n:=by
 show(if (k:Int)<0 then ((k:Int)+(n:Int)).toNat else min (k:Int).toNat n)=min k n;rw[if_neg (by omega),Int.toNat_natCast]
theorem EC(n d:Nat)(hd:d<=n)(o:Option Int):dI n d o<=n:=by
 cases o with
 |none=>exact hd
 |some v =>
  show(if v<0 then (v+(n:Int)).toNat else min v.toNat n)<=n;by_cases hv:v<0
  .rw[if_pos hv];omega
  .rw[if_neg hv];exact Nat.min_le_right _ _
theorem vw(v:Int)(n d:Nat):(if v<0 then max (v+(n:Int)) 0 else min v (n:Int))=((dI n d (some v):Nat):Int):=by
 show(if v<0 then max (v+(n:Int)) 0 else min v (n:Int))=(((if v<0 then (v+(n:Int)).toNat else min v.toNat n):Nat):Int);by_cases hv:v<0
 .simp only[if_pos hv];omega
 .simp only[if_neg hv];omega
theorem t7(lo hi:Option Int)(n:Nat):Builtin.Slice.sliceAdjust lo hi 1 (n:Int)=(((dI n 0 lo:Nat):Int),((dI n n hi:Nat):Int)):=by
 have h1:¬((1:Int)<0):=by omega
 unfold Builtin.Slice.sliceAdjust;simp only[h1,if_false];refine Prod.ext ?_ ?_
 .cases lo with
  |none=>rfl
  |some v=>exact vw v n 0
 .cases hi with
  |none=>rfl
  |some v=>exact vw v n n
theorem tM(i j:Nat):Builtin.Slice.slicePlaces (i:Int) (j:Int) 1=j-i:=by
 unfold Builtin.Slice.slicePlaces;have h1:(1:Int)>0:=by omega
 simp only[h1,if_true,Int.ediv_one];split<;>omega
theorem mq{v:Value}{o:Option Int}{Q:Option Int->Shared->Prop}(p:IsPart v o)(h:Q o s):wpAny (model prog w) A (Builtin.Slice.slicePartIndex v) Q E s:=by
 cases p with
 |none=>exact slicePart_none h
 |int i t=>exact slicePart_int h
theorem jU{sl:Addr}{vl vu:Value}{lo hi:Option Int}{n:Nat}{Q:Int×Int×Nat->Shared->Prop}(hs:s.heap.IsSliceOf sl vl vu .none)(pl:IsPart vl lo)(pu:IsPart vu hi)
  (h:Q (((dI n 0 lo:Nat):Int),1,dI n n hi-dI n 0 lo) s):wpAny (model prog w) A (Builtin.Slice.sliceApplied (.ref sl) (pure (n:Int))) Q E s:=by
 obtain⟨os,hos,hcs,hds⟩:=id hs;unfold Builtin.Slice.sliceApplied Builtin.Slice.sliceFields;refine wpAny_bind (wpAny_bind (wpAny_field hos hds (x:=vl) rfl (wpAny_bind (wpAny_field hos hds (x:=vu) rfl (wpAny_bind (wpAny_field hos hds (x:=.none) rfl (wpAny_pure ?_)))))));refine wpAny_bind (slicePart_none ?_);show wpAny _ _ (if ((1:Int)==0)=true then _ else _) _ _ s;rw[if_neg (by decide)];refine wpAny_bind (mq pl (wpAny_bind (mq pu (wpAny_bind (wpAny_pure ?_)))));show wpAny _ _ (match Builtin.Slice.sliceAdjust lo hi 1 (n:Int) with|(lo,hi)=>pure (lo,(1:Int),Builtin.Slice.slicePlaces lo hi 1)) _ _ s;rw[t7 lo hi n];show wpAny _ _ (pure (((dI n 0 lo:Nat):Int),(1:Int),Builtin.Slice.slicePlaces ((dI n 0 lo:Nat):Int) ((dI n n hi:Nat):Int) 1)) _ _ s;rw[tM];exact wpAny_pure h
theorem yQ(xs:Array Value)(i k:Nat):((List.range k).filterMap fun(m:Nat)=>xs[((i:Int)+(m:Int)*1).toNat]?).toArray=((xs.toList.drop i).take k).toArray:=by
 have e:(fun(m:Nat)=>xs[((i:Int)+(m:Int)*1).toNat]?)=fun m=>xs[i+m]?:=by
  funext m;have:((i:Int)+(m:Int)*1).toNat=i+m:=by omega
  rw[this]
 rw[e];have:=pick_run xs i k;rw[List.filterMap_map] at this;have e2:((fun x=>xs[x]?)∘fun x=>i+x)=fun m=>xs[i+m]?:=rfl;rw[e2] at this;rw[this]
theorem jH{t sl:Addr}{items:Array Value}{vl vu:Value}{lo hi:Option Int}{Q:Value->Shared->Prop}(ht:IsTup s.heap t items)(hs:s.heap.IsSliceOf sl vl vu .none)(pl:IsPart vl lo)(pu:IsPart vu hi)
  (hw:¬(dI items.size 0 lo=0/\dI items.size items.size hi=items.size))
  (h:Q (.ref s.heap.objs.size) {s with heap:=s.heap.push {cls:=.type "tuple",data:=.seq ((items.toList.drop (dI items.size 0 lo)).take (dI items.size items.size hi-dI items.size 0 lo)).toArray}})
  (hsz:items.size<=sizeLine):wpAny (model prog w) A (getItem (.ref t) (.ref sl)) Q E s:=by
 have htake:sizeOk (.seq ((items.toList.drop (dI items.size 0 lo)).take (dI items.size items.size hi-dI items.size 0 lo)).toArray):=by
  show((items.toList.drop (dI items.size 0 lo)).take (dI items.size items.size hi-dI items.size 0 lo)).toArray.size<=sizeLine;rw[List.size_toArray,List.length_take,List.length_drop,Array.length_toList];omega
 have hj:dI items.size items.size hi<=items.size:=EC _ _ (Nat.le_refl _) hi;obtain⟨os,hos,hcs,hds⟩:=id hs;have hTs:s.TypeIs (.ref sl) "slice":=⟨os,hos,hcs⟩;unfold getItem
 try with_reducible refine wpAny_holding ?_
 first|refine wpAny_bind (wpAny_pure ?_)|skip
 refine wpAny_bind (wpAny_sequenceKey ht.typeIs (by decide) ?_)
 refine wpAny_bind (wpAny_callSpecial?_slot (name:=Str.ofString "__getitem__") ht.typeIs PyProof.Rows.slot_tuple_getitem
  (wpAny_call_entry PyProof.Rows.slot_tuple_getitem ht.typeIs entry_tuple_getitem ?_ (args_tuple_getitem _ _)))
 show wpAny _ _ (Builtin.Tuple.tupleItemsOf (.ref t) >>= _) _ _ s;refine wpAny_bind (tupleItemsOf_ ht ?_);refine wpAny_bind (wpAny_typeOf hTs ?_);rw[if_pos (by decide)];refine wpAny_bind (jU hs pl pu ?_)
 have hno:¬((((dI items.size 0 lo:Nat):Int)==0&&(1:Int)==1&&(dI items.size items.size hi-dI items.size 0 lo)==items.size)=true):=by
  intro q;rw[Bool.and_eq_true,Bool.and_eq_true] at q;have q1:((dI items.size 0 lo:Nat):Int)=0:=eq_of_beq q.1.1;have q2:dI items.size items.size hi-dI items.size 0 lo=items.size:=eq_of_beq q.2;exact hw ⟨by omega,by omega⟩
 show wpAny _ _ (if (((dI items.size 0 lo:Nat):Int)==0&&(1:Int)==1&&(dI items.size items.size hi-dI items.size 0 lo)==items.size)=true then _ else _) _ _ s;rw[if_neg hno,yQ]
 first
  |exact wpAny_bind (m:=Builtin.Tuple.tupleExact _) (wpAny_newObj_type (wpAny_pure ⟨_,rfl,wpAny_pure h⟩) htake)
  |exact wpAny_bind (m:=Builtin.Tuple.tupleExact _) (wpAny_newObj_type (wpAny_bind (wpAny_pure (wpAny_pure ⟨_,rfl,wpAny_pure h⟩))) htake)
  |exact wpAny_bind (wpAny_bind (m:=Builtin.Tuple.tupleExact _) (wpAny_newObj_type (wpAny_pure (wpAny_pure ⟨_,rfl,wpAny_pure h⟩)) htake))
  |exact wpAny_bind (wpAny_bind (m:=Builtin.Tuple.tupleExact _) (wpAny_newObj_type (wpAny_pure ⟨_,rfl,wpAny_pure h⟩) htake))
end
end HT
namespace L2
open PySem PySem.Spec PyProof.Rows
abbrev TO:=St->Hp->(Option Int->Hp->Prop)->Prop
def PO(X:Cx)(e:Option Expr)(t:TO):Prop :=
 ∀(pins:List (Addr×Obj)) (s:Shared) (σ:St) (H:Hp) (Q:Option Int->Hp->Prop),Inv X pins σ H s->t σ H Q ->
  wpAny (model X.prog X.w) X.A (evalPart e X.env) (fun u s'=>∃o H',Inv X pins σ H' s'/\IsPart u o/\Q o H') X.xe s
def A5:TO:=fun _ H Q=>Q none H
def Hw(t:TE):TO:=fun σ H Q=>t σ H fun x H1=>∃i,x=.int i/\Q (some i) H1
theorem intsAre_of{ns:List Int}:∀{us:List Value},Vals (ns.map V.int) us->IntsAre us ns:=by
 induction ns with
 |nil=>intro us r;rw[List.map_nil] at r;cases r;exact .nil
 |cons n ns ih =>
  intro us r;rw[List.map_cons] at r;cases r with
  |cons r1 r2 =>
   obtain⟨t,e⟩:=r1;subst e;exact .cons n t (ih r2)
section
variable{X:Cx}{e:Expr}{te:TE}{lo hi:Option Expr}{tl th:TO}{pos p2:Pos}
theorem uX:PO X none A5:=by
 intro pins s σ H Q I h;rw[evalPart_none];exact wpAny_pure ⟨none,H,I,.none,h⟩
theorem v9(h:PE X e te):PO X (some e) (Hw te):=by
 intro pins s σ H Q I hw;rw[evalPart_some];refine bV (h pins s σ H _ I hw) fun u s1 ⟨x,H1,I1,r1,q1⟩=>?_;obtain⟨i,rfl,q⟩:=q1;obtain⟨t,rfl⟩:=r1;exact⟨some i,H1,I1,.int i t,q⟩
def Ie(X:Cx)(r:V->Option Int->Option Int->Hp->VK->Prop):Prop :=
 ∀(pins:List (Addr×Obj)) (s:Shared) (σ:St) (H:Hp) (x:V) (v vl vu:Value) (lo hi:Option Int) (sl:Addr) (Q:VK),Inv X pins σ H s->RelV x v->s.heap.IsSliceOf sl vl vu .none->IsPart vl lo->IsPart vu hi->r x lo hi H Q ->
  ∃T id,typeLookup (.type T) "__getitem__"=pure (some (.builtin id))/\s.TypeIs v T/\wpAny (model X.prog X.w) X.A (getItem v (.ref sl)) (EP X pins σ Q) X.xe s
def J7(r:V->Option Int->Option Int->Hp->VK->Prop)(te:TE)(tl th:TO):TE:=fun σ H Q=>te σ H fun x H1=>tl σ H1 fun l H2=>th σ H2 fun u H3=>r x l u H3 Q
theorem rV{r:V->Option Int->Option Int->Hp->VK->Prop}(hr:Ie X r)(he:PE X e te)(hl:PO X lo tl)(hu:PO X hi th):PE X (.Subscript e (.Slice lo hi none p2) pos) (J7 r te tl th):=by
 intro pins s σ H Q I h;refine Subscript_ (bV (he pins s σ H _ I h) fun v s1 ⟨x,H1,I1,r1,q1⟩=>?_);refine wpAny_Slice (bV (hl pins s1 σ H1 _ I1 q1) fun vl s2 ⟨l,H2,I2,pl,q2⟩=>bV (hu pins s2 σ H2 _ I2 q2) fun vu s3 ⟨u,H3,I3,pu,q3⟩=>?_);rw[evalPart_none];refine wpAny_pure ?_;have I4:Inv X pins σ H3 {s3 with heap:=s3.heap.push {cls:=.type "slice",data:=.fields #[vl,vu,.none]}}:=I3.kept (t':=s3.toks) fun b ob q=>Heap.get?_push_of_some _ q;obtain⟨T,id,hT,ht,hg⟩:=hr pins {s3 with heap:=s3.heap.push {cls:=.type "slice",data:=.fields #[vl,vu,.none]}} σ H3 x v vl vu l u s3.heap.objs.size Q I4 r1 (Heap.IsSliceOf.new ..) pl pu q3;show wpAny (model X.prog X.w) X.A (subscriptTail e (.Slice lo hi none p2) v (.ref s3.heap.objs.size)) (EP X pins σ Q) X.xe {s3 with heap:=s3.heap.push {cls:=.type "slice",data:=.fields #[vl,vu,.none]}};exact tail_any (ops:=[.ref s3.heap.objs.size,v]) ht hT hg (by with_unfolding_all rfl)
def kW(xs:List V)(lo hi:Option Int):List V:=(xs.drop (HT.dI xs.length 0 lo)).take (HT.dI xs.length xs.length hi-HT.dI xs.length 0 lo)
theorem kM(xs:List V)(lo hi:Option Int):(kW xs lo hi).length<=xs.length:=by
 unfold kW;rw[List.length_take,List.length_drop];omega
def IX(K:PySem.W.Frag):V->Option Int->Option Int->Hp->VK->Prop:=fun x lo hi H Q=>∃a xs,x=.ref a/\sI K H a xs /\
 ¬(HT.dI xs.length 0 lo=0/\HT.dI xs.length xs.length hi=xs.length)/\∀p,H p=none->Q (.ref p) (upd H p (.tup (kW xs lo hi)))
theorem FD:Ie X (IX X.K):=by
 intro pins s σ H x v vl vu lo hi sl Q I rx hs pl pu h;obtain⟨a,xs,rfl,hx,hw,q⟩:=h;cases rx;obtain⟨its,r,ht,hz⟩:=I.tuple hx;have hlen:its.toArray.size=xs.length:=by rw[List.size_toArray];exact r.length.symm
 refine⟨"tuple",_,PyProof.Rows.slot_tuple_getitem.lookup,ht.typeIs,?_⟩;refine HT.jH ht hs pl pu (by rw[hlen];exact hw) ?_ (by rw[hlen];exact hz);rw[hlen];refine⟨.ref s.heap.objs.size,_,I.laid (t':=s.toks) (o:=.tup (kW xs lo hi)) (fun b ob q=>Heap.get?_push_of_some _ q) (Nat.le_refl _) ?_,rfl,q _ (I.hok.fresh (Nat.le_refl _))⟩;exact⟨Nat.le_trans (kM xs lo hi) hz,_,(r.drop (HT.dI xs.length 0 lo)).take (HT.dI xs.length xs.length hi-HT.dI xs.length 0 lo),IsTup.new _ _⟩
end
def C5(n:Nat)(i:Int):Option Nat:=if 0<=i then (if i<n then some i.toNat else none) else if -(n:Int)<=i then some (i+n).toNat else none
def vd{α:Type}(xs:List α)(i:Int):Option α:=(C5 xs.length i).bind fun j=>xs[j]?
theorem pV{n:Nat}{i:Int}{j:Nat}(h:C5 n i=some j):seqIndex? i n=some j/\j<n/\-(n:Int)<=i/\i<n:=by
 unfold C5 at h;by_cases h0:0<=i
 .rw[if_pos h0] at h;by_cases h1:i<n
  .rw[if_pos h1] at h;have e:i.toNat=j:=Option.some.inj h;exact⟨by rw[seqIndex_of h0 h1,e],by omega,by omega,h1⟩
  .rw[if_neg h1] at h;cases h
 .rw[if_neg h0] at h;by_cases h1:-(n:Int)<=i
  .rw[if_pos h1] at h;have e:(i+n).toNat=j:=Option.some.inj h;exact⟨by rw[seqIndex_neg (by omega) h1,e],by omega,h1,by omega⟩
  .rw[if_neg h1] at h;cases h
theorem lM{α:Type}{xs:List α}{i:Int}{v:α}(h:vd xs i=some v):∃j,seqIndex? i xs.length=some j/\xs[j]?=some v/\j<xs.length/\-(xs.length:Int)<=i/\i<xs.length:=by
 unfold vd at h;cases e:C5 xs.length i with
 |none=>rw[e] at h;cases h
 |some j =>
  rw[e] at h;obtain⟨h1,h2,h3,h4⟩:=pV e;exact⟨j,h1,h,h2,h3,h4⟩
theorem Cp{α:Type}{xs:List α}{j:Nat}{v:α}(h:xs[j]?=some v):vd xs (j:Int)=some v:=by
 have hj:j<xs.length:=(List.getElem?_eq_some_iff.mp h).1
 have e:C5 xs.length (j:Int)=some j:=by
  unfold C5;rw[if_pos (by omega),if_pos (by omega)];simp
 unfold vd;rw[e];exact h
def pX(b:Expr):Prop:=∀o i,subscripted b false o i=operate [o,i] (getItem o i)
def I_(X:Cx)(r:R2):Prop :=
 ∀(value slice:Expr) (pins:List (Addr×Obj)) (s:Shared) (σ:St) (H:Hp) (x y:V) (v u:Value) (Q:VK),Inv X pins σ H s->RelV x v->RelV y u->r x y H Q ->
  subscripted slice false v u=operate [v,u] (getItem v u)->wpAny (model X.prog X.w) X.A (subscriptTail value slice v u) (EP X pins σ Q) X.xe s
def IZ(X:Cx)(id:String)(r:V->List V->Hp->VK->Prop):Prop :=
 ∀(pins:List (Addr×Obj)) (s:Shared) (σ:St) (H:Hp) (x:V) (xs:List V) (v:Value) (us:List Value) (Q:VK),Inv X pins σ H s->RelV x v->Vals xs us->r x xs H Q ->
  wpAny (model X.prog X.w) X.A (call (.builtin id) (v::us)) (EP X pins σ Q) X.xe s
section
variable{X:Cx}{a b:Expr}{ta tb:TE}{pos:Pos}
theorem vg{r:R2}(hr:I_ X r)(ha:PE X a ta)(hb:PE X b tb)(hs:pX b):PE X (.Subscript a b pos) (H_ r ta tb):=by
 intro pins s σ H Q I h;exact Subscript_ (D9 ha hb I h fun v u s2 x y H2 I2 rx ry q=>hr a b pins s2 σ H2 x y v u Q I2 rx ry q (hs _ _))
def IP(K:PySem.W.Frag):R2:=fun x y H Q=>∃p xs i v,x=.ref p/\y=.int i/\cW K H p xs/\vd xs i=some v/\Q v H
def IM(K:PySem.W.Frag):R2:=fun x y H Q=>∃p xs i v,x=.ref p/\y=.int i/\sI K H p xs/\vd xs i=some v/\Q v H
theorem AU:I_ X (IP X.K):=by
 intro value slice pins s σ H x y v u Q I rx ry h hs;obtain⟨p,xs,i,z,rfl,rfl,hq,he,q⟩:=h;cases rx;obtain⟨t,rfl⟩:=ry;obtain⟨its,r,pl,hz⟩:=I.list hq;obtain⟨j,h1,h2,h3,h4,h5⟩:=lM he;obtain⟨w,ew,rw'⟩:=r.get h2;have hl:=r.length;have hn:=tK;have fin:EP X pins σ Q w s:=⟨z,H,I,rw',q⟩;by_cases h0:0<=i
 .have hj:i.toNat=j:=by
   rw[seqIndex_of h0 h5] at h1;exact Option.some.inj h1
  exact item_listR pl.isList h0 (by omega) (by rw[hj];simpa using ew) fin hs
 .have hj:(i+(its.toArray.size:Int)).toNat=j:=by
   rw[seqIndex_neg (by omega) h4] at h1;rw[List.size_toArray,<-hl];exact Option.some.inj h1
  exact subscriptTail_builtinR (x:=w) pl.isList.typeIs slot_list_getitem.lookup
   (wpAny_getItem_list_neg (Q:=fun r s'=>r=w/\EP X pins σ Q r s') pl.isList (by omega) (by rw[List.size_toArray]<;>omega) (by omega) (by rw[hj];simpa using ew) ⟨rfl,fin⟩) hs
theorem tQ:I_ X (IM X.K):=by
 intro value slice pins s σ H x y v u Q I rx ry h hs;obtain⟨p,xs,i,z,rfl,rfl,hq,he,q⟩:=h;cases rx;obtain⟨t,rfl⟩:=ry;obtain⟨its,r,pl,hz⟩:=I.tuple hq;obtain⟨j,h1,h2,h3,h4,h5⟩:=lM he;obtain⟨w,ew,rw'⟩:=r.get h2;have hl:=r.length;have hn:=tK;have fin:EP X pins σ Q w s:=⟨z,H,I,rw',q⟩
 exact subscriptTail_builtinR (x:=w) pl.typeIs slot_tuple_getitem.lookup
  (getItem_tuple (j:=j) (Q:=fun r s'=>r=w/\EP X pins σ Q r s') pl (by omega) (by omega) (by rw[List.size_toArray,<-hl];exact h1) (by simpa using ew) ⟨rfl,fin⟩) hs
theorem pE(lo hi:Option Int)(n:Nat):(sliceBounds lo hi none n).1=((HT.dI n 0 lo:Nat):Int)/\(sliceBounds lo hi none n).2.1=((HT.dI n n hi:Nat):Int)/\(sliceBounds lo hi none n).2.2=1:=by
 refine⟨?_,?_,rfl⟩
 .cases lo with
  |none=>simp[sliceBounds,HT.dI]
  |some i =>
   simp only[sliceBounds,HT.dI,Option.getD_none,show(1:Int)>0 by decide,if_true];by_cases h:i<0
   .simp only[h,if_true]<;>omega
   .simp only[h,if_false]<;>omega
 .cases hi with
  |none=>simp[sliceBounds,HT.dI]
  |some i =>
   simp only[sliceBounds,HT.dI,Option.getD_none,show(1:Int)>0 by decide,if_true];by_cases h:i<0
   .simp only[h,if_true]<;>omega
   .simp only[h,if_false]<;>omega
theorem nN(its:List Value)(lo hi:Option Int):slicePick its.toArray lo hi none=((its.drop (HT.dI its.length 0 lo)).take (HT.dI its.length its.length hi-HT.dI its.length 0 lo)).toArray:=by
 obtain⟨h1,h2,h3⟩:=pE lo hi its.toArray.size;unfold slicePick;rw[h1,h2,h3];simp only[sliceRange_one,pick_run,List.size_toArray]<;>rfl
def Js(K:PySem.W.Frag):V->Option Int->Option Int->Hp->VK->Prop:=fun x lo hi H Q=>∃a xs,x=.ref a/\cW K H a xs/\∀p,H p=none->Q (.ref p) (upd H p (.lst (kW xs lo hi)))
theorem Cj:Ie X (Js X.K):=by
 intro pins s σ H x v vl vu lo hi sl Q I rx hs pl pu h;obtain⟨a,xs,rfl,hx,q⟩:=h;cases rx;obtain⟨its,r,ht,hz⟩:=I.list hx;have hlen:=r.length;refine⟨"list",_,slot_list_getitem.lookup,ht.isList.typeIs,?_⟩;refine wpAny_getItem_list_slice ht.isList hs pl pu .none (by simp) ?_ (by rw[List.size_toArray]<;>omega);rw[nN,<-hlen];refine⟨.ref s.heap.objs.size,_,I.laid (t':=s.toks) (o:=.lst (kW xs lo hi)) (fun b ob q=>Heap.get?_push_of_some _ q) (Nat.le_refl _) ?_,rfl,q _ (I.hok.fresh (Nat.le_refl _))⟩;exact⟨Nat.le_trans (kM xs lo hi) hz,_,0,(r.drop (HT.dI xs.length 0 lo)).take (HT.dI xs.length xs.length hi-HT.dI xs.length 0 lo),Heap.get?_push_size _ rfl⟩
def iS:V->Bool
 |.non=>true
 |.bl _=>true
 |.int _=>true
 |.str _=>true
 |_=>false
def AD:V->V->Bool
 |.non,.non=>true
 |.bl a,.bl b=>a==b
 |.bl a,.int b=>(if a then 1 else 0)==b
 |.int a,.bl b=>a==(if b then 1 else 0)
 |.int a,.int b=>a==b
 |.str a,.str b=>a==b
 |_,_=>false
theorem D_{A:Around}{s:Shared}{y x:V}{u v:Value}(ry:RelV y u)(rx:RelV x v)(fy:iS y=true)(fx:iS x=true):SeqAt.EqAt A s u v (AD y x):=by
 cases y with
 |non =>
  cases ry;cases x with
  |non=>cases rx;exact SeqAt.EqAt.same _
  |bl b=>cases rx;exact SeqAt.EqAt.none_bool b
  |int b=>obtain⟨t,rfl⟩:=rx;exact SeqAt.EqAt.none_int b t
  |str b=>obtain⟨t,rfl⟩:=rx;exact SeqAt.EqAt.none_str b t
  |_=>exact absurd (show false=true from fx) Bool.false_ne_true
 |bl a =>
  cases ry;cases x with
  |non=>cases rx;exact SeqAt.EqAt.bool_none a
  |bl b=>cases rx;exact SeqAt.EqAt.bool_bool a b
  |int b=>obtain⟨t,rfl⟩:=rx;exact SeqAt.EqAt.bool_int a b t
  |str b=>obtain⟨t,rfl⟩:=rx;exact SeqAt.EqAt.bool_str a b t
  |_=>exact absurd (show false=true from fx) Bool.false_ne_true
 |int a =>
  obtain⟨t',rfl⟩:=ry;cases x with
  |non=>cases rx;exact SeqAt.EqAt.int_none a t'
  |bl b=>cases rx;exact SeqAt.EqAt.int_bool a t' b
  |int b=>obtain⟨t,rfl⟩:=rx;exact SeqAt.EqAt.int_int a t' b t
  |str b=>obtain⟨t,rfl⟩:=rx;exact SeqAt.EqAt.int_str a t' b t
  |_=>exact absurd (show false=true from fx) Bool.false_ne_true
 |str a =>
  obtain⟨t',rfl⟩:=ry;cases x with
  |non=>cases rx;exact SeqAt.EqAt.str_none a t'
  |bl b=>cases rx;exact SeqAt.EqAt.str_bool a t' b
  |int b=>obtain⟨t,rfl⟩:=rx;exact SeqAt.EqAt.str_int a t' b t
  |str b=>obtain⟨t,rfl⟩:=rx;exact SeqAt.EqAt.str_str a t' b t
  |_=>exact absurd (show false=true from fx) Bool.false_ne_true
 |_=>exact absurd (show false=true from fy) Bool.false_ne_true
def tI(x:V)(u:Value):Bool:=match u with
 |.none=>AD .non x
 |.bool b=>AD (.bl b) x
 |.int i _=>AD (.int i) x
 |.str z _=>AD (.str z) x
 |_=>false
theorem zU{x y:V}{u:Value}(r:RelV y u)(f:iS y=true):tI x u=AD y x:=by
 cases y with
 |non=>cases r;rfl
 |bl b=>cases r;rfl
 |int i=>obtain⟨t,rfl⟩:=r;rfl
 |str z=>obtain⟨t,rfl⟩:=r;rfl
 |_=>exact absurd (show false=true from f) Bool.false_ne_true
theorem jw{x:V}:∀{xs:List V} {us:List Value},Vals xs us->xs.all iS=true->us.any (tI x)=xs.any fun y=>AD y x
 |_,_,.nil,_=>rfl
 |y::xs,u::us,.cons r t,f=>by
  rw[List.all_cons,Bool.and_eq_true] at f;rw[List.any_cons,List.any_cons,zU r f.1,jw t f.2]
theorem g7{A:Around}{s:Shared}{x:V}{v:Value}(rx:RelV x v)(fx:iS x=true):∀{xs:List V} {us:List Value},Vals xs us->xs.all iS=true->∀u∈us,SeqAt.EqAt A s u v (tI x u)
 |_,_,.nil,_=>fun u hu=>by cases hu
 |y::xs,u::us,.cons r t,f=>fun u' hu=>by
  rw[List.all_cons,Bool.and_eq_true] at f;rcases List.mem_cons.mp hu with rfl|hu
  .rw[zU r f.1];exact D_ r rx f.1 fx
  .exact g7 rx fx t f.2 u' hu
def FU(x:V)(xs:List V):Bool:=xs.any fun y=>AD y x
def Jv(K:PySem.W.Frag)(neg:Bool):R2:=fun x y H Q=>∃p xs,y=.ref p/\(cW K H p xs\/sI K H p xs)/\iS x=true/\xs.all iS=true/\Q (.bl (if neg then !FU x xs else FU x xs)) H
theorem oh:iR X (compareOp .In) (Jv X.K false):=by
 intro pins s σ H x y v u Q I rx ry h;obtain⟨p,xs,rfl,hq,fx,fs,q⟩:=h;cases ry;rcases hq with hq|hq
 .obtain⟨its,r,pl,hz⟩:=I.list hq;refine SeqAt.in_listAt (tI x) pl.isList (fun w hw=>g7 rx fx r fs w (by simpa using hw)) ⟨.bl _,H,I,rfl,?_⟩;rw[show its.toArray.any (tI x)=its.any (tI x) by simp,jw r fs];exact q
 .obtain⟨its,r,pl,hz⟩:=I.tuple hq;refine SeqAt.in_tupleAt (tI x) pl (fun w hw=>g7 rx fx r fs w (by simpa using hw)) ⟨.bl _,H,I,rfl,?_⟩;rw[show its.toArray.any (tI x)=its.any (tI x) by simp,jw r fs];exact q
theorem o5:iR X (compareOp .NotIn) (Jv X.K true):=by
 intro pins s σ H x y v u Q I rx ry h;obtain⟨p,xs,rfl,hq,fx,fs,q⟩:=h;cases ry;rcases hq with hq|hq
 .obtain⟨its,r,pl,hz⟩:=I.list hq;refine SeqAt.notIn_listAt (tI x) pl.isList (fun w hw=>g7 rx fx r fs w (by simpa using hw)) ⟨.bl _,H,I,rfl,?_⟩;rw[show its.toArray.any (tI x)=its.any (tI x) by simp,jw r fs];exact q
 .obtain⟨its,r,pl,hz⟩:=I.tuple hq;refine SeqAt.notIn_tupleAt (tI x) pl (fun w hw=>g7 rx fx r fs w (by simpa using hw)) ⟨.bl _,H,I,rfl,?_⟩;rw[show its.toArray.any (tI x)=its.any (tI x) by simp,jw r fs];exact q
theorem pY:gT X (.builtin "len") (fun xs H Q=>∃p ys,xs=[.ref p]/\(cW X.K H p ys\/sI X.K H p ys)/\Q (.int ys.length) H):=by
 intro pins s σ H xs us Q I r h;obtain⟨p,ys,rfl,hq,q⟩:=h;obtain⟨u,rfl,rx⟩:=vals1 r;cases rx;have hn:=tK;rcases hq with hq|hq
 .obtain⟨its,r',pl,hz⟩:=I.list hq;have hlen:=r'.length;exact Calls.call_len_list pl.isList (by simp only[List.size_toArray]<;>omega) ⟨.int ys.length,H,I.tok _,⟨s.toks+1,by rw[List.size_toArray,hlen]⟩,q⟩
 .obtain⟨its,r',pl,hz⟩:=I.tuple hq;have hlen:=r'.length;exact len_tuple pl (by simp only[List.size_toArray]<;>omega) ⟨.int ys.length,H,I.tok _,⟨s.toks+1,by rw[List.size_toArray,hlen]⟩,q⟩
theorem o6:gT X (.type "list") (fun xs H Q=>∃p ys,xs=[.ref p]/\(cW X.K H p ys\/sI X.K H p ys)/\∀l,H l=none->Q (.ref l) (upd H l (.lst ys))):=by
 intro pins s σ H xs us Q I r h;obtain⟨p,ys,rfl,hq,q⟩:=h;obtain⟨u,rfl,rx⟩:=vals1 r;cases rx
 have fin:∀(its:List Value),Vals ys its->ys.length<=sizeLine->∀(h':Heap) (c':Nat),(∀b o',s.heap.get? b=some o'->h'.get? b=some o') ->
   h'.get? s.heap.objs.size=some {cls:=.type "list",dict:=none,data:=.seq its.toArray c',slots:=#[]}->EP X pins σ Q (.ref s.heap.objs.size) {s with heap:=h'}:=fun its r' hz h' c' kp e =>
  ⟨.ref s.heap.objs.size,_,I.laid (t':=s.toks) kp (Nat.le_refl _) (show fG X.prog X.w _ h' _ (.lst ys) from ⟨hz,its,c',r',e⟩),rfl,q _ (I.hok.fresh (Nat.le_refl _))⟩
 rcases hq with hq|hq
 .obtain⟨its,r',pl,hz⟩:=I.list hq;have hlen:=r'.length;obtain⟨o,ho,hc,n,hd⟩:=pl.isList;exact call_list_seq p (.inl rfl) ho hc hd (fun h' c' kp e=>fin its r' hz h' c' kp e) (by simp only[List.size_toArray]<;>omega)
 .obtain⟨its,r',pl,hz⟩:=I.tuple hq;have hlen:=r'.length;obtain⟨o,ho,hc,n,hd⟩:=pl;exact call_list_seq p (.inr rfl) ho hc hd (fun h' c' kp e=>fin its r' hz h' c' kp e) (by simp only[List.size_toArray]<;>omega)
def IL(K:PySem.W.Frag)(T:String)(x:V)(H:Hp):Prop:=match x with
 |.str _=>T="str"
 |.int _=>T="int"
 |.ref p=>(T="list"/\∃xs,cW K H p xs)\/(T="tuple"/\∃o,K.lookup p=some o/\o.cls=.type "tuple"/\o.dict=none) \/
   (T="dict"/\((∃kvs,H p=some (.dK kvs))\/∃kvs,H p=some (.dT kvs)))\/(T="set"/\∃S n,H p=some (.set S n))
 |_=>False
theorem za{pins:List (Addr×Obj)}{σ:St}{H:Hp}{s:Shared}{T:String}{x:V}{v:Value}(I:Inv X pins σ H s)(r:RelV x v)(ty:IL X.K T x H):
  s.TypeIs v T/\∀a,v=.ref a->∃ob,s.heap.get? a=some ob/\ob.dict=none:=by
 cases x with
 |str z =>
  obtain⟨t,rfl⟩:=r;cases (show T="str" from ty);exact⟨typeIs_str s z t,fun _ e=>nomatch e⟩
 |int i =>
  obtain⟨t,rfl⟩:=r;cases (show T="int" from ty);exact⟨typeIs_int s i t,fun _ e=>nomatch e⟩
 |ref p =>
  cases r;rcases ty with⟨rfl,xs,hq⟩|⟨rfl,o,hk,hc,hd⟩|⟨rfl,hk⟩|⟨rfl,S,n,hk⟩
  .obtain⟨its,_,pl,_⟩:=I.list hq;refine⟨pl.isList.typeIs,fun a e=>?_⟩;cases e;obtain⟨o,n,e,c,hd,_⟩:=pl;exact⟨o,e,hd⟩
  .refine⟨⟨o,I.Fx p o hk,hc⟩,fun a e=>?_⟩;cases e;exact⟨o,I.Fx _ o hk,hd⟩
  .have z:∃o,s.heap.get? p=some o/\o.ExactDict:=by
    rcases hk with⟨kvs,hk⟩|⟨kvs,hk⟩
    .obtain⟨_,_,_,_,o,_,_,e,ex,_⟩:=I.hok p _ hk;exact⟨o,e,ex⟩
    .obtain⟨_,_,_,_,o,_,_,e,ex,_⟩:=I.hok p _ hk;exact⟨o,e,ex⟩
   obtain⟨o,e,ex⟩:=z;refine⟨⟨o,e,ex.1⟩,fun a e2=>?_⟩;cases e2;exact⟨o,e,ex.2.1⟩
  .obtain⟨o,_,_,_,e,ex,_⟩:=I.hok p _ hk;refine⟨⟨o,e,ex.1⟩,fun a e2=>?_⟩;cases e2;exact⟨o,e,ex.2.1⟩
 |_=>exact False.elim ty
def Jd(K:PySem.W.Frag)(T:String)(r:V->List V->Hp->VK->Prop)(to:TE):TE:=fun σ H Q=>to σ H fun x H1=>IL K T x H1/\r x [] H1 Q
def JX(K:PySem.W.Frag)(T:String)(r:V->List V->Hp->VK->Prop)(to:TE)(t:TA):TE:=fun σ H Q=>to σ H fun x H1=>IL K T x H1/\t σ H1 fun xs H2=>r x xs H2 Q
variable{o e:Expr}{es:List Expr}{to:TE}{t:TA}{name:Str}{apos cpos:Pos}{T id:String}{r:V->List V->Hp->VK->Prop}
theorem E2(pa:PlainAttrs T)(slot:Slot T name id)(hty:typeOf (.builtin id)=pure (.type "method_descriptor"))(hm:IZ X id r)(ho:PE X o to)
  (hbase:attributeBase o name X.env (eval o X.env)=eval o X.env:=by rfl) (hline:(apos.endLine==cpos.line)=true:=by rfl):PE X (.Call (.Attribute o name apos) [] [] cpos) (Jd X.K T r to):=by
 intro pins s σ H Q I h;refine wpAny_Call_method0_late hbase hline (bV (ho pins s σ H _ I h) fun v s1 ⟨x,H1,I1,r1,ty,q1⟩=>?_);obtain⟨h1,h2⟩:=za I1 r1 ty;exact⟨T,id,pa,slot,hty,h1,h2,Calls.callWith_builtin rfl (PySem.evalArgs_none (hm pins s1 σ H1 x [] v [] Q I1 r1 .nil q1))⟩
theorem Hc(pa:PlainAttrs T)(slot:Slot T name id)(hty:typeOf (.builtin id)=pure (.type "method_descriptor"))(hm:IZ X id r)(ho:PE X o to)(ha:PA X (e::es) t)
  (hbase:attributeBase o name X.env (eval o X.env)=eval o X.env:=by rfl)
  (hfew:((backTo cpos (starEach (e::es) X.env)).all (fun x=>!x.1)&&(backToKw cpos (keywordEach [] X.env)).all (fun x=>x.1.isSome)
   && decide ((e::es).length+([]:List Keyword).length+(if ([]:List Keyword).isEmpty then 0 else 1)<30))=true:=by rfl)
  (hline:(apos.endLine==cpos.line)=true:=by rfl) (hs:starEach (e::es) X.env=(false,eval e X.env)::starEach es X.env:=by rfl) (hplain:(backTo cpos (starEach es X.env)).any (·.1)=false:=by rfl):
  PE X (.Call (.Attribute o name apos) (e::es) [] cpos) (JX X.K T r to t):=by
 intro pins s σ H Q I h;refine wpAny_Call_method_late hbase hfew hline rfl (bV (ho pins s σ H _ I h) fun v s1 ⟨x,H1,I1,r1,ty,q1⟩=>?_);obtain⟨h1,h2⟩:=za I1 r1 ty;refine⟨T,id,pa,slot,hty,h1,h2,?_⟩;have hA:=ha cpos pins s1 σ H1 _ I1 q1;rw[hs] at hA ⊢;refine Calls.callWith_builtin (by show(false || (backTo cpos (starEach es X.env)).any (·.1))=false;rw[hplain]<;>rfl) (Calls.evalArgs_plain ?_);exact bV hA fun us s2 ⟨vs,H2,I2,r2,q2⟩=>hm pins s2 σ H2 x vs v us Q I2 r1 r2 q2
end
def JW(X:Cx)(id:String)(r:V->List V->Hp->VK->Prop):Prop :=
 ∀(pins:List (Addr×Obj)) (s:Shared) (σ:St) (H:Hp) (x:V) (xs:List V) (v:Value) (us:List Value) (Q:VK),Inv X pins σ H s->RelV x v->Vals xs us->r x xs H Q ->
  wpAny (model X.prog X.w) X.A (call (.builtin id) (v::us)) (EP X pins σ Q) X.xe s
theorem Vals.one:∀{x:V} {us:List Value},Vals [x] us->∃u,us=[u]/\RelV x u
 |_,_,.cons r .nil=>⟨_,rfl,r⟩
theorem Vals.rep{xs:List V}{us:List Value}(h:Vals xs us):∀k:Nat,Vals (List.replicate k xs).flatten (List.replicate k us).flatten
 |0=>.nil
 |k+1=>by
  rw[List.replicate_succ,List.replicate_succ,List.flatten_cons,List.flatten_cons];exact Vals.append h (Vals.rep h k)
theorem foldl_rep(its:List Value):∀(k:Nat) (acc:List Value),
  List.foldl (fun x1 x2=>x1++x2) acc.toArray (List.replicate k its.toArray)=(acc++(List.replicate k its).flatten).toArray
 |0,acc=>by simp
 |k+1,acc=>by
  have e:acc.toArray++its.toArray=(acc++its).toArray:=by simp
  have e2:(acc++its)++(List.replicate k its).flatten=acc++(List.replicate (k+1) its).flatten:=by
   rw[List.replicate_succ,List.flatten_cons,List.append_assoc]
  rw[<-e2,<-foldl_rep its k (acc++its),<-e,List.replicate_succ,List.foldl_cons]
section
variable{X:Cx}{pins:List (Addr×Obj)}{σ:St}{H:Hp}{s:Shared}{l b:Addr}{xs ys zs:List V}
theorem Inv.IA{its its':List Value}{n:Nat}{f:Array Value->Array Value}{t':Nat}(I:Inv X pins σ H s)(hH:H l=some (.lst xs))
  (e:s.heap.get? l=some {cls:=.type "list",data:=.seq its.toArray n}) (hf:f its.toArray=its'.toArray) (hv:Vals ys its') (hz:ys.length<=sizeLine):
  Inv X pins σ (upd H l (.lst ys)) {s with heap:=s.heap.update l (Obj.mapSeq f),toks:=t'}:=by
 have q:=PySem.IsL.update e f;rw[hf] at q;refine I.write (x:=l) (e:=l) (by rw[hH];exact trivial) (.inl rfl) (fun b' u hb hu=>(Heap.get?_update_other s.heap (Obj.mapSeq f) (Ne.symm hb)).trans hu) ⟨_,q⟩ ?_;exact⟨hz,its',_,hv,q⟩
theorem Inv.BZ{its:List Value}{t':Nat}(I:Inv X pins σ H s)(hv:Vals ys its)(hz:ys.length<=sizeLine):
  Inv X pins σ (upd H s.heap.objs.size (.lst ys)) {s with heap:=s.heap.push {cls:=.type "list",data:=.seq its.toArray},toks:=t'} :=
 I.laid (fun _ _ q=>Heap.get?_push_of_some _ q) (Nat.le_refl _) ⟨hz,its,0,hv,Heap.get?_push_size _ rfl⟩
theorem Inv.fresh(I:Inv X pins σ H s):H s.heap.objs.size=none:=I.hok.fresh (Nat.le_refl _)
theorem Inv.Bs(I:Inv X pins σ H s)(hH:H l=some (.lst xs)):xs.length<=sizeLine/\∃(its:List Value) (n:Nat),Vals xs its/\xs.length=its.length/\s.heap.get? l=some {cls:=.type "list",data:=.seq its.toArray n}:=by
 obtain⟨z,its,n,r,e⟩:=I.hok l _ hH;exact⟨z,its,n,r,r.length,e⟩
theorem xQ{n:Nat}(h:n<=sizeLine):Builtin.List.listTooLong n=false:=by
 unfold Builtin.List.listTooLong;exact decide_eq_false (by omega)
end
section
variable{X:Cx}
def BM:V->List V->Hp->VK->Prop:=fun x vs H Q=>∃l xs y,x=.ref l/\vs=[y]/\H l=some (.lst xs)/\xs.length<sizeLine/\Q .non (upd H l (.lst (xs++[y])))
theorem oq:JW X "list.append" BM:=by
 intro pins s σ H x vs v us Q I rx rv h;obtain⟨l,xs,y,rfl,rfl,hH,hz,q⟩:=h;cases rx;obtain⟨u,rfl,ru⟩:=rv.one;obtain⟨z,its,n,r,hl,e⟩:=I.Bs hH;refine call_meets F.slot_list_append ⟨_,e,rfl⟩ F.entry_list_append (F.args_list_append_2 _ _) (PySem.list_append l its.toArray n u (by rw[List.size_toArray];omega)) ⟨e,?_⟩;refine⟨.non,_,I.IA (its':=its++[u]) hH e (by simp) (r.append (.cons ru .nil)) ?_,rfl,q⟩;rw[List.length_append,List.length_singleton];omega
def Jp:R2:=fun x y H Q=>∃l b xs zs,x=.ref l/\y=.ref b/\H l=some (.lst xs)/\H b=some (.lst zs)/\xs.length+zs.length<=sizeLine/\∀p,H p=none->Q (.ref p) (upd H p (.lst (xs++zs)))
theorem DF:iR X (binaryOp .Add) Jp:=by
 intro pins s σ H x y v u Q I rx ry h;obtain⟨l,b,xs,zs,rfl,rfl,hH,hB,hz,q⟩:=h;cases rx;cases ry;obtain⟨z,its,n,r,hl,e⟩:=I.Bs hH;obtain⟨z2,its2,n2,r2,hl2,e2⟩:=I.Bs hB;refine PySem.P.add_list e e2 ?_ (by rw[List.size_toArray,List.size_toArray];omega);have ea:its.toArray++its2.toArray=(its++its2).toArray:=by simp
 rw[ea];exact⟨.ref _,_,I.BZ (t':=s.toks) (r.append r2) (by rw[List.length_append];omega),rfl,q _ I.fresh⟩
def IV:R2:=fun x y H Q=>∃l k xs,x=.ref l/\y=.int k/\H l=some (.lst xs)/\-(2^63)<=k/\k<2^63/\xs.length*k.toNat<=sizeLine /\
 ∀p,H p=none->Q (.ref p) (upd H p (.lst (List.replicate k.toNat xs).flatten))
theorem len_rep{α:Type}(xs:List α)(k:Nat):(List.replicate k xs).flatten.length=k*xs.length:=by
 induction k with
 |zero=>simp
 |succ k ih=>rw[List.replicate_succ,List.flatten_cons,List.length_append,ih,Nat.succ_mul,Nat.add_comm]
theorem Du:iR X (binaryOp .Mult) IV:=by
 intro pins s σ H x y v u Q I rx ry h;obtain⟨l,k,xs,rfl,rfl,hH,h1,h2,hz,q⟩:=h;cases rx;obtain⟨t,rfl⟩:=ry;obtain⟨z,its,n,r,hl,e⟩:=I.Bs hH;have hlen:its.toArray.size*k.toNat<=sizeLine:=by rw[List.size_toArray,<-hl];exact hz
 have hcap:¬its.toArray.size*k.toNat>(2^63-1)/8:=by
  have:(sizeLine:Nat)<=(2^63-1)/8:=by decide
  omega
 have hfit:¬(!Builtin.List.listFitsIndex k)=true:=by
  rw[fitsIndex_both h1 h2];exact Bool.false_ne_true
 have hlong:¬Builtin.List.listTooLong (its.toArray.size*k.toNat)=true:=by
  rw[xQ hlen];exact Bool.false_ne_true
 have hnew:List.foldl (fun x1 x2=>x1++x2) #[] (List.replicate (if its.toArray.isEmpty=true then 0 else k.toNat) its.toArray)=(List.replicate k.toNat its).flatten.toArray:=by
  have f0:∀m:Nat,List.foldl (fun x1 x2=>x1++x2) #[] (List.replicate m its.toArray)=(List.replicate m its).flatten.toArray:=fun m=>by
   have:=foldl_rep its m [];rw[List.nil_append] at this;exact this
  rw[f0];cases its with
  |nil=>simp
  |cons a r'=>rw[if_neg (by simp)]
 refine wpAny_binaryOp_repeat_ref (T:="list") (U:="int") (by decide) ⟨_,e,rfl⟩ (fun s'=>typeIs_int s' k t) noFill_list_mul F.fills_int_mul F.slot_int_rmul repeat_list F.slot_int_index.lookup
  (call_meets F.slot_int_rmul (typeIs_int s k t) F.entry_int_rmul (F.args_int_rmul_2 _ _) (int___rmul___int_list k t l its.toArray n)
   ⟨e,rfl,⟨_,e,rfl⟩,call_meets F.slot_list_mul ⟨_,e,rfl⟩ F.entry_list_mul (F.args_list_mul_2 _ _) (AutoListH.list___mul___list_int_3 l its.toArray n k t hfit hcap hlong) ⟨e,?_⟩⟩)
 rw[hnew];exact⟨.ref _,_,I.BZ (t':=s.toks) (r.rep k.toNat) (by rw[len_rep,Nat.mul_comm];exact hz),rfl,q _ I.fresh⟩
end
section
variable{prog:Program}{w:World}{A:Around}{E:Value->Shared->Prop}{s:Shared}
end
section
variable{X:Cx}
end
end L2
namespace Att
open PySem PySem.W PySem.Calls PyProof.Rows
theorem k4{P:Params}{h:Heap}:∀(ns:List Int) (vs:List Value),WellAll P h vs (ns.map WData.int)->IntsAre vs ns:=by
 intro ns
 induction ns with
 |nil =>
  intro vs w;rw[List.map_nil] at w;cases w;exact .nil
 |cons n ns ih =>
  intro vs w;rw[List.map_cons] at w;cases w with
  |cons a b =>
   cases a;exact .cons _ _ (ih _ b)
theorem xr{l:OpenLaw}{n:Nat}(hn:l.most=some n){P:Params}{h:Heap}{args:List WData}{vals:List Value}
  (hpre:l.row.toRowW.claim.pre args=true) (hwl:WellAll P h vals args):
  ∃a vs ns,vals=[Value.ref a]/\args=[WData.list (ns.map WData.int)]/\h.get? a=some {cls:=.type "list",data:=.seq vs.toArray}/\IntsAre vs ns/\ns.length<=n:=by
 have hsh:WShape.hasAll [] args [.list .int]=true:=(pre_splitW hpre).1;have hc:l.pre.holds [] {args:=args}=true:=(pre_splitW hpre).2;obtain⟨d,r,rfl,h1,h2⟩:=hasAllW_cons hsh;obtain rfl:=hasAllW_nil h2;obtain⟨xs,rfl,h3⟩:=hasW_list h1;obtain⟨ns,rfl⟩:=items_int h3
 have hlen:ns.length<=n:=by
  unfold OpenLaw.pre at hc
  have h4:(WTm.not (.lt (.lit (.int (n:Int))) (.len (.arg 0)))).holds [] {args:=[.list (ns.map .int)]}=true:=by
   have h4:=(holds_andW hc).1;rw[hn] at h4;exact h4
  have h5:=condW_of h4 (w_not (w_lt w_lit (w_len_list (w_arg rfl))));rw[List.length_map] at h5;refine Nat.le_of_not_lt fun q=>?_;have q':(n:Int)<((ns.length:Nat):Int):=by omega
  first
   |(rw[decide_eq_true q'] at h5;exact absurd h5 (by decide))
   |(simp at h5;omega)
 cases hwl with
 |cons w1 w2 =>
  cases w2;cases w1 with
  |list ho hall=>exact⟨_,_,ns,rfl,rfl,ho,k4 ns _ hall,hlen⟩
theorem xq(l:OpenLaw)(args:List WData):l.row.toRowW.claim.post args (.bool true) args=true :=
 postW_of (r:=l.row.toRowW) (X:=(true==true))
  (show WShape.has [] (.bool true) .bool=true by first|rfl|decide|simp[WShape.has,WShape.arms,WShape.armsAll])
  (show(WTm.eq .res (.lit (.bool true))).value [] {args:=args,res:=some (.bool true),after:=args}=some (.bool (true==true)) from w_eq_bool (w_res rfl) w_lit) rfl
theorem rF{l:OpenLaw}{n:Nat}{q:Program}{loose:List Str}{XP:(Str->Option Value)->Heap->Prop}{YP:World->Heap->Prop}{d:DefRec}
  (hn:l.most=some n) (hdf:d.params.defaults=[])
  (call:∀(w:World) (s₀ s₁:Shared) (mg mb:Str->Option Value) (fa:Addr) (o:Obj) (pm cd doc:Value) (a:Addr) (vs:List Value) (ns:List Int),
   Ground q loose [] XP w s₀ mg mb s₁.heap->YP w s₁.heap ->
   s₁.heap.get? fa=some o->o.data=.func (docDef d.name d.params d.body d.scope pm cd doc)->s₁.heap.CodeRec cd d.name->mg d.name=some (.ref fa) ->
   s₁.heap.get? a=some {cls:=.type "list",data:=.seq vs.toArray}->IntsAre vs ns->ns.length<=n->s₁.gens=#[] ->
   codeAny (model l.prog w) callerA (.call (.ref fa) ⟨[.ref a],[]⟩) (fun r s'=>r=.ok (.ret (.bool true))/\OldK s₁.heap s'.heap/\s'.os=s₁.os/\AllBare s'.gens) s₁):
  WalkO q loose XP YP l.row.toRowW d [] (fun f vs=>PySem.call f vs):=by
 intro w s₀ s₁ mg mb G Y fa o pm cd doc dV kV ho hd hcd hD hmg hg args vals as hpre hlay hrd hwl hlo;obtain rfl:dV=.none:=Dflts.none hD hdf;obtain rfl:kV=.none:=Dflts.noKw hD;obtain⟨a,vs,ns,rfl,rfl,hobj,hints,hlen⟩:=xr hn hpre hwl;refine enter_call (codeAny_mono (call w s₀ s₁ mg mb fa o pm cd doc a vs ns G Y ho (fd_plain hd) hcd hmg hobj hints hlen hg) fun r s' hq=>?_);obtain⟨rfl,h2,h3,h4⟩:=hq;exact⟨.inl ⟨.bool true,.bool true,[],rfl,fun _=>rfl,.bool true,xq l _,fun _=>⟨List.Pairwise.nil,fun _ hm=>(nomatch hm)⟩⟩,h2,h3,h4⟩
section
variable{prog:Program}{w:World}{A:Around}{E:Value->Shared->Prop}{s:Shared}{K:Frag}
end
end Att
namespace L2
open PySem PySem.Spec PyProof.Rows
theorem oR:∀{vs:List Value} {ns:List Int},IntsAre vs ns->Vals (ns.map V.int) vs
 |_,_,.nil=>.nil
 |_,_,.cons n t h=>.cons ⟨t,rfl⟩ (oR h)
def B3(H:Hp):Prop:=∀b,H b=none\/∃o xs,H b=some (.frz o (.lst xs))
theorem zu{P:Program}{w:World}{K:PySem.W.Frag}{mg mb:Str->Option Value}{CX:xm}{k:Nat}{fa a:Addr}{fd:FuncData}{x:Str}{sp:Sp}{s₁:Shared}{vs:List Value}{ns:List Int}
  (KX:K.In s₁.heap) (hns:s₁.heap.Ns mainGlobals mg) (hb:s₁.heap.Ns builtinsNs mb) (hbb:∀x:Str,x≠"__name__"->mb x=bootBuiltins x) (hlim:s₁.heap.NoLimit) (hg:s₁.gens=#[])
  (ha:s₁.heap.get? a=some {cls:=.type "list",data:=.seq vs.toArray}) (hi:IntsAre vs ns) (hl:ns.length<=sizeLine) (hr:cZ k callerA)
  (F:∀base:Heap,K.In base->base.Ns mainGlobals mg->fj P w K mg base CX k fa fd [x] sp) (hbind:∀(s:Shared) (u:Value),BindsTo s fd ⟨[u],[]⟩ [(x,u)])
  (hsp:∀H:Hp,B3 H->cW K H a (ns.map V.int)->sp [.ref a] H (fun v _=>v=.bl true) fun _ _ _=>False)
  (hCX:∀H e s',CX [] H s₁ (fun _ _ _=>False) e s'->False):
  codeAny (model P w) callerA (.call (.ref fa) ⟨[.ref a],[]⟩) (fun r s'=>r=.ok (.ret (.bool true))/\OldK s₁.heap s'.heap/\s'.os=s₁.os/\AllBare s'.gens) s₁:=by
 have rv:=oR hi;have lenV:=hi.length
 -- from an abstract heap in which nothing but the script may be tracked
 have core:∀H:Hp,B3 H->cW K H a (ns.map V.int)->lI P w H s₁.heap->(∀b,H b≠none->b=a)->(H a≠none->K.lookup a=none) ->
   codeAny (model P w) callerA (.call (.ref fa) ⟨[.ref a],[]⟩) (fun r s'=>r=.ok (.ret (.bool true))/\OldK s₁.heap s'.heap/\s'.os=s₁.os/\AllBare s'.gens) s₁:=by
  intro H hO hS hok hA hK;have base_of:∀{b:Addr} {o:Obj},s₁.heap.get? b=some o->H b=none->(pG s₁.heap H).get? b=some o:=fun e n=>zc e n
  have noA:∀{b:Addr} {o:Obj} {es:Array DictEntry} {ep:Nat},s₁.heap.get? b=some o->o.data=.dict es ep->H b=none:=fun {b o es ep} e d=>by
   cases q:H b with
   |none=>rfl
   |some u =>
    have e':b=a:=hA b (by rw[q];simp);subst e';rw[ha] at e;cases e;have d':Data.seq vs.toArray _=Data.dict es ep:=d;cases d'
  have nsK:∀{b:Addr} {m:Str->Option Value},s₁.heap.Ns b m->(pG s₁.heap H).Ns b m:=fun {b m} ⟨o,es,ep,e,d,r⟩=>⟨o,es,ep,base_of e (noA e d),d,r⟩
  have hKb:K.In (pG s₁.heap H):=fun b o e=>base_of (KX b o e) (by
   cases q:H b with
   |none=>rfl
   |some u =>
    have e':b=a:=hA b (by rw[q];simp);subst e'
    rw[hK (by rw[q];simp)] at e;cases e)
  have hM:Mod K mg (pG s₁.heap H):=⟨hKb,nsK hns,⟨mb,nsK hb,hbb⟩,let ⟨mc,h1,h2⟩:=hlim;⟨mc,nsK h1,h2⟩⟩;have e0:yX P w K mg (pG s₁.heap H) callerA [] s₁ H:=⟨rfl,hM,fun b o e=>Cq e,Nat.le_of_eq (wK _ _),trivial,fun b hb=>absurd (show b∈([]:List Addr) from hb) (by simp),hok,.of_eq hg⟩;refine codeAny_mono ((F _ hKb (nsK hns)).run callerA [] s₁ H ⟨[.ref a],[]⟩ [.ref a] [.ref a] _ _ hr e0 (hbind s₁ (.ref a)) (.cons rfl .nil) (hsp H hO hS)) fun r s' h=>?_;cases r with
  |error e=>exact(hCX H e s' h).elim
  |ok fl =>
   cases fl with
   |next=>exact False.elim h
   |brk=>exact False.elim h
   |cont=>exact False.elim h
   |ret u =>
    obtain⟨v,H',os,bare,un,hok',r',q⟩:=h;have q':v=.bl true:=q;subst q';obtain rfl:u=Value.bool true:=r';refine⟨rfl,OldK.of_keep fun b o e=>?_,os,bare⟩;cases q:H b with
    |none=>exact un.keep b o e q (by intro z;exact absurd (show b∈([]:List Addr) from z) (by simp)) (by simp)
    |some u =>
     rcases hO b with z|⟨ob,xs,z⟩
     .rw[q] at z;cases z
     .have z2:=un.frzs b ob _ z;obtain⟨e1,_⟩:=hok b _ z;obtain⟨e2,_⟩:=hok' b _ z2;rw[e] at e1;cases e1;exact e2
 cases hk:K.lookup a with
 |some o =>
  -- the script is one of the module's own objects
  have e:=KX a o hk;rw[ha] at e;cases e;refine core (fun _=>none) (fun _=>.inl rfl) (.inr ⟨_,vs.toArray,_,hk,rfl,rfl,rfl,by rw[List.size_toArray,lenV];exact hl,by simpa using rv⟩) (fun b u z=>by have z':(none:Option HO)=some u:=z;cases z') (fun b z=>absurd rfl z) fun z=>absurd rfl z
 |none =>
  refine core (fun b=>if b=a then some (.frz {cls:=.type "list",data:=.seq vs.toArray} (.lst (ns.map V.int))) else none) (fun b=>?_) (.inl (.inr ⟨{cls:=.type "list",data:=.seq vs.toArray},if_pos rfl⟩)) (fun b u z=>?_) (fun b z=>?_) fun _=>hk
  .by_cases hb:b=a
   .exact .inr ⟨_,_,if_pos hb⟩
   .exact .inl (if_neg hb)
  .by_cases hb:b=a
   .have z':=(if_pos hb).symm.trans z;cases z';subst hb;exact⟨ha,by rw[List.length_map];exact hl,vs,_,rv,ha⟩
   .have z':=(if_neg hb).symm.trans z;cases z'
  .by_cases hb:b=a
   .exact hb
   .exact absurd (if_neg hb) z
abbrev aK{K:PySem.W.Frag}{h:Heap}(_:K.In h):PySem.W.Frag:=K
theorem BB{l:PySem.W.OpenLaw}{n k:Nat}{q:Program}{loose:List Str}{XP:(Str->Option Value)->Heap->Prop}{YP:World->Heap->Prop}{d:DefRec}{K:Params->PySem.W.Frag}{CX:World->xm}{sp:World->Sp}{x:Str}
  (hn:l.most=some n) (hn2:n<=sizeLine) (hdf:d.params.defaults=[]) (hr:cZ k callerA)
  (hY:∀(w:World) (h:Heap),YP w h->(K w.params).In h)
  (F:∀(w:World) (mg:Str->Option Value) (fa:Addr) (h:Heap),(K w.params).In h->h.Ns mainGlobals mg->mg d.name=some (.ref fa) ->
   ∃fd:FuncData,(∀(s:Shared) (u:Value),BindsTo s fd ⟨[u],[]⟩ [(x,u)]) /\
    ∀base:Heap,(K w.params).In base->base.Ns mainGlobals mg->fj l.prog w (K w.params) mg base (CX w) k fa fd [x] (sp w))
  (hsp:∀(w:World) (H:Hp) (a:Addr) (ns:List Int),ns.length<=n->B3 H->cW (K w.params) H a (ns.map V.int)->sp w [.ref a] H (fun v _=>v=.bl true) fun _ _ _=>False)
  (hCX:∀(w:World) (H:Hp) (s:Shared) (e:Value) (s':Shared),CX w [] H s (fun _ _ _=>False) e s'->False):
  PySem.W.WalkO q loose XP YP l.row.toRowW d [] (fun f vs=>PySem.call f vs):=by
 refine Att.rF hn hdf fun w s₀ s₁ mg mb fa o pm cd doc a vs ns G Y ho hd hcd hmg hobj hints hlen hg=>?_;have KX:=hY w _ Y;obtain⟨fd,hb,hF⟩:=F w mg fa _ KX G.T.g hmg;exact zu KX G.T.g G.T.b G.T.builtins G.T.nolimit hg hobj hints (Nat.le_trans hlen hn2) hr hF hb (fun H hO hS=>hsp w H a ns hlen hO hS) fun H e s'=>hCX w H s₁ e s'
theorem yA{l:PySem.W.OpenLaw}{n k:Nat}{q:Program}{loose:List Str}{XP:(Str->Option Value)->Heap->Prop}{YP:World->Heap->Prop}{d:DefRec}{K:Params->PySem.W.Frag}{CX:xm}{sp:PySem.W.Frag->Sp}{x:Str}
  (hn:l.most=some n) (hn2:n<=sizeLine) (hdf:d.params.defaults=[]) (hr:cZ k callerA)
  (hY:∀(w:World) (h:Heap),YP w h->(K w.params).In h)
  (F:∀(w:World) (mg:Str->Option Value) (fa:Addr) (h:Heap),(K w.params).In h->h.Ns mainGlobals mg->mg d.name=some (.ref fa) ->
   ∃fd:FuncData,(∀(s:Shared) (u:Value),BindsTo s fd ⟨[u],[]⟩ [(x,u)]) /\
    ∀base:Heap,(K w.params).In base->base.Ns mainGlobals mg->fj l.prog w (K w.params) mg base CX k fa fd [x] (sp (K w.params)))
  (hsp:∀(K:PySem.W.Frag) (H:Hp) (a:Addr) (ns:List Int),ns.length<=n->B3 H->cW K H a (ns.map V.int)->sp K [.ref a] H (fun v _=>v=.bl true) fun _ _ _=>False)
  (hCX:∀(H:Hp) (s:Shared) (e:Value) (s':Shared),CX [] H s (fun _ _ _=>False) e s'->False):
  PySem.W.WalkO q loose XP YP l.row.toRowW d [] (fun f vs=>PySem.call f vs) :=
 BB (K:=K) (CX:=fun _=>CX) (sp:=fun w=>sp (K w.params)) hn hn2 hdf hr hY F (fun w H a ns h1 h2 h3=>hsp (K w.params) H a ns h1 h2 h3) fun _ H s e s'=>hCX H s e s'
def gi(s:Stmt):Arguments:=match s with
 |.FunctionDef _ a _ _ _ _ _ _ _ _=>a
 |_=>{posonlyargs:=[],args:=[],vararg:=none,kwonlyargs:=[],kw_defaults:=[],kwarg:=none,defaults:=[]}
def cD(s:Stmt):List Stmt:=match s with
 |.FunctionDef _ _ b _ _ _ _ _ _ _=>b
 |_=>[]
def af(s:Stmt):Scope:=match s with
 |.FunctionDef _ _ _ _ _ _ sc _ _ _=>sc
 |_=>{kind:=.function,names:=[],isGenerator:=false,isCoroutine:=false}
abbrev nM:xm:=fun _ _ _ _ _ _=>False
abbrev E0:XK:=fun _ _ _=>False
theorem kG{X:Cx}:Passes nM X E0:=fun _ _ _ _ _ _ _ h=>h.elim
structure sJ(K:PySem.W.Frag)(x qual:Str)(st:Stmt)(f:Addr)(fd:FuncData):Prop where
 ex:∃(oc:Value) (od:Option Addr) (kV doc pm:Value) (an:Option Addr) (cdv ct:Value) (osl:Array (Option Value)),
  fd=PySem.W.fnOf x qual (gi st) (cD st) (af st) .none kV doc pm an cdv ct/\K.lookup f=some ⟨oc,od,.func fd,osl⟩/\PySem.W.codeIn K cdv qual=true
 kp:PySem.W.keepIn K (.ref f)=true
section
variable{P:Program}{w:World}{K:PySem.W.Frag}{mg:Str->Option Value}{base:Heap}
theorem sJ.ok{x qual:Str}{st:Stmt}{f:Addr}{fd:FuncData}{N ps:List Str}{k:Nat}{sp:Sp}(F:sJ K x qual st f fd)(S:ai N ps (af st))(len:∀vs H Q E,sp vs H Q E->vs.length=ps.length)
  (hbody:∀(cdv:Value) (A:Around) (outer:List Env) (s:Shared) (H:Hp) (vs:List V) (Q:VK) (E:XK),cZ k (A.deeper (envOfC qual (af st) s.heap.objs.size f cdv))->sp vs H Q E ->
   ∃t,nr (n8 nM P w K mg base N qual (af st) f cdv A outer s H E).Cs (cD st) t/\t {nx:=fun _ H'=>Q .non H',rt:=Q} (start N vs) H):fj P w K mg base nM (k+1) f fd ps sp:=by
 obtain⟨oc,od,kV,doc,pm,an,cdv,ct,osl,rfl,lk,hcd⟩:=F.ex;refine Gn lk hcd S len fun A outer s H vs Q E hr hsp=>?_;obtain⟨t,h,q⟩:=hbody cdv A outer s H vs Q E hr hsp;exact⟨t,h.Cs,q⟩
theorem sJ.binds{x qual:Str}{st:Stmt}{f:Addr}{fd:FuncData}{ps:List Str}(F:sJ K x qual st f fd)
  (h:∀(kV doc pm:Value) (an:Option Addr) (cdv ct:Value) (us:List Value),us.length=ps.length->bindArgs (PySem.W.fnOf x qual (gi st) (cD st) (af st) .none kV doc pm an cdv ct) ⟨us,[]⟩=pure (ps.zip us)):Binds K fd ps []:=by
 obtain⟨oc,od,kV,doc,pm,an,cdv,ct,osl,rfl,lk,hcd⟩:=F.ex;exact .all (h kV doc pm an cdv ct)
theorem El{x qual:Str}{st:Stmt}{f:Addr}{oc:Value}{od an:Option Addr}{osl:Array (Option Value)}{kV doc pm cdv ct:Value}(l:K.lookup f=some ⟨oc,od,.func (PySem.W.fnOf x qual (gi st) (cD st) (af st) .none kV doc pm an cdv ct),osl⟩)
  (c:PySem.W.codeIn K cdv qual=true) (k:PySem.W.keepIn K (.ref f)=true):sJ K x qual st f (PySem.W.fnOf x qual (gi st) (cD st) (af st) .none kV doc pm an cdv ct):=⟨⟨oc,od,kV,doc,pm,an,cdv,ct,osl,rfl,l,c⟩,k⟩
end
theorem cA{n:Nat}(h:n<=1000):n<sizeLine:=Nat.lt_of_le_of_lt h (by decide)
section
variable{X:Cx}
theorem pv(i:Nat){x:Str}{pos:Pos}(hN:X.N[i]?=some x:=by rfl)(hv:FP X.env.scope x:=by first|exact Or.inl rfl|exact Or.inr (Or.inl rfl)|exact Or.inr (Or.inr rfl))(hd:(x==("__debug__":Str))=false:=by decide)
  (hcd:(x==("__classdict__":Str))=false:=by decide):PE X (.Name x pos) (GI i):=D8 hN hv hd hcd
end
theorem nY{A B:Prop}(h:B):if false=true then A else B:=by
 rw[if_neg Bool.false_ne_true];exact h
theorem nW{A B:Prop}(h:A):if true=true then A else B:=by
 rw[if_pos rfl];exact h
def aD(H H':Hp):Prop:=∀b o,H b=some o->H' b=some o
theorem aD.refl(H:Hp):aD H H:=fun _ _ h=>h
theorem aD.trans{H H1 H2:Hp}(a:aD H H1)(b:aD H1 H2):aD H H2:=fun c o h=>b c o (a c o h)
theorem aD.free{H H':Hp}(e:aD H H'){l:Addr}(h:H' l=Option.none):H l=Option.none:=by
 cases q:H l with
 |none=>rfl
 |some o =>
  rw[e l o q] at h;cases h
theorem aD.seq{K:PySem.W.Frag}{H H':Hp}{a:Addr}{xs:List V}(e:aD H H')(h:cW K H a xs):cW K H' a xs:=by
 rcases h with(h|⟨o,h⟩)|h
 .exact .inl (.inl (e _ _ h))
 .exact .inl (.inr ⟨o,e _ _ h⟩)
 .exact .inr h
def BP(acc:List (Str×Addr)):Prop:=∀x y c,acc.lookup x=some c->acc.lookup y=some c->x=y
theorem aQ{α:Type}{x n:Str}{a c:α}{r:List (Str×α)}(h:List.lookup x ((n,a)::r)=some c):(x=n/\a=c)\/(x≠n/\r.lookup x=some c):=by
 rw[List.lookup_cons] at h;cases hb:x==n with
 |true=>rw[hb] at h;cases h;exact .inl ⟨beq_iff_eq.mp hb,rfl⟩
 |false=>rw[hb] at h;exact .inr ⟨(fun z=>by(rw[z,beq_self_eq_true] at hb;cases hb)),h⟩
theorem uW:∀(names:List (Str×NameKind)) (n:Nat) (acc:List (Str×Addr)),BP acc->(∀x c,acc.lookup x=some c->c<n) ->
  BP (cellsFrom n names acc)/\∀x c,(cellsFrom n names acc).lookup x=some c->acc.lookup x=some c\/n<=c
 |[],_,_,hi,_=>⟨hi,fun _ _ h=>.inl h⟩
 | (y,k) :: r,n,acc,hi,hb=>by
  unfold cellsFrom;by_cases hk:(k==NameKind.cell)=true
  .rw[if_pos hk]
   have h1:BP ((y,n)::acc):=fun a b c e1 e2=>by
    rcases aQ e1 with⟨q1,q2⟩|⟨q1,q2⟩<;>rcases aQ e2 with⟨p1,p2⟩|⟨p1,p2⟩
    .rw[q1,p1]
    .exact absurd (hb _ _ p2) (by rw[<-q2];exact Nat.lt_irrefl _)
    .exact absurd (hb _ _ q2) (by rw[<-p2];exact Nat.lt_irrefl _)
    .exact hi a b c q2 p2
   have h2:∀x c,List.lookup x ((y,n)::acc)=some c->c<n+1:=fun x c e=>by
    rcases aQ e with⟨_,q2⟩|⟨_,q2⟩
    .rw[<-q2];exact Nat.lt_succ_self _
    .exact Nat.lt_succ_of_lt (hb _ _ q2)
   obtain⟨i1,i2⟩:=uW r (n+1) ((y,n)::acc) h1 h2;refine⟨i1,fun x c e=>?_⟩;rcases i2 x c e with q|q
   .rcases aQ q with⟨_,q2⟩|⟨_,q2⟩
    .exact .inr (Nat.le_of_eq q2)
    .exact .inl q2
   .exact .inr (Nat.le_of_succ_le q)
  .rw[if_neg hk];exact uW r n acc hi hb
theorem pb:∀(names:List (Str×NameKind)) (h:Heap) (acc:List (Str×Addr)) (x:Str) (c:Addr),(cellsFrom h.objs.size names acc).lookup x=some c->acc.lookup x=some c\/(pushCells h names).IsCell c none
 |[],_,_,_,_,e=>.inl e
 | (y,k) :: r,h,acc,x,c,e=>by
  unfold cellsFrom at e;unfold pushCells;by_cases hk:(k==NameKind.cell)=true
  .rw[if_pos hk] at e ⊢;have e':(cellsFrom (h.push {cls:=.type "cell",data:=.cell none}).objs.size r ((y,h.objs.size)::acc)).lookup x=some c:=by rw[Heap.size_push];exact e
   rcases pb r (h.push {cls:=.type "cell",data:=.cell none}) ((y,h.objs.size)::acc) x c e' with q|q
   .rcases aQ q with⟨_,q2⟩|⟨_,q2⟩
    .refine .inr ?_;subst q2;exact⟨_,pushCells_keeps _ _ _ _ (Heap.get?_push_size _ rfl),rfl⟩
    .exact .inl q2
   .exact .inr q
  .rw[if_neg hk] at e ⊢;exact pb r h acc x c e
theorem qk:∀(names:List (Str×NameKind)) (n:Nat) (acc:List (Str×Addr)) (x:Str),(∀y∈names,y.1=x->y.2≠.cell)->(cellsFrom n names acc).lookup x=acc.lookup x
 |[],_,_,_,_=>rfl
 | (y,k) :: r,n,acc,x,h=>by
  unfold cellsFrom;by_cases hk:(k==NameKind.cell)=true
  .rw[if_pos hk,qk r (n+1) _ x fun z hz=>h z (List.mem_cons_of_mem _ hz),List.lookup_cons]
   have hx:(x==y)=false:=by
    cases hb:x==y with
    |false=>rfl
    |true=>exact absurd (by simpa using hk) (h (y,k) List.mem_cons_self (beq_iff_eq.mp hb).symm)
   rw[hx]
  .rw[if_neg hk];exact qk r n acc x fun z hz=>h z (List.mem_cons_of_mem _ hz)
def dY(env:Env):List (Str×NameKind)->List (Str×Addr)->List (Str×Addr)
 |[],acc=>acc
 |(n,k)::r,acc=>dY env r (if k==.free then (n,(env.cells.lookup n).getD 0)::acc else acc)
theorem vN{env:Env}:∀(names:List (Str×NameKind)) (acc:List (Str×Addr)),(∀x∈names,x.2=.free->∃c,env.cells.lookup x.1=some c) ->
  (forIn names acc fun x cs=>(if (x.2==NameKind.free)=true then (do let a <-cellOf env x.1;pure (ForInStep.yield ((x.1,a)::cs))) else pure (ForInStep.yield cs):Sem (ForInStep (List (Str×Addr)))))=pure (dY env names acc)
 |[],_,_=>rfl
 | (n,k) :: r,acc,h=>by
  rw[List.forIn_cons];have hr:=fun acc=>vN r acc fun x hx=>h x (List.mem_cons_of_mem _ hx);unfold dY;by_cases hk:(k==NameKind.free)=true
  .obtain⟨c,hc⟩:=h (n,k) List.mem_cons_self (by simpa using hk);have hc':env.cells.lookup n=some c:=hc;have e:cellOf env n=pure c:=by unfold cellOf;rw[hc']
   simp only[hk,if_true,e,hc',Option.getD_some,pure_bind];exact hr _
  .simp only[hk,if_false,pure_bind];exact hr _
theorem gU{env:Env}{scope:Scope}(h:∀x∈scope.names,x.2=.free->∃c,env.cells.lookup x.1=some c):closureFor scope env=pure (dY env scope.names []):=by
 have:=vN (env:=env) scope.names [] h;unfold closureFor;simp only[bind_pure_comp]
 first|exact this|simpa using this
theorem cb{env:Env}{x:Str}:∀(names:List (Str×NameKind)) (acc:List (Str×Addr)) (c:Addr),(∀y∈names,y.2=.free->∃c,env.cells.lookup y.1=some c)->(dY env names acc).lookup x=some c->acc.lookup x=some c\/env.cells.lookup x=some c
 |[],_,_,_,e=>.inl e
 | (n,k) :: r,acc,c,h,e=>by
  unfold dY at e;have hr:=fun acc=>cb (x:=x) r acc c fun y hy=>h y (List.mem_cons_of_mem _ hy);by_cases hk:(k==NameKind.free)=true
  .rw[if_pos hk] at e;rcases hr _ e with q|q
   .rcases aQ q with⟨q1,q2⟩|⟨_,q2⟩
    .obtain⟨c',hc'⟩:=h (n,k) List.mem_cons_self (by simpa using hk);have hc2:env.cells.lookup n=some c':=hc';rw[hc2] at q2;right;rw[q1,hc2];exact congrArg some q2
    .exact .inl q2
   .exact .inr q
  .rw[if_neg hk] at e;exact hr _ e
theorem nA{env:Env}{x:Str}:∀(names:List (Str×NameKind)) (acc:List (Str×Addr)),((x,NameKind.free)∈names\/∃c,acc.lookup x=some c)->∃c,(dY env names acc).lookup x=some c
 |[],_,h=>h.elim (fun z=>nomatch z) id
 | (n,k) :: r,acc,h=>by
  unfold dY;refine nA r _ ?_;rcases h with h|⟨c,h⟩
  .rcases List.mem_cons.mp h with e|h
   .cases e;right;rw[if_pos (by decide)];exact⟨_,by rw[List.lookup_cons,beq_self_eq_true]⟩
   .exact .inl h
  .right;split
   .rw[List.lookup_cons];split
    .exact⟨_,rfl⟩
    .exact⟨c,h⟩
   .exact⟨c,h⟩
def f_(X:Cx)(N:List Str)(scope:Scope)(C:Addr)(s:Shared)(H:Hp)(fp:List Addr):Cx where
 prog:=X.prog
 w:=X.w
 K:=X.K
 mg:=X.mg
 base:=X.base
 A:=X.A
 N:=N
 s₀:=s
 H₀:=H
 env:={scope:=relabel scope X.env,locals:=C,globals:=X.env.globals,cells:=cellsFrom (C+1) scope.names (dY X.env scope.names []),qual:=X.env.qual,func:=none,code:=X.env.code,frame:=X.env.frame,builtins:=X.env.builtins}
 outer:=X.stack
 stack:=X.stack
 ex:=fp
 fn:=fun x=>match scope.names.lookup x with|some .cell=>true|_=>false
 calm:=X.calm
 pn:=[]
 xe:=fun _ _=>False
theorem dj{env:Env}:∀{names:List (Str×NameKind)} {x:Str} {k:NameKind},(names.map fun(n,k)=>if (k==NameKind.free&&env.scope.kind==.function&&env.kindOf n==some .cell) then (n,NameKind.cell) else (n,k)).lookup x=some k ->
  ∃k0,names.lookup x=some k0/\(k=k0\/k0=.free)
 |[],_,_,h=>by simp at h
 | (n,q) :: r,x,k,h=>by
  rw[List.map_cons] at h;have h':List.lookup x ((if (q==NameKind.free&&env.scope.kind==.function&&env.kindOf n==some .cell)=true then (n,NameKind.cell) else (n,q))::_)=some k:=h;have fstn:∀b:Bool,(if b=true then (n,NameKind.cell) else (n,q))=(n,if b=true then NameKind.cell else q):=fun b=>by cases b<;>rfl
  rw[fstn] at h';rw[List.lookup_cons];rcases aQ h' with⟨e1,e2⟩|⟨e1,e2⟩
  .rw[e1,beq_self_eq_true];refine⟨q,rfl,?_⟩;rw[<-e2];by_cases hb:(q==NameKind.free&&env.scope.kind==.function&&env.kindOf n==some .cell)=true
   .right;have:=(Bool.and_eq_true_iff.mp (Bool.and_eq_true_iff.mp hb).1).1;simpa using this
   .left;rw[if_neg hb]
  .have hx:(x==n)=false:=by
    cases hb:x==n with
    |false=>rfl
    |true=>exact absurd (beq_iff_eq.mp hb) e1
   rw[hx];exact dj e2
structure eY(X:Cx)(scope:Scope)(tn:List Str)(js:List Nat):Prop where
 kind:scope.kind=.function
 loc:∀x∈scope.names,x.2=.local->scope.names.lookup x.1=some .local
 DY:∀x∈scope.names,x.2=.free->scope.names.lookup x.1=some .free/\(X.env.kindOf x.1=some .cell\/X.env.kindOf x.1=some .free)
 one:∀x∈scope.names,∀y∈scope.names,x.1=y.1->x.2=y.2
 js:∀j∈js,∃x,X.N[j]?=some x/\scope.names.lookup x=some .free
def cN(X:Cx)(tn:List Str)(js:List Nat):List Str:=tn++js.map fun j=>(X.N[j]?).getD ("":Str)
def cσ(σ:St)(tn:List Str)(js:List Nat):St:=tn.map (fun _=>none)++js.map fun j=>(σ[j]?).getD none
theorem aY{names:List (Str×NameKind)}{x:Str}{k:NameKind}(h:names.lookup x=some k):(x,k)∈names:=PySem.mem_of_lookup h
section
variable{X:Cx}{pins:List (Addr×Obj)}{σ:St}{H:Hp}{s:Shared}{scope:Scope}{tn:List Str}{js:List Nat}{fp:List Addr}
theorem dR(ok:X.Ok)(S:eY X scope tn js):∀x∈scope.names,x.2=.free->∃c,X.env.cells.lookup x.1=some c:=fun x hx hf=>ok.has x.1 (S.DY x hx hf).2
theorem xA(ok:X.Ok)(S:eY X scope tn js){n:Nat}(hb:∀x c,X.env.cells.lookup x=some c->c<n):
  BP (cellsFrom n scope.names (dY X.env scope.names []))/\∀x c,(cellsFrom n scope.names (dY X.env scope.names [])).lookup x=some c->X.env.cells.lookup x=some c\/n<=c:=by
 have hc:∀x c,(dY X.env scope.names []).lookup x=some c->X.env.cells.lookup x=some c:=fun x c e=>by
  rcases cb scope.names [] c (dR ok S) e with q|q
  .cases q
  .exact q
 obtain⟨h1,h2⟩:=uW scope.names n (dY X.env scope.names []) (fun x y c e1 e2=>ok.inj x y c (hc x c e1) (hc y c e2)) (fun x c e=>hb x c (hc x c e));exact⟨h1,fun x c e=>(h2 x c e).imp (hc x c) id⟩
theorem xb{h4:Heap}{m:Str->Option Value}{t':Nat}(I:Inv X pins σ H s)(S:eY X scope tn js)(hf:∀b∈fp,nQ X pins H b/\b<s.heap.objs.size)(hns:h4.Ns s.heap.objs.size m)
  (hk:∀b o,s.heap.get? b=some o->h4.get? b=some o) (hcell:∀x c,(cellsFrom (s.heap.objs.size+1) scope.names (dY X.env scope.names [])).lookup x=some c->X.env.cells.lookup x=some c\/h4.IsCell c none):
  Inv (f_ X (cN X tn js) scope s.heap.objs.size s H fp) [] (cσ σ tn js) H {s with heap:=h4,toks:=t'}:=by
 have hlt:∀x c,X.env.cells.lookup x=some c->c<s.heap.objs.size+1:=fun x c e=>by
  obtain⟨v,q⟩:=I.cell x c e;exact Nat.lt_succ_of_lt q.lt
 obtain⟨hinj,hcs⟩:=xA I.ok S hlt;have hC:H s.heap.objs.size=none:=I.hok.fresh (Nat.le_refl _)
 refine⟨⟨I.ok.mod,S.kind,I.ok.glob,I.ok.blt,Nat.le_refl _,hinj,fun x hx=>?_,fun x c hx e=>?_,I.ok.hd,I.ok.frames,.inl rfl,fun b hb=>⟨Nat.ne_of_lt (hf b hb).2,fun x c e z=>?_⟩,I.bs,Nat.le_trans I.ok.bsz I.sz,fun b o e hb=>?_,fun b hb z=>?_,I.stack,I.vq⟩,
  rfl,I.bare,Un.kept hk,⟨m,hns,fun i x v h1 h2 h3=>?_⟩,fun x c e=>?_,hC,fun x c e=>?_,(fun p hp=>nomatch hp),I.hok.kept hk,?_⟩
 .-- has
  have hx':(relabel scope X.env).names.lookup x=some .cell\/(relabel scope X.env).names.lookup x=some .free:=hx
  have own:scope.names.lookup x=some .cell->∃c,(cellsFrom (s.heap.objs.size+1) scope.names (dY X.env scope.names [])).lookup x=some c:=fun q =>
   Option.isSome_iff_exists.mp (PySem.W.cellsFrom_some scope.names _ _ (.inl q))
  have DY:scope.names.lookup x=some .free->∃c,(cellsFrom (s.heap.objs.size+1) scope.names (dY X.env scope.names [])).lookup x=some c:=fun q =>
   Option.isSome_iff_exists.mp (PySem.W.cellsFrom_some scope.names _ _ (.inr (Option.isSome_iff_exists.mpr (nA scope.names [] (.inl (aY q))))))
  rcases hx' with q|q
  .obtain⟨k0,q1,q2⟩:=dj q;rcases q2 with q2|q2
   .subst q2;exact own q1
   .subst q2;exact DY q1
  .obtain⟨k0,q1,q2⟩:=dj q;rcases q2 with q2|q2
   .subst q2;exact DY q1
   .subst q2;exact DY q1
 .-- cab
  rcases hcs x c e with q|q
  .exfalso;have hx':(match scope.names.lookup x with|some .cell=>true|_=>false)=true:=hx;split at hx'
   .rename_i hl
    -- an own cell is new
    have hb:∀y c',(dY X.env scope.names []).lookup y=some c'->c'<s.heap.objs.size+1:=fun y c' e'=>by
     rcases cb scope.names [] c' (dR I.ok S) e' with z|z
     .cases z
     .exact hlt y c' z
    have nof:(dY X.env scope.names []).lookup x=none:=by
     cases z:(dY X.env scope.names []).lookup x with
     |none=>rfl
     |some c' =>
      exfalso
      have mem:∀(names:List (Str×NameKind)) (acc:List (Str×Addr)),(∃c',(dY X.env names acc).lookup x=some c')->(x,NameKind.free)∈names\/∃c',acc.lookup x=some c':=by
       intro names
       induction names with
       |nil=>exact fun acc z=>.inr z
       |cons p r ih =>
        obtain⟨n,k⟩:=p;intro acc z;unfold dY at z;rcases ih _ z with z|⟨c',z⟩
        .exact .inl (List.mem_cons_of_mem _ z)
        .split at z
         .rename_i hk;rcases aQ z with⟨e1,_⟩|⟨_,e2⟩
          .left;have:k=NameKind.free:=by simpa using hk
           rw[e1,this];exact List.mem_cons_self
          .exact .inr ⟨c',e2⟩
         .exact .inr ⟨c',z⟩
      rcases mem scope.names [] ⟨c',z⟩ with z|⟨_,z⟩
      .have:=S.one _ z _ (aY hl) rfl;cases this
      .cases z
    have hh:=uW scope.names (s.heap.objs.size+1) (dY X.env scope.names []) (fun a b c' e1 e2=>by
     rcases cb scope.names [] c' (dR I.ok S) e1 with z|z
     .cases z
     .rcases cb scope.names [] c' (dR I.ok S) e2 with z'|z'
      .cases z'
      .exact I.ok.inj a b c' z z') hb
    rcases hh.2 x c e with z|z
    .rw[nof] at z;cases z
    .exact absurd (hlt x c q) (Nat.not_lt.mpr z)
   .cases hx'
  .exact Nat.le_of_succ_le q
 .-- exf
  obtain⟨⟨f0,f1,f2,f3,f4,f5⟩,hbl⟩:=hf b hb;rcases hcs x c e with q|q
  .exact f4 x c q z
  .rw[z] at q;exact absurd hbl (Nat.not_lt.mpr (Nat.le_of_succ_le q))
 .-- noex
  obtain⟨⟨f0,f1,f2,f3,f4,f5⟩,hbl⟩:=hf b hb;rcases f3 with q|q
  .exact I.ok.noex b o e q
  .exact absurd (Nat.lt_of_lt_of_le (Heap.lt_size e) (Nat.le_trans I.ok.bsz q)) (Nat.lt_irrefl _)
 .-- exfs
  obtain⟨⟨f0,f1,f2,f3,f4,f5⟩,hbl⟩:=hf b hb;rcases List.mem_cons.mp (I.p8 b z) with q|q
  .exact f1 q
  .exact f2 q
 .-- the names
  have h2':(cσ σ tn js)[i]?=some (some v):=h2;have h1':(cN X tn js)[i]?=some x:=h1;unfold cσ at h2';unfold cN at h1';by_cases hi:i<tn.length
  .rw[List.getElem?_append_left (by simpa using hi),List.getElem?_map] at h2';cases q:tn[i]? with
   |none=>rw[q] at h2';cases h2'
   |some y=>rw[q] at h2';cases h2'
  .rw[List.getElem?_append_right (by simpa using hi),List.getElem?_map,List.length_map] at h2';rw[List.getElem?_append_right (by simpa using hi),List.getElem?_map] at h1';cases q:js[i-tn.length]? with
   |none=>rw[q] at h2';cases h2'
   |some j =>
    rw[q] at h2' h1';obtain⟨y,hy1,hy2⟩:=S.js j (List.mem_of_getElem? q)
    have exy:y=x:=by
     have:some ((X.N[j]?).getD ("":Str))=some x:=h1';rw[hy1] at this;exact Option.some.inj this
    subst exy
    have hv:σ[j]?=some (some v):=by
     have:some ((σ[j]?).getD none)=some (some v):=h2';cases z:σ[j]? with
     |none=>rw[z] at this;cases this
     |some o=>rw[z] at this;exact congrArg some (Option.some.inj this)
    have kfr:=(S.DY _ (aY hy2) rfl).2;have vis:FP X.env.scope y:=kfr.elim (fun z=>.inr (.inl z)) fun z=>.inr (.inr z);obtain⟨m0,hn0,hl0⟩:=I.loc;obtain⟨u,ru,lk⟩:=hl0 j y v hy1 hv vis;refine⟨u,ru,.inr ⟨?_,?_⟩⟩
    .have h3':(relabel scope X.env).names.lookup y=some .local\/(relabel scope X.env).names.lookup y=some .cell\/(relabel scope X.env).names.lookup y=some .free:=h3;rcases h3' with z|z|z
     .obtain⟨k0,z1,z2⟩:=dj z;rw[hy2] at z1;cases z1;rcases z2 with z2|z2
      .cases z2
      .exfalso
       -- free is relabelled to cell or stays
       have:=z
       have nolocal:∀{names:List (Str×NameKind)},(∀p∈names,p.1=y->p.2=.free)->(names.map fun(n,k)=>if (k==NameKind.free&&X.env.scope.kind==.function&&X.env.kindOf n==some .cell) then (n,NameKind.cell) else (n,k)).lookup y≠some .local:=by
        intro names
        induction names with
        |nil=>intro _ w;simp at w
        |cons p r ih =>
         obtain⟨n,k⟩:=p;intro hp w;rw[List.map_cons] at w;have w':List.lookup y ((if (k==NameKind.free&&X.env.scope.kind==.function&&X.env.kindOf n==some .cell)=true then (n,NameKind.cell) else (n,k))::_)=some .local:=w;have fstn:∀b:Bool,(if b=true then (n,NameKind.cell) else (n,k))=(n,if b=true then NameKind.cell else k):=fun b=>by cases b<;>rfl
         rw[fstn] at w';rcases aQ w' with⟨e1,e2⟩|⟨e1,e2⟩
         .have hk:k=.free:=hp (n,k) List.mem_cons_self e1.symm;subst hk;split at e2<;>cases e2
         .exact ih (fun p hp'=>hp p (List.mem_cons_of_mem _ hp')) e2
       exact nolocal (fun p hp e=>S.one p hp _ (aY hy2) e) z
     .exact .inl z
     .exact .inr z
    .have lk':∃c,X.env.cells.lookup y=some c/\s.heap.IsCell c (some u):=by
      rcases lk with⟨z,_⟩|⟨_,z⟩
      .exfalso;rcases kfr with q|q
       .rw[q] at z;cases z
       .rw[q] at z;cases z
      .exact z
     obtain⟨c,hc1,hc2⟩:=lk';refine⟨c,?_,hc2.keeps hk⟩;show(cellsFrom (s.heap.objs.size+1) scope.names (dY X.env scope.names [])).lookup y=some c;rw[qk scope.names _ _ y fun p hp e=>by(rw[S.one p hp _ (aY hy2) e];intro z;cases z)];obtain⟨c',hc'⟩:=nA (env:=X.env) scope.names [] (.inl (aY hy2));rcases cb scope.names [] c' (dR I.ok S) hc' with z|z
     .cases z
     .rw[hc1] at z;cases z;exact hc'
 .-- cells are there
  rcases hcell x c e with q|q
  .obtain⟨v,z⟩:=I.cell x c q;exact⟨v,z.keeps hk⟩
  .exact⟨none,q⟩
 .-- and free
  rcases hcs x c e with q|q
  .exact I.freeC x c q
  .exact I.hok.fresh (Nat.le_of_succ_le q)
 .show(cσ σ tn js).length=(cN X tn js).length;unfold cσ cN;simp
end
section
variable{M:Model}{A:Around}{E:Value->Shared->Prop}{s:Shared}
theorem qK{scope:Scope}{globals:Addr}{cl:List (Str×Addr)}{qual:Str}{env:Env}{Q:Env->Shared->Prop}
  (hQ:∀h',h'.Ns s.heap.objs.size (fun _=>none)->(∀b o,s.heap.get? b=some o->h'.get? b=some o)->(∀x c,(cellsFrom (s.heap.objs.size+1) scope.names cl).lookup x=some c->cl.lookup x=some c\/h'.IsCell c none) ->
   Q {scope,locals:=s.heap.objs.size,globals,cells:=cellsFrom (s.heap.objs.size+1) scope.names cl,qual,func:=none,code:=env.code,frame:=env.frame,builtins:=env.builtins} {s with heap:=h'}):
  wpAny M A (newFunctionEnv scope globals cl [] qual none .none (some env)) Q E s:=by
 simp only[newFunctionEnv,Option.isSome_some,if_true];refine wpAny_bind (wpAny_alloc ?_);refine wpAny_bind (wpAny_layCells _ (fun name kind cells=>by cases hkc:kind==NameKind.cell<;>simp[hkc]) _ _ _ _ ?_);rw[show({s with heap:=s.heap.push {cls:=.type "dict",data:=.dict #[]}}:Shared).heap.objs.size=s.heap.objs.size+1 from Heap.size_push ..];refine wpAny_bind ?_;rw[List.forIn_nil];refine wpAny_pure (wpAny_pure ?_);refine hQ _ ((Heap.Ns.new s.heap (.type "dict")).keeps (pushCells_keeps _ _)) (fun b o e=>pushCells_keeps _ _ b o (Heap.get?_push_of_some _ e)) fun x c e=>?_;refine pb scope.names _ cl x c ?_;rw[Heap.size_push];exact e
end
section
variable{prog:Program}{w:World}{A:Around}{R:Result->Shared->Prop}{s:Shared}
theorem xh{elt target iter:Expr}{ifs:List Expr}{scope:Scope}{pos:Pos}{it acc:Value}{env:Env}(I:Nat->Shared->Prop)
  (turn:∀n s,I n s->wpAny (model prog w) A (pyNext it) (fun r s₁=>match r with
   |none=>R (.ok .next) s₁
   |some v=>wpAny (model prog w) A (letOwnedTupleGo target it v) (fun _ s₂'=>wpAny (model prog w) A (assign target env v) (fun _ s₂ =>
     wpAny (model prog w) A (forIn ifs true fun c r=>if r=true then do let ok <-isTrue c env (eval c env);pure (ForInStep.yield ok) else pure (ForInStep.yield r)) (fun ok s₃ =>
      if ok=true then wpAny (model prog w) A (eval elt env) (fun x s₄ =>
       wpAny (model prog w) A (call (.builtin "list.append") [acc,x]) (fun _ s₅=>∃m,m<n/\I m s₅) (fun _ _=>False) s₄) (fun _ _=>False) s₃
      else ∃m,m<n/\I m s₃) (fun _ _=>False) s₂) (fun _ _=>False) s₂') (fun _ _=>False) s₁) (fun _ _=>False) s)
  (n:Nat) (h:I n s):
  codeAny (model prog w) A (.compLoop (.ListComp elt [⟨target,iter,ifs,0⟩] scope pos) 0 it acc env) R s:=by
 refine codeAny_loop rfl I (fun n s hI=>?_) n h;show wpAny _ A ((compTurn (.ListComp elt [⟨target,iter,ifs,0⟩] scope pos) 0 it acc env).onRaise (fun x=>do noteFrame x env;theTreesLotGoes x)) _ _ s;refine wpAny_noted ?_;rw[compTurn_list];refine wpAny_bind (wpAny_standAt (wpAny_bind (wpAny_mono (turn n s hI) (fun r s₁ h₁=>?_) fun _ _ z=>z.elim)));cases r with
 |none=>exact wpAny_pure h₁
 |some v =>
  refine wpAny_bind (wpAny_mono h₁ (fun _ s₂' h₂'=>?_) fun _ _ z=>z.elim);refine wpAny_bind (wpAny_mono h₂' (fun _ s₂ h₂=>wpAny_bind (wpAny_mono h₂ (fun ok s₃ h₃=>?_) fun _ _ z=>z.elim)) fun _ _ z=>z.elim);cases ok with
  |false=>exact wpAny_pure ⟨rfl,h₃⟩
  |true =>
   exact wpAny_bind (wpAny_bind (wpAny_mono h₃ (fun x s₄ h₄=>wpAny_bind (wpAny_mono h₄ (fun _ s₅ h₅=>wpAny_pure (wpAny_pure ⟨rfl,h₅⟩)) fun _ _ z=>z.elim)) fun _ _ z=>z.elim))
end
def PF(X:Cx)(ifs:List Expr)(t:TT):Prop :=
 ∀(pins:List (Addr×Obj)) (s:Shared) (σ:St) (H:Hp) (Q:Bool->Hp->Prop),Inv X pins σ H s->t σ H Q ->
  wpAny (model X.prog X.w) X.A (forIn ifs true fun c r=>if r=true then do let ok <-isTrue c X.env (eval c X.env);pure (ForInStep.yield ok) else pure (ForInStep.yield r)) (TP X pins σ Q) X.xe s
theorem FH{X:Cx}:PF X [] (fun _ H Q=>Q true H):=fun pins s σ H Q I q=>wpAny_tests_nil ⟨H,I,q⟩
theorem FG{X:Cx}{c:Expr}{t:TT}(h:PT X c t):PF X [c] t:=fun pins s σ H Q I q=>wpAny_tests_one (h pins s σ H Q I q)
def vR(σ:St)(tn:List Str)(js:List Nat)(σ':St):Prop:=(∀(j:Nat) (v:V),tn.length<=j->(cσ σ tn js)[j]?=some (some v)->σ'[j]?=some (some v))/\σ'.length=(cσ σ tn js).length
def HQ(wi:TI)(tn:List Str)(js:List Nat)(g:TG)(tt:TT)(te:TE):TE:=fun σ H Q=>wi σ H fun J H1=>∀D,H1 D=none->∃W:Nat->Nat->Hp->List V->Prop,(∃m,W 0 m (upd H1 D (.lst [])) []) /\
 ∀i m H xs,W i m H xs->H D=some (.lst xs)/\((J.stop i H/\Q (.ref D) H)\/(J.go i H/\∀x H',J.yld i H x H'->g x (cσ σ tn js) H' fun σ2 H2=>vR σ tn js σ2/\tt σ2 H2 fun ok H3 =>
  if ok=true then te σ2 H3 fun y H4=>H4 D=some (.lst xs)/\xs.length<sizeLine/\∃m',m'<m/\W (i+1) m' (upd H4 D (.lst (xs++[y]))) (xs++[y])
  else ∃m',m'<m/\W (i+1) m' H3 xs))
section
variable{X:Cx}{pins:List (Addr×Obj)}{σ:St}{H:Hp}{s:Shared}{scope:Scope}{tn:List Str}{js:List Nat}{elt target iter:Expr}{ifs:List Expr}{pos:Pos}{wi:TI}{g:TG}{tt:TT}{te:TE}
theorem oy{Q:VK}{RR:Value->Addr->Result->Shared->Prop}(S:eY X scope tn js)(hc:X.calm=true)(hi:PI X target iter wi)
  (hb:∀C s H fp,PG (f_ X (cN X tn js) scope C s H fp) target g/\PF (f_ X (cN X tn js) scope C s H fp) ifs tt/\PE (f_ X (cN X tn js) scope C s H fp) elt te)
  (I:Inv X pins σ H s) (h:HQ wi tn js g tt te σ H Q)
  (hRR:∀D C s' H' oC m,Inv X (pins++[(C,oC)]) σ H' s'->s'.heap.get? C=some oC->s'.heap.Ns C m->X.s₀.heap.objs.size<=C->C≠X.env.locals->(∀x c,X.env.cells.lookup x=some c->c≠C)->(∀p∈X.pn++pins,p.1≠C)->Q (.ref D) H'->RR (.ref D) C (.ok .next) s'):
  wpAny (model X.prog X.w) X.A (eval iter X.env) (fun x s₁=>wpAny (model X.prog X.w) X.A (pyIter x) (fun it s₂=>wpAny (model X.prog X.w) X.A (newList []) (fun acc s₃ =>
   wpAny (model X.prog X.w) X.A (newFunctionEnv scope X.env.globals (dY X.env scope.names []) [] X.env.qual none .none (some X.env)) (fun cenv s₄ =>
    codeAny (model X.prog X.w) X.A (.compStart (.ListComp elt [⟨target,iter,ifs,0⟩] scope pos) 0 it acc {cenv with scope:=relabel scope X.env}) (RR acc cenv.locals) s₄) X.xe s₃) X.xe s₂) X.xe s₁) X.xe s:=by
 refine bV (hi pins s σ H _ I h) fun v s1 h1=>bV h1 fun itv s2 h2=>?_;obtain⟨it,fp,tnn,J,H2,e,I2,T,st2,f2,hJ⟩:=h2;subst e;refine wpAny_newList ?_;have D0:H2 s2.heap.objs.size=none:=I2.hok.fresh (Nat.le_refl _);obtain⟨W,⟨m0,w0⟩,turn⟩:=hJ s2.heap.objs.size D0;have I3:Inv X pins σ (upd H2 s2.heap.objs.size (.lst [])) {s2 with heap:=s2.heap.push {cls:=.type "list",data:=.seq ([]:List Value).toArray},toks:=s2.toks}:=I2.BZ .nil (Nat.zero_le _);generalize hs3:({s2 with heap:=s2.heap.push {cls:=.type "list",data:=.seq ([]:List Value).toArray},toks:=s2.toks}:Shared)=s3 at I3;have s3s:s3.heap.objs.size=s2.heap.objs.size+1:=by rw[<-hs3];exact Heap.size_push ..
 have k23:∀b o,s2.heap.get? b=some o->s3.heap.get? b=some o:=fun b o e=>by rw[<-hs3];exact Heap.get?_push_of_some _ e
 have u23:Un (sL X.stack) fp H2 (upd H2 s2.heap.objs.size (.lst [])) s2.heap s3.heap:=Un.laid k23 (Nat.le_refl _) D0;generalize hH3:upd H2 s2.heap.objs.size (.lst [])=H3 at I3 u23 w0;generalize hD:s2.heap.objs.size=D at *
 have fpl:∀b∈fp,b<D:=fun b hb=>by
  obtain⟨o,e,_⟩:=T.obj 0 _ st2 b hb;rw[<-hD];exact Heap.lt_size e
 have f3:∀b∈fp,nQ X pins H3 b/\b<s3.heap.objs.size:=fun b hb=>by
  obtain⟨q0,q⟩:=f2 b hb;refine⟨⟨?_,q⟩,by have:=fpl b hb;rw[s3s];exact Nat.lt_succ_of_lt this⟩;rw[<-hH3,aS (Nat.ne_of_lt (fpl b hb))];exact q0
 refine qK fun h4 hns hk hcell=>?_
 have cl0:∀x c,(dY X.env scope.names []).lookup x=some c->X.env.cells.lookup x=some c:=fun x c e=>by
  rcases cb scope.names [] c (dR I.ok S) e with q|q
  .cases q
  .exact q
 have I4:Inv (f_ X (cN X tn js) scope s3.heap.objs.size s3 H3 fp) [] (cσ σ tn js) H3 {s3 with heap:=h4,toks:=s3.toks}:=xb I3 S f3 hns hk fun x c e=>(hcell x c e).imp (cl0 x c) id;have st4:tnn 0 h4:=T.keep 0 _ _ st2 fun b hb o e=>hk b o (k23 b o e)
 have fpk:∀{H':Hp},(∀b∈fp,H' b=none)->∀b∈fp,nQ (f_ X (cN X tn js) scope s3.heap.objs.size s3 H3 fp) [] H' b:=fun hn b hb=>by
  obtain⟨⟨q0,q1,q2,q3,q4,q5⟩,ql⟩:=f3 b hb;refine⟨hn b hb,Nat.ne_of_lt ql,fun z=>?_,.inl hb,fun x c e z=>?_,fun p hp=>nomatch hp⟩
  .rcases List.mem_cons.mp (I3.p8 b z) with q|q
   .exact q1 q
   .exact q2 q
  .exact(I4.ok.exf b hb).2 x c e z
 have loop:codeAny (model X.prog X.w) X.A (.compLoop (.ListComp elt [⟨target,iter,ifs,0⟩] scope pos) 0 (.ref it) (.ref D) (f_ X (cN X tn js) scope s3.heap.objs.size s3 H3 fp).env) (RR (.ref D) s3.heap.objs.size) {s3 with heap:=h4,toks:=s3.toks}:=by
  refine xh (fun n s'=>∃i σ' H' xs,Inv (f_ X (cN X tn js) scope s3.heap.objs.size s3 H3 fp) [] σ' H' s'/\tnn i s'.heap/\(∀b∈fp,H' b=none)/\W i n H' xs/\vR σ tn js σ') ?_ m0
   ⟨0,_,H3,[],I4,st4,fun b hb=>(f3 b hb).1.1,w0,fun _ _ _ z=>z,rfl⟩
  rintro n s5 ⟨i,σ5,H5,xs,I5,st5,fr5,w5,kσ,lσ⟩
  -- the state with the targets forgotten
  have I5':Inv (f_ X (cN X tn js) scope s3.heap.objs.size s3 H3 fp) [] (cσ σ tn js) H5 s5:=I5.weak lσ.symm fun j v e=>by
   by_cases hj:tn.length<=j
   .exact kσ j v hj e
   .exfalso;unfold cσ at e;rw[List.getElem?_append_left (by simpa using Nat.lt_of_not_le hj),List.getElem?_map] at e;cases q:tn[j]? with
    |none=>rw[q] at e;cases e
    |some y=>rw[q] at e;cases e
  obtain⟨hDx,hturn⟩:=turn i n H5 xs w5;rcases hturn with⟨stop,q⟩|⟨go,step⟩
  .refine bV (T.done (f_ X (cN X tn js) scope s3.heap.objs.size s3 H3 fp) rfl rfl rfl hc i [] s5 _ H5 (fun _ _=>False) I5' (fpk fr5) st5 stop) fun r s6 ⟨hr,I6⟩=>?_;subst hr
   -- back to the def's own state
   have u36:Un (sL X.stack) fp H3 H5 s3.heap s6.heap:=I6.base;have u26:Un (sL X.stack) fp H2 H5 s2.heap s6.heap:=u23.trans u36;have I6X:Inv X pins σ H5 s6:=I2.F6 (I6.os.trans (show s3.os=s2.os by rw[<-hs3])) u26 I6.hok I6.bare fun b hb=>⟨(f2 b hb).2.2.2.1,(f2 b hb).2.1,(f2 b hb).2.2.2.2.1,(f2 b hb).2.2.2.2.2⟩;obtain⟨mm,hnn,_⟩:=I6.loc;obtain⟨oC,es,ep,hoC,rC⟩:=id hnn;have Cge:D<=s3.heap.objs.size:=by rw[s3s];exact Nat.le_succ _
   have lt2:∀{b:Addr} {o:Obj},s2.heap.get? b=some o->b≠s3.heap.objs.size:=fun e z=>absurd (Heap.lt_size e) (Nat.not_lt.mpr (by rw[hD,z];exact Cge))
   have cC:∀x c,X.env.cells.lookup x=some c->c≠s3.heap.objs.size:=fun x c e z=>by
    obtain⟨v,o,q1,_⟩:=I2.cell x c e;exact lt2 q1 z
   have pC:∀p∈X.pn++pins,p.1≠s3.heap.objs.size:=fun p hp=>lt2 (I2.pin p hp).1
   have lC:s3.heap.objs.size≠X.env.locals:=fun z=>by
    have:=I2.lt;rw[hD,<-z] at this;exact absurd this (Nat.not_lt.mpr Cge)
   refine hRR D s3.heap.objs.size s6 H5 oC mm (I6X.jD fun p hp=>?_) hoC hnn (Nat.le_trans I2.sz (by rw[hD];exact Cge)) lC cC pC q;rcases List.mem_append.mp hp with hp|hp
   .exact I6X.pin p (List.mem_append_right _ hp)
   .have:p=(s3.heap.objs.size,oC):=by simpa using hp
    subst this;refine⟨hoC,I6.free,lC,fun z=>?_,fun v z=>?_⟩
    .have:=I2.ok.kg.mem z;have hz:=I2.kg.mem z;obtain⟨_,o,hz,_⟩:=hz;exact lt2 hz rfl
    .have:=rC.1;rw[z] at this;cases this
  .refine bV (T.item (f_ X (cN X tn js) scope s3.heap.objs.size s3 H3 fp) rfl rfl rfl hc i [] s5 _ H5 (fun _ _=>False) I5' (fpk fr5) st5 go) fun r s6 ⟨u,hr,h6⟩=>?_;subst hr;refine bV h6 fun _ s7 ⟨x,H7,I7,r7,y7,st7,fr7⟩=>?_;have I7':=I7.pinned (fpk fr7) (T.obj _ _ st7);refine bV ((hb s3.heap.objs.size s3 H3 fp).1 _ s7 _ H7 x u _ I7' r7 (step x H7 y7)) fun _ s8 ⟨σ8,H8,I8,kc8,q8⟩=>?_
   -- what the pins say of the iterator,later
   have again:∀{σ':St} {H':Hp} {s':Shared} {xs':List V} {m':Nat},Inv (f_ X (cN X tn js) scope s3.heap.objs.size s3 H3 fp) ([]++mr fp s7.heap) σ' H' s'->m'<n->W (i+1) m' H' xs'->vR σ tn js σ' ->
     ∃m,m<n/\∃i σ' H' xs,Inv (f_ X (cN X tn js) scope s3.heap.objs.size s3 H3 fp) [] σ' H' s'/\tnn i s'.heap/\(∀b∈fp,H' b=none)/\W i m H' xs/\vR σ tn js σ':=fun {σ' H' s' xs' m'} I' hm w' k'=>by
    refine⟨m',hm,i+1,σ',H',xs',I'.jt,T.keep _ _ _ st7 fun b hb o e=>(I'.pin (b,o) (List.mem_append_right _ (List.mem_append_right _ (gD hb e)))).1,fun b hb=>?_,w',k'⟩;obtain⟨o,e,d⟩:=T.obj _ _ st7 b hb;exact(I'.pin (b,o) (List.mem_append_right _ (List.mem_append_right _ (gD hb e)))).2.1
   refine bV ((hb s3.heap.objs.size s3 H3 fp).2.1 _ s8 σ8 H8 _ I8 q8) fun ok s9 ⟨H9,I9,q9⟩=>?_;cases ok with
   |false =>
    have q9':∃m',m'<n/\W (i+1) m' H9 xs:=by
     have z:=q9;rw[if_neg Bool.false_ne_true] at z;exact z
    obtain⟨m',hm,w9⟩:=q9';exact again I9 hm w9 kc8
   |true =>
    rw[if_pos rfl] at q9 ⊢;refine bV ((hb s3.heap.objs.size s3 H3 fp).2.2 _ s9 σ8 H9 _ I9 q9) fun yv s10 ⟨y,H10,I10,r10,hD10,hz,m',hm,w10⟩=>?_
    exact bV (oq _ s10 σ8 H10 (.ref D) [y] (.ref D) [yv] (fun _ H'=>H'=upd H10 D (.lst (xs++[y]))) I10 rfl (.cons r10 .nil) ⟨D,xs,y,rfl,rfl,hD10,hz,rfl⟩) fun _ s11 ⟨_,H11,I11,_,e11⟩=>by
     subst e11;exact again I11 hm w10 kc8
 exact codeAny_compStart_list loop (T.self _ 0 _ _ _ st4 loop)
theorem F5(S:eY X scope tn js)(hc:X.calm=true)(hi:PI X target iter wi)
  (hb:∀C s H fp,PG (f_ X (cN X tn js) scope C s H fp) target g/\PF (f_ X (cN X tn js) scope C s H fp) ifs tt/\PE (f_ X (cN X tn js) scope C s H fp) elt te)
  (hs:∀x,foldedSetIterable iter X.env x=pure x:=by intro _;rfl):PE X (.ListComp elt [⟨target,iter,ifs,0⟩] scope pos) (HQ wi tn js g tt te):=by
 intro pins s σ H Q I h;rw[eval_ListComp];refine wpAny_comprehension_free (use:=none) rfl hs (gU (dR I.ok S)) S.kind S.loc ?_;refine oy (RR:=fun acc C=>compPost (model X.prog X.w) X.A X.xe none (EP X pins σ Q) acc C) S hc hi hb I h ?_;intro D C s' H' oC m I' hoC hn h1 h2 h3 h4 q;refine⟨m,hn,fun h' sb=>⟨.ref D,H',?_,rfl,q⟩⟩;have I2:Inv X pins σ H' s':=I'.jD fun p hp=>I'.pin p (List.mem_append_right _ (List.mem_append_left _ hp));exact I2.turned (t':=s'.toks) (fun b o hb e=>sb.extBut b o hb e) (I'.pin (C,oC) (List.mem_append_right _ (List.mem_append_right _ (by simp)))).2.1 (Ne.symm (Ne.symm h2)) (.inr h1) h3 h4
theorem yB{i:Nat}{y:Str}{py spos:Pos}(hN:X.N.Nodup)(hiN:X.N[i]?=some y)(hy:Loc X.env.scope y)(hf:X.fn y=true\/X.env.scope.names.lookup y=some .local)(S:eY X scope tn js)(hc:X.calm=true)(hi:PI X target iter wi)
  (hb:∀C s H fp,PG (f_ X (cN X tn js) scope C s H fp) target g/\PF (f_ X (cN X tn js) scope C s H fp) ifs tt/\PE (f_ X (cN X tn js) scope C s H fp) elt te)
  (hsw:swapsWith (.ListComp elt [⟨target,iter,ifs,0⟩] scope pos) (some (.Name y py)) spos.line X.env=pure true)
  (hs:∀x,foldedSetIterable iter X.env x=pure x:=by intro _;rfl):PS X (.Assign [.Name y py] (.ListComp elt [⟨target,iter,ifs,0⟩] scope pos) spos) (fun D σ H=>HQ wi tn js g tt te σ H fun v H1=>D.nx (σ.set i (some v)) H1):=by
 intro pins s σ H De I h;rw[exec_Assign_Name_used _ _ _ _ hsw];refine wpAny_bind (wpAny_standAt (wpAny_bind ?_));show wpAny _ X.A (do let _ <-comprehension (.ListComp elt [⟨target,iter,ifs,0⟩] scope pos) scope X.env _ (newList []) false (eval iter X.env) (some (assign (.Name y py) X.env))) _ _ s;refine wpAny_bind (wpAny_mono (wpAny_comprehension_free (use:=some (assign (.Name y py) X.env)) (Q:=fun _ s'=>SP X pins De .next s') rfl hs (gU (dR I.ok S)) S.kind S.loc ?_) (fun _ s' hq=>wpAny_pure (wpAny_pure hq)) fun _ _ e=>e);refine oy (RR:=fun acc C=>compPost (model X.prog X.w) X.A X.xe (some (assign (.Name y py) X.env)) (fun _ s'=>SP X pins De .next s') acc C) S hc hi hb I h ?_;intro D C s' H' oC m I' hoC hn h1 h2 h3 h4 q;show wpAny _ X.A (assign (.Name y py) X.env (.ref D)) _ _ _;refine bV (gq (pos:=py) hN hiN hy hf _ s' σ H' (.ref D) (.ref D) (fun σ2 H2=>σ2=σ.set i (some (.ref D))/\H2=H') I' rfl ⟨rfl,rfl⟩) fun _ s'' ⟨σ2,H2,I2,e1,e2⟩=>?_;subst e1 e2;obtain⟨g1,g2,_⟩:=I2.pin (C,oC) (List.mem_append_right _ (List.mem_append_right _ (by simp)));refine⟨m,hn.at' fun o e=>?_,fun h' sb=>?_⟩
 .rw[hoC] at e;cases e;exact g1
 .have I3:Inv X pins (σ.set i (some (.ref D))) H2 s'':=I2.jD fun p hp=>I2.pin p (List.mem_append_right _ (List.mem_append_left _ hp));exact⟨_,H2,I3.turned (t':=s''.toks) (fun b o hb e=>sb.extBut b o hb e) g2 h2 (.inr h1) h3 h4,q⟩
end
section
variable{X:Cx}
theorem BG:iR X (binaryOp .Mult) (rI IntMulOk fun i j=>.int (i*j)):=GV fun _ _ _ _ _ _ _ hc q=>mul_int q hc
def wu(_ j:Int):Prop:=j≠0/\j.natAbs.log2<9000
theorem zS:iR X (binaryOp .FloorDiv) (rI wu fun i j=>.int (i.fdiv j)):=GV fun _ _ _ _ _ _ _ hc q=>floordiv_int hc.1 q (.inl (PyProof.noPylong_of_log2 hc.2))
def FI(lo c:Int)(n:Nat):It:=⟨fun i _=>i<n,fun i H x H'=>H'=H/\x=.int (lo+i*c),fun i _=>n<=i⟩
theorem sF{P:Program}{w:World}{K:PySem.W.Frag}{tg:Expr}(it:Addr)(lo c:Int)(n:Nat):Turn P w K tg (FI lo c n) [it] it (fun i h=>IsRangeIter h it (lo+(i:Nat)*c) ((n:Int)-(i:Nat)) c) where
 mem:=by simp
 obj:=fun i h st b hb=>by
  have e:b=it:=by simpa using hb
  subst e
  exact⟨_,st,fun v z=>by
   have z':Data.fields _=Data.cell v:=z
   cases z'⟩
 keep:=fun i h h' st k=>k it (by simp) _ st
 item:=by
  intro X hP hw hK hc i pins s σ H E I hf st hg;subst hP hw hK;obtain⟨f0,f1,f2,f3,f4,f5⟩:=hf it (by simp);have W:=Walks.range (prog:=X.prog) (w:=X.w) (I.ok.hd hc) it lo c n;refine W.item i s _ _ hg st fun v h' tk hv st' kk=>?_;obtain⟨t,rfl⟩:=hv;have I1:Inv X pins σ H {s with heap:=h',toks:=tk}:=I.turned (fun b o hb e=>kk b o (by simpa using hb) e) f0 f1 f3 f4 f5;exact⟨_,rfl,wH (s:={s with heap:=h',toks:=tk}) (n:="range_iterator") st' rfl rfl (by decide) ⟨.int (lo+i*c),H,I1,⟨t,rfl⟩,⟨rfl,rfl⟩,st',fun b hb=>(hf b hb).1⟩⟩
 done:=by
  intro X hP hw hK hc i pins s σ H E I hf st hg;subst hP hw hK;obtain⟨f0,f1,f2,f3,f4,f5⟩:=hf it (by simp);exact wpAny_pyNext_range_end (I.ok.hd hc) st (by have:n<=i:=hg;omega) fun h' eb=>⟨rfl,I.turned (t':=s.toks) (fun b o hb e=>eb b o hb e) f0 f1 f3 f4 f5⟩
 self:=fun _ _ _ _ _ st h=>wpAny_pyIter_rangeiter st h
theorem BW{a b c:Int}(ha:-(2^62)<=a)(ha':a<2^62)(hb:-(2^62)<=b)(hb':b<2^62)(hc:c≠0)(hc1:-1000<=c)(hc2:c<=1000):Builtin.Range.small a b c=true:=by
 have h1:=rangeSize_toNat a b c;have h2:=rangeSize_toNat_le a b c;unfold Builtin.Range.small;generalize Builtin.Range.rangeSize a b c=r at *;simp only[Builtin.Range.rangeFitsLong,Bool.and_eq_true,Bool.or_eq_true,decide_eq_true_eq,beq_iff_eq];refine⟨⟨⟨⟨⟨by omega,by omega⟩,by omega,by omega⟩,by omega,by omega⟩,by omega,by omega⟩,?_⟩;right;split<;>simp only[Bool.and_eq_true,decide_eq_true_eq]<;>omega
variable{tg:Expr}
theorem wO{pins:List (Addr×Obj)}{σ:St}{H:Hp}{s:Shared}{R:It->Hp->Prop}{E:Value->Shared->Prop}{lo hi c:Int}{t u v:Tok}{tk:Nat}(I:Inv X pins σ H s)(h1:-(2^62)<=lo)(h2:lo<2^62)(h3:-(2^62)<=hi)(h4:hi<2^62)
  (c0:c≠0) (c1:-1000<=c) (c2:c<=1000)
  (q:R (FI lo c (Builtin.Range.rangeSize lo hi c).toNat) H):wpAny (model X.prog X.w) X.A (pyIter (.ref s.heap.objs.size)) (Jf X pins σ tg R) E {s with heap:=s.heap.push {cls:=.type "range",data:=.fields #[.int lo t,.int hi u,.int c v]},toks:=tk}:=by
 refine wpAny_pyIter_range (IsRange.new ..) (BW h1 h2 h3 h4 c0 c1 c2) ?_;have I1:Inv X pins σ H {s with heap:=s.heap.push {cls:=.type "range",data:=.fields #[.int lo t,.int hi u,.int c v]},toks:=tk}:=I.kept fun b o e=>Heap.get?_push_of_some _ e
 refine⟨(s.heap.push {cls:=.type "range",data:=.fields #[.int lo t,.int hi u,.int c v]}).objs.size,[(s.heap.push {cls:=.type "range",data:=.fields #[.int lo t,.int hi u,.int c v]}).objs.size],_,_,H,rfl,
  I1.kept (t':=tk) fun b o e=>Heap.get?_push_of_some _ e,sF _ lo c (Builtin.Range.rangeSize lo hi c).toNat,?_,fun b hb=>?_,q⟩
 .have e1:lo+((0:Nat):Int)*c=lo:=by simp
  have e2:(((Builtin.Range.rangeSize lo hi c).toNat:Nat):Int)-((0:Nat):Int)=Builtin.Range.rangeSize lo hi c:=by have:=rangeSize_toNat lo hi c;omega
  show IsRangeIter _ _ (lo+((0:Nat):Int)*c) ((((Builtin.Range.rangeSize lo hi c).toNat:Nat):Int)-((0:Nat):Int)) c;rw[e1,e2];exact Heap.get?_push_size _ rfl
 .have e:b=(s.heap.push {cls:=.type "range",data:=.fields #[.int lo t,.int hi u,.int c v]}).objs.size:=by simpa using hb
  subst e;exact I1.xM (Nat.le_refl _) (I1.hok.fresh (Nat.le_refl _))
def FZ(ta:TA):TI:=fun σ H R=>ta σ H fun vs H1=>∃i j c:Int,vs=[.int i,.int j,.int c]/\(-(2^62)<=i/\i<2^62/\-(2^62)<=j/\j<2^62)/\(c≠0/\-1000<=c/\c<=1000)/\R (FI i c (Builtin.Range.rangeSize i j c).toNat) H1
theorem xg{a b c:Expr}{ta:TA}{p pos:Pos}(hg:Gl X "range")(hm:X.mg "range"=none)(ha:PA X [a,b,c] ta)(he:starEach [a,b,c] X.env=(false,eval a X.env)::starEach [b,c] X.env:=by rfl)
  (hpl:(backTo pos (starEach [b,c] X.env)).any (·.1)=false:=by rfl):PI X tg (.Call (.Name "range" p) [a,b,c] [] pos) (FZ ta):=by
 intro pins s σ H R I h;refine Call_ (dX I hg hm boot_range (PyProof.Rows.callWith_type1 (bV (ha pos pins s σ H _ I h) fun us s1 ⟨vs,H1,I1,r1,q1⟩=>?_) he hpl));obtain⟨i,j,c,e,⟨q1,q2,q3,q4⟩,⟨c0,c1,c2⟩,q⟩:=q1;subst e;cases r1 with
 |cons r rr =>
  cases rr with
  |cons r' rr =>
   cases rr with
   |cons r'' rr =>
    cases rr;obtain⟨t,rfl⟩:=r;obtain⟨t',rfl⟩:=r';obtain⟨t'',rfl⟩:=r'';exact call_range_3 c0 (wO I1 q1 q2 q3 q4 c0 c1 c2 q) (.inl (PyProof.noPylong_small (by omega)))
theorem sZ{lo c:Int}{n:Nat}{g:TG}{tb:TS}{D:Ends}{σ:St}{H:Hp}(Pv:Nat->St->Hp->Prop)(h0:Pv 0 σ H)
  (hs:∀i σ H,i<n->Pv i σ H->g (.int (lo+i*c)) σ H fun σ2 H2=>tb {D with nx:=Pv (i+1),ct:=Pv (i+1),bk:=D.nx} σ2 H2) (hd:∀σ H,Pv n σ H->D.nx σ H):
  ∃W:Nat->Nat->St->Hp->Prop,(∃m,W 0 m σ H)/\∀i m σ H,W i m σ H ->
   ((FI lo c n).stop i H/\D.nx σ H)\/((FI lo c n).go i H/\∃N:St->Hp->Prop,(∀σ' H',N σ' H'->∃m',m'<m/\W (i+1) m' σ' H')/\∀x H',(FI lo c n).yld i H x H'->g x σ H' fun σ2 H2=>tb {D with nx:=N,ct:=N,bk:=D.nx} σ2 H2):=by
 refine⟨fun i m σ H=>m=n-i/\i<=n/\Pv i σ H,⟨n,by simp,Nat.zero_le _,h0⟩,?_⟩;rintro i m σ H ⟨rfl,hi,p⟩;by_cases hlt:i<n
 .refine .inr ⟨hlt,Pv (i+1),fun σ' H' p'=>⟨n-(i+1),by omega,rfl,hlt,p'⟩,fun x H' y=>?_⟩;obtain⟨e,y⟩:=y;subst e y;exact hs i σ _ hlt p
 .have e:i=n:=by omega
  subst e;exact .inl ⟨Nat.le_refl _,hd σ H p⟩
end
mutual
inductive DR(K:PySem.W.Frag)(H:Hp):V->PyData->Prop
 |non:DR K H .non .none
 |bl (b:Bool):DR K H (.bl b) (.bool b)
 |int (i:Int):DR K H (.int i) (.int i)
 |str (x:Str):DR K H (.str x) (.str x)
 |lst {a:Addr} {xs:List V} {ds:List PyData}:cW K H a xs->xc K H xs ds->DR K H (.ref a) (.list ds)
 |tup {a:Addr} {xs:List V} {ds:List PyData}:sI K H a xs->xc K H xs ds->DR K H (.ref a) (.tuple ds)
inductive xc(K:PySem.W.Frag)(H:Hp):List V->List PyData->Prop
 |nil:xc K H [] []
 |cons {x:V} {xs:List V} {d:PyData} {ds:List PyData}:DR K H x d->xc K H xs ds->xc K H (x::xs) (d::ds)
end
section
variable{X:Cx}{pins:List (Addr×Obj)}{σ:St}{H:Hp}{s:Shared}
mutual
theorem DR.reads(I:Inv X pins σ H s):∀{x:V} {d:PyData} {u:Value},DR X.K H x d->RelV x u->∃as,Reads s.heap u d as
 |_,_,_,.non,r=>by cases r;exact⟨_,.none⟩
 |_,_,_,.bl b,r=>by cases r;exact⟨_,.bool b⟩
 |_,_,_,.int i,r=>by obtain⟨t,rfl⟩:=r;exact⟨_,.int i t⟩
 |_,_,_,.str x,r=>by obtain⟨t,rfl⟩:=r;exact⟨_,.str x t⟩
 |_,_,_,.lst h hs,r=>by
  cases r;obtain⟨its,rv,p,_⟩:=I.list h;obtain⟨as,ra⟩:=xc.reads I hs rv;obtain⟨o,e1,e2,n,e3⟩:=p.isList;exact⟨_,.list e1 e2 e3 (by simpa using ra)⟩
 |_,_,_,.tup h hs,r=>by
  cases r;obtain⟨its,rv,p,_⟩:=I.tuple h;obtain⟨as,ra⟩:=xc.reads I hs rv;obtain⟨o,e1,e2,n,e3⟩:=p;exact⟨_,.tuple e1 e2 e3 (by simpa using ra)⟩
theorem xc.reads(I:Inv X pins σ H s):∀{xs:List V} {ds:List PyData} {us:List Value},xc X.K H xs ds->Vals xs us->∃as,ReadsAll s.heap us ds as
 |_,_,_,.nil,r=>by cases r;exact⟨_,.nil⟩
 |_,_,_,.cons h hs,r=>by
  cases r with
  |cons r1 r2 =>
   obtain⟨as,a⟩:=DR.reads I h r1;obtain⟨bs,b⟩:=xc.reads I hs r2;exact⟨_,.cons a b⟩
end
end
section
variable{X:Cx}
def IF(K:PySem.W.Frag):R2:=fun x y H Q=>∃d e,DR K H x d/\DR K H y e/\d.canLay0=true/\e.canLay0=true/\d.depth<=60/\Q (.bl (PyData.eqv d e)) H
def IG(K:PySem.W.Frag):R2:=fun x y H Q=>∃d e,DR K H x d/\DR K H y e/\d.canLay0=true/\e.canLay0=true/\d.depth<=60/\Q (.bl (!PyData.eqv d e)) H
theorem EB(hu:X.A.units+60<cLine):iR X (compareOp .Eq) (IF X.K):=by
 intro pins s σ H x y v u Q I rx ry h;obtain⟨d,e,hd,he,c1,c2,dp,q⟩:=h;obtain⟨as,ra⟩:=hd.reads I rx;obtain⟨bs,rb⟩:=he.reads I ry;exact SeqAt.compareEq_reads ra rb c1 c2 (by have:=Nat.min_le_left d.depth e.depth;omega) ⟨.bl _,H,I,rfl,q⟩
theorem Fg(hu:X.A.units+60<cLine):iR X (compareOp .NotEq) (IG X.K):=by
 intro pins s σ H x y v u Q I rx ry h;obtain⟨d,e,hd,he,c1,c2,dp,q⟩:=h;obtain⟨as,ra⟩:=hd.reads I rx;obtain⟨bs,rb⟩:=he.reads I ry;exact SeqAt.compareNe_reads ra rb c1 c2 (by have:=Nat.min_le_left d.depth e.depth;omega) ⟨.bl _,H,I,rfl,q⟩
end
end L2
namespace L2.EP
open PySem PySem.Spec PyProof.Rows
open Classical in
noncomputable def off(H:Hp)(O:Addr->Prop):Hp:=fun b=>if O b then none else H b
theorem a_{H:Hp}{O:Addr->Prop}{b:Addr}(h:¬O b):off H O b=H b:=by unfold off;rw[if_neg h]
theorem pZ{H:Hp}{O:Addr->Prop}{b:Addr}(h:O b):off H O b=none:=by unfold off;rw[if_pos h]
theorem ir{H:Hp}{O:Addr->Prop}{b:Addr}{o:HO}(h:off H O b=some o):¬O b/\H b=some o:=by
 by_cases hb:O b
 .rw[pZ hb] at h;cases h
 .rw[a_ hb] at h;exact⟨hb,h⟩
theorem ao(H:Hp)(O:Addr->Prop):aD (off H O) H:=fun _ _ h=>(ir h).2
theorem ag{H H':Hp}{O:Addr->Prop}(s:aD H H'):aD (off H O) (off H' O):=fun b o h=>by
 obtain⟨h1,h2⟩:=ir h;rw[a_ h1];exact s _ _ h2
theorem jE{H:Hp}{O O':Addr->Prop}(l:∀b,O' b->O b):aD (off H O) (off H O'):=fun b o h=>by
 obtain⟨h1,h2⟩:=ir h;rw[a_ fun z=>h1 (l _ z)];exact h2
theorem Bi(H:Hp):off H (fun _=>False)=H:=funext fun _=>a_ fun z=>z
theorem pT{H:Hp}{O:Addr->Prop}{p:Addr}{o:HO}(h:O p):off (upd H p o) O=off H O:=funext fun b=>by
 by_cases hb:O b
 .rw[pZ hb,pZ hb]
 .rw[a_ hb,a_ hb,aS];rintro rfl;exact hb h
theorem di{H:Hp}{p:Addr}(h:H p=none)(o:HO):aD H (upd H p o):=fun b u q=>by rw[aS (br q h)];exact q
theorem aD.rd{H H':Hp}{a:Addr}{u:HO}(e:aD H H')(h:Rd H a u):Rd H' a u:=by
 rcases h with h|⟨o,h⟩
 .exact .inl (e _ _ h)
 .exact .inr ⟨o,e _ _ h⟩
def Rt(H:Hp)(p:Addr)(xs:List V):Prop:=H p=some (.tup xs)\/∃_:Empty,H p=some (.tup xs)
theorem Rt.pl{H:Hp}{p:Addr}{xs:List V}(h:Rt H p xs):H p=some (.tup xs):=by
 rcases h with h|⟨o,h⟩
 .exact h
 .exact h
theorem Rt.rd{H:Hp}{p:Addr}{xs:List V}(h:Rt H p xs):Rd H p (.tup xs):=.inl h.pl
theorem aD.rt{H H':Hp}{a:Addr}{u:List V}(e:aD H H')(h:Rt H a u):Rt H' a u:=.inl (e _ _ h.pl)
theorem mh{K:PySem.W.Frag}{H H':Hp}{p:Addr}{xs:List V}(e:aD H H')(h:Rt H p xs):sI K H' p xs:=.inl (aD.rt e h).rd
inductive Nn where
 |any
 |new (H0:Hp)
 |set (D:Addr->Prop)
inductive Mt where
 |inl (xs:List V)
 |inr (kvs:List (Key×V))
 |inT (kvs:List (List Key×V))
 |inB (kvs:List ((Int×Bool)×V))
def mo:Mt->HO
 |.inl xs=>.lst xs
 |.inr kvs=>.dK kvs
 |.inT kvs=>.dT kvs
 |.inB kvs=>.dB kvs
def Mo(K:PySem.W.Frag)(H:Hp)(p:Addr):Mt->Prop
 |.inl xs=>cW K H p xs
 |.inr kvs=>Rd H p (.dK kvs)
 |.inT kvs=>Rd H p (.dT kvs)
 |.inB kvs=>Rd H p (.dB kvs)
theorem Mo.mono{K:PySem.W.Frag}{H H':Hp}{p:Addr}{o:Mt}(s:aD H H')(h:Mo K H p o):Mo K H' p o:=by
 cases o with
 |inl xs=>exact s.seq h
 |inr kvs=>exact aD.rd s h
 |inT kvs=>exact aD.rd s h
 |inB kvs=>exact aD.rd s h
theorem Mo.of{K:PySem.W.Frag}{H:Hp}{p:Addr}{o:Mt}(h:H p=some (mo o)):Mo K H p o:=by
 cases o with
 |inl xs=>exact cW.of h
 |inr kvs=>exact .inl h
 |inT kvs=>exact .inl h
 |inB kvs=>exact .inl h
def Nn.has:Nn->Hp->Addr->Mt->Prop
 |.any,_,_,_=>True
 |.new H0,H,p,xs=>H0 p=none/\H p=some (mo xs)
 |.set D,H,p,xs=>D p/\H p=some (mo xs)
theorem Nn.mono{N:Nn}{H H':Hp}{p:Addr}{xs:Mt}(s:aD H H')(h:N.has H p xs):N.has H' p xs:=by
 cases N with
 |any=>exact True.intro
 |new H0=>exact⟨h.1,s _ _ h.2⟩
 |set D=>exact⟨h.1,s _ _ h.2⟩
class Py(α:Type) where
 rp:PySem.W.Frag->Nn->Hp->V->α->Prop
 tr:∀{K:PySem.W.Frag} {N N':Nn} {H H':Hp} {v:V} {a:α},(∀p (o:Mt),Mo K H p o->N.has H p o->Mo K H' p o/\N'.has H' p o)->(∀p xs,Rt H p xs->Rt H' p xs)->rp K N H v a->rp K N' H' v a
theorem ay{α:Type}[Py α]{K:PySem.W.Frag}{N:Nn}{H H':Hp}{v:V}{a:α}(s:aD H H')(h:Py.rp K N H v a):Py.rp K N H' v a :=
 Py.tr (fun _ _ q n=>⟨Mo.mono s q,Nn.mono s n⟩) (fun _ _ q=>aD.rt s q) h
theorem bE{α:Type}[Py α]{K:PySem.W.Frag}{N N':Nn}{H:Hp}{v:V}{a:α}(w:∀p (o:Mt),N.has H p o->N'.has H p o)(h:Py.rp K N H v a):Py.rp K N' H v a :=
 Py.tr (fun _ _ q n=>⟨q,w _ _ n⟩) (fun _ _ q=>q) h
instance:Py Int where
 rp _ _ _ v a:=v=.int a
 tr _ _ h:=h
instance:Py Bool where
 rp _ _ _ v a:=v=.bl a
 tr _ _ h:=h
instance:Py Unit where
 rp _ _ _ v _:=v=.non
 tr _ _ h:=h
instance:Py Str where
 rp _ _ _ v a:=v=.str a
 tr _ _ h:=h
structure Any where
instance:Py Any where
 rp _ _ _ _ _:=True
 tr _ _ h:=h
instance{α:Type}[Py α]:Py (Option α) where
 rp K N H v a:=match a with|none=>v=.non|some b=>Py.rp K N H v b
 tr {K N N' H H' v a} l t h:=by
  cases a with
  |none=>exact h
  |some b=>exact Py.tr (α:=α) l t h
instance{α β:Type}[Py α][Py β]:Py (α×β) where
 rp K N H v a:=∃p x y,v=.ref p/\Rt H p [x,y]/\Py.rp K N H x a.1/\Py.rp K N H y a.2
 tr l t h:=by
  obtain⟨p,x,y,e,s,h1,h2⟩:=h;exact⟨p,x,y,e,t _ _ s,Py.tr l t h1,Py.tr l t h2⟩
structure T3(α β γ:Type) where
 a:α
 b:β
 c:γ
 deriving DecidableEq
instance{α β γ:Type}[Py α][Py β][Py γ]:Py (T3 α β γ) where
 rp K N H v a:=∃p x y z,v=.ref p/\Rt H p [x,y,z]/\Py.rp K N H x a.a/\Py.rp K N H y a.b/\Py.rp K N H z a.c
 tr l t h:=by
  obtain⟨p,x,y,z,e,s,h1,h2,h3⟩:=h;exact⟨p,x,y,z,e,t _ _ s,Py.tr l t h1,Py.tr l t h2,Py.tr l t h3⟩
theorem bL{α β:Type}{F G:α->β->Prop}(f:∀a b,F a b->G a b):∀{l₁:List α} {l₂:List β},Paired F l₁ l₂->Paired G l₁ l₂
 |_,_,.nil=>.nil
 |_,_,.cons h t=>.cons (f _ _ h) (bL f t)
theorem bF{α β:Type}{F:α->β->Prop}:∀{l₁:List α} {l₂:List β},Paired F l₁ l₂->l₁.length=l₂.length
 |_,_,.nil=>rfl
 |_,_,.cons _ t=>congrArg (·+1) (bF t)
theorem h7{α β:Type}{F:α->β->Prop}:∀{l₁:List α} {l₂:List β} {i:Nat} {b:β},Paired F l₁ l₂->l₂[i]?=some b->∃a,l₁[i]?=some a/\F a b
 |_,_,_,_,.nil,e=>by simp at e
 |_,_,0,_,.cons h _,e=>by simp at e;subst e;exact⟨_,rfl,h⟩
 |_,_,i+1,_,.cons _ t,e=>by
  obtain⟨a,h1,h2⟩:=h7 (i:=i) t (by simpa using e);exact⟨a,by simpa using h1,h2⟩
theorem u5{α β:Type}{F:α->β->Prop}:∀{l₁:List α} {l₂:List β} {i:Nat} {a:α},Paired F l₁ l₂->l₁[i]?=some a->∃b,l₂[i]?=some b/\F a b
 |_,_,_,_,.nil,e=>by simp at e
 |_,_,0,_,.cons h _,e=>by simp at e;subst e;exact⟨_,rfl,h⟩
 |_,_,i+1,_,.cons _ t,e=>by
  obtain⟨a,h1,h2⟩:=u5 (i:=i) t (by simpa using e);exact⟨a,by simpa using h1,h2⟩
theorem uq{α β:Type}{F:α->β->Prop}:∀{l₁ m₁:List α} {l₂ m₂:List β},Paired F l₁ l₂->Paired F m₁ m₂->Paired F (l₁++m₁) (l₂++m₂)
 |_,_,_,_,.nil,h=>h
 |_,_,_,_,.cons h t,h'=>.cons h (uq t h')
theorem pS{α β:Type}{F:α->β->Prop}:∀{l₁:List α} {l₂:List β} (n:Nat),Paired F l₁ l₂->Paired F (l₁.drop n) (l₂.drop n)
 |_,_,0,h=>h
 |_,_,_+1,.nil=>.nil
 |_,_,n+1,.cons _ t=>pS n t
instance{α:Type}[Py α]:Py (List α) where
 rp K N H v a:=∃p xs,v=.ref p/\cW K H p xs/\N.has H p (.inl xs)/\Paired (fun x b=>Py.rp K N H x b) xs a
 tr l t h:=by
  obtain⟨p,xs,e,s,n,r⟩:=h;obtain⟨s',n'⟩:=l _ (.inl xs) s n;exact⟨p,xs,e,s',n',bL (fun _ _ q=>Py.tr l t q) r⟩
class PyD(α:Type) extends Py α where
 dat:α->PyData
 dr:∀{K:PySem.W.Frag} {N:Nn} {H:Hp} {v:V} {a:α},Py.rp K N H v a->DR K H v (dat a)
 lay:∀a,(dat a).canLay0=true
 dep:Nat
 depth:∀a,(dat a).depth<=dep
 eqv:∀a b,PyData.eqv (dat a) (dat b)=true↔a=b
instance:PyD Int where
 dat:=.int
 dr h:=by cases h;exact .int _
 lay _:=rfl
 dep:=0
 depth _:=Nat.le_refl _
 eqv a b:=by simp[PyData.eqv]
instance:PyD Bool where
 dat:=.bool
 dr h:=by cases h;exact .bl _
 lay _:=rfl
 dep:=0
 depth _:=Nat.le_refl _
 eqv a b:=by simp[PyData.eqv]
instance{α β:Type}[PyD α][PyD β]:PyD (α×β) where
 dat a:=.tuple [PyD.dat a.1,PyD.dat a.2]
 dr h:=by
  obtain⟨p,x,y,e,s,h1,h2⟩:=h;subst e;exact .tup (.inl s.rd) (.cons (PyD.dr h1) (.cons (PyD.dr h2) .nil))
 lay a:=by
  show PyData.canLayAll0 [PyD.dat a.1,PyD.dat a.2]=true;simp[PyData.canLayAll0,PyD.lay]
 dep:=max (PyD.dep α) (PyD.dep β)+1
 depth a:=by
  have h1:=PyD.depth a.1;have h2:=PyD.depth a.2;show PyData.depthAll [PyD.dat a.1,PyD.dat a.2]+1<=_;simp only[PyData.depthAll];omega
 eqv a b:=by
  rw[PyData.eqv];simp only[PyData.eqvAll,Bool.and_true,Bool.and_eq_true,PyD.eqv];exact⟨fun h=>Prod.ext h.1 h.2,fun h=>by subst h;exact⟨rfl,rfl⟩⟩
theorem mG{α:Type}[PyD α]{K:PySem.W.Frag}{N:Nn}{H:Hp}:∀{xs:List V} {as:List α},Paired (fun x b=>Py.rp K N H x b) xs as->xc K H xs (as.map PyD.dat)
 |_,_,.nil=>.nil
 |_,_,.cons h t=>.cons (PyD.dr h) (mG t)
theorem mU{α:Type}[PyD α]:∀as:List α,PyData.canLayAll0 (as.map PyD.dat)=true
 |[]=>rfl
 |a::as=>by simp[PyData.canLayAll0,PyD.lay,mU as]
theorem qT{α:Type}[PyD α]:∀as:List α,PyData.depthAll (as.map PyD.dat)<=PyD.dep α
 |[]=>Nat.zero_le _
 |a::as=>by
  have h1:=PyD.depth a;have h2:=qT as;simp only[List.map_cons,PyData.depthAll];omega
theorem rM{α:Type}[PyD α]:∀as bs:List α,PyData.eqvAll (as.map PyD.dat) (bs.map PyD.dat)=true↔as=bs
 |[],[]=>by simp[PyData.eqvAll]
 |[],_::_=>by simp[PyData.eqvAll]
 |_::_,[]=>by simp[PyData.eqvAll]
 |a::as,b::bs=>by simp[PyData.eqvAll,PyD.eqv,rM as bs]
instance{α:Type}[PyD α]:PyD (List α) where
 dat a:=.list (a.map PyD.dat)
 dr h:=by
  obtain⟨p,xs,e,s,n,r⟩:=h;subst e;exact .lst s (mG r)
 lay a:=mU a
 dep:=PyD.dep α+1
 depth a:=by
  show PyData.depthAll (a.map PyD.dat)+1<=_;have:=qT a;omega
 eqv a b:=by rw[PyData.eqv];exact rM a b
inductive Bd:Type 1
 |val {α:Type} [Py α] (b:Bool) (a:α):Bd
 |own {α:Type} [Py α] (b:Bool) (as:List α):Bd
 |dpo {α:Type} [Py α] (a:α):Bd
abbrev aE:=List (Option Bd)
def Nf(H0:Hp):Bool->Nn
 |true=>.new H0
 |false=>.any
theorem Nf.wk{H0 H:Hp}{b:Bool}{p:Addr}{xs:Mt}(h:H0 p=none)(hx:H p=some (mo xs)):(Nf H0 b).has H p xs:=by cases b;exact True.intro;exact⟨h,hx⟩
theorem Nf.le{H0 H:Hp}{b b':Bool}{p:Addr}{xs:Mt}(l:b'=true->b=true)(h:(Nf H0 b).has H p xs):(Nf H0 b').has H p xs:=by
 cases b' with
 |false=>exact True.intro
 |true=>rw[l rfl] at h;exact h
def Bd.ok(K:PySem.W.Frag)(H0:Hp)(O:Addr->Prop)(H:Hp)(v:V):Bd->Prop
 |@Bd.val _ _ b a=>Py.rp K (Nf H0 b) (off H O) v a
 |@Bd.own _ _ _ _=>False
 |@Bd.dpo _ _ _=>False
def Bd.u6(K:PySem.W.Frag)(H0:Hp)(O:Addr->Prop)(H:Hp)(D:Addr->Prop)(v:V):Bd->Prop
 |@Bd.val _ _ _ _=>False
 |@Bd.own _ _ b as=>∃p xs,v=.ref p/\D p/\H p=some (.lst xs)/\Paired (fun x a=>Py.rp K (Nf H0 b) (off H O) x a) xs as
 |@Bd.dpo _ _ a=>Py.rp K (.set D) H v a
def Bd.eP:Bd->Prop
 |@Bd.val _ _ _ _=>False
 |@Bd.own _ _ _ _=>True
 |@Bd.dpo _ _ _=>True
structure dD(K:PySem.W.Frag)(H0:Hp)(F O:Addr->Prop)(Γ:aE)(σ:St)(H:Hp):Prop where
 same:aD H0 H
 fo:∀p,F p->O p
 f0:∀p,F p->∃xs:Mt,H0 p=some (mo xs)
 own:∀p,O p->∃xs:Mt,H p=some (mo xs)
 len:σ.length=Γ.length
 at_:∀(i:Nat) (g:Bd),Γ[i]?=some (some g)->¬g.eP->∃v,σ[i]?=some (some v)/\g.ok K H0 O H v
 dis:∃D:Nat->Addr->Prop,(∀i j p,D i p->D j p->i=j)/\(∀i p,D i p->O p/\H0 p=none)/\∀(i:Nat) (g:Bd),Γ[i]?=some (some g)->g.eP->∃v,σ[i]?=some (some v)/\g.u6 K H0 O H (D i) v
section
variable{K:PySem.W.Frag}{H0:Hp}{F O:Addr->Prop}{Γ:aE}{σ:St}{H H':Hp}
theorem Bd.go{v:V}{g:Bd}(s:aD H H')(h:g.ok K H0 O H v):g.ok K H0 O H' v:=by
 cases g with
 |val b a=>exact ay (ag s) h
 |own b as=>exact h
 |dpo a=>exact h
theorem Bd.GZ{v:V}{g:Bd}{D O':Addr->Prop}(h:g.u6 K H0 O H D v)(hD:∀p (xs:Mt),D p->H p=some (mo xs)->H' p=some (mo xs))(so:aD (off H O) (off H' O'))(hO:∀p,D p->O p)(hOl:∀p,O p->∃xs:Mt,H p=some (mo xs)):g.u6 K H0 O' H' D v:=by
 cases g with
 |val b a=>exact h
 |own b as =>
  obtain⟨p,xs,e,o,q,r⟩:=h;exact⟨p,xs,e,o,hD p (.inl xs) o q,bL (fun _ _ z=>ay so z) r⟩
 |dpo a =>
  have h':Py.rp K (.set D) H v a:=h;refine Py.tr (α:=_) (a:=a) (fun p xs q n=>?_) (fun p xs q=>?_) h'
  .obtain⟨n1,n2⟩:=n;have h2:=hD p xs n1 n2;exact⟨Mo.of h2,n1,h2⟩
  .have hp:∀u,(H p=some (.tup u)\/∃o,H p=some (.frz o (.tup u)))->¬O p:=fun u z hp=>by
    obtain⟨ys,w⟩:=hOl p hp;rcases z with z|⟨o,z⟩
    .rw[z] at w;rcases ys with ys|ys|ys<;>cases w
    .rw[z] at w;rcases ys with ys|ys|ys<;>cases w
   have hp':=hp xs q.rd;rcases q with q|⟨o,q⟩
   .exact .inl ((ao _ _) _ _ (so _ _ (by rw[a_ hp'];exact q)))
   .exact .inr ⟨o,(ao _ _) _ _ (so _ _ (by rw[a_ hp'];exact q))⟩
theorem dD.go(S:dD K H0 F O Γ σ H)(s:aD H H'):dD K H0 F O Γ σ H' where
 same:=S.same.trans s
 fo:=S.fo
 f0:=S.f0
 own:=fun p h=>let ⟨xs,q⟩:=S.own p h;⟨xs,s _ _ q⟩
 len:=S.len
 at_:=fun i g e n=>let ⟨v,q,r⟩:=S.at_ i g e n;⟨v,q,Bd.go s r⟩
 dis:=by
  obtain⟨D,d1,d2,d3⟩:=S.dis;refine⟨D,d1,d2,fun i g e o=>?_⟩;obtain⟨v,q,r⟩:=d3 i g e o;exact⟨v,q,Bd.GZ r (fun p xs _ z=>s _ _ z) (ag s) (fun p z=>(d2 i p z).1) S.own⟩
theorem dD.gW(S:dD K H0 F O Γ σ H){p:Addr}(h:H p=none):H0 p=none:=S.same.free h
theorem dD.nF(S:dD K H0 F O Γ σ H){p:Addr}(h:H p=none):¬O p:=fun o=>by
 obtain⟨xs,q⟩:=S.own p o;rw[h] at q;cases q
theorem dD.back{α:Type}[Py α]{b:Bool}{v:V}{a:α}(S:dD K H0 F O Γ σ H)(h:Py.rp K (Nf H b) (off H' O) v a):Py.rp K (Nf H0 b) (off H' O) v a :=
 bE (fun p xs n=>by cases b with|true=>exact⟨S.gW n.1,n.2⟩|false=>exact True.intro) h
end
theorem get_set_ne.{u}{α:Type u}{l:List α}{i j:Nat}{a:α}(h:j≠i):(l.set i a)[j]?=l[j]?:=by
 rw[List.getElem?_set_ne (Ne.symm h)]
theorem get_set_eq.{u}{α:Type u}{l:List α}{i:Nat}{a:α}(h:i<l.length):(l.set i a)[i]?=some a:=by
 rw[List.getElem?_set_self h]
theorem get_set_some.{u}{α:Type u}{l:List (Option α)}{i:Nat}{a x:α}(h:(l.set i (some a))[i]?=some (some x)):i<l.length/\a=x:=by
 by_cases hl:i<l.length
 .rw[get_set_eq hl] at h;injection h with h;injection h with h;exact⟨hl,h⟩
 .rw[List.getElem?_eq_none (by rw[List.length_set];omega)] at h;cases h
theorem dD.set{K:PySem.W.Frag}{H0:Hp}{F O:Addr->Prop}{Γ:aE}{σ:St}{H:Hp}{α:Type}[Py α]{b:Bool}{a:α}{v:V}{i:Nat}(S:dD K H0 F O Γ σ H)(r:Py.rp K (Nf H0 b) (off H O) v a):
  dD K H0 F O (Γ.set i (some (.val b a))) (σ.set i (some v)) H where
 same:=S.same
 fo:=S.fo
 f0:=S.f0
 own:=S.own
 len:=by rw[List.length_set,List.length_set];exact S.len
 at_:=fun j g e n=>by
  by_cases hj:j=i
  .subst hj;obtain⟨hl,e'⟩:=get_set_some e;subst e';exact⟨v,get_set_eq (by rw[S.len];exact hl),r⟩
  .rw[get_set_ne hj] at e;obtain⟨w,q,z⟩:=S.at_ j g e n;exact⟨w,by rw[get_set_ne hj];exact q,z⟩
 dis:=by
  obtain⟨D,d1,d2,d3⟩:=S.dis;refine⟨D,d1,d2,fun j g e o=>?_⟩
  have hj:j≠i:=by
   rintro rfl;obtain⟨_,e'⟩:=get_set_some e;subst e';exact o
  rw[get_set_ne hj] at e;obtain⟨w,q,z⟩:=d3 j g e o;exact⟨w,by rw[get_set_ne hj];exact q,z⟩
def tV{α:Type}[Py α](K:PySem.W.Frag)(Γ:aE)(b:Bool)(a:α):TE:=fun σ H Q=>∃H0 F O,dD K H0 F O Γ σ H/\∀v H',aD H H'->Py.rp K (Nf H0 b) (off H' O) v a->Q v H'
@[irreducible] def E{α:Type}[Py α](X:Cx)(Γ:aE)(e:Expr)(b:Bool)(a:α):Prop:=PE X e (tV X.K Γ b a)
def Ek(K:PySem.W.Frag)(Γ:aE)(c:Bool):TT:=fun σ H Q=>∃H0 F O,dD K H0 F O Γ σ H/\∀H',aD H H'->Q c H'
@[irreducible] def T(X:Cx)(Γ:aE)(e:Expr)(c:Bool):Prop:=PT X e (Ek X.K Γ c)
@[irreducible] def TW(X:Cx)(Γ:aE)(e:Expr)(c:Bool):Prop:=PW X e (Ek X.K Γ c)
theorem aG{X:Cx}{e:Expr}{t t':TE}(h:PE X e t)(w:∀σ H Q,t' σ H Q->t σ H Q):PE X e t':=fun pins s σ H Q I q=>h pins s σ H Q I (w _ _ _ q)
theorem oG{X:Cx}{e:Expr}{t t':TT}(h:PT X e t)(w:∀σ H Q,t' σ H Q->t σ H Q):PT X e t':=fun pins s σ H Q I q=>h pins s σ H Q I (w _ _ _ q)
theorem wy{X:Cx}{e:Expr}{t t':TT}(h:PW X e t)(w:∀σ H Q,t' σ H Q->t σ H Q):PW X e t':=fun wh pins s σ H Q I q=>h wh pins s σ H Q I (w _ _ _ q)
section
variable{X:Cx}{Γ:aE}{α β γ:Type}[Py α][Py β][Py γ]{e e1 e2 e3:Expr}{b b1 b2 b3:Bool}{pos:Pos}
theorem aa(i:Nat){a:α}{x:Str}(h:Γ[i]?=some (some (.val b a)):=by rfl)(hN:X.N[i]?=some x:=by rfl)(hv:FP X.env.scope x:=by first|exact Or.inl rfl|exact Or.inr (Or.inl rfl)|exact Or.inr (Or.inr rfl))
  (hd:(x==("__debug__":Str))=false:=by decide) (hcd:(x==("__classdict__":Str))=false:=by decide):E X Γ (.Name x pos) b a:=by
 with_unfolding_all
  exact aG (pv i hN hv hd hcd) fun σ H Q ⟨H0,F,O,S,q⟩=>by
    obtain⟨v,h1,h2⟩:=S.at_ i _ h (fun z=>z);exact⟨v,h1,q v H (aD.refl _) h2⟩
theorem ae{i:Int}{j:Nat}:E X Γ (.Constant (.int i) j pos) true i:=by
 with_unfolding_all
  exact aG Eo fun σ H Q ⟨H0,F,O,S,q⟩=>q _ H (aD.refl _) rfl
theorem td{i:Bool}{j:Nat}:E X Γ (.Constant (.bool i) j pos) true i:=by
 with_unfolding_all
  exact aG Ha fun σ H Q ⟨H0,F,O,S,q⟩=>q _ H (aD.refl _) rfl
theorem l_{j:Nat}:E X Γ (.Constant .none j pos) true (none:Option α):=by
 with_unfolding_all
  exact aG Fq fun σ H Q ⟨H0,F,O,S,q⟩=>q _ H (aD.refl _) rfl
theorem uV{x:Str}{j:Nat}:E X Γ (.Constant (.str x) j pos) true x:=by
 with_unfolding_all
  exact aG D3 fun σ H Q ⟨H0,F,O,S,q⟩=>q _ H (aD.refl _) rfl
theorem E.some{a:α}(h:E X Γ e b a):E X Γ e b (some a):=by
 with_unfolding_all
  exact aG h fun σ H Q ⟨H0,F,O,S,q⟩=>⟨H0,F,O,S,fun v H' s r=>q v H' s r⟩
theorem uQ{op:Operator}{C:Int->Int->Prop}{g:Int->Int->Int}{i j:Int}(ho:iR X (binaryOp op) (rI C fun i j=>.int (g i j)))(ha:E X Γ e1 b1 i)(hb:E X Γ e2 b2 j)(hc:C i j):E X Γ (.BinOp e1 op e2 pos) true (g i j):=by
 with_unfolding_all
  exact aG (vz ho ha hb) fun σ H Q ⟨H0,F,O,S,q⟩=>⟨H0,F,O,S,fun v H1 s1 r1=>⟨H0,F,O,S.go s1,fun w H2 s2 r2=>⟨i,j,r1,r2,hc,q _ H2 (s1.trans s2) rfl⟩⟩⟩
theorem aX{i j:Int}(ha:E X Γ e1 b1 i)(hb:E X Γ e2 b2 j):E X Γ (.BinOp e1 .Add e2 pos) true (i+j):=by
 with_unfolding_all
  exact uQ (C:=fun _ _=>True) (fun pins s σ H x y v u Q I rx ry ⟨i,j,h1,h2,_,q⟩=>E5 pins s σ H x y v u Q I rx ry ⟨i,j,h1,h2,q⟩) ha hb True.intro
theorem eL{i j:Int}(ha:E X Γ e1 b1 i)(hb:E X Γ e2 b2 j):E X Γ (.BinOp e1 .Sub e2 pos) true (i-j):=by
 with_unfolding_all
  exact uQ (C:=fun _ _=>True) (fun pins s σ H x y v u Q I rx ry ⟨i,j,h1,h2,_,q⟩=>DX pins s σ H x y v u Q I rx ry ⟨i,j,h1,h2,q⟩) ha hb True.intro
theorem aO{i j:Int}(ha:E X Γ e1 b1 i)(hb:E X Γ e2 b2 j)(hc:IntMulOk i j):E X Γ (.BinOp e1 .Mult e2 pos) true (i*j):=by
 with_unfolding_all
  exact uQ BG ha hb hc
theorem aP{i j:Int}(ha:E X Γ e1 b1 i)(hb:E X Γ e2 b2 j)(hc:wu i j):E X Γ (.BinOp e1 .FloorDiv e2 pos) true (i.fdiv j):=by
 with_unfolding_all
  exact uQ zS ha hb hc
theorem aL{i j:Int}(ha:E X Γ e1 b1 i)(hb:E X Γ e2 b2 j)(hc:j≠0):E X Γ (.BinOp e1 .Mod e2 pos) true (i.fmod j):=by
 with_unfolding_all
  exact uQ Bo ha hb hc
theorem Gr{i j:Int}(ha:E X Γ e1 b1 i)(hb:E X Γ e2 b2 j)(hc:zW i j):E X Γ (.BinOp e1 .Pow e2 pos) true (i^j.toNat):=by
 with_unfolding_all
  exact uQ Dr ha hb hc
theorem iU{i:Int}(ha:E X Γ e1 b1 i):E X Γ (.UnaryOp .USub e1 pos) true (-i):=by
 with_unfolding_all
  exact aG (Hy EM ha) fun σ H Q ⟨H0,F,O,S,q⟩=>⟨H0,F,O,S,fun v H1 s1 r1=>⟨i,r1,q _ H1 s1 rfl⟩⟩
def CV(X:Cx)(op:CmpOp)(x:α)(y:β)(c:Bool):Prop:=∃r,iR X (compareOp op) r/\∀(N N':Nn) (H:Hp) (u v:V) (Q:VK),Py.rp X.K N H u x->Py.rp X.K N' H v y->Q (.bl c) H->r u v H Q
theorem vx{op:CmpOp}{g:Int->Int->Bool}(ho:iR X (compareOp op) (BU fun i j=>.bl (g i j)))(i j:Int):CV X op i j (g i j):=⟨_,ho,fun N N' H u v Q h1 h2 q=>⟨i,j,h1,h2,q⟩⟩
theorem jx{i j:Int}:CV X .Lt i j (decide (i<j)):=vx Gg i j
theorem yu{i j:Int}:CV X .LtE i j (decide (i<=j)):=vx Gi i j
theorem dt{i j:Int}:CV X .Gt i j (decide (j<i)):=vx HC i j
theorem F0{i j:Int}:CV X .GtE i j (decide (j<=i)):=vx HA i j
theorem aA{i j:Int}:CV X .Eq i j (decide (i=j)):=⟨_,HB,fun N N' H u v Q h1 h2 q=>by
 cases h1;cases h2;refine⟨rfl,?_⟩
 rw[lB,Bool.beq_eq_decide_eq];exact q⟩
theorem eT{i j:Int}:CV X .NotEq i j (!decide (i=j)):=⟨_,F9,fun N N' H u v Q h1 h2 q=>by
 cases h1;cases h2;refine⟨rfl,?_⟩
 rw[lB,Bool.beq_eq_decide_eq];exact q⟩
theorem GS{α:Type}[PyD α][DecidableEq α]{x y:α}(hu:X.A.units+60<cLine)(hd:PyD.dep α<=60:=by decide):CV X .Eq x y (decide (x=y)):=⟨_,EB hu,fun N N' H u v Q h1 h2 q=>by
 refine⟨_,_,PyD.dr h1,PyD.dr h2,PyD.lay _,PyD.lay _,Nat.le_trans (PyD.depth _) hd,?_⟩
 have e:PyData.eqv (PyD.dat x) (PyD.dat y)=decide (x=y):=by
  by_cases h:x=y
  .rw[decide_eq_true h];exact(PyD.eqv x y).mpr h
  .rw[decide_eq_false h];exact Bool.eq_false_iff.mpr fun z=>h ((PyD.eqv x y).mp z)
 rw[e];exact q⟩
theorem vF{α:Type}[PyD α][DecidableEq α]{x y:α}(hu:X.A.units+60<cLine)(hd:PyD.dep α<=60:=by decide):CV X .NotEq x y (!decide (x=y)):=⟨_,Fg hu,fun N N' H u v Q h1 h2 q=>by
 refine⟨_,_,PyD.dr h1,PyD.dr h2,PyD.lay _,PyD.lay _,Nat.le_trans (PyD.depth _) hd,?_⟩
 have e:PyData.eqv (PyD.dat x) (PyD.dat y)=decide (x=y):=by
  by_cases h:x=y
  .rw[decide_eq_true h];exact(PyD.eqv x y).mpr h
  .rw[decide_eq_false h];exact Bool.eq_false_iff.mpr fun z=>h ((PyD.eqv x y).mp z)
 rw[e];exact q⟩
theorem cj{op:CmpOp}{x:α}{y:β}{c:Bool}(hc:CV X op x y c)(ha:E X Γ e1 b1 x)(hb:E X Γ e2 b2 y)(hm:behindInMarks op e2=false:=by first|exact yF _|rfl):E X Γ (.Compare e1 [op] [e2] pos) true c:=by
 with_unfolding_all
  obtain⟨r,ho,hr⟩:=hc
  exact aG (Bq ho ha hb hm) fun σ H Q ⟨H0,F,O,S,q⟩=>⟨H0,F,O,S,fun v H1 s1 r1=>⟨H0,F,O,S.go s1,fun w H2 s2 r2 =>
   hr _ _ H2 v w _ (ay ((ag s2).trans (ao _ _)) r1) (ay (ao _ _) r2) (q _ H2 (s1.trans s2) rfl)⟩⟩
theorem aw{op:CmpOp}{x:α}{y:β}{c:Bool}(hc:CV X op x y c)(ha:E X Γ e1 b1 x)(hb:E X Γ e2 b2 y)(hm:behindInMarks op e2=false:=by first|exact yF _|rfl):T X Γ (.Compare e1 [op] [e2] pos) c:=by
 with_unfolding_all
  obtain⟨r,ho,hr⟩:=hc
  exact oG (Bk ho ha hb hm) fun σ H Q ⟨H0,F,O,S,q⟩=>⟨H0,F,O,S,fun v H1 s1 r1=>⟨H0,F,O,S.go s1,fun w H2 s2 r2 =>
   hr _ _ H2 v w _ (ay ((ag s2).trans (ao _ _)) r1) (ay (ao _ _) r2) ⟨c,rfl,q H2 (s1.trans s2)⟩⟩⟩
theorem HI{x:Option α}{j:Nat}{p:Pos}(ha:E X Γ e1 b1 x)(hx:∀(K:PySem.W.Frag) (N:Nn) (H:Hp) (a:α),¬Py.rp K N H .non a):E X Γ (.Compare e1 [.Is] [.Constant .none j p] pos) true x.isNone:=by
 with_unfolding_all
  exact aG (Ej (x4 ha)) fun σ H Q ⟨H0,F,O,S,q⟩=>⟨H0,F,O,S,fun v H1 s1 r1=>by
    have:=q (.bl (decide (v=.non))) H1 s1;refine this ?_;cases x with
    |none=>cases r1;rfl
    |some a =>
     have hv:v≠.non:=by rintro rfl;exact hx _ _ _ a r1
     show V.bl (decide (v=.non))=.bl false
     rw[decide_eq_false hv]⟩
theorem q_{x:Option α}{j:Nat}{p:Pos}(ha:E X Γ e1 b1 x)(hx:∀(K:PySem.W.Frag) (N:Nn) (H:Hp) (a:α),¬Py.rp K N H .non a):T X Γ (.Compare e1 [.Is] [.Constant .none j p] pos) x.isNone:=by
 with_unfolding_all
  exact oG (y4 (x4 ha)) fun σ H Q ⟨H0,F,O,S,q⟩=>⟨H0,F,O,S,fun v H1 s1 r1=>by
    refine⟨decide (v=.non),rfl,?_⟩
    have e:decide (v=.non)=x.isNone:=by
     cases x with
     |none=>cases r1;rfl
     |some a =>
      have hv:v≠.non:=by rintro rfl;exact hx _ _ _ a r1
      rw[decide_eq_false hv];rfl
    rw[e];exact q H1 s1⟩
theorem gR{c:Bool}(h:E X Γ e b c)(he:∀whole,isTrue e X.env whole=(do let v <-whole;standAt e.pos;holding [v] (truthy v)):=by intro _;rfl):T X Γ e c:=by
 with_unfolding_all
  exact oG (Fo h he) fun σ H Q ⟨H0,F,O,S,q⟩=>⟨H0,F,O,S,fun v H1 s1 r1=>⟨c,r1,q H1 s1⟩⟩
theorem kI{c:Bool}(h:T X Γ e c):T X Γ (.UnaryOp .Not e pos) (!c):=by
 with_unfolding_all
  exact oG (D4 h) fun σ H Q ⟨H0,F,O,S,q⟩=>⟨H0,F,O,S,fun H1 s1=>q H1 s1⟩
variable{rest:List Expr}
theorem jj{c:Bool}(h:T X Γ e c):TW X Γ (.BoolOp .And [e] pos) c:=by
 with_unfolding_all
  exact B7 h
theorem i8{c:Bool}(h:T X Γ e c):TW X Γ (.BoolOp .Or [e] pos) c:=by
 with_unfolding_all
  exact Et h
theorem Dj:PW X e (fun _ _ _=>False):=fun _ _ _ _ _ _ _ h=>h.elim
theorem kQ:PE X e (fun _ _ _=>False):=fun _ _ _ _ _ _ h=>h.elim
theorem ka{c c':Bool}(h:T X Γ e1 c)(h':c=true->TW X Γ (.BoolOp .And (e2::rest) pos) c'):TW X Γ (.BoolOp .And (e1::e2::rest) pos) (c&&c'):=by
 with_unfolding_all
  cases c with
  |true=>exact wy (x8 h (h' rfl)) fun σ H Q ⟨H0,F,O,S,q⟩=>⟨H0,F,O,S,fun H1 s1=>nW ⟨H0,F,O,S.go s1,fun H2 s2=>q H2 (s1.trans s2)⟩⟩
  |false=>exact wy (x8 h Dj) fun σ H Q ⟨H0,F,O,S,q⟩=>⟨H0,F,O,S,fun H1 s1=>nY (q H1 s1)⟩
theorem mB{c c':Bool}(h:T X Γ e1 c)(h':c=false->TW X Γ (.BoolOp .Or (e2::rest) pos) c'):TW X Γ (.BoolOp .Or (e1::e2::rest) pos) (c || c'):=by
 with_unfolding_all
  cases c with
  |false=>exact wy (C4 h (h' rfl)) fun σ H Q ⟨H0,F,O,S,q⟩=>⟨H0,F,O,S,fun H1 s1=>nY ⟨H0,F,O,S.go s1,fun H2 s2=>q H2 (s1.trans s2)⟩⟩
  |true=>exact wy (C4 h Dj) fun σ H Q ⟨H0,F,O,S,q⟩=>⟨H0,F,O,S,fun H1 s1=>nW (q H1 s1)⟩
theorem TW.t{c:Bool}(h:TW X Γ e c):T X Γ e c:=by
 with_unfolding_all
  exact h.pt
theorem qz{op:BoolOp}{a:α}(h:E X Γ e b a):E X Γ (.BoolOp op [e] pos) b a:=by
 with_unfolding_all
  exact EH h
theorem zP{c c':Bool}(h:E X Γ e1 b1 c)(h':c=true->E X Γ (.BoolOp .And (e2::rest) pos) b2 c'):E X Γ (.BoolOp .And (e1::e2::rest) pos) true (c&&c'):=by
 with_unfolding_all
  cases c with
  |true=>exact aG (zD h (h' rfl)) fun σ H Q ⟨H0,F,O,S,q⟩=>⟨H0,F,O,S,fun v H1 s1 r1=>⟨true,r1,nW ⟨H0,F,O,S.go s1,fun w H2 s2 r2=>q w H2 (s1.trans s2) r2⟩⟩⟩
  |false=>exact aG (zD h kQ) fun σ H Q ⟨H0,F,O,S,q⟩=>⟨H0,F,O,S,fun v H1 s1 r1=>⟨false,r1,nY (q _ H1 s1 rfl)⟩⟩
theorem EY{c c':Bool}(h:E X Γ e1 b1 c)(h':c=false->E X Γ (.BoolOp .Or (e2::rest) pos) b2 c'):E X Γ (.BoolOp .Or (e1::e2::rest) pos) true (c || c'):=by
 with_unfolding_all
  cases c with
  |false=>exact aG (C3 h (h' rfl)) fun σ H Q ⟨H0,F,O,S,q⟩=>⟨H0,F,O,S,fun v H1 s1 r1=>⟨false,r1,nY ⟨H0,F,O,S.go s1,fun w H2 s2 r2=>q w H2 (s1.trans s2) r2⟩⟩⟩
  |true=>exact aG (C3 h kQ) fun σ H Q ⟨H0,F,O,S,q⟩=>⟨H0,F,O,S,fun v H1 s1 r1=>⟨true,r1,nW (q _ H1 s1 rfl)⟩⟩
theorem CT{c:Bool}(h:E X Γ e b c):E X Γ (.UnaryOp .Not e pos) true (!c):=by
 with_unfolding_all
  exact aG (EK h) fun σ H Q ⟨H0,F,O,S,q⟩=>⟨H0,F,O,S,fun v H1 s1 r1=>⟨c,r1,q _ H1 s1 rfl⟩⟩
theorem g5{c:Bool}{x y:α}(hc:T X Γ e c)(ha:c=true->E X Γ e1 b x)(hb:c=false->E X Γ e2 b y):E X Γ (.IfExp e e1 e2 pos) b (if c then x else y):=by
 with_unfolding_all
  cases c with
  |true=>exact aG (fW hc (ha rfl) kQ) fun σ H Q ⟨H0,F,O,S,q⟩=>⟨H0,F,O,S,fun H1 s1=>nW ⟨H0,F,O,S.go s1,fun w H2 s2 r2=>q w H2 (s1.trans s2) r2⟩⟩
  |false=>exact aG (fW hc kQ (hb rfl)) fun σ H Q ⟨H0,F,O,S,q⟩=>⟨H0,F,O,S,fun H1 s1=>nY ⟨H0,F,O,S.go s1,fun w H2 s2 r2=>q w H2 (s1.trans s2) r2⟩⟩
theorem vC{H0 H:Hp}{p:Addr}{xs:Mt}(h:(Nf H0 b1).has H p xs):(Nf H0 (b1&&b2)).has H p xs:=Nf.le (fun z=>(Bool.and_eq_true_iff.mp z).1) h
theorem u9{H0 H:Hp}{p:Addr}{xs:Mt}(h:(Nf H0 b2).has H p xs):(Nf H0 (b1&&b2)).has H p xs:=Nf.le (fun z=>(Bool.and_eq_true_iff.mp z).2) h
theorem lV{K:PySem.W.Frag}{H0 H:Hp}{F O:Addr->Prop}{Γ:aE}{σ:St}{p:Addr}{xs:List V}(S:dD K H0 F O Γ σ H)(hp:H p=none):aD H (upd H p (.tup xs))/\Rt (off (upd H p (.tup xs)) O) p xs:=by
 with_unfolding_all
  exact⟨di hp _,.inl (by rw[a_ (S.nF hp)];exact bK)⟩
theorem cI{K:PySem.W.Frag}{H0 H:Hp}{F O:Addr->Prop}{Γ:aE}{σ:St}{p:Addr}{xs:List V}(S:dD K H0 F O Γ σ H)(hp:H p=none):aD H (upd H p (.lst xs))/\off (upd H p (.lst xs)) O p=some (.lst xs):=by
 with_unfolding_all
  exact⟨di hp _,by rw[a_ (S.nF hp)];exact bK⟩
theorem bN{x:α}{y:β}{k:Nat}(ha:E X Γ e1 b1 x)(hb:E X Γ e2 b2 y)(hs:starEach [e1,e2] X.env=(false,eval e1 X.env)::starEach [e2] X.env:=by rfl)(hs2:starEach [e2] X.env=(false,eval e2 X.env)::starEach [] X.env:=by rfl):
  E X Γ (.Tuple [e1,e2] k pos) (b1&&b2) (x,y):=by
 with_unfolding_all
  exact aG (yq (aB ha (aB hb aV hs2) hs)) fun σ H Q ⟨H0,F,O,S,q⟩=>⟨H0,F,O,S,fun v H1 s1 r1=>⟨H0,F,O,S.go s1,fun w H2 s2 r2=>⟨by show 2<=sizeLine;decide,fun p hp=>by
    obtain⟨z1,z2⟩:=lV (xs:=[v,w]) ((S.go s1).go s2) hp;refine q _ _ (s1.trans (s2.trans z1)) ⟨p,v,w,rfl,z2,?_,?_⟩
    .exact bE (fun _ _ n=>vC n) (ay ((ag s2).trans (ag z1)) r1)
    .exact bE (fun _ _ n=>u9 n) (ay (ag z1) r2)⟩⟩⟩
@[irreducible] def EA(X:Cx)(Γ:aE)(es:List Expr)(b:Bool)(as:List α):Prop :=
 PA X es fun σ H Q=>∃H0 F O,dD X.K H0 F O Γ σ H/\∀vs H',aD H H'->Paired (fun x a=>Py.rp X.K (Nf H0 b) (off H' O) x a) vs as->Q vs H'
theorem Cv{X:Cx}{es:List Expr}{t t':TA}(h:PA X es t)(w:∀σ H Q,t' σ H Q->t σ H Q):PA X es t':=fun p pins s σ H Q I q=>h p pins s σ H Q I (w _ _ _ q)
theorem a7:EA X Γ [] b ([]:List α):=by
 with_unfolding_all
  exact Cv aV fun σ H Q ⟨H0,F,O,S,q⟩=>q [] H (aD.refl _) .nil
theorem aq{es:List Expr}{a:α}{as:List α}(h:E X Γ e b a)(h':EA X Γ es b as)(hs:starEach (e::es) X.env=(false,eval e X.env)::starEach es X.env:=by rfl):EA X Γ (e::es) b (a::as):=by
 with_unfolding_all
  exact Cv (aB h h' hs) fun σ H Q ⟨H0,F,O,S,q⟩=>⟨H0,F,O,S,fun v H1 s1 r1=>⟨H0,F,O,S.go s1,fun vs H2 s2 r2=>q _ H2 (s1.trans s2) (.cons (ay (ag s2) r1) r2)⟩⟩
theorem eR{es:List Expr}{as:List α}(h:EA X Γ es b as)(hl:as.length<=1000):E X Γ (.List es pos) b as:=by
 with_unfolding_all
  exact aG (sT h) fun σ H Q ⟨H0,F,O,S,q⟩=>⟨H0,F,O,S,fun vs H1 s1 r1=>⟨by rw[bF r1];exact Nat.le_of_lt (cA hl),fun p hp=>by
    obtain⟨z1,z2⟩:=cI (xs:=vs) (S.go s1) hp
    exact q _ _ (s1.trans z1) ⟨p,vs,rfl,cW.of z2,Nf.wk ((S.go s1).gW hp) z2,bL (fun _ _ r=>ay (ag z1) r) r1⟩⟩⟩
theorem vY{xs:List α}{i:Int}{a:α}(ha:E X Γ e1 b xs)(hb:E X Γ e2 b2 i)(h:vd xs i=some a)(hs:pX e2:=by intro _ _;rfl):E X Γ (.Subscript e1 e2 pos) b a:=by
 with_unfolding_all
  exact aG (vg AU ha hb hs) fun σ H Q ⟨H0,F,O,S,q⟩=>⟨H0,F,O,S,fun v H1 s1 r1=>⟨H0,F,O,S.go s1,fun w H2 s2 r2=>by
    obtain⟨p,vs,e,sq,n,r⟩:=r1;obtain⟨j,h1,h2,h3,h4,h5⟩:=lM h;obtain⟨x,g1,g2⟩:=h7 r h2;refine⟨p,vs,i,x,e,r2,(ao _ _).seq ((ag s2).seq sq),?_,q x H2 (s1.trans s2) (ay (ag s2) g2)⟩;unfold vd at h ⊢;rw[bF r];cases hx:C5 xs.length i with
    |none=>rw[hx] at h;cases h
    |some k =>
     have hk:=(pV hx).1;rw[h1] at hk;cases hk
     exact g1⟩⟩
theorem bT{u:α×β}{j:Nat}{p':Pos}(ha:E X Γ e1 b u):E X Γ (.Subscript e1 (.Constant (.int 0) j p') pos) b u.1:=by
 with_unfolding_all
  exact aG (vg tQ ha ae (fun _ _=>rfl)) fun σ H Q ⟨H0,F,O,S,q⟩=>⟨H0,F,O,S,fun v H1 s1 r1=>⟨H0,F,O,S.go s1,fun w H2 s2 r2=>by
    obtain⟨p,u,w',e,sq,g1,g2⟩:=r1
    exact⟨p,_,0,u,e,r2,mh (ao _ _) (aD.rt (ag s2) sq),rfl,q u H2 (s1.trans s2) (ay (ag s2) g1)⟩⟩⟩
theorem bZ{u:α×β}{j:Nat}{p':Pos}(ha:E X Γ e1 b u):E X Γ (.Subscript e1 (.Constant (.int 1) j p') pos) b u.2:=by
 with_unfolding_all
  exact aG (vg tQ ha ae (fun _ _=>rfl)) fun σ H Q ⟨H0,F,O,S,q⟩=>⟨H0,F,O,S,fun v H1 s1 r1=>⟨H0,F,O,S.go s1,fun w H2 s2 r2=>by
    obtain⟨p,u,w',e,sq,g1,g2⟩:=r1
    exact⟨p,_,1,w',e,r2,mh (ao _ _) (aD.rt (ag s2) sq),rfl,q w' H2 (s1.trans s2) (ay (ag s2) g2)⟩⟩⟩
theorem jh{i:Int}{p:Pos}(hg:Gl X "abs")(hm:X.mg "abs"=none)(ha:E X Γ e b i)(hs:starEach [e] X.env=(false,eval e X.env)::starEach [] X.env:=by rfl):E X Γ (.Call (.Name "abs" p) [e] [] pos) true (if i<0 then -i else i):=by
 with_unfolding_all
  exact aG (dP zE hg hm boot_abs (aB ha aV hs) (he:=hs)) fun σ H Q ⟨H0,F,O,S,q⟩=>⟨H0,F,O,S,fun v H1 s1 r1=>⟨i,by cases r1;rfl,q _ H1 s1 rfl⟩⟩
theorem CC{i j:Int}{p:Pos}(hc:X.calm=true)(hg:Gl X "min")(hm:X.mg "min"=none)(ha:E X Γ e1 b1 i)(hb:E X Γ e2 b2 j)(hs:starEach [e1,e2] X.env=(false,eval e1 X.env)::starEach [e2] X.env:=by rfl)(hs2:starEach [e2] X.env=(false,eval e2 X.env)::starEach [] X.env:=by rfl)(hpl:(backTo pos (starEach [e2] X.env)).any (·.1)=false:=by rfl):
  E X Γ (.Call (.Name "min" p) [e1,e2] [] pos) true (if j<i then j else i):=by
 with_unfolding_all
  exact aG (dP (xB hc) hg hm boot_min (aB ha (aB hb aV hs2) hs) (he:=hs) (hpl:=hpl)) fun σ H Q ⟨H0,F,O,S,q⟩=>⟨H0,F,O,S,fun v H1 s1 r1=>⟨H0,F,O,S.go s1,fun w H2 s2 r2=>⟨i,j,by cases r1;cases r2;rfl,q _ H2 (s1.trans s2) rfl⟩⟩⟩
theorem CH{i j:Int}{p:Pos}(hc:X.calm=true)(hg:Gl X "max")(hm:X.mg "max"=none)(ha:E X Γ e1 b1 i)(hb:E X Γ e2 b2 j)(hs:starEach [e1,e2] X.env=(false,eval e1 X.env)::starEach [e2] X.env:=by rfl)(hs2:starEach [e2] X.env=(false,eval e2 X.env)::starEach [] X.env:=by rfl)(hpl:(backTo pos (starEach [e2] X.env)).any (·.1)=false:=by rfl):
  E X Γ (.Call (.Name "max" p) [e1,e2] [] pos) true (if j>i then j else i):=by
 with_unfolding_all
  exact aG (dP (xv hc) hg hm boot_max (aB ha (aB hb aV hs2) hs) (he:=hs) (hpl:=hpl)) fun σ H Q ⟨H0,F,O,S,q⟩=>⟨H0,F,O,S,fun v H1 s1 r1=>⟨H0,F,O,S.go s1,fun w H2 s2 r2=>⟨i,j,by cases r1;cases r2;rfl,q _ H2 (s1.trans s2) rfl⟩⟩⟩
theorem cH{xs:List α}{p:Pos}(hg:Gl X "len")(hm:X.mg "len"=none)(ha:E X Γ e b xs)(hs:starEach [e] X.env=(false,eval e X.env)::starEach [] X.env:=by rfl):E X Γ (.Call (.Name "len" p) [e] [] pos) true (xs.length:Int):=by
 with_unfolding_all
  exact aG (dP pY hg hm PySem.boot_len (aB ha aV hs) (he:=hs)) fun σ H Q ⟨H0,F,O,S,q⟩=>⟨H0,F,O,S,fun v H1 s1 r1=>by
    obtain⟨p,vs,e,sq,n,r⟩:=r1;refine⟨p,vs,by rw[e],.inl ((ao _ _).seq sq),q _ H1 s1 ?_⟩;show V.int _=V.int _
    rw[bF r]⟩
theorem Fb{c:Bool}{p:Pos}(hg:Gl X "int")(hm:X.mg "int"=none)(ha:E X Γ e b c)(hs:starEach [e] X.env=(false,eval e X.env)::starEach [] X.env:=by rfl):E X Γ (.Call (.Name "int" p) [e] [] pos) true (if c then (1:Int) else 0):=by
 with_unfolding_all
  exact aG (oE xp hg hm PyProof.Rows.boot_int (aB ha aV hs) (he:=hs)) fun σ H Q ⟨H0,F,O,S,q⟩=>⟨H0,F,O,S,fun v H1 s1 r1=>.inr ⟨c,by cases r1;rfl,q _ H1 s1 rfl⟩⟩
end
structure GD where
 nx:aE->Prop
 rt:Bd->Prop
 bk:aE->Prop:=fun _=>False
 ct:aE->Prop:=fun _=>False
def Bd.JU(K:PySem.W.Frag)(H0:Hp)(F:Addr->Prop)(H:Hp)(v:V):Bd->Prop
 |@Bd.val _ _ b a=>Py.rp K (Nf H0 b) (off H F) v a
 |@Bd.own _ _ _ _=>False
 |@Bd.dpo _ _ _=>False
def tG(K:PySem.W.Frag)(Γ:aE)(D:GD):TS:=fun De σ H=>∃H0 F O,dD K H0 F O Γ σ H /\
 (∀Γ' σ' H' O',aD (off H O) (off H' O')->dD K H0 F O' Γ' σ' H'->D.nx Γ'->De.nx σ' H') /\
 (∀g v H',aD H0 H'->Bd.JU K H0 F H' v g->D.rt g->De.rt v H') /\
 (∀Γ' σ' H' O',aD (off H O) (off H' O')->dD K H0 F O' Γ' σ' H'->D.bk Γ'->De.bk σ' H') /\
 (∀Γ' σ' H' O',aD (off H O) (off H' O')->dD K H0 F O' Γ' σ' H'->D.ct Γ'->De.ct σ' H')
@[irreducible] def S(X:Cx)(Γ:aE)(st:List Stmt)(D:GD):Prop:=nr X st (tG X.K Γ D)
@[irreducible] def S1(X:Cx)(Γ:aE)(st:Stmt)(D:GD):Prop:=PS X st (tG X.K Γ D)
theorem du{X:Cx}{st:Stmt}{t t':TS}(h:PS X st t)(w:∀D σ H,t' D σ H->t D σ H):PS X st t':=fun pins s σ H D I q=>h pins s σ H D I (w _ _ _ q)
theorem mj{X:Cx}{st:List Stmt}{t t':TS}(h:nr X st t)(w:∀D σ H,t' D σ H->t D σ H):nr X st t':=fun pins s σ H D I q=>h pins s σ H D I (w _ _ _ q)
section
variable{X:Cx}{Γ:aE}{D:GD}{α β γ:Type}[Py α][Py β][Py γ]{e e1 e2 e3:Expr}{b b1 b2 b3:Bool}{pos:Pos}{st:Stmt}{rest body orelse:List Stmt}
theorem az(h:D.nx Γ):S X Γ [] D:=by
 with_unfolding_all
  exact mj Cm fun De σ H ⟨H0,F,O,Z,n,_⟩=>n Γ σ H O (aD.refl _) Z h
theorem Am{X:Cx}{st:List Stmt}{ι:Type 1}{P:ι->Prop}{t:ι->TS}(h:∀i,P i->nr X st (t i)):nr X st (fun D σ H=>∃i,P i/\t i D σ H):=fun pins s σ H D I ⟨i,p,q⟩=>h i p pins s σ H D I q
theorem dw(h:S1 X Γ st {D with nx:=fun Γ'=>S X Γ' rest D}):S X Γ (st::rest) D:=by
 with_unfolding_all
  exact mj (Ai h (Am (ι:=aE) (P:=fun Γ'=>S X Γ' rest D) (t:=fun Γ'=>tG X.K Γ' D) fun _ q=>q)) fun De σ H ⟨H0,F,O,Z,n,r,bk,ct⟩ =>
    ⟨H0,F,O,Z,fun Γ' σ' H' O' sm Z' q=>⟨Γ',q,H0,F,O',Z',fun Γ2 σ2 H2 O2 sm2 Z2 q2=>n Γ2 σ2 H2 O2 (sm.trans sm2) Z2 q2,r,fun Γ2 σ2 H2 O2 sm2 Z2 q2=>bk Γ2 σ2 H2 O2 (sm.trans sm2) Z2 q2,
     fun Γ2 σ2 H2 O2 sm2 Z2 q2=>ct Γ2 σ2 H2 O2 (sm.trans sm2) Z2 q2⟩,r,bk,ct⟩
theorem ah(i:Nat){x:Str}{a:α}{p:Pos}(hN:X.N.Nodup)(he:E X Γ e b a)(h:S X (Γ.set i (some (.val b a))) rest D)(hi:X.N[i]?=some x:=by rfl)(hx:Loc X.env.scope x:=by first|exact Or.inl rfl|exact Or.inr rfl)
  (hs:swapsWith e (some (.Name x p)) pos.line X.env=pure false:=by rfl) (hf:X.fn x=true\/X.env.scope.names.lookup x=some .local:=by first|exact .inl rfl|exact .inr rfl):S X Γ (.Assign [.Name x p] e pos::rest) D:=by
 with_unfolding_all
  exact dw (du (pN hN hi hx he hs hf) fun De σ H ⟨H0,F,O,Z,n,_⟩=>⟨H0,F,O,Z,fun v H1 s1 r1=>n _ _ H1 O (ag s1) ((Z.go s1).set r1) h⟩)
theorem pj{a:α}(he:E X Γ e b a)(h:S X Γ rest D)(hs:swapsWith e none pos.line X.env=pure false:=by rfl):S X Γ (.Expr e pos::rest) D:=by
 with_unfolding_all
  exact dw (du (wD he hs) fun De σ H ⟨H0,F,O,Z,n,_⟩=>⟨H0,F,O,Z,fun v H1 s1 r1=>n Γ σ H1 O (ag s1) (Z.go s1) h⟩)
theorem av{a:α}(he:E X Γ e b a)(h:D.rt (.val b a)):S X Γ (.Return (some e) pos::rest) D:=by
 with_unfolding_all
  exact dw (du (zB he) fun De σ H ⟨H0,F,O,Z,n,r,_⟩=>⟨H0,F,O,Z,fun v H1 s1 r1=>r (.val b a) v H1 ((Z.go s1).same) (ay (jE Z.fo) r1) h⟩)
theorem Hh{c:Bool}(hc:T X Γ e c)(h1:c=true->S X Γ body {D with nx:=fun Γ'=>S X Γ' rest D})(h2:c=false->S X Γ orelse {D with nx:=fun Γ'=>S X Γ' rest D}):S X Γ (.If e body orelse pos::rest) D:=by
 with_unfolding_all
  cases c with
  |true=>exact dw (du (CB hc (h1 rfl) oB) fun De σ H ⟨H0,F,O,Z,n,r,bk,ct⟩=>⟨H0,F,O,Z,fun H1 s1=>nW ⟨H0,F,O,Z.go s1,fun Γ2 σ2 H2 O2 sm=>n Γ2 σ2 H2 O2 ((ag s1).trans sm),r,fun Γ2 σ2 H2 O2 sm=>bk Γ2 σ2 H2 O2 ((ag s1).trans sm),fun Γ2 σ2 H2 O2 sm=>ct Γ2 σ2 H2 O2 ((ag s1).trans sm)⟩⟩)
  |false=>exact dw (du (CB hc oB (h2 rfl)) fun De σ H ⟨H0,F,O,Z,n,r,bk,ct⟩=>⟨H0,F,O,Z,fun H1 s1=>nY ⟨H0,F,O,Z.go s1,fun Γ2 σ2 H2 O2 sm=>n Γ2 σ2 H2 O2 ((ag s1).trans sm),r,fun Γ2 σ2 H2 O2 sm=>bk Γ2 σ2 H2 O2 ((ag s1).trans sm),fun Γ2 σ2 H2 O2 sm=>ct Γ2 σ2 H2 O2 ((ag s1).trans sm)⟩⟩)
theorem aT{c:Bool}(hc:T X Γ e c)(h1:c=true->S X Γ body {D with nx:=fun Γ'=>S X Γ' rest D})(h2:c=false->S X Γ rest D):S X Γ (.If e body [] pos::rest) D:=by
 with_unfolding_all
  exact Hh hc h1 fun z=>az (h2 z)
def hE(X:Cx)(body:List Stmt):TS:=fun De σ H=>∃Γ',∃D',S X Γ' body D'/\tG X.K Γ' D' De σ H
theorem f7:nr X body (hE X body):=by
 with_unfolding_all
  exact fun pins s σ H De I ⟨Γ',D',t,q⟩=>(show nr X body (tG X.K Γ' D') from t) pins s σ H De I q
theorem b7{ι:Type}(J:ι->aE->Prop)(μ:ι->Nat)(i0:ι)(h0:J i0 Γ)(ht:∀i Γ',J i Γ'->∃c,T X Γ' e c/\(c=true->S X Γ' body {D with nx:=fun Γ2=>∃j,J j Γ2/\μ j<μ i,ct:=fun Γ2=>∃j,J j Γ2/\μ j<μ i,bk:=fun Γ2=>S X Γ2 rest D})/\(c=false->S X Γ' rest D))
  (hp:PassesOwn (model X.prog X.w) X.A X.env X.xe:=by exact PassesOwn.never):S X Γ (.While e body [] pos::rest) D:=by
 with_unfolding_all
  refine dw (du (yi (tc:=fun σ H Q=>∃Γ',∃c,T X Γ' e c/\Ek X.K Γ' c σ H Q) (tb:=hE X body) hp
   (fun pins s σ H Q I ⟨Γ',c,t,q⟩=>(show PT X e (Ek X.K Γ' c) from t) pins s σ H Q I q) f7) fun De σ H ⟨H0,F,O,Z,n,r,bk,ct⟩=>?_)
  refine⟨fun m σ' H'=>∃i Γ' O',aD (off H O) (off H' O')/\dD X.K H0 F O' Γ' σ' H'/\J i Γ'/\m=μ i,⟨_,i0,Γ,O,aD.refl _,Z,h0,rfl⟩,?_⟩;rintro m σ' H' ⟨i,Γ',O',sm,Z',j,rfl⟩;obtain⟨c,t,ht1,ht2⟩:=ht i Γ' j;refine⟨Γ',c,t,H0,F,O',Z',fun H1 s1=>?_⟩;cases c with
  |true =>
   refine nW ⟨fun σ2 H2=>∃i2 Γ2 O2,aD (off H O) (off H2 O2)/\dD X.K H0 F O2 Γ2 σ2 H2/\J i2 Γ2/\μ i2<μ i,fun σ2 H2 ⟨i2,Γ2,O2,sm2,Z2,j2,l⟩=>⟨μ i2,l,i2,Γ2,O2,sm2,Z2,j2,rfl⟩,Γ',_,ht1 rfl,H0,F,O',Z'.go s1,?_,r,?_,?_⟩
   .exact fun Γ2 σ2 H2 O2 sm2 Z2 ⟨i2,q1,q2⟩=>⟨i2,Γ2,O2,sm.trans ((ag s1).trans sm2),Z2,q1,q2⟩
   .exact fun Γ2 σ2 H2 O2 sm2 Z2 q=>n Γ2 σ2 H2 O2 (sm.trans ((ag s1).trans sm2)) Z2 q
   .exact fun Γ2 σ2 H2 O2 sm2 Z2 ⟨i2,q1,q2⟩=>⟨i2,Γ2,O2,sm.trans ((ag s1).trans sm2),Z2,q1,q2⟩
  |false=>exact nY (n Γ' σ' H1 O' (sm.trans (ag s1)) (Z'.go s1) (ht2 rfl))
def GP(g:TG)(α:Type)[Py α](put:Bool->α->aE->aE)(tc:Nat->Prop)(K:PySem.W.Frag):Prop :=
 ∀(b:Bool) (a:α) (H0:Hp) (F O:Addr->Prop) (Γ:aE) (σ:St) (H:Hp) (v:V) (Q:St->Hp->Prop),dD K H0 F O Γ σ H->Py.rp K (Nf H0 b) (off H O) v a ->
  (∀σ',dD K H0 F O (put b a Γ) σ' H->σ'.length=σ.length->(∀j,¬tc j->σ'[j]?=σ[j]?)->Q σ' H)->g v σ H Q
def G(X:Cx)(tg:Expr)(g:TG)(α:Type)[Py α](put:Bool->α->aE->aE)(tc:Nat->Prop):Prop:=PG X tg g/\GP g α put tc X.K
theorem bH(i:Nat){K:PySem.W.Frag}:GP (jL i) α (fun b a Γ=>Γ.set i (some (.val b a))) (·=i) K:=fun b a H0 F O Γ σ H v Q Z r q=>q _ (Z.set r) (List.length_set ..) fun j hj=>get_set_ne hj
theorem cG(i:Nat){x:Str}(hN:X.N.Nodup)(hi:X.N[i]?=some x:=by rfl)(hx:Loc X.env.scope x:=by first|exact Or.inl rfl|exact Or.inr rfl)(hf:X.fn x=true\/X.env.scope.names.lookup x=some .local:=by first|exact .inl rfl|exact .inr rfl):
  G X (.Name x pos) (jL i) α (fun b a Γ=>Γ.set i (some (.val b a))) (·=i):=⟨gq hN hi hx hf,bH i⟩
end
section
variable{X:Cx}{Γ:aE}{D:GD}{α β γ δ:Type}[Py α][Py β][Py γ][Py δ]{e e1 e2 e3:Expr}{b b1 b2 b3:Bool}{pos:Pos}{st:Stmt}{rest body orelse:List Stmt}{tg:Expr}{g:TG}{tc:Nat->Prop}
theorem gF{put:Bool->Int->aE->aE}{n:Int}{p ps:Pos}(J:Nat->aE->Prop)(hg:Gl X "range")(hm:X.mg "range"=none)(hG:G X tg g Int put tc)(he:E X Γ e b n)(h1:-(2^62)<=n)(h2:n<2^62)(h0:J 0 Γ)
  (ht:∀(i:Nat) Γ',i<n.toNat->J i Γ'->S X (put true (i:Int) Γ') body {D with nx:=J (i+1),ct:=J (i+1),bk:=fun Γ2=>S X Γ2 rest D}) (hd:∀Γ',J n.toNat Γ'->S X Γ' rest D)
  (hc:X.calm=true:=by rfl) (hp:PassesOwn (model X.prog X.w) X.A X.env X.xe:=by exact PassesOwn.never) (hs:starEach [e] X.env=[(false,eval e X.env)]:=by rfl) (hs1:starEach [e] X.env=(false,eval e X.env)::starEach [] X.env:=by rfl)
  (hfs:∀x,foldedSetIterable (.Call (.Name "range" p) [e] [] ps) X.env x=pure x:=by intro _;rfl):S X Γ (.For tg (.Call (.Name "range" p) [e] [] ps) body [] pos::rest) D:=by
 with_unfolding_all
  refine dw (du (mw hp hc (w6 hg hm (aB he aV hs1) hs) hG.1 (tb:=hE X body) f7 hfs) fun De σ H ⟨H0,F,O,Z,nx,r,bk,ct⟩=>?_);refine⟨H0,F,O,Z,fun v H1 s1 r1=>⟨n,by cases r1;rfl,h1,h2,oV (lo:=0) (n:=n.toNat) (g:=g) (tb:=hE X body) (D:=De) (fun i σ' H'=>∃Γ' O',aD (off H O) (off H' O')/\dD X.K H0 F O' Γ' σ' H'/\J i Γ') ⟨Γ,O,ag s1,Z.go s1,h0⟩ ?_ ?_⟩⟩
  .rintro i σ' H' hi ⟨Γ',O',sm,Z',j⟩;refine hG.2 true (i:Int) H0 F O' Γ' σ' H' _ _ Z' (by show V.int _=V.int _;rw[Int.zero_add]) fun σ2 Z2 _ _=>?_;refine⟨_,_,ht i Γ' hi j,H0,F,O',Z2,?_,r,?_,?_⟩
   .exact fun Γ2 σ2 H2 O2 sm2 Z2 q=>⟨Γ2,O2,sm.trans sm2,Z2,q⟩
   .exact fun Γ2 σ2 H2 O2 sm2 Z2 q=>nx Γ2 σ2 H2 O2 (sm.trans sm2) Z2 q
   .exact fun Γ2 σ2 H2 O2 sm2 Z2 q=>⟨Γ2,O2,sm.trans sm2,Z2,q⟩
  .rintro σ' H' ⟨Γ',O',sm,Z',j⟩;exact nx Γ' σ' H' O' sm Z' (hd Γ' j)
theorem sC{put:Bool->Int->aE->aE}{lo n:Int}{p ps:Pos}(J:Nat->aE->Prop)(hg:Gl X "range")(hm:X.mg "range"=none)(hG:G X tg g Int put tc)(he1:E X Γ e1 b1 lo)(he2:E X Γ e2 b2 n)(hb:-(2^62)<=lo/\lo<2^62/\-(2^62)<=n/\n<2^62)(h0:J 0 Γ)
  (ht:∀(i:Nat) Γ',i<(n-lo).toNat->J i Γ'->S X (put true (lo+i:Int) Γ') body {D with nx:=J (i+1),ct:=J (i+1),bk:=fun Γ2=>S X Γ2 rest D}) (hd:∀Γ',J (n-lo).toNat Γ'->S X Γ' rest D)
  (hc:X.calm=true:=by rfl) (hp:PassesOwn (model X.prog X.w) X.A X.env X.xe:=by exact PassesOwn.never) (hs:starEach [e1,e2] X.env=[(false,eval e1 X.env),(false,eval e2 X.env)]:=by rfl) (hs2:starEach [e2] X.env=[(false,eval e2 X.env)]:=by rfl)
  (hs3:starEach [e1,e2] X.env=(false,eval e1 X.env)::starEach [e2] X.env:=by rfl) (hs4:starEach [e2] X.env=(false,eval e2 X.env)::starEach [] X.env:=by rfl)
  (hfs:∀x,foldedSetIterable (.Call (.Name "range" p) [e1,e2] [] ps) X.env x=pure x:=by intro _;rfl):S X Γ (.For tg (.Call (.Name "range" p) [e1,e2] [] ps) body [] pos::rest) D:=by
 with_unfolding_all
  refine dw (du (mw hp hc (xF hg hm (aB he1 (aB he2 aV hs4) hs3) hs hs2) hG.1 (tb:=hE X body) f7 hfs) fun De σ H ⟨H0,F,O,Z,nx,r,bk,ct⟩=>?_);refine⟨H0,F,O,Z,fun v H1 s1 r1=>⟨H0,F,O,Z.go s1,fun v' H1' s1' r1'=>⟨lo,n,by cases r1;cases r1';rfl,hb,oV (lo:=lo) (n:=(n-lo).toNat) (g:=g) (tb:=hE X body) (D:=De) (fun i σ' H'=>∃Γ' O',aD (off H O) (off H' O')/\dD X.K H0 F O' Γ' σ' H'/\J i Γ') ⟨Γ,O,ag (s1.trans s1'),Z.go (s1.trans s1'),h0⟩ ?_ ?_⟩⟩⟩
  .rintro i σ' H' hi ⟨Γ',O',sm,Z',j⟩;refine hG.2 true (lo+i:Int) H0 F O' Γ' σ' H' _ _ Z' rfl fun σ2 Z2 _ _=>?_;refine⟨_,_,ht i Γ' hi j,H0,F,O',Z2,?_,r,?_,?_⟩
   .exact fun Γ2 σ2 H2 O2 sm2 Z2 q=>⟨Γ2,O2,sm.trans sm2,Z2,q⟩
   .exact fun Γ2 σ2 H2 O2 sm2 Z2 q=>nx Γ2 σ2 H2 O2 (sm.trans sm2) Z2 q
   .exact fun Γ2 σ2 H2 O2 sm2 Z2 q=>⟨Γ2,O2,sm.trans sm2,Z2,q⟩
  .rintro σ' H' ⟨Γ',O',sm,Z',j⟩;exact nx Γ' σ' H' O' sm Z' (hd Γ' j)
theorem ko{put:Bool->Int->aE->aE}{lo n c:Int}{p ps:Pos}(J:Nat->aE->Prop)(hg:Gl X "range")(hm:X.mg "range"=none)(hG:G X tg g Int put tc)(he1:E X Γ e1 b1 lo)(he2:E X Γ e2 b2 n)(he3:E X Γ e3 b3 c)(hb:-(2^62)<=lo/\lo<2^62/\-(2^62)<=n/\n<2^62)(hcc:c≠0/\-1000<=c/\c<=1000)(h0:J 0 Γ)
  (ht:∀(i:Nat) Γ',i<(Builtin.Range.rangeSize lo n c).toNat->J i Γ'->S X (put true (lo+i*c:Int) Γ') body {D with nx:=J (i+1),ct:=J (i+1),bk:=fun Γ2=>S X Γ2 rest D}) (hd:∀Γ',J (Builtin.Range.rangeSize lo n c).toNat Γ'->S X Γ' rest D)
  (hc:X.calm=true:=by rfl) (hp:PassesOwn (model X.prog X.w) X.A X.env X.xe:=by exact PassesOwn.never)
  (hs1:starEach [e1,e2,e3] X.env=(false,eval e1 X.env)::starEach [e2,e3] X.env:=by rfl) (hs2:starEach [e2,e3] X.env=(false,eval e2 X.env)::starEach [e3] X.env:=by rfl) (hs3:starEach [e3] X.env=(false,eval e3 X.env)::starEach [] X.env:=by rfl)
  (hpl:(backTo ps (starEach [e2,e3] X.env)).any (·.1)=false:=by rfl) (hfs:∀x,foldedSetIterable (.Call (.Name "range" p) [e1,e2,e3] [] ps) X.env x=pure x:=by intro _;rfl):S X Γ (.For tg (.Call (.Name "range" p) [e1,e2,e3] [] ps) body [] pos::rest) D:=by
 with_unfolding_all
  refine dw (du (mw hp hc (xg hg hm (aB he1 (aB he2 (aB he3 aV hs3) hs2) hs1) hs1 hpl) hG.1 (tb:=hE X body) f7 hfs) fun De σ H ⟨H0,F,O,Z,nx,r,bk,ct⟩=>?_);refine⟨H0,F,O,Z,fun v H1 s1 r1=>⟨H0,F,O,Z.go s1,fun v' H2 s2 r2=>⟨H0,F,O,Z.go (s1.trans s2),fun v'' H3 s3 r3=>⟨lo,n,c,by cases r1;cases r2;cases r3;rfl,hb,hcc,sZ (lo:=lo) (c:=c) (n:=(Builtin.Range.rangeSize lo n c).toNat) (g:=g) (tb:=hE X body) (D:=De) (fun i σ' H'=>∃Γ' O',aD (off H O) (off H' O')/\dD X.K H0 F O' Γ' σ' H'/\J i Γ') ⟨Γ,O,ag (s1.trans (s2.trans s3)),Z.go (s1.trans (s2.trans s3)),h0⟩ ?_ ?_⟩⟩⟩⟩
  .rintro i σ' H' hi ⟨Γ',O',sm,Z',j⟩;refine hG.2 true (lo+i*c:Int) H0 F O' Γ' σ' H' _ _ Z' rfl fun σ2 Z2 _ _=>?_;refine⟨_,_,ht i Γ' hi j,H0,F,O',Z2,?_,r,?_,?_⟩
   .exact fun Γ2 σ2 H2 O2 sm2 Z2 q=>⟨Γ2,O2,sm.trans sm2,Z2,q⟩
   .exact fun Γ2 σ2 H2 O2 sm2 Z2 q=>nx Γ2 σ2 H2 O2 (sm.trans sm2) Z2 q
   .exact fun Γ2 σ2 H2 O2 sm2 Z2 q=>⟨Γ2,O2,sm.trans sm2,Z2,q⟩
  .rintro σ' H' ⟨Γ',O',sm,Z',j⟩;exact nx Γ' σ' H' O' sm Z' (hd Γ' j)
theorem mJ{put:Bool->α->aE->aE}{xs:List α}(J:Nat->aE->Prop)(hG:G X tg g α put tc)(he:E X Γ e b xs)(h0:J 0 Γ)
  (ht:∀(i:Nat) (a:α) Γ',xs[i]?=some a->J i Γ'->S X (put b a Γ') body {D with nx:=J (i+1),ct:=J (i+1),bk:=fun Γ2=>S X Γ2 rest D}) (hd:∀Γ',J xs.length Γ'->S X Γ' rest D)
  (hc:X.calm=true:=by rfl) (hp:PassesOwn (model X.prog X.w) X.A X.env X.xe:=by exact PassesOwn.never)
  (hfs:∀x,foldedSetIterable e X.env x=pure x:=by intro _;rfl):S X Γ (.For tg e body [] pos::rest) D:=by
 with_unfolding_all
  refine dw (du (mw hp hc (vX he) hG.1 (tb:=hE X body) f7 hfs) fun De σ H ⟨H0,F,O,Z,nx,r,bk,ct⟩=>?_);refine⟨H0,F,O,Z,fun v H1 s1 r1=>?_⟩;obtain⟨p,vs,e,sq,nn,rr⟩:=r1;refine⟨p,e,⟨vs,(ao _ _).seq sq⟩,ze (K:=X.K) (a:=p) (xs:=vs) (g:=g) (tb:=hE X body) (D:=De) (fun i σ' H'=>∃Γ' O',aD (off H1 O) (off H' O')/\dD X.K H0 F O' Γ' σ' H'/\J i Γ') ⟨Γ,O,aD.refl _,Z.go s1,h0⟩ ?_ ?_ ?_⟩
  .rintro i σ' H' hi ⟨Γ',O',sm,Z',j⟩;exact(ao _ _).seq (sm.seq sq)
  .rintro i x σ' H' hi ⟨Γ',O',sm,Z',j⟩;obtain⟨a,h1,h2⟩:=u5 rr hi;refine hG.2 b a H0 F O' Γ' σ' H' _ _ Z' (ay sm h2) fun σ2 Z2 _ _=>?_;refine⟨_,_,ht i a Γ' h1 j,H0,F,O',Z2,?_,r,?_,?_⟩
   .exact fun Γ2 σ2 H2 O2 sm2 Z2 q=>⟨Γ2,O2,sm.trans sm2,Z2,q⟩
   .exact fun Γ2 σ2 H2 O2 sm2 Z2 q=>nx Γ2 σ2 H2 O2 ((ag s1).trans (sm.trans sm2)) Z2 q
   .exact fun Γ2 σ2 H2 O2 sm2 Z2 q=>⟨Γ2,O2,sm.trans sm2,Z2,q⟩
  .rintro σ' H' ⟨Γ',O',sm,Z',j⟩;rw[bF rr] at j;exact nx Γ' σ' H' O' ((ag s1).trans sm) Z' (hd Γ' j)
end
structure aJ(P:Program)(w:World)(K:PySem.W.Frag)(mg:Str->Option Value)(base:Heap)(k:Nat)(name:Str)(ps:List Str)(sp:Sp):Prop where
 ex:∃(f:Addr) (fd:FuncData),fj P w K mg base nM k f fd ps sp/\Binds K fd ps []/\PySem.W.keepIn K (.ref f)=true/\mg name=some (.ref f)
def kY(H:Hp)(O:Addr->Prop):Prop:=∀p,O p->∃xs:Mt,H p=some (mo xs)
def dG{α β:Type}[Py α][Py β](K:PySem.W.Frag)(pre:α->Prop)(b:Bool)(f:α->β):Sp:=fun vs H Q _=>∃O v a,kY H O/\vs=[v]/\Py.rp K .any (off H O) v a/\pre a/\∀r H',aD H H'->Py.rp K (Nf H b) (off H' O) r (f a)->Q r H'
def cF{α β γ:Type}[Py α][Py β][Py γ](K:PySem.W.Frag)(pre:α->β->Prop)(b:Bool)(f:α->β->γ):Sp:=fun vs H Q _=>∃O v w a c,kY H O/\vs=[v,w]/\Py.rp K .any (off H O) v a/\Py.rp K .any (off H O) w c/\pre a c/\∀r H',aD H H'->Py.rp K (Nf H b) (off H' O) r (f a c)->Q r H'
def kH{α β γ δ:Type}[Py α][Py β][Py γ][Py δ](K:PySem.W.Frag)(pre:α->β->γ->Prop)(b:Bool)(f:α->β->γ->δ):Sp:=fun vs H Q _=>∃O v w x a c d,kY H O/\vs=[v,w,x]/\Py.rp K .any (off H O) v a/\Py.rp K .any (off H O) w c/\Py.rp K .any (off H O) x d/\pre a c d/\∀r H',aD H H'->Py.rp K (Nf H b) (off H' O) r (f a c d)->Q r H'
theorem bQ{H0 H:Hp}{b:Bool}:∀p xs,(Nf H0 b).has H p xs->Nn.any.has H p xs:=fun _ _ _=>True.intro
section
variable{X:Cx}{Γ:aE}{D:GD}{α β γ δ ε:Type}[Py α][Py β][Py γ][Py δ][Py ε]{e e1 e2 e3 e4:Expr}{b b1 b2 b3 b4:Bool}{p pos:Pos}{k:Nat}{name:Str}{ps:List Str}
theorem aH{pre:α->Prop}{f:α->β}{a:α}(C:aJ X.prog X.w X.K X.mg X.base k name ps (dG X.K pre b f))(hr:cZ k X.A)(hg:Gl X name)(h1:E X Γ e1 b1 a)(hp:pre a)
  (hs1:starEach [e1] X.env=(false,eval e1 X.env)::starEach [] X.env:=by rfl) (hdb:(name==("__debug__":Str))=false:=by decide) (hpl:(backTo pos (starEach [] X.env)).any (·.1)=false:=by rfl):
  E X Γ (.Call (.Name name p) [e1] [] pos) b (f a):=by
 with_unfolding_all
  obtain⟨fa,fd,F,B,kp,m⟩:=C.ex
  exact aG (gj F hr hg m kp B .nil kG (aB h1 aV hs1) hdb hs1 hpl) fun σ H Q ⟨H0,F,O,S,q⟩=>⟨H0,F,O,S,fun v1 H1 s1 r1 =>
   ⟨O,v1,a,(S.go s1).own,rfl,bE bQ r1,hp,fun r H' s' z=>q r H' (s1.trans s') ((S.go s1).back z)⟩⟩
theorem aC{pre:α->β->Prop}{f:α->β->γ}{a:α}{c:β}(C:aJ X.prog X.w X.K X.mg X.base k name ps (cF X.K pre b f))(hr:cZ k X.A)(hg:Gl X name)(h1:E X Γ e1 b1 a)(h2:E X Γ e2 b2 c)(hp:pre a c)
  (hs1:starEach [e1,e2] X.env=(false,eval e1 X.env)::starEach [e2] X.env:=by rfl) (hs2:starEach [e2] X.env=(false,eval e2 X.env)::starEach [] X.env:=by rfl) (hdb:(name==("__debug__":Str))=false:=by decide) (hpl:(backTo pos (starEach [e2] X.env)).any (·.1)=false:=by rfl):
  E X Γ (.Call (.Name name p) [e1,e2] [] pos) b (f a c):=by
 with_unfolding_all
  obtain⟨fa,fd,F,B,kp,m⟩:=C.ex
  exact aG (gj F hr hg m kp B .nil kG (aB h1 (aB h2 aV hs2) hs1) hdb hs1 hpl) fun σ H Q ⟨H0,F,O,S,q⟩=>⟨H0,F,O,S,fun v1 H1 s1 r1=>⟨H0,F,O,S.go s1,fun v2 H2 s2 r2 =>
   ⟨O,v1,v2,a,c,(S.go (s1.trans s2)).own,rfl,bE bQ (ay (ag s2) r1),bE bQ r2,hp,fun r H' s' z=>q r H' (s1.trans (s2.trans s')) ((S.go (s1.trans s2)).back z)⟩⟩⟩
theorem bR{pre:α->β->γ->Prop}{f:α->β->γ->δ}{a:α}{c:β}{d:γ}(C:aJ X.prog X.w X.K X.mg X.base k name ps (kH X.K pre b f))(hr:cZ k X.A)(hg:Gl X name)(h1:E X Γ e1 b1 a)(h2:E X Γ e2 b2 c)(h3:E X Γ e3 b3 d)(hp:pre a c d)
  (hs1:starEach [e1,e2,e3] X.env=(false,eval e1 X.env)::starEach [e2,e3] X.env:=by rfl) (hs2:starEach [e2,e3] X.env=(false,eval e2 X.env)::starEach [e3] X.env:=by rfl) (hs3:starEach [e3] X.env=(false,eval e3 X.env)::starEach [] X.env:=by rfl)
  (hdb:(name==("__debug__":Str))=false:=by decide) (hpl:(backTo pos (starEach [e2,e3] X.env)).any (·.1)=false:=by rfl):
  E X Γ (.Call (.Name name p) [e1,e2,e3] [] pos) b (f a c d):=by
 with_unfolding_all
  obtain⟨fa,fd,F,B,kp,m⟩:=C.ex
  exact aG (gj F hr hg m kp B .nil kG (aB h1 (aB h2 (aB h3 aV hs3) hs2) hs1) hdb hs1 hpl) fun σ H Q ⟨H0,F,O,S,q⟩=>⟨H0,F,O,S,fun v1 H1 s1 r1=>⟨H0,F,O,S.go s1,fun v2 H2 s2 r2=>⟨H0,F,O,S.go (s1.trans s2),fun v3 H3 s3 r3 =>
   ⟨O,v1,v2,v3,a,c,d,(S.go (s1.trans (s2.trans s3))).own,rfl,bE bQ (ay ((ag s2).trans (ag s3)) r1),bE bQ (ay (ag s3) r2),bE bQ r3,hp,fun r H' s' z=>q r H' (s1.trans (s2.trans (s3.trans s'))) ((S.go (s1.trans (s2.trans s3))).back z)⟩⟩⟩⟩
end
def Gx(N:List Str)(gs:List Bd):aE:=gs.map some++List.replicate (N.length-gs.length) none
def RT{α:Type}[Py α](b:Bool)(a:α):GD:={nx:=fun _=>False,rt:=fun g=>g=.val b a}
inductive Args(K:PySem.W.Frag)(H:Hp):List V->List Bd->Prop
 |nil:Args K H [] []
 |cons {α:Type} [Py α] {v:V} {a:α} {vs:List V} {gs:List Bd}:Py.rp K .any H v a->Args K H vs gs->Args K H (v::vs) (.val false a::gs)
theorem Args.len{K:PySem.W.Frag}{H:Hp}:∀{vs:List V} {gs:List Bd},Args K H vs gs->vs.length=gs.length
 |_,_,.nil=>rfl
 |_,_,@Args.cons _ _ _ _ _ _ _ _ _ t=>congrArg (·+1) t.len
theorem Args.get{K:PySem.W.Frag}{H0 H:Hp}{O:Addr->Prop}:∀{vs:List V} {gs:List Bd} {i:Nat} {g:Bd},Args K (off H O) vs gs->gs[i]?=some g->∃v,vs[i]?=some v/\g.ok K H0 O H v/\¬g.eP
 |_,_,_,_,.nil,e=>by simp at e
 |_,_,0,_,@Args.cons _ _ _ _ _ _ _ _ h _,e=>by simp at e;subst e;exact⟨_,rfl,h,fun z=>z⟩
 |_,_,i+1,_,@Args.cons _ _ _ _ _ _ _ _ _ t,e=>by
  obtain⟨a,h1,h2⟩:=Args.get (i:=i) t (by simpa using e);exact⟨a,by simpa using h1,h2⟩
theorem j0{K:PySem.W.Frag}{H:Hp}{O:Addr->Prop}{N:List Str}{vs:List V}{gs:List Bd}(ho:kY H O)(h:Args K (off H O) vs gs):dD K H O O (Gx N gs) (start N vs) H:=by
 have hl:=h.len
 have hget:∀(i:Nat) (g:Bd),(Gx N gs)[i]?=some (some g)->gs[i]?=some g:=fun i g e=>by
  unfold Gx at e;by_cases hi:i<(gs.map some).length
  .rw[List.getElem?_append_left hi,List.getElem?_map] at e;cases q:gs[i]? with
   |none=>rw[q] at e;cases e
   |some g'=>rw[q] at e;simpa using e
  .rw[List.getElem?_append_right (by omega)] at e;have:=List.mem_of_getElem? e;rw[List.mem_replicate] at this;cases this.2
 refine⟨aD.refl _,fun _ z=>z,ho,ho,by simp[Gx,start,hl],fun i g e _=>?_,⟨fun _ _=>False,fun _ _ _ z=>z.elim,fun _ _ z=>z.elim,fun i g e o=>?_⟩⟩
 .obtain⟨v,h1,h2,_⟩:=Args.get (H0:=H) h (hget i g e);refine⟨v,?_,h2⟩;unfold start
  have hi:i<(vs.map some).length:=by
   rw[List.length_map];exact(List.getElem?_eq_some_iff.mp h1).1
  rw[List.getElem?_append_left hi,List.getElem?_map,h1];rfl
 .obtain⟨_,_,_,no⟩:=Args.get (H0:=H) h (hget i g e);exact absurd o no
section
variable{P:Program}{w:World}{K:PySem.W.Frag}{mg:Str->Option Value}{base:Heap}{N ps:List Str}{k:Nat}{x qual:Str}{st:Stmt}{f:Addr}{fd:FuncData}
abbrev cx(P:Program)(w:World)(K:PySem.W.Frag)(mg:Str->Option Value)(base:Heap)(N:List Str)(qual:Str)(st:Stmt)(f:Addr)(cdv:Value)(A:Around)(outer:List Env)(s:Shared)(H:Hp)(E:XK):Cx:=(n8 nM P w K mg base N qual (af st) f cdv A outer s H E).Cs
def Body(P:Program)(w:World)(K:PySem.W.Frag)(mg:Str->Option Value)(base:Heap)(N:List Str)(qual:Str)(st:Stmt)(f:Addr)(k:Nat)(gs:List Bd)(D:GD):Prop :=
 ∀(cdv:Value) (A:Around) (outer:List Env) (s:Shared) (H:Hp) (E:XK),cZ k (A.deeper (envOfC qual (af st) s.heap.objs.size f cdv))->S (cx P w K mg base N qual st f cdv A outer s H E) (Gx N gs) (cD st) D
theorem nt{gs:List Bd}{vs:List V}{H:Hp}{O:Addr->Prop}{α:Type}[Py α]{b:Bool}{a:α}{Q:VK}{cdv:Value}{A:Around}{outer:List Env}{s:Shared}{E:XK}(B:Body P w K mg base N qual st f k gs (RT b a))(hr:cZ k (A.deeper (envOfC qual (af st) s.heap.objs.size f cdv)))
  (ho:kY H O) (h:Args K (off H O) vs gs) (q:∀r H',aD H H'->Py.rp K (Nf H b) (off H' O) r a->Q r H'):
  ∃t,nr (n8 nM P w K mg base N qual (af st) f cdv A outer s H E).Cs (cD st) t/\t {nx:=fun _ H'=>Q .non H',rt:=Q} (start N vs) H:=by
 with_unfolding_all
  refine⟨_,B cdv A outer s H E hr,H,O,O,j0 ho h,fun _ _ _ _ _ _ z=>z.elim,fun g v H' sm z e=>?_,fun _ _ _ _ _ _ z=>z.elim,fun _ _ _ _ _ _ z=>z.elim⟩;have e':g=.val b a:=e;subst e';exact q v H' sm z
theorem nL{α β:Type}[Py α][Py β]{pre:α->Prop}{b:Bool}{g:α->β}(F:sJ K x qual st f fd)(sc:ai N ps (af st))(hl:ps.length=1)(B:∀a,pre a->Body P w K mg base N qual st f k [.val false a] (RT b (g a))):
  fj P w K mg base nM (k+1) f fd ps (dG K pre b g):=by
 with_unfolding_all
  refine F.ok sc (fun vs H Q E h=>?_) fun cdv A outer s H vs Q E hr h=>?_
  .obtain⟨O,v,a,_,rfl,_⟩:=h;rw[hl];rfl
  .obtain⟨O,v,a,ho,rfl,r,hp,q⟩:=h;exact nt (B a hp) hr ho (.cons r .nil) q
theorem kX{α β γ:Type}[Py α][Py β][Py γ]{pre:α->β->Prop}{b:Bool}{g:α->β->γ}(F:sJ K x qual st f fd)(sc:ai N ps (af st))(hl:ps.length=2)(B:∀a c,pre a c->Body P w K mg base N qual st f k [.val false a,.val false c] (RT b (g a c))):
  fj P w K mg base nM (k+1) f fd ps (cF K pre b g):=by
 with_unfolding_all
  refine F.ok sc (fun vs H Q E h=>?_) fun cdv A outer s H vs Q E hr h=>?_
  .obtain⟨O,v,v2,a,c,_,rfl,_⟩:=h;rw[hl];rfl
  .obtain⟨O,v,v2,a,c,ho,rfl,r,r2,hp,q⟩:=h;exact nt (B a c hp) hr ho (.cons r (.cons r2 .nil)) q
theorem AF{α β γ δ:Type}[Py α][Py β][Py γ][Py δ]{pre:α->β->γ->Prop}{b:Bool}{g:α->β->γ->δ}(F:sJ K x qual st f fd)(sc:ai N ps (af st))(hl:ps.length=3)(B:∀a c d,pre a c d->Body P w K mg base N qual st f k [.val false a,.val false c,.val false d] (RT b (g a c d))):
  fj P w K mg base nM (k+1) f fd ps (kH K pre b g):=by
 with_unfolding_all
  refine F.ok sc (fun vs H Q E h=>?_) fun cdv A outer s H vs Q E hr h=>?_
  .obtain⟨O,v,v2,v3,a,c,d,_,rfl,_⟩:=h;rw[hl];rfl
  .obtain⟨O,v,v2,v3,a,c,d,ho,rfl,r,r2,r3,hp,q⟩:=h;exact nt (B a c d hp) hr ho (.cons r (.cons r2 (.cons r3 .nil))) q
end
section
variable{X:Cx}{Γ:aE}{α β:Type}[Py α][Py β]{e:Expr}{b:Bool}{p p2 pos:Pos}
theorem yR{a:α}{T:Str}{T':String}{c:Bool}(hg:Gl X "isinstance")(hm:X.mg "isinstance"=none)(hg2:Gl X T)(hm2:X.mg T=none)(hv:bootBuiltins T=some (.type T'))(ha:E X Γ e b a)
  (hk:∀(pins:List (Addr×Obj)) (s:Shared) (σ:St) (H:Hp) (N:Nn) (v:V) (u:Value) (Q:Value->Shared->Prop),Inv X pins σ H s->Py.rp X.K N H v a->RelV v u->(∀tk,Q (.bool c) {s with toks:=tk})->wpAny (model X.prog X.w) X.A (call (.builtin "isinstance") [u,.type T']) Q X.xe s)
  (hs:starEach [e,.Name T p2] X.env=(false,eval e X.env)::starEach [.Name T p2] X.env:=by rfl) (hs2:starEach [.Name T p2] X.env=(false,eval (.Name T p2) X.env)::starEach [] X.env:=by rfl) (hpl:(backTo pos (starEach [.Name T p2] X.env)).any (·.1)=false:=by rfl)
  (hn:T≠"__name__":=by decide) (hd:(T==("__debug__":Str))=false:=by decide):
  E X Γ (.Call (.Name "isinstance" p) [e,.Name T p2] [] pos) true c:=by
 with_unfolding_all
  have hc:gT X (.builtin "isinstance") (fun xs H Q=>∃N v,xs=[v,.ty T']/\Py.rp X.K N H v a/\Q (.bl c) H):=by
   intro pins s σ H xs us Q I r h;obtain⟨N,v,rfl,rv,q⟩:=h;obtain⟨u,w',rfl,rx,ry⟩:=vals2 r;cases ry;exact hk pins s σ H N v u _ I rv rx fun tk=>⟨.bl c,H,I.tok _,rfl,q⟩
  exact aG (dP hc hg hm boot_isinstance (aB ha (aB (Bp (v:=.ty T') hg2 hm2 hv rfl hn hd) aV hs2) hs) (he:=hs) (hpl:=hpl)) fun σ H Q ⟨H0,F,O,S,q⟩=>⟨H0,F,O,S,fun v H1 s1 r1=>⟨_,v,rfl,ay (ao _ _) r1,q _ H1 s1 rfl⟩⟩
theorem EO{i:Int}(hg:Gl X "isinstance")(hm:X.mg "isinstance"=none)(hg2:Gl X "int")(hm2:X.mg "int"=none)(ha:E X Γ e b i)
  (hs:starEach [e,.Name "int" p2] X.env=(false,eval e X.env)::starEach [.Name "int" p2] X.env:=by rfl):E X Γ (.Call (.Name "isinstance" p) [e,.Name "int" p2] [] pos) true true:=by
 with_unfolding_all
  exact yR hg hm hg2 hm2 PyProof.Rows.boot_int ha (fun pins s σ H N v u Q I rv r q=>by
    cases rv;obtain⟨t,rfl⟩:=r
    exact IsiPair.int_int (q s.toks)) hs
theorem D5{i:Int}(hg:Gl X "isinstance")(hm:X.mg "isinstance"=none)(hg2:Gl X "bool")(hm2:X.mg "bool"=none)(ha:E X Γ e b i)
  (hs:starEach [e,.Name "bool" p2] X.env=(false,eval e X.env)::starEach [.Name "bool" p2] X.env:=by rfl):E X Γ (.Call (.Name "isinstance" p) [e,.Name "bool" p2] [] pos) true false:=by
 with_unfolding_all
  exact yR hg hm hg2 hm2 PyProof.Rows.boot_bool ha (fun pins s σ H N v u Q I rv r q=>by
    cases rv;obtain⟨t,rfl⟩:=r
    exact IsiPair.int_bool (q (s.toks+1))) hs
theorem Eg{xs:List α}(hg:Gl X "isinstance")(hm:X.mg "isinstance"=none)(hg2:Gl X "list")(hm2:X.mg "list"=none)(ha:E X Γ e b xs)
  (hs:starEach [e,.Name "list" p2] X.env=(false,eval e X.env)::starEach [.Name "list" p2] X.env:=by rfl):E X Γ (.Call (.Name "isinstance" p) [e,.Name "list" p2] [] pos) true true:=by
 with_unfolding_all
  exact yR hg hm hg2 hm2 PyProof.Rows.boot_list ha (fun pins s σ H N v u Q I rv r q=>by
    obtain⟨a,ys,rfl,sq,_,_⟩:=rv;cases r;obtain⟨its,rr,pl,_⟩:=I.list sq;obtain⟨o,h1,h2,n,h3⟩:=pl.isList
    exact call_isinstance (isinstance_true (Tx:="list") F.isi_meta_list AutoSeq1.sub_list_list) ⟨⟨o,h1,h2⟩,q s.toks⟩) hs
end
def Sm(n:Nat)(i:Int):Prop:=i.natAbs<2^n
theorem Sm.bits{n:Nat}{i:Int}(h:Sm n i):Builtin.Int.intBits i<=n:=by
 unfold Builtin.Int.intBits;split
 .exact Nat.zero_le _
 .rename_i hi
  have h0:i.natAbs≠0:=by
   intro z;apply hi;simp;omega
  have:=(Nat.log2_lt h0).mpr h;omega
theorem Sm.le{m n:Nat}{i:Int}(h:Sm m i)(l:m<=n):Sm n i:=Nat.lt_of_lt_of_le h (Nat.pow_le_pow_right (by decide) l)
theorem Sm.ok{m n:Nat}{i j:Int}(h:Sm m i)(h':Sm n j)(l:m<=1048576:=by decide)(l':n<=1048576:=by decide):IntMulOk i j:=IntMulOk.of_bits (Nat.le_trans h.bits (Nat.le_trans l (by decide))) (Nat.le_trans h'.bits (Nat.le_trans l' (by decide)))
theorem Sm.mul{m n:Nat}{i j:Int}(h:Sm m i)(h':Sm n j):Sm (m+n) (i*j):=by
 unfold Sm at *;rw[Int.natAbs_mul,Nat.pow_add];rcases Nat.eq_zero_or_pos j.natAbs with z|z
 .rw[z,Nat.mul_zero];exact Nat.mul_pos (Nat.two_pow_pos _) (Nat.two_pow_pos _)
 .exact Nat.mul_lt_mul_of_lt_of_le h (Nat.le_of_lt h') (Nat.two_pow_pos _)
theorem Sm.of_le{n:Nat}{i j:Int}(h:i.natAbs<=j.natAbs)(h':Sm n j):Sm n i:=Nat.lt_of_le_of_lt h h'
theorem Sm.div{n:Nat}{i j:Int}(h:Sm n j)(hj:j≠0)(l:n<=9000:=by decide):wu i j:=⟨hj,(Nat.log2_lt (by omega)).mpr (Nat.lt_of_lt_of_le h (Nat.pow_le_pow_right (by decide) l))⟩
theorem mulL{i j:Int}(h1:-(2^64)<i)(h2:i<2^64):IntMulOk i j:=B2.ok (.inl ⟨h1,h2⟩)
theorem mulR{i j:Int}(h1:-(2^64)<j)(h2:j<2^64):IntMulOk i j:=B2.ok (.inr ⟨h1,h2⟩)
theorem lU{i j:Int}(h:j≠0:=by decide)(h2:j.natAbs.log2<9000:=by decide):wu i j:=⟨h,h2⟩
theorem J9{i j:Int}(h:0<=j:=by decide)(h2:j<=1000000:=by decide)(h3:i.natAbs<2^64:=by decide):zW i j:=⟨h,h2,h3⟩
theorem xE{k:Nat}{A:Around}(hr:cZ k A):A.units+60<cLine:=by have:=hr.un;omega
structure Bu(mg:Str->Option Value):Prop where
 abs:mg "abs"=none
 len:mg "len"=none
 min:mg "min"=none
 max:mg "max"=none
 range:mg "range"=none
 isinstance:mg "isinstance"=none
 int:mg "int"=none
 bool:mg "bool"=none
 list:mg "list"=none
 tuple:mg "tuple"=none
 sum:mg "sum"=none
 all:mg "all"=none
 zip:mg "zip"=none
 enumerate:mg "enumerate"=none
 any:mg "any"=none
 sorted:mg "sorted"=none
 set:mg "set"=none
 str:mg "str"=none
 reversed:mg "reversed"=none
theorem e_{a b:Int}(h:0<b):0<=a.fmod b/\a.fmod b<b:=⟨Int.fmod_nonneg_of_pos a h,Int.fmod_lt_of_pos a h⟩
def Df(K:PySem.W.Frag)(x:Str)(st:Stmt):Prop:=∃(f:Addr) (fd:FuncData),PySem.W.nsIn K mainGlobals x=some (some (.ref f))/\sJ K x x st f fd
theorem Df.mk{K:PySem.W.Frag}{x:Str}{st:Stmt}{f:Addr}{oc:Value}{od an:Option Addr}{osl:Array (Option Value)}{kV doc pm cdv ct:Value}(a:PySem.W.nsIn K mainGlobals x=some (some (.ref f)))
  (l:K.lookup f=some ⟨oc,od,.func (PySem.W.fnOf x x (gi st) (cD st) (af st) .none kV doc pm an cdv ct),osl⟩) (c:PySem.W.codeIn K cdv x=true) (k:PySem.W.keepIn K (.ref f)=true):Df K x st:=⟨f,_,a,El l c k⟩
theorem Hr{K:PySem.W.Frag}{h:Heap}{mg:Str->Option Value}(X:K.In h)(G:h.Ns mainGlobals mg)(z1:PySem.W.nsIn K mainGlobals "abs"=some none)(z2:PySem.W.nsIn K mainGlobals "len"=some none)(z3:PySem.W.nsIn K mainGlobals "min"=some none)(z4:PySem.W.nsIn K mainGlobals "max"=some none)
  (z5:PySem.W.nsIn K mainGlobals "range"=some none) (z6:PySem.W.nsIn K mainGlobals "isinstance"=some none) (z7:PySem.W.nsIn K mainGlobals "int"=some none) (z8:PySem.W.nsIn K mainGlobals "bool"=some none) (z9:PySem.W.nsIn K mainGlobals "list"=some none) (z10:PySem.W.nsIn K mainGlobals "tuple"=some none)
  (z11:PySem.W.nsIn K mainGlobals "sum"=some none) (z12:PySem.W.nsIn K mainGlobals "all"=some none) (z13:PySem.W.nsIn K mainGlobals "zip"=some none) (z14:PySem.W.nsIn K mainGlobals "enumerate"=some none) (z15:PySem.W.nsIn K mainGlobals "any"=some none) (z16:PySem.W.nsIn K mainGlobals "sorted"=some none) (z17:PySem.W.nsIn K mainGlobals "set"=some none) (z18:PySem.W.nsIn K mainGlobals "str"=some none) (z19:PySem.W.nsIn K mainGlobals "reversed"=some none):Bu mg :=
 ⟨PySem.W.mg_none_of X G z1,PySem.W.mg_none_of X G z2,PySem.W.mg_none_of X G z3,PySem.W.mg_none_of X G z4,PySem.W.mg_none_of X G z5,PySem.W.mg_none_of X G z6,PySem.W.mg_none_of X G z7,PySem.W.mg_none_of X G z8,PySem.W.mg_none_of X G z9,PySem.W.mg_none_of X G z10,PySem.W.mg_none_of X G z11,PySem.W.mg_none_of X G z12,PySem.W.mg_none_of X G z13,PySem.W.mg_none_of X G z14,PySem.W.mg_none_of X G z15,PySem.W.mg_none_of X G z16,PySem.W.mg_none_of X G z17,PySem.W.mg_none_of X G z18,PySem.W.mg_none_of X G z19⟩
section
variable{P:Program}{w:World}{K:PySem.W.Frag}{mg:Str->Option Value}{base h:Heap}{x:Str}{st:Stmt}{N ps:List Str}{k:Nat}
theorem Df.cU{sp:Sp}(D:Df K x st)(X:K.In h)(G:h.Ns mainGlobals mg)(hb:∀(kV doc pm:Value) (an:Option Addr) (cdv ct:Value) (us:List Value),us.length=ps.length->bindArgs (PySem.W.fnOf x x (gi st) (cD st) (af st) .none kV doc pm an cdv ct) ⟨us,[]⟩=pure (ps.zip us))
  (ok:∀f fd,sJ K x x st f fd->fj P w K mg base nM k f fd ps sp):aJ P w K mg base k x ps sp:=by
 obtain⟨f,fd,a,F⟩:=D;exact⟨f,fd,ok f fd F,F.binds hb,F.kp,PySem.W.mg_of X G a⟩
def qQ(K:PySem.W.Frag):Sp:=dG K (fun(ns:List Int)=>ns.length<=63) true (fun _=>true)
theorem pQ{K:PySem.W.Frag}{N:Nn}{H:Hp}:∀ns:List Int,Paired (fun x (b:Int)=>Py.rp K N H x b) (ns.map V.int) ns
 |[]=>.nil
 |_::r=>.cons rfl (pQ r)
theorem wL(K:PySem.W.Frag)(H:Hp)(a:Addr)(ns:List Int)(hl:ns.length<=63)(hS:cW K H a (ns.map V.int)):qQ K [.ref a] H (fun v _=>v=.bl true) fun _ _ _=>False :=
 ⟨fun _=>False,.ref a,ns,fun _ z=>z.elim,rfl,by rw[Bi];exact⟨a,_,rfl,hS,True.intro,pQ ns⟩,hl,fun r H' _ z=>z⟩
theorem AM{fa:Addr}{lp:Program}(D:Df K "law" st)(X:K.In h)(G:h.Ns mainGlobals mg)(hfa:mg "law"=some (.ref fa)){y:Str}
  (hb:∀(kV doc pm:Value) (an:Option Addr) (cdv ct:Value) (s:Shared) (u:Value),BindsTo s (PySem.W.fnOf "law" "law" (gi st) (cD st) (af st) .none kV doc pm an cdv ct) ⟨[u],[]⟩ [(y,u)])
  (ok:∀base,K.In base->base.Ns mainGlobals mg->∀f fd,sJ K "law" "law" st f fd->fj lp w K mg base nM k f fd [y] (qQ K)):
  ∃fd:FuncData,(∀(s:Shared) (u:Value),BindsTo s fd ⟨[u],[]⟩ [(y,u)])/\∀base:Heap,K.In base->base.Ns mainGlobals mg->fj lp w K mg base nM k fa fd [y] (qQ K):=by
 obtain⟨f,fd,a,F⟩:=D;have e:=hfa.symm.trans (PySem.W.mg_of X G a);cases e;refine⟨fd,?_,fun base kb nb=>ok base kb nb _ fd F⟩;obtain⟨oc,od,kV,doc,pm,an,cdv,ct,osl,rfl,lk,hcd⟩:=F.ex;exact hb kV doc pm an cdv ct
end
def JG{α:Type}[Py α](K:PySem.W.Frag)(H0:Hp)(O:Addr->Prop)(b:Bool)(as:List α)(J:It)(H1:Hp):Prop :=
 ∀(H':Hp) (O':Addr->Prop),kY H' O'->aD (off H1 O) (off H' O')->(∀(i:Nat) (a:α),as[i]?=some a->J.go i H'/\∀x H'',J.yld i H' x H''->aD H' H''/\Py.rp K (Nf H0 b) (off H'' O') x a)/\J.stop as.length H'
def EI{α:Type}[Py α](X:Cx)(Γ:aE)(tg iter:Expr)(b:Bool)(as:List α):Prop:=∃wi,PI X tg iter wi /\
 ∀(σ:St) (H H0:Hp) (F O:Addr->Prop) (R:It->Hp->Prop),dD X.K H0 F O Γ σ H->(∀J H1,aD H H1->JG X.K H0 O b as J H1->R J H1)->wi σ H R
section
variable{X:Cx}{Γ:aE}{α β:Type}[Py α][Py β]{e e1 e2 e3 tg:Expr}{b b1 b2 b3:Bool}
theorem bG{xs:List α}(he:E X Γ e b xs):EI X Γ tg e b xs:=by
 with_unfolding_all
  exact⟨_,vX he,fun σ H H0 F O R Z q=>⟨H0,F,O,Z,fun v H1 s1 r1=>by
   obtain⟨p,vs,e,sq,nn,rr⟩:=r1;refine⟨p,e,⟨vs,(ao _ _).seq sq⟩,q _ H1 s1 fun H' O' _ sm=>⟨fun i a ha=>?_,?_⟩⟩
   .obtain⟨x,h1,h2⟩:=h7 rr ha;refine⟨⟨vs,x,(ao _ _).seq (sm.seq sq),h1⟩,fun y H'' hy=>?_⟩;obtain⟨e',hy⟩:=hy;subst e';have:=hy vs ((ao _ _).seq (sm.seq sq));rw[h1] at this;cases this;exact⟨aD.refl _,ay sm h2⟩
   .exact⟨vs,(ao _ _).seq (sm.seq sq),by rw[bF rr];exact Nat.le_refl _⟩⟩⟩
theorem kN{D:GD}{pos:Pos}{rest body:List Stmt}{g:TG}{tc:Nat->Prop}{put:Bool->α->aE->aE}{as:List α}(J:Nat->aE->Prop)(hG:G X tg g α put tc)(he:EI X Γ tg e b as)(h0:J 0 Γ)
  (ht:∀(i:Nat) (a:α) Γ',as[i]?=some a->J i Γ'->S X (put b a Γ') body {D with nx:=J (i+1),ct:=J (i+1),bk:=fun Γ2=>S X Γ2 rest D}) (hd:∀Γ',J as.length Γ'->S X Γ' rest D)
  (hc:X.calm=true:=by rfl) (hp:PassesOwn (model X.prog X.w) X.A X.env X.xe:=by exact PassesOwn.never)
  (hfs:∀x,foldedSetIterable e X.env x=pure x:=by intro _;rfl):S X Γ (.For tg e body [] pos::rest) D:=by
 with_unfolding_all
  obtain⟨wi,hi,hw⟩:=he;refine dw (du (mw hp hc hi hG.1 (tb:=hE X body) f7 hfs) fun De σ H ⟨H0,F,O,Z,nx,r,bk,ct⟩=>?_);refine hw σ H H0 F O _ Z fun Jt H1 s1 its=>?_;refine⟨fun i m σ' H'=>m=as.length-i/\i<=as.length/\∃Γ' O',aD (off H1 O) (off H' O')/\dD X.K H0 F O' Γ' σ' H'/\J i Γ',⟨_,rfl,Nat.zero_le _,Γ,O,aD.refl _,Z.go s1,h0⟩,?_⟩;rintro i m σ' H' ⟨rfl,hi',Γ',O',sm,Z',j⟩;obtain⟨t1,t2⟩:=its H' O' Z'.own sm;by_cases hlt:i<as.length
  .have ha:as[i]?=some as[i]:=List.getElem?_eq_getElem hlt;obtain⟨go,yl⟩:=t1 i _ ha;refine .inr ⟨go,fun σ2 H2=>∃Γ2 O2,aD (off H1 O) (off H2 O2)/\dD X.K H0 F O2 Γ2 σ2 H2/\J (i+1) Γ2,fun σ2 H2 q=>⟨as.length-(i+1),by omega,rfl,hlt,q⟩,fun x H'' hy=>?_⟩;obtain⟨s2,rx⟩:=yl x H'' hy;refine hG.2 b as[i] H0 F O' Γ' σ' H'' _ _ (Z'.go s2) rx fun σ2 Z2 _ _=>?_;refine⟨_,_,ht i _ Γ' ha j,H0,F,O',Z2,?_,r,?_,?_⟩
   .exact fun Γ2 σ2 H2 O2 sm2 Z2 q=>⟨Γ2,O2,sm.trans ((ag s2).trans sm2),Z2,q⟩
   .exact fun Γ2 σ2 H2 O2 sm2 Z2 q=>nx Γ2 σ2 H2 O2 ((ag s1).trans (sm.trans ((ag s2).trans sm2))) Z2 q
   .exact fun Γ2 σ2 H2 O2 sm2 Z2 q=>⟨Γ2,O2,sm.trans ((ag s2).trans sm2),Z2,q⟩
  .have ei:i=as.length:=by omega
   subst ei;exact .inl ⟨t2,nx Γ' σ' H' O' ((ag s1).trans sm) Z' (hd Γ' j)⟩
end
def cB:Option (Option Bd)->Option Bd
 |some (some (@Bd.val _ _ b a))=>some (.val b a)
 |_=>none
def cΓ(Γ:aE)(tn:List Str)(js:List Nat):aE:=tn.map (fun _=>none)++js.map fun j=>cB Γ[j]?
theorem DJ{o:Option (Option Bd)}{g:Bd}(h:cB o=some g):o=some (some g)/\¬g.eP:=by
 unfold cB at h;split at h
 .cases h;exact⟨rfl,fun z=>z⟩
 .cases h
theorem Ab{Γ:aE}{σ:St}{tn:List Str}{js:List Nat}{i:Nat}{g:Bd}(h:(cΓ Γ tn js)[i]?=some (some g)):∃j,js[i-tn.length]?=some j/\tn.length<=i/\Γ[j]?=some (some g)/\¬g.eP/\(cσ σ tn js)[i]?=some ((σ[j]?).getD none):=by
 unfold cΓ at h;unfold cσ;by_cases hi:i<tn.length
 .rw[List.getElem?_append_left (by simpa using hi),List.getElem?_map] at h;cases q:tn[i]? with
  |none=>rw[q] at h;cases h
  |some y=>rw[q] at h;cases h
 .rw[List.getElem?_append_right (by simpa using hi),List.getElem?_map,List.length_map] at h;rw[List.getElem?_append_right (by simpa using hi),List.getElem?_map,List.length_map];cases q:js[i-tn.length]? with
  |none=>rw[q] at h;cases h
  |some j =>
   rw[q] at h;obtain⟨h1,h2⟩:=DJ (Option.some.inj h);exact⟨j,rfl,by omega,h1,h2,rfl⟩
section
variable{K:PySem.W.Frag}{H0:Hp}{F O:Addr->Prop}{Γ:aE}{σ:St}{H:Hp}
theorem dD.f_(Z:dD K H0 F O Γ σ H)(tn:List Str)(js:List Nat):dD K H0 F O (cΓ Γ tn js) (cσ σ tn js) H where
 same:=Z.same
 fo:=Z.fo
 f0:=Z.f0
 own:=Z.own
 len:=by unfold cΓ cσ;simp
 at_:=fun i g e n=>by
  obtain⟨j,h1,h2,h3,h4,h5⟩:=Ab (σ:=σ) e;obtain⟨v,q1,q2⟩:=Z.at_ j g h3 n;exact⟨v,by rw[h5,q1];rfl,q2⟩
 dis:=⟨fun _ _=>False,fun _ _ _ z=>z.elim,fun _ _ z=>z.elim,fun i g e o=>by
  obtain⟨_,_,_,_,h4,_⟩:=Ab (σ:=σ) e
  exact absurd o h4⟩
theorem dD.ownIn{H':Hp}{D:Addr}{xs:List V}(Z:dD K H0 F O Γ σ H)(hD:H D=none)(sm:aD H H')(hx:H' D=some (.lst xs)):dD K H0 F (fun p=>O p\/p=D) Γ σ H'/\aD (off H O) (off H' fun p=>O p\/p=D):=by
 have so:aD (off H O) (off H' fun p=>O p\/p=D):=fun b o h=>by
  obtain⟨h1,h2⟩:=ir h;have hb:b≠D:=fun z=>by rw[z,hD] at h2;cases h2
  rw[a_ (by rintro(z|z);exact h1 z;exact hb z)];exact sm _ _ h2
 refine⟨⟨Z.same.trans sm,fun p h=>.inl (Z.fo p h),Z.f0,fun p h=>?_,Z.len,fun i g e n=>?_,?_⟩,so⟩
 .rcases h with h|h
  .obtain⟨ys,q⟩:=Z.own p h;exact⟨ys,sm _ _ q⟩
  .subst h;exact⟨.inl xs,hx⟩
 .obtain⟨v,q1,q2⟩:=Z.at_ i g e n;refine⟨v,q1,?_⟩;cases g with
  |val b a=>exact ay so q2
  |own b as=>exact q2
  |dpo a=>exact q2
 .obtain⟨D',d1,d2,d3⟩:=Z.dis;refine⟨D',d1,fun i p h=>⟨.inl (d2 i p h).1,(d2 i p h).2⟩,fun i g e o=>?_⟩;obtain⟨v,q1,q2⟩:=d3 i g e o;exact⟨v,q1,Bd.GZ q2 (fun p ys _ z=>sm _ _ z) so (fun p z=>(d2 i p z).1) Z.own⟩
end
section
variable{X:Cx}{Γ:aE}{D:GD}{α β:Type}[Py α][Py β]{elt target iter c:Expr}{b b':Bool}{pos:Pos}{scope:Scope}{tn:List Str}{js:List Nat}{g:TG}{tc:Nat->Prop}{put:Bool->α->aE->aE}{as:List α}{f:α->β}{p:α->Bool}{ifs:List Expr}
def Jy(X:Cx)(tn:List Str)(js:List Nat)(scope:Scope)(elt:Expr)(β:Type)[Py β](b:Bool):TE:=fun σ H Q=>∃Γ',∃v:β,(∀C s H fp,E (f_ X (cN X tn js) scope C s H fp) Γ' elt b v)/\tV X.K Γ' b v σ H Q
@[irreducible] def FT(X:Cx)(Γ:aE)(ifs:List Expr)(c:Bool):Prop:=PF X ifs (Ek X.K Γ c)
def JI(X:Cx)(tn:List Str)(js:List Nat)(scope:Scope)(ifs:List Expr):TT:=fun σ H Q=>∃Γ' c,(∀C s H fp,FT (f_ X (cN X tn js) scope C s H fp) Γ' ifs c)/\Ek X.K Γ' c σ H Q
theorem zd:FT X Γ [] true:=by
 with_unfolding_all
  exact fun pins s σ H Q I ⟨H0,F,O,Z,q⟩=>FH pins s σ H Q I (q H (aD.refl _))
theorem hV{k:Bool}(h:T X Γ c k):FT X Γ [c] k:=by
 with_unfolding_all
  exact FG h
theorem v8{wi:TI}(hw:∀(σ:St) (H H0:Hp) (F O:Addr->Prop) (R:It->Hp->Prop),dD X.K H0 F O Γ σ H->(∀J H1,aD H H1->JG X.K H0 O b as J H1->R J H1)->wi σ H R)
  (hgp:GP g α put tc X.K) (htc:∀j,tc j->j<tn.length)
  (ht:∀(i:Nat) (a:α),as[i]?=some a->∀C s H fp,FT (f_ X (cN X tn js) scope C s H fp) (put b a (cΓ Γ tn js)) ifs (p a))
  (hb:∀(i:Nat) (a:α),as[i]?=some a->p a=true->∀C s H fp,E (f_ X (cN X tn js) scope C s H fp) (put b a (cΓ Γ tn js)) elt b' (f a)) (hl:as.length<=1000)
  {σ:St} {H:Hp} {Q:VK} {H0:Hp} {F O:Addr->Prop} (Z:dD X.K H0 F O Γ σ H) (q:∀v H',aD H H'->Py.rp X.K (Nf H0 b') (off H' O) v ((as.filter p).map f)->Q v H'):
  HQ wi tn js g (JI X tn js scope ifs) (Jy X tn js scope elt β b') σ H Q:=by
 with_unfolding_all
  refine hw σ H H0 F O _ Z fun J H1 s1 its D hD=>?_;have Z1:=Z.go s1
  refine⟨fun i m H' xs=>m=as.length-i/\i<=as.length/\aD H1 H'/\H' D=some (.lst xs)/\Paired (fun x a=>Py.rp X.K (Nf H0 b') (off H' fun p=>O p\/p=D) x a) xs (((as.take i).filter p).map f),
   ⟨_,rfl,Nat.zero_le _,di hD _,bK,.nil⟩,?_⟩
  rintro i m H' xs ⟨rfl,hi,sm,hx,rr⟩;refine⟨hx,?_⟩;obtain⟨Z',so⟩:=Z1.ownIn hD sm hx;obtain⟨t1,t2⟩:=its H' _ Z'.own so;by_cases hlt:i<as.length
  .have ha:as[i]?=some as[i]:=List.getElem?_eq_getElem hlt;have htk:as.take (i+1)=as.take i++[as[i]]:=by rw[List.take_succ,ha];rfl
   obtain⟨go,yl⟩:=t1 i _ ha;refine .inr ⟨go,fun x H'' hy=>?_⟩;obtain⟨s2,rx⟩:=yl x H'' hy;refine hgp b as[i] H0 F _ (cΓ Γ tn js) (cσ σ tn js) H'' x _ ((Z'.go s2).f_ tn js) rx fun σ2 Z2 l2 k2=>?_;refine⟨⟨fun j v hj e=>?_,l2⟩,_,_,ht i _ ha,H0,F,_,Z2,fun H3 s3=>?_⟩
   .rw[k2 j fun z=>absurd (htc j z) (Nat.not_lt.mpr hj)];exact e
   cases hp:p as[i] with
   |false =>
    refine nY ⟨as.length-(i+1),by omega,rfl,hlt,sm.trans (s2.trans s3),s3 _ _ (s2 _ _ hx),?_⟩;rw[htk,List.filter_append,List.filter_cons,hp];simp only[Bool.false_eq_true,if_false,List.filter_nil,List.append_nil];exact bL (fun _ _ z=>ay (ag (s2.trans s3)) z) rr
   |true =>
    refine nW ⟨_,_,hb i _ ha hp,H0,F,_,Z2.go s3,fun y H4 s4 ry=>?_⟩;have hx4:H4 D=some (.lst xs):=s4 _ _ (s3 _ _ (s2 _ _ hx));have hOD:(fun p=>O p\/p=D) D:=.inr rfl;refine⟨hx4,?_,as.length-(i+1),by omega,rfl,hlt,?_,bK,?_⟩
    .have:=bF rr;rw[List.length_map] at this;have h2:=List.length_filter_le p (as.take i);have h3:=List.length_take_le i as;exact Nat.lt_of_le_of_lt (by omega) (cA hl)
    .exact fun c o z=>by
      have hc:c≠D:=fun w=>by rw[w,hD] at z;cases z
      rw[aS hc];exact s4 _ _ (s3 _ _ (s2 _ _ (sm _ _ z)))
    .rw[pT hOD,htk,List.filter_append,List.filter_cons,hp];simp only[if_true,List.filter_nil,List.map_append,List.map_cons,List.map_nil];exact uq (bL (fun _ _ z=>ay (ag (s2.trans (s3.trans s4))) z) rr) (.cons ry .nil)
  .have ei:i=as.length:=by omega
   subst ei;rw[List.take_length] at rr;have hxo:off H' O D=some (.lst xs):=by rw[a_ (Z1.nF hD)];exact hx
   refine .inl ⟨t2,q _ H' (s1.trans sm) ⟨D,xs,rfl,cW.of hxo,Nf.wk (Z1.gW hD) hxo,?_⟩⟩
   .exact bL (fun _ _ z=>ay (jE fun _ w=>.inl w) z) rr
theorem Aq{C:Addr}{s:Shared}{H:Hp}{fp:List Addr}:PE (f_ X (cN X tn js) scope C s H fp) elt (Jy X tn js scope elt β b'):=by
 with_unfolding_all
  exact fun pins s' σ H' Q I ⟨Γ',v,h,q⟩=>(show PE (f_ X (cN X tn js) scope C s H fp) elt (tV X.K Γ' b' v) from h C s H fp) pins s' σ H' Q I q
theorem yt{C:Addr}{s:Shared}{H:Hp}{fp:List Addr}:PF (f_ X (cN X tn js) scope C s H fp) ifs (JI X tn js scope ifs):=by
 with_unfolding_all
  exact fun pins s' σ H' Q I ⟨Γ',c,h,q⟩=>(show PF (f_ X (cN X tn js) scope C s H fp) ifs (Ek X.K Γ' c) from h C s H fp) pins s' σ H' Q I q
theorem d_(tn:List Str)(js:List Nat)(S:eY X scope tn js)(he:EI X Γ target iter b as)(hgp:GP g α put tc X.K)(hg:∀C s H fp,PG (f_ X (cN X tn js) scope C s H fp) target g)(htc:∀j,tc j->j<tn.length)
  (ht:∀(i:Nat) (a:α),as[i]?=some a->∀C s H fp,FT (f_ X (cN X tn js) scope C s H fp) (put b a (cΓ Γ tn js)) ifs (p a))
  (hb:∀(i:Nat) (a:α),as[i]?=some a->p a=true->∀C s H fp,E (f_ X (cN X tn js) scope C s H fp) (put b a (cΓ Γ tn js)) elt b' (f a)) (hl:as.length<=1000) (hc:X.calm=true:=by rfl)
  (hs:∀x,foldedSetIterable iter X.env x=pure x:=by intro _;rfl):E X Γ (.ListComp elt [⟨target,iter,ifs,0⟩] scope pos) b' ((as.filter p).map f):=by
 with_unfolding_all
  obtain⟨wi,hi,hw⟩:=he;exact aG (F5 S hc hi (fun C s H fp=>⟨hg C s H fp,yt,Aq⟩) hs) fun σ H Q ⟨H0,F,O,Z,q⟩=>v8 hw hgp htc ht hb hl Z q
theorem lS(tn:List Str)(js:List Nat)(S:eY X scope tn js)(he:EI X Γ target iter b as)(hgp:GP g α put tc X.K)(hg:∀C s H fp,PG (f_ X (cN X tn js) scope C s H fp) target g)(htc:∀j,tc j->j<tn.length)
  (hb:∀(i:Nat) (a:α),as[i]?=some a->∀C s H fp,E (f_ X (cN X tn js) scope C s H fp) (put b a (cΓ Γ tn js)) elt b' (f a)) (hl:as.length<=1000) (hc:X.calm=true:=by rfl)
  (hs:∀x,foldedSetIterable iter X.env x=pure x:=by intro _;rfl):E X Γ (.ListComp elt [⟨target,iter,[],0⟩] scope pos) b' (as.map f):=by
 with_unfolding_all
  have h:=d_ (pos:=pos) (p:=fun _=>true) tn js S he hgp hg htc (fun i a _ C s H fp=>zd) (fun i a ha _=>hb i a ha) hl hc hs;rw[List.filter_eq_self.mpr (fun _ _=>rfl)] at h;exact h
theorem B9(i:Nat){y:Str}{py spos:Pos}{rest:List Stmt}(hN:X.N.Nodup)(tn:List Str)(js:List Nat)(S':eY X scope tn js)(he:EI X Γ target iter b as)(hgp:GP g α put tc X.K)(hg:∀C s H fp,PG (f_ X (cN X tn js) scope C s H fp) target g)(htc:∀j,tc j->j<tn.length)
  (ht:∀(i:Nat) (a:α),as[i]?=some a->∀C s H fp,FT (f_ X (cN X tn js) scope C s H fp) (put b a (cΓ Γ tn js)) ifs (p a))
  (hb:∀(i:Nat) (a:α),as[i]?=some a->p a=true->∀C s H fp,E (f_ X (cN X tn js) scope C s H fp) (put b a (cΓ Γ tn js)) elt b' (f a)) (hl:as.length<=1000)
  (h:S X (Γ.set i (some (.val b' ((as.filter p).map f)))) rest D) (hiN:X.N[i]?=some y:=by rfl) (hy:Loc X.env.scope y:=by first|exact Or.inl rfl|exact Or.inr rfl)
  (hf:X.fn y=true\/X.env.scope.names.lookup y=some .local:=by first|exact .inl rfl|exact .inr rfl) (hc:X.calm=true:=by rfl)
  (hsw:swapsWith (.ListComp elt [⟨target,iter,ifs,0⟩] scope pos) (some (.Name y py)) spos.line X.env=pure true:=by rfl)
  (hs:∀x,foldedSetIterable iter X.env x=pure x:=by intro _;rfl):EP.S X Γ (.Assign [.Name y py] (.ListComp elt [⟨target,iter,ifs,0⟩] scope pos) spos::rest) D:=by
 with_unfolding_all
  obtain⟨wi,hi,hw⟩:=he;exact dw (du (yB hN hiN hy hf S' hc hi (fun C s H fp=>⟨hg C s H fp,yt,Aq⟩) hsw hs) fun De σ H ⟨H0,F,O,Z,n,_⟩=>v8 hw hgp htc ht hb hl Z fun v H1 s1 r1=>n _ _ H1 O (ag s1) ((Z.go s1).set r1) h)
theorem Aa(i:Nat){y:Str}{py spos:Pos}{rest:List Stmt}(hN:X.N.Nodup)(tn:List Str)(js:List Nat)(S':eY X scope tn js)(he:EI X Γ target iter b as)(hgp:GP g α put tc X.K)(hg:∀C s H fp,PG (f_ X (cN X tn js) scope C s H fp) target g)(htc:∀j,tc j->j<tn.length)
  (hb:∀(i:Nat) (a:α),as[i]?=some a->∀C s H fp,E (f_ X (cN X tn js) scope C s H fp) (put b a (cΓ Γ tn js)) elt b' (f a)) (hl:as.length<=1000)
  (h:S X (Γ.set i (some (.val b' (as.map f)))) rest D) (hiN:X.N[i]?=some y:=by rfl) (hy:Loc X.env.scope y:=by first|exact Or.inl rfl|exact Or.inr rfl)
  (hf:X.fn y=true\/X.env.scope.names.lookup y=some .local:=by first|exact .inl rfl|exact .inr rfl) (hc:X.calm=true:=by rfl)
  (hsw:swapsWith (.ListComp elt [⟨target,iter,[],0⟩] scope pos) (some (.Name y py)) spos.line X.env=pure true:=by rfl)
  (hs:∀x,foldedSetIterable iter X.env x=pure x:=by intro _;rfl):EP.S X Γ (.Assign [.Name y py] (.ListComp elt [⟨target,iter,[],0⟩] scope pos) spos::rest) D:=by
 with_unfolding_all
  refine B9 (p:=fun _=>true) i hN tn js S' he hgp hg htc (fun i a _ C s H fp=>zd) (fun i a ha _=>hb i a ha) hl ?_ hiN hy hf hc hsw hs;rw[List.filter_eq_self.mpr (fun _ _=>rfl)];exact h
end
theorem nE:∀{bs:List Bool} {us:List Value},Vals (bs.map V.bl) us->LSm.BoolsAre us bs
 |[],_,h=>by cases h;exact .nil
 |b::r,_,h=>by
  cases h with
  |cons h1 h2=>cases h1;exact .cons b (nE h2)
section
variable{X:Cx}
theorem xo(hc:X.calm=true):gT X (.builtin "all") (fun xs H Q=>∃p,∃bs:List Bool,xs=[.ref p]/\cW X.K H p (bs.map V.bl)/\Q (.bl (bs.all id)) H):=by
 intro pins s σ H xs us Q I r h;obtain⟨p,bs,rfl,sq,q⟩:=h;obtain⟨u,rfl,rx⟩:=vals1 r;cases rx;obtain⟨its,rr,pl,_⟩:=I.list sq;have hb:=nE rr;have hl:=pl.isList;have hlt:p<s.heap.objs.size:=by obtain⟨_,e,_⟩:=hl;exact Heap.lt_size e
 refine call_all_walk (wpAny_pyIter_list hl ?_)
 refine⟨s.heap.objs.size,[s.heap.objs.size,p],[s.heap.objs.size],its.toArray.size,_,_,fun i=>(bs[i]?).getD true,rfl,Walks.list (A:=X.A.in1) (I.ok.hd hc) _ p (Nat.ne_of_lt hlt) its.toArray,
  ⟨⟨_,Heap.get?_push_size _ rfl,rfl,rfl⟩,hl.push _⟩,fun i v s' Q' E' hP hQ=>?_,fun h' tk hk=>?_⟩
 .obtain⟨b,e,rfl⟩:=hb.get i v (by simpa using hP);simp only[e,Option.getD_some] at hQ;exact wpAny_truthy_bool hQ
 .have e:((List.range its.toArray.size).all fun i=>(bs[i]?).getD true)=bs.all id:=by
   rw[List.size_toArray,hb.length];exact LSm.range_all bs
  rw[e];exact⟨.bl _,H,I.kept (LSm.kept_iter hk),rfl,q⟩
end
theorem yL{K:PySem.W.Frag}{N:Nn}{H:Hp}:∀{xs:List V} {bs:List Bool},Paired (fun x (b:Bool)=>Py.rp K N H x b) xs bs->xs=bs.map V.bl
 |_,_,.nil=>rfl
 |_,_,.cons h t=>by rw[show _=V.bl _ from h,yL t];rfl
theorem pH{K:PySem.W.Frag}{N:Nn}{H:Hp}:∀{xs:List V} {bs:List Int},Paired (fun x (b:Int)=>Py.rp K N H x b) xs bs->xs=bs.map V.int
 |_,_,.nil=>rfl
 |_,_,.cons h t=>by rw[show _=V.int _ from h,pH t];rfl
section
variable{X:Cx}{Γ:aE}{α β γ:Type}[Py α][Py β][Py γ]{e e1 e2 e3:Expr}{b b1 b2 b3:Bool}{pos:Pos}
theorem F_{bs:List Bool}{p:Pos}(hc:X.calm=true)(hg:Gl X "all")(hm:X.mg "all"=none)(ha:E X Γ e b bs)(hs:starEach [e] X.env=(false,eval e X.env)::starEach [] X.env:=by rfl):E X Γ (.Call (.Name "all" p) [e] [] pos) true (bs.all id):=by
 with_unfolding_all
  exact aG (dP (xo hc) hg hm PyProof.Rows.boot_all (aB ha aV hs) (he:=hs)) fun σ H Q ⟨H0,F,O,S,q⟩=>⟨H0,F,O,S,fun v H1 s1 r1=>by
    obtain⟨p,vs,e,sq,n,r⟩:=r1;rw[yL r] at sq
    exact⟨p,bs,by rw[e],(ao _ _).seq sq,q _ H1 s1 rfl⟩⟩
theorem DG{xs:List α}{k:Int}{p2:Pos}(ha:E X Γ e1 b xs)(hb:E X Γ e2 b2 k)(h0:0<=k):E X Γ (.Subscript e1 (.Slice (some e2) none none p2) pos) b (xs.drop k.toNat):=by
 with_unfolding_all
  exact aG (rV Cj ha (v9 hb) uX) fun σ H Q ⟨H0,F,O,S,q⟩=>⟨H0,F,O,S,fun v H1 s1 r1=>⟨H0,F,O,S.go s1,fun w H2 s2 r2=>by
    obtain⟨p,vs,e,sq,n,r⟩:=r1;refine⟨k,r2,p,vs,e,(ao _ _).seq ((ag s2).seq sq),fun l hl=>?_⟩;obtain⟨z1,z2⟩:=cI (xs:=kW vs (some k) none) ((S.go s1).go s2) hl;refine q _ _ (s1.trans (s2.trans z1)) ⟨l,_,rfl,cW.of z2,Nf.wk (((S.go s1).go s2).gW hl) z2,?_⟩
    have ec:kW vs (some k) none=vs.drop k.toNat:=by
     unfold kW;have hk:k=((k.toNat:Nat):Int):=by omega
     rw[hk,HT.pB,HT.sD];simp only[Int.toNat_natCast];by_cases hkn:k.toNat<=vs.length
     .rw[Nat.min_eq_left hkn,List.take_of_length_le (by rw[List.length_drop];exact Nat.le_refl _)]
     .rw[Nat.min_eq_right (by omega),List.drop_eq_nil_of_le (Nat.le_refl _),List.drop_eq_nil_of_le (by omega)];simp
    have rr:=bL (fun _ _ z=>ay ((ag s2).trans (ag z1)) z) (pS k.toNat r);rw[<-ec] at rr
    exact rr⟩⟩
end
def JO(osc:Scope)(N:List Str)(scope:Scope)(js:List Nat):Bool :=
 (scope.kind==.function)&&scope.names.all (fun x=>(!(x.2==.local) || scope.names.lookup x.1==some .local)&&(!(x.2==.free) || (scope.names.lookup x.1==some .free&&(osc.names.lookup x.1==some .cell || osc.names.lookup x.1==some .free)))&&scope.names.all (fun y=>!(x.1==y.1) || x.2==y.2)) &&
  js.all (fun j=>match N[j]? with|some x=>scope.names.lookup x==some .free|none=>false)
theorem cS{X:Cx}{scope:Scope}{tn:List Str}{js:List Nat}(osc:Scope)(N:List Str)(h1:X.env.scope=osc)(h2:X.N=N)(h:JO osc N scope js=true):eY X scope tn js:=by
 subst h1 h2;unfold JO at h;simp only[Bool.and_eq_true,List.all_eq_true] at h;obtain⟨⟨hk,ha⟩,hj⟩:=h;refine⟨by simpa using hk,fun x hx e=>?_,fun x hx e=>?_,fun x hx y hy e=>?_,fun j hjm=>?_⟩
 .obtain⟨⟨h1,h2⟩,h3⟩:=ha x hx;simpa [e] using h1
 .obtain⟨⟨h1,h2⟩,h3⟩:=ha x hx;have h2':(scope.names.lookup x.1==some .free&&(X.env.scope.names.lookup x.1==some .cell || X.env.scope.names.lookup x.1==some .free))=true:=by simpa [e] using h2
  obtain⟨q1,q2⟩:=Bool.and_eq_true_iff.mp h2';refine⟨by simpa using q1,?_⟩;rcases Bool.or_eq_true_iff.mp q2 with z|z
  .exact .inl (show X.env.scope.names.lookup x.1=_ by simpa using z)
  .exact .inr (show X.env.scope.names.lookup x.1=_ by simpa using z)
 .obtain⟨⟨h1,h2⟩,h3⟩:=ha x hx;have:=h3 y hy;simpa [e] using this
 .have:=hj j hjm;split at this
  .rename_i x hx;exact⟨x,hx,by simpa using this⟩
  .cases this
theorem yf{env:Env}{x:Str}:∀(names:List (Str×NameKind)),(names.map fun(n,k)=>if (k==NameKind.free&&env.scope.kind==.function&&env.kindOf n==some .cell) then (n,NameKind.cell) else (n,k)).lookup x =
  (names.lookup x).map fun k=>if (k==NameKind.free&&env.scope.kind==.function&&env.kindOf x==some .cell) then NameKind.cell else k
 |[]=>rfl
 | (n,k) :: r=>by
  have ih:=yf (env:=env) (x:=x) r;by_cases e:x=n
  .subst e
   cases hc:(k==NameKind.free&&env.scope.kind==.function&&env.kindOf x==some .cell) <;>
    simp only[hc,List.map_cons,List.lookup_cons,beq_self_eq_true,if_true,Option.map_some,Bool.false_eq_true,if_false]
  .have hn:(x==n)=false:=by simpa using e
   cases hc:(k==NameKind.free&&env.scope.kind==.function&&env.kindOf n==some .cell) <;>
    simp only[hc,hn,List.map_cons,List.lookup_cons,if_true,Bool.false_eq_true,if_false]<;>exact ih
theorem qj{env:Env}{names:List (Str×NameKind)}{x:Str}(h:names.lookup x=some .cell):(names.map fun(n,k)=>if (k==NameKind.free&&env.scope.kind==.function&&env.kindOf n==some .cell) then (n,NameKind.cell) else (n,k)).lookup x=some .cell:=by
 rw[yf,h];rfl
theorem eU{X:Cx}{scope:Scope}{tn:List Str}{js:List Nat}{C:Addr}{s:Shared}{H:Hp}{fp:List Addr}{x:Str}{pos:Pos}(i:Nat)(N:List Str)(h:cN X tn js=N:=by rfl)(hd:N.Nodup:=by decide +kernel)(hi:N[i]?=some x:=by rfl)
  (hl:scope.names.lookup x=some .local\/scope.names.lookup x=some .cell:=by first|exact .inl rfl|exact .inr rfl):PG (f_ X (cN X tn js) scope C s H fp) (.Name x pos) (jL i):=by
 refine gq (show(cN X tn js).Nodup by rw[h];exact hd) (show(cN X tn js)[i]?=some x by rw[h];exact hi) ?_ ?_
 .rcases hl with z|z
  .exact .inl (lookup_relabel_local z)
  .exact .inr (qj z)
 .rcases hl with z|z
  .exact .inr (lookup_relabel_local z)
  .refine .inl ?_;show(match scope.names.lookup x with|some .cell=>true|_=>false)=true;rw[z]
theorem bp{i n:Nat}(h:i<n:=by decide):∀j,j=i->j<n:=fun j e=>by rw[e];exact h
section
variable{K:PySem.W.Frag}{H0:Hp}{F O:Addr->Prop}{Γ:aE}{σ:St}{H H':Hp}
theorem dD.yI{v:V}{i:Nat}(Z:dD K H0 F O Γ σ H)(sm:aD H H')(N:Addr->Prop)(hN:∀q,N q->H q=none/\∃xs:Mt,H' q=some (mo xs))(g:Bd)(hg:g.eP)(hv:g.u6 K H0 (fun p=>O p\/N p) H' N v):
  dD K H0 F (fun p=>O p\/N p) (Γ.set i (some g)) (σ.set i (some v)) H'/\aD (off H O) (off H' fun p=>O p\/N p):=by
 have so:aD (off H O) (off H' fun p=>O p\/N p):=fun b o h=>by
  obtain⟨h1,h2⟩:=ir h;have hb:¬N b:=fun z=>by rw[(hN b z).1] at h2;cases h2
  rw[a_ (by rintro(z|z);exact h1 z;exact hb z)];exact sm _ _ h2
 refine⟨⟨Z.same.trans sm,fun p h=>.inl (Z.fo p h),Z.f0,fun p h=>?_,by rw[List.length_set,List.length_set];exact Z.len,fun j g' e n=>?_,?_⟩,so⟩
 .rcases h with h|h
  .obtain⟨ys,q⟩:=Z.own p h;exact⟨ys,sm _ _ q⟩
  .exact(hN p h).2
 .by_cases hj:j=i
  .subst hj;obtain⟨hl,e'⟩:=get_set_some e;subst e';exact absurd hg n
  .rw[get_set_ne hj] at e;obtain⟨w,q1,q2⟩:=Z.at_ j g' e n;refine⟨w,by rw[get_set_ne hj];exact q1,?_⟩;cases g' with
   |val b a=>exact ay so q2
   |own b as=>exact q2
   |dpo a=>exact q2
 .obtain⟨D,d1,d2,d3⟩:=Z.dis;refine⟨fun j q=>(j=i/\N q)\/(j≠i/\D j q),fun j k q h1 h2=>?_,fun j q h=>?_,fun j g' e o=>?_⟩
  .rcases h1 with⟨e1,n1⟩|⟨e1,n1⟩<;>rcases h2 with⟨e2,n2⟩|⟨e2,n2⟩
   .rw[e1,e2]
   .exact absurd (d2 k q n2).1 (Z.nF (hN q n1).1)
   .exact absurd (d2 j q n1).1 (Z.nF (hN q n2).1)
   .exact d1 j k q n1 n2
  .rcases h with⟨_,n⟩|⟨_,n⟩
   .exact⟨.inr n,Z.gW (hN q n).1⟩
   .exact⟨.inl (d2 j q n).1,(d2 j q n).2⟩
  .by_cases hj:j=i
   .subst hj;obtain⟨hl,e'⟩:=get_set_some e;subst e';refine⟨v,get_set_eq (by rw[Z.len];exact hl),?_⟩;have:(fun q=>(j=j/\N q)\/(j≠j/\D j q))=N:=funext fun q=>propext ⟨fun z=>by rcases z with⟨_,z⟩|⟨z,_⟩;exact z;exact absurd rfl z,fun z=>.inl ⟨rfl,z⟩⟩;show Bd.u6 K H0 (fun p=>O p\/N p) H' (fun q=>(j=j/\N q)\/(j≠j/\D j q)) v g;rw[this];exact hv
   .rw[get_set_ne hj] at e;obtain⟨w,q1,q2⟩:=d3 j g' e o;refine⟨w,by rw[get_set_ne hj];exact q1,?_⟩;have:(fun q=>(j=i/\N q)\/(j≠i/\D j q))=D j:=funext fun q=>propext ⟨fun z=>by rcases z with⟨z,_⟩|⟨_,z⟩;exact absurd z hj;exact z,fun z=>.inr ⟨hj,z⟩⟩;show Bd.u6 K H0 (fun p=>O p\/N p) H' (fun q=>(j=i/\N q)\/(j≠i/\D j q)) w g';rw[this];exact Bd.GZ q2 (fun p ys _ z=>sm _ _ z) so (fun p z=>(d2 j p z).1) Z.own
theorem dD.DQ{i:Nat}{g:Bd}(Z:dD K H0 F O Γ σ H)(hg:Γ[i]?=some (some g))(ho:g.eP):∃v D,σ[i]?=some (some v)/\g.u6 K H0 O H D v/\(∀p,D p->O p/\H0 p=none) /\
  ∀(p:Addr) (ys:Mt) (g':Option Bd),D p->(∀g'',g'=some g''->g''.eP/\g''.u6 K H0 O (upd H p (mo ys)) D v)->dD K H0 F O (Γ.set i g') σ (upd H p (mo ys))/\off (upd H p (mo ys)) O=off H O:=by
 obtain⟨D,d1,d2,d3⟩:=Z.dis;obtain⟨v,q1,q2⟩:=d3 i g hg ho;refine⟨v,D i,q1,q2,d2 i,fun p ys g' hp hok=>?_⟩;have hOp:=(d2 i p hp).1;have eo:=pT (H:=H) (o:=mo ys) hOp;refine⟨⟨fun b o z=>?_,Z.fo,Z.f0,fun b hb=>?_,by rw[List.length_set];exact Z.len,fun j g2 e n=>?_,D,d1,d2,fun j g2 e o=>?_⟩,eo⟩
 .have:b≠p:=fun w=>by rw[w,(d2 i p hp).2] at z;cases z
  rw[aS this];exact Z.same _ _ z
 .by_cases hbp:b=p
  .subst hbp;exact⟨ys,bK⟩
  .rw[aS hbp];exact Z.own b hb
 .by_cases hj:j=i
  .subst hj;have hl:j<Γ.length:=(List.getElem?_eq_some_iff.mp hg).1;rw[get_set_eq hl] at e;have e':g'=some g2:=Option.some.inj e;exact absurd (hok g2 e').1 n
  .rw[get_set_ne hj] at e;obtain⟨w,q3,q4⟩:=Z.at_ j g2 e n;refine⟨w,q3,?_⟩;cases g2 with
   |val b a =>
    show Py.rp K _ (off (upd H p _) O) w a;rw[eo];exact q4
   |own b as=>exact q4
   |dpo a=>exact q4
 .by_cases hj:j=i
  .subst hj;have hl:j<Γ.length:=(List.getElem?_eq_some_iff.mp hg).1;rw[get_set_eq hl] at e;have e':g'=some g2:=Option.some.inj e;exact⟨v,q1,(hok g2 e').2⟩
  .rw[get_set_ne hj] at e;obtain⟨w,q3,q4⟩:=d3 j g2 e o;refine⟨w,q3,Bd.GZ q4 (fun q xs hq z=>?_) (by rw[eo];exact aD.refl _) (fun q z=>(d2 j q z).1) Z.own⟩;have:q≠p:=fun w=>hj (d1 j i q hq (w▸hp));rw[aS this];exact z
theorem dD.write{i:Nat}{g:Bd}(Z:dD K H0 F O Γ σ H)(hg:Γ[i]?=some (some g))(ho:g.eP):∃v D,σ[i]?=some (some v)/\g.u6 K H0 O H D v/\(∀p,D p->O p/\H0 p=none) /\
  ∀(p:Addr) (ys:List V) (g':Option Bd),D p->(∀g'',g'=some g''->g''.eP/\g''.u6 K H0 O (upd H p (.lst ys)) D v)->dD K H0 F O (Γ.set i g') σ (upd H p (.lst ys))/\off (upd H p (.lst ys)) O=off H O:=by
 obtain⟨v,D,a,b,c,f⟩:=Z.DQ hg ho;exact⟨v,D,a,b,c,fun p ys=>f p (.inl ys)⟩
theorem dD.freeze{i:Nat}{g g':Bd}(Z:dD K H0 F O Γ σ H)(hg:Γ[i]?=some (some g))(ho:g.eP)(hn:¬g'.eP)
  (hk:∀(D O':Addr->Prop) v,g.u6 K H0 O H D v->(∀p,D p->H0 p=none/\¬O' p)->aD (off H O) (off H O')->(∀p xs,Rt H p xs->Rt (off H O') p xs)->g'.ok K H0 O' H v):
  ∃O',dD K H0 F O' (Γ.set i (some g')) σ H/\aD (off H O) (off H O'):=by
 obtain⟨D,d1,d2,d3⟩:=Z.dis;obtain⟨v,q1,q2⟩:=d3 i g hg ho;have so:aD (off H O) (off H fun p=>O p/\¬D i p):=jE fun p h=>h.1;refine⟨fun p=>O p/\¬D i p,⟨Z.same,fun p h=>⟨Z.fo p h,fun z=>?_⟩,Z.f0,fun p h=>Z.own p h.1,by rw[List.length_set];exact Z.len,fun j g2 e n=>?_,fun j q=>j≠i/\D j q,fun j k q h1 h2=>d1 j k q h1.2 h2.2,fun j q h=>⟨⟨(d2 j q h.2).1,fun z=>h.1 (d1 j i q h.2 z)⟩,(d2 j q h.2).2⟩,fun j g2 e o=>?_⟩,so⟩
 .obtain⟨xs,w⟩:=Z.f0 p h;rw[(d2 i p z).2] at w;cases w
 .by_cases hj:j=i
  .subst hj;obtain⟨_,e'⟩:=get_set_some e;subst e';refine⟨v,q1,hk (D j) _ v q2 (fun p z=>⟨(d2 j p z).2,fun w=>w.2 z⟩) so fun p xs q=>?_⟩
   have hp:∀u,(H p=some (.tup u)\/∃o,H p=some (.frz o (.tup u)))->¬(O p/\¬D j p):=fun u z w=>by
    obtain⟨ys,w'⟩:=Z.own p w.1;rcases z with z|⟨o,z⟩
    .rw[z] at w';rcases ys with ys|ys|ys<;>cases w'
    .rw[z] at w';rcases ys with ys|ys|ys<;>cases w'
   have hp':=hp xs q.rd;rcases q with q|⟨o,q⟩
   .exact .inl (by rw[a_ hp'];exact q)
   .exact .inr ⟨o,by rw[a_ hp'];exact q⟩
  .rw[get_set_ne hj] at e;obtain⟨w,q3,q4⟩:=Z.at_ j g2 e n;refine⟨w,q3,?_⟩;cases g2 with
   |val b a=>exact ay so q4
   |own b as=>exact q4
   |dpo a=>exact q4
 .have hj:j≠i:=by
   rintro rfl;obtain⟨_,e'⟩:=get_set_some e;subst e';exact hn o
  rw[get_set_ne hj] at e;obtain⟨w,q3,q4⟩:=d3 j g2 e o;refine⟨w,q3,?_⟩;have:(fun q=>j≠i/\D j q)=D j:=funext fun q=>propext ⟨fun z=>z.2,fun z=>⟨hj,z⟩⟩;show Bd.u6 K H0 (fun p=>O p/\¬D i p) H (fun q=>j≠i/\D j q) w g2;rw[this];exact Bd.GZ q4 (fun p ys _ z=>z) so (fun p z=>(d2 j p z).1) Z.own
theorem DL{α:Type}[Py α]{b:Bool}{as:List α}{D O':Addr->Prop}{v:V}(h:(Bd.own b as).u6 K H0 O H D v)(hD:∀p,D p->H0 p=none/\¬O' p)(so:aD (off H O) (off H O')):(Bd.val b as).ok K H0 O' H v:=by
 obtain⟨p,xs,e,o,q,r⟩:=h;have hx:off H O' p=some (.lst xs):=by rw[a_ (hD p o).2];exact q
 exact⟨p,xs,e,cW.of hx,Nf.wk (hD p o).1 hx,bL (fun _ _ z=>ay so z) r⟩
end
section
variable{X:Cx}{Γ:aE}{D:GD}{α β γ:Type}[Py α][Py β][Py γ]{e e1 e2:Expr}{b b1 b2:Bool}{pos:Pos}{rest st:List Stmt}
theorem yT(i:Nat)(α:Type)[Py α]{x:Str}{p p2:Pos}(hN:X.N.Nodup)(h:S X (Γ.set i (some (.own true ([]:List α)))) rest D)(hi:X.N[i]?=some x:=by rfl)(hx:Loc X.env.scope x:=by first|exact Or.inl rfl|exact Or.inr rfl)
  (hs:swapsWith (.List [] p2) (some (.Name x p)) pos.line X.env=pure false:=by rfl) (hf:X.fn x=true\/X.env.scope.names.lookup x=some .local:=by first|exact .inl rfl|exact .inr rfl):S X Γ (.Assign [.Name x p] (.List [] p2) pos::rest) D:=by
 with_unfolding_all
  exact dw (du (pN hN hi hx (sT aV) hs hf) fun De σ H ⟨H0,F,O,Z,n,_⟩=>⟨Nat.zero_le _,fun q hq=>by
    obtain⟨Z',so⟩:=Z.yI (i:=i) (v:=.ref q) (di hq (.lst [])) (·=q) (fun r e=>by subst e;exact⟨hq,.inl [],bK⟩) (Bd.own true ([]:List α)) True.intro ⟨q,[],rfl,rfl,bK,.nil⟩
    exact n _ _ _ _ so Z' h⟩)
theorem iw(i:Nat){as:List α}{a:α}{x:Str}{p ap cp:Pos}(hg:Γ[i]?=some (some (.own b as)))(he:E X Γ e b a)(hl:as.length<=1000)(h:S X (Γ.set i (some (.own b (as++[a])))) rest D)(hi:X.N[i]?=some x:=by rfl)
  (hv:FP X.env.scope x:=by first|exact Or.inl rfl|exact Or.inr (Or.inl rfl)|exact Or.inr (Or.inr rfl)) (hd:(x==("__debug__":Str))=false:=by decide) (hcd:(x==("__classdict__":Str))=false:=by decide)
  (hbase:attributeBase (.Name x p) "append" X.env (eval (.Name x p) X.env)=eval (.Name x p) X.env:=by rfl)
  (hfew:((backTo cp (starEach [e] X.env)).all (fun x=>!x.1)&&(backToKw cp (keywordEach [] X.env)).all (fun x=>x.1.isSome)
   && decide (([e]:List Expr).length+([]:List Keyword).length+(if ([]:List Keyword).isEmpty then 0 else 1)<30))=true:=by rfl)
  (hline:(ap.endLine==cp.line)=true:=by rfl) (hs:starEach [e] X.env=(false,eval e X.env)::starEach [] X.env:=by rfl) (hplain:(backTo cp (starEach [] X.env)).any (·.1)=false:=by rfl)
  (hsw:swapsWith (.Call (.Attribute (.Name x p) "append" ap) [e] [] cp) none pos.line X.env=pure false:=by rfl):
  S X Γ (.Expr (.Call (.Attribute (.Name x p) "append" ap) [e] [] cp) pos::rest) D:=by
 with_unfolding_all
  exact dw (du (wD (Hc PySem.F.plainAttrs_list PySem.F.slot_list_append PySem.F.type_list_append oq (pv i hi hv hd hcd) (aB he aV hs) hbase hfew hline hs hplain) hsw) fun De σ H ⟨H0,F,O,Z,n,_⟩=>by
    obtain⟨v,Di,hv1,⟨q,xs,hq1,hq2,hq3,hq4⟩,_,_⟩:=Z.write hg True.intro;subst hq1;refine⟨.ref q,hv1,.inl ⟨rfl,xs,cW.of hq3⟩,H0,F,O,Z,fun y H2 s2 ry=>⟨q,xs,y,rfl,rfl,s2 _ _ hq3,?_,?_⟩⟩
    .rw[bF hq4];exact cA hl
    .obtain⟨v',D',hv2,⟨q',xs',w1,w2,w3,w4⟩,hO',wr⟩:=(Z.go s2).write hg True.intro;rw[hv1] at hv2;have ev:V.ref q=v':=by injection hv2 with z;injection z
     subst ev;cases w1
     have ex:xs'=xs:=by
      have:=s2 _ _ hq3;rw[w3] at this;cases this;rfl
     subst ex
     obtain⟨Z',eo⟩:=wr q (xs'++[y]) (some (.own b (as++[a]))) w2 fun g'' e'=>by
      cases e';refine⟨True.intro,q,_,rfl,w2,bK,?_⟩;rw[pT (hO' q w2).1];exact uq w4 (.cons ry .nil)
     exact n _ _ _ _ (by rw[eo];exact ag s2) Z' h)
theorem B_{g g':Bd}(i:Nat)(hg:Γ[i]?=some (some g))(ho:g.eP)(hn:¬g'.eP)
  (hk:∀(H0 H:Hp) (O D O':Addr->Prop) v,g.u6 X.K H0 O H D v->(∀p,D p->H0 p=none/\¬O' p)->aD (off H O) (off H O')->(∀p xs,Rt H p xs->Rt (off H O') p xs)->g'.ok X.K H0 O' H v)
  (h:S X (Γ.set i (some g')) st D):S X Γ st D:=by
 with_unfolding_all
  exact mj h fun De σ H ⟨H0,F,O,Z,n,r,bk,ct⟩=>by
   obtain⟨O',Z',so⟩:=Z.freeze hg ho hn fun Di O' v=>hk H0 H O Di O' v;exact⟨H0,F,O',Z',fun Γ2 σ2 H2 O2 sm=>n Γ2 σ2 H2 O2 (so.trans sm),r,fun Γ2 σ2 H2 O2 sm=>bk Γ2 σ2 H2 O2 (so.trans sm),fun Γ2 σ2 H2 O2 sm=>ct Γ2 σ2 H2 O2 (so.trans sm)⟩
theorem g9(i:Nat){as:List α}(hg:Γ[i]?=some (some (.own b as)))(h:S X (Γ.set i (some (.val b as))) st D):S X Γ st D:=by
 with_unfolding_all
  exact B_ (g':=.val b as) i hg True.intro (fun z=>z) (fun H0 H O Di O' v z1 z2 z3 _=>DL z1 z2 z3) h
theorem x9(i j:Nat){x y:Str}{u:α×β}{p1 p2 p3:Pos}{k:Nat}(hN:X.N.Nodup)(he:E X Γ e b u)(h:S X ((Γ.set i (some (.val b u.1))).set j (some (.val b u.2))) rest D)(hc:X.calm=true:=by rfl)(hi:X.N[i]?=some x:=by rfl)(hj:X.N[j]?=some y:=by rfl)
  (hx:Loc X.env.scope x:=by first|exact Or.inl rfl|exact Or.inr rfl) (hy:Loc X.env.scope y:=by first|exact Or.inl rfl|exact Or.inr rfl)
  (hf:X.fn x=true\/X.env.scope.names.lookup x=some .local:=by first|exact .inl rfl|exact .inr rfl) (hf2:X.fn y=true\/X.env.scope.names.lookup y=some .local:=by first|exact .inl rfl|exact .inr rfl)
  (hs:swapsWithSole [.Tuple [.Name x p1,.Name y p2] k p3] e pos.line X.env=pure false:=by rfl) (hw:swappedStores [.Tuple [.Name x p1,.Name y p2] k p3] e X.env=pure none:=by rfl)
  (h1:(assignEach [.Tuple [.Name x p1,.Name y p2] k p3] X.env).map (·.2)=[assign (.Tuple [.Name x p1,.Name y p2] k p3) X.env]:=by rfl) (hn:(assignEach [.Name x p1,.Name y p2] X.env).length=2:=by rfl)
  (hst:(assignEach [.Name x p1,.Name y p2] X.env).findIdx? (·.1)=none:=by rfl) (ha1:assignEach [.Name x p1,.Name y p2] X.env=(false,assign (.Name x p1) X.env)::assignEach [.Name y p2] X.env:=by rfl) (ha2:assignEach [.Name y p2] X.env=(false,assign (.Name y p2) X.env)::assignEach [] X.env:=by rfl):
  S X Γ (.Assign [.Tuple [.Name x p1,.Name y p2] k p3] e pos::rest) D:=by
 with_unfolding_all
  exact dw (du (Dz he (yW hc (ji (gq hN hi hx hf) (ji (gq hN hj hy hf2) wz))) hs hw h1) fun De σ H ⟨H0,F,O,Z,n,_⟩=>⟨H0,F,O,Z,fun v H1 s1 r1=>by
    obtain⟨q,v1,v2,e',sq,g1,g2⟩:=r1;refine⟨q,_,e',mh (ao _ _) sq,rfl,v1,[v2],rfl,v2,[],rfl,rfl,?_⟩
    exact n _ _ H1 O (ag s1) (((Z.go s1).set g1).set g2) h⟩)
theorem Fe(i j:Nat){K:PySem.W.Frag}:GP (DW K 2 (sE (jL i) (sE (jL j) E9))) (α×β) (fun b u Γ=>(Γ.set i (some (.val b u.1))).set j (some (.val b u.2))) (fun k=>k=i\/k=j) K:=fun b u H0 F O Γ σ H v Q Z r q=>by
 obtain⟨p,v1,v2,e',sq,g1,g2⟩:=r;refine⟨p,_,e',mh (ao _ _) sq,rfl,v1,[v2],rfl,v2,[],rfl,rfl,?_⟩;exact q _ ((Z.set g1).set g2) (by rw[List.length_set,List.length_set]) fun k hk=>by rw[get_set_ne fun z=>hk (.inr z),get_set_ne fun z=>hk (.inl z)]
end
end L2.EP
namespace L2
open PySem PySem.Spec PyProof.Rows
def Ir(K : PySem.W.Frag)(a b : Addr) : It :=
  ⟨fun i H=>∃xs ys x y,cW K H a xs/\cW K H b ys/\xs[i]?=some x/\ys[i]?=some y,
   fun i H v H'=>∃T x y,H T=none/\v=.ref T/\H'=upd H T (.tup [x,y])/\(∀xs,cW K H a xs->xs[i]?=some x)/\∀ys,cW K H b ys->ys[i]?=some y,
   fun i H=>∃xs ys,cW K H a xs/\cW K H b ys/\(xs.length<=i\/ys.length<=i)⟩
theorem cc{h:Heap}{a b:Addr}{o u:Obj}(e1:h.get? a=some o)(e2:h.get? b=some u)(d:o.cls≠u.cls):a≠b:=fun z=>by
 subst z;rw[e1] at e2;cases e2;exact d rfl
theorem oS{h:Heap}{z TI TO i1 i2 l1 l2:Addr}{f0 va vb wa wb:Value}{k1 k2:Nat}{xs ys:Array Value}(hz:IsZip h z TI TO f0)(hTI:IsPair h TI va vb)(hTO:IsPair h TO wa wb)(h1:h.IsListIter i1 l1 k1)(h2:h.IsListIter i2 l2 k2)
  (hl1:h.IsList l1 xs) (hl2:h.IsList l2 ys) (n1:TI≠TO) (n2:i1≠i2):ZipApart z TI TO i1 i2 l1 l2:=by
 obtain⟨o1,a1,b1,_⟩:=h1;obtain⟨o2,a2,b2,_⟩:=h2;obtain⟨p1,c1,d1,_⟩:=hl1;obtain⟨p2,c2,d2,_⟩:=hl2;have X:∀{s t:String},s≠t->Value.type s≠Value.type t:=fun ne e=>ne (by injection e)
 exact⟨cc hTI hz (X (by decide)),cc hTO hz (X (by decide)),cc a1 hz (by rw[b1];exact X (by decide)),cc a2 hz (by rw[b2];exact X (by decide)),n1,cc hTI a1 (by rw[b1];exact X (by decide)),cc hTI a2 (by rw[b2];exact X (by decide)),
  cc hTO a1 (by rw[b1];exact X (by decide)),cc hTO a2 (by rw[b2];exact X (by decide)),n2,cc c1 hz (by rw[d1];exact X (by decide)),cc c1 hTO (by rw[d1];exact X (by decide)),cc c1 a1 (by rw[d1,b1];exact X (by decide)),cc c1 a2 (by rw[d1,b2];exact X (by decide)),
  cc c2 hz (by rw[d2];exact X (by decide)),cc c2 hTO (by rw[d2];exact X (by decide)),cc c2 a1 (by rw[d2,b1];exact X (by decide)),cc c2 a2 (by rw[d2,b2];exact X (by decide))⟩
section
variable{X:Cx}{pins:List (Addr×Obj)}{σ:St}{H H':Hp}{s:Shared}
theorem Inv.vU{h':Heap}{t':Nat}{ch:List Addr}{T:Addr}{xs:List V}(I:Inv X pins σ H s)(hT:s.heap.objs.size<=T)(k:∀b o,b∉ch->s.heap.get? b=some o->h'.get? b=some o)(th:∀b o,s.heap.get? b=some o->∃o',h'.get? b=some o')(hf:∀b∈ch,nQ X pins H b)
  (new:fG X.prog X.w (upd H T (.tup xs)) h' T (.tup xs)):Inv X pins σ (upd H T (.tup xs)) {s with heap:=h',toks:=t'}:=by
 with_unfolding_all
  have hn:H T=none:=I.hok.fresh hT;have nch:∀b u,H b=some u->b∉ch:=fun b u e z=>by rw[(hf b z).1] at e;cases e
  refine I.step (g':=s.gens) (d':=s.drawn) (ch:=ch) (fun b hb=>⟨(hf b hb).2.2.2.1,(hf b hb).2.1,(hf b hb).2.2.2.2.1,(hf b hb).2.2.2.2.2⟩) (fun b o _ _ hc e _=>k b o hc e) (fun b o _ _ hc e _=>⟨o.slots,k b o hc e⟩)
   (fun b o hc e n=>by rw[aS (Nat.ne_of_lt (Nat.lt_of_lt_of_le (Heap.lt_size e) hT))];exact n) (fun b o hc e=>⟨o,k b o hc e⟩) (fun b ys e=>by rw[aS (br e hn)];exact e) (fun b u ys e=>by rw[aS (br e hn)];exact e) (fun b ps e=>⟨#[],by rw[aS (br e hn),e];simp⟩) (fun m hm=>?_) (fun b u e=>?_) I.bare
  .obtain⟨o,es,ep,ho,r⟩:=hm;exact⟨o,es,ep,k _ o (fun z=>(hf _ z).2.1 rfl) ho,r⟩
  .by_cases hb:b=T
   .subst hb;rw[bK] at e;cases e;exact new
   .rw[aS hb] at e;refine(I.hok b u e).rH (fun c v hc q=>k c v ?_ q) (fun c z=>?_) fun c ys z=>?_
    .rcases hc with z|z
     .rw[z];exact nch b u e
     .exact nch c _ z
    .rw[aS (br z hn)];exact z
    .rw[aS (br z hn)];exact z
end
theorem yw{P:Program}{w:World}{K:PySem.W.Frag}{elts:List Expr}{kk:Nat}{tp:Pos}(z TI TO i1 i2 a b:Addr)(n1:TI≠TO)(n2:i1≠i2):Turn P w K (.Tuple elts kk tp) (Ir K a b) [z,TI,TO,i1,i2] z
  (fun i h=>IsZip h z TI TO .none/\IsPair h TI (.ref i1) (.ref i2)/\(∃x y,IsPair h TO x y)/\h.IsListIter i1 a i/\h.IsListIter i2 b i) where
 mem:=by simp
 obj:=fun i h st c hc=>by
  obtain⟨hz,hTI,⟨x,y,hTO⟩,h1,h2⟩:=st;have hc':c=z\/c=TI\/c=TO\/c=i1\/c=i2:=by simpa using hc
  rcases hc' with e|e|e|e|e
  .subst e;exact⟨_,hz,fun v q=>by cases q⟩
  .subst e;exact⟨_,hTI,fun v q=>by cases q⟩
  .subst e;exact⟨_,hTO,fun v q=>by cases q⟩
  .subst e;obtain⟨o,q1,q2,q3⟩:=h1;exact⟨o,q1,fun v q=>by rw[q3] at q;cases q⟩
  .subst e;obtain⟨o,q1,q2,q3⟩:=h2;exact⟨o,q1,fun v q=>by rw[q3] at q;cases q⟩
 keep:=fun i h h' st k=>by
  obtain⟨hz,hTI,⟨x,y,hTO⟩,h1,h2⟩:=st;exact⟨k z (by simp) _ hz,k TI (by simp) _ hTI,⟨x,y,k TO (by simp) _ hTO⟩,h1.at fun o e=>k i1 (by simp) o e,h2.at fun o e=>k i2 (by simp) o e⟩
 item:=by
  intro X hP hw hK hc i pins s σ H E I hf st hg;subst hP hw hK;obtain⟨xs,ys,x,y,sx,sy,gx,gy⟩:=hg;obtain⟨hz,hTI,⟨wa,wb,hTO⟩,h1,h2⟩:=st;obtain⟨ix,rx,px,_⟩:=I.list sx;obtain⟨iy,ry,py,_⟩:=I.list sy;have D:=oS hz hTI hTO h1 h2 px.isList py.isList n1 n2;obtain⟨u,ux,uxr⟩:=rx.get gx;obtain⟨v,vy,vyr⟩:=ry.get gy;refine wpAny_pyNext_zip_item D hz hTI hTO h1 h2 px.isList py.isList (by simpa using ux) (by simpa using vy) fun h' a1 a2 a3 a4 a5 a6 hk=>?_;have hT0:H s.heap.objs.size=none:=I.hok.fresh (Nat.le_refl _)
  have I1:Inv X pins σ (upd H s.heap.objs.size (.tup [x,y])) {s with heap:=h',toks:=s.toks}:=by
   refine I.vU (ch:=[z,TO,i1,i2]) (Nat.le_refl _) (fun c o hc' e=>hk c o (fun q=>hc' (by simp[q])) (fun q=>hc' (by simp[q])) (fun q=>hc' (by simp[q])) (fun q=>hc' (by simp[q])) e) (fun c o e=>?_) (fun c hc'=>hf c (by simp at hc' ⊢;rcases hc' with q|q|q|q<;>simp[q])) ?_
   .have hlt:=Heap.lt_size e;have:c<h'.objs.size:=by rw[a6];exact Nat.lt_succ_of_lt hlt
    by_cases q1:c=z
    .subst q1;exact⟨_,a1⟩
    by_cases q2:c=TO
    .subst q2;exact⟨_,a2⟩
    by_cases q3:c=i1
    .subst q3;obtain⟨o',q,_⟩:=a3;exact⟨o',q⟩
    by_cases q4:c=i2
    .subst q4;obtain⟨o',q,_⟩:=a4;exact⟨o',q⟩
    exact⟨o,hk c o q1 q2 q3 q4 e⟩
   .exact⟨by show 2<=sizeLine;decide,[u,v],.cons uxr (.cons vyr .nil),⟨_,a5,rfl,_,rfl⟩⟩
  refine⟨_,rfl,?_⟩;have fz:=hf z (by simp);refine wpAny_letOwnedTupleGo_zip a1 fun h2' hz' hs'=>?_;have zT:z≠s.heap.objs.size:=Nat.ne_of_lt (Heap.lt_size hz);have I2:Inv X pins σ (upd H s.heap.objs.size (.tup [x,y])) {({s with heap:=h',toks:=s.toks}:Shared) with heap:=h2',toks:=s.toks}:=I1.turned (fun c o hc' e=>hs'.extBut c o hc' e) (by rw[aS zT];exact fz.1) fz.2.1 fz.2.2.2.1 fz.2.2.2.2.1 fz.2.2.2.2.2;refine⟨.ref s.heap.objs.size,upd H s.heap.objs.size (.tup [x,y]),I2,rfl,⟨s.heap.objs.size,x,y,hT0,rfl,rfl,fun xs' sx'=>?_,fun ys' sy'=>?_⟩,⟨hz',hs'.extBut _ _ D.TIz (hk _ _ D.TIz D.TITO D.TIi1 D.TIi2 hTI),⟨_,_,hs'.extBut _ _ D.TOz a2⟩,a3.extBut hs'.extBut D.i1z,a4.extBut hs'.extBut D.i2z⟩,fun c hc'=>?_⟩
  .rw[I.jI sx' sx];exact gx
  .rw[I.jI sy' sy];exact gy
  .have hcl:c<s.heap.objs.size:=by
    have hc2:c=z\/c=TI\/c=TO\/c=i1\/c=i2:=by simpa using hc'
    rcases hc2 with e|e|e|e|e
    .subst e;exact Heap.lt_size hz
    .subst e;exact Heap.lt_size hTI
    .subst e;exact Heap.lt_size hTO
    .subst e;obtain⟨_,q,_⟩:=h1;exact Heap.lt_size q
    .subst e;obtain⟨_,q,_⟩:=h2;exact Heap.lt_size q
   rw[aS (Nat.ne_of_lt hcl)];exact(hf c hc').1
 done:=by
  intro X hP hw hK hc i pins s σ H E I hf st hg;subst hP hw hK;obtain⟨xs,ys,sx,sy,hend⟩:=hg;obtain⟨hz,hTI,⟨wa,wb,hTO⟩,h1,h2⟩:=st;obtain⟨ix,rx,px,_⟩:=I.list sx;obtain⟨iy,ry,py,_⟩:=I.list sy;have D:=oS hz hTI hTO h1 h2 px.isList py.isList n1 n2;refine wpAny_pyNext_zip_end (I.ok.hd hc) D hz hTI hTO h1 h2 px.isList py.isList ?_ fun h' hk=>⟨rfl,?_⟩
  .rcases hend with q|q
   .left;simp[<-rx.length];omega
   .right;simp[<-ry.length];omega
  .have fz:=hf z (by simp);have fo:=hf TO (by simp);have f1:=hf i1 (by simp);have f2:=hf i2 (by simp)
   refine I.step (g':=s.gens) (d':=s.drawn) (t':=s.toks) (ch:=[z,TO,i1,i2]) (fun b hb=>?_) (fun b o _ _ hc' e _=>hk b o (fun q=>hc' (by simp[q])) (fun q=>hc' (by simp[q])) (fun q=>hc' (by simp[q])) (fun q=>hc' (by simp[q])) e) (fun b o _ _ hc' e _=>⟨o.slots,hk b o (fun q=>hc' (by simp[q])) (fun q=>hc' (by simp[q])) (fun q=>hc' (by simp[q])) (fun q=>hc' (by simp[q])) e⟩) (fun _ _ _ _ n=>n)
    (fun b o hc' e=>⟨o,hk b o (fun q=>hc' (by simp[q])) (fun q=>hc' (by simp[q])) (fun q=>hc' (by simp[q])) (fun q=>hc' (by simp[q])) e⟩) (fun _ _ e=>e) (fun _ _ _ e=>e) (fun b ps e=>⟨#[],by rw[e];simp⟩) (fun m hm=>?_) (fun b u e=>?_) I.bare
   .have q:=hf b (by simp at hb ⊢;rcases hb with q|q|q|q<;>simp[q]);exact⟨q.2.2.2.1,q.2.1,q.2.2.2.2.1,q.2.2.2.2.2⟩
   .obtain⟨o,es,ep,ho,r⟩:=hm;exact⟨o,es,ep,hk _ o (Ne.symm fz.2.1) (Ne.symm fo.2.1) (Ne.symm f1.2.1) (Ne.symm f2.2.1) ho,r⟩
   .have nn:∀c v,H c=some v->c≠z/\c≠TO/\c≠i1/\c≠i2:=fun c v e=>⟨(fun q=>by(rw[q,fz.1] at e;cases e)),(fun q=>by(rw[q,fo.1] at e;cases e)),(fun q=>by(rw[q,f1.1] at e;cases e)),(fun q=>by(rw[q,f2.1] at e;cases e))⟩;refine(I.hok b u e).rH (fun c v hc' q=>?_) (fun _ q=>q) fun _ _ q=>q;have:=nn c;rcases hc' with e'|e'
    .subst e';obtain⟨w1,w2,w3,w4⟩:=nn c _ e;exact hk c v w1 w2 w3 w4 q
    .obtain⟨w1,w2,w3,w4⟩:=nn c _ e';exact hk c v w1 w2 w3 w4 q
 self:=fun _ _ _ _ _ st h=>wpAny_pyIter_zip st.1 h
section
variable{X:Cx}{elts:List Expr}{kk:Nat}{tp:Pos}
def IT(K:PySem.W.Frag)(ta:TA):TI:=fun σ H R=>ta σ H fun vs H1=>∃a b,vs=[.ref a,.ref b]/\(∃xs,cW K H1 a xs)/\(∃ys,cW K H1 b ys)/\R (Ir K a b) H1
theorem Em{e1 e2:Expr}{ta:TA}{p pos:Pos}(hg:Gl X "zip")(hm:X.mg "zip"=none)(ha:PA X [e1,e2] ta)(he:starEach [e1,e2] X.env=(false,eval e1 X.env)::starEach [e2] X.env:=by rfl)
  (hpl:(backTo pos (starEach [e2] X.env)).any (·.1)=false:=by rfl):PI X (.Tuple elts kk tp) (.Call (.Name "zip" p) [e1,e2] [] pos) (IT X.K ta):=by
 intro pins s σ H R I h;refine Call_ (dX I hg hm PyProof.Rows.boot_zip (PyProof.Rows.callWith_type1 (bV (ha pos pins s σ H _ I h) fun us s1 ⟨vs,H1,I1,r1,q1⟩=>?_) he hpl));obtain⟨a,b,e,⟨xs,sx⟩,⟨ys,sy⟩,q⟩:=q1;subst e;obtain⟨u,w',rfl,ra,rb⟩:=vals2 r1;cases ra;cases rb;obtain⟨ix,rx,px,_⟩:=I1.list sx;obtain⟨iy,ry,py,_⟩:=I1.list sy;refine call_zip_2 px.isList py.isList fun h' z1 z2 z3 z4 z5 z6 hk=>?_;have I2:Inv X pins σ H1 {s1 with heap:=h',toks:=s1.toks}:=I1.kept hk;refine wpAny_pyIter_zip (s:={s1 with heap:=h'}) z1 ?_;refine⟨s1.heap.objs.size+4,[s1.heap.objs.size+4,s1.heap.objs.size+2,s1.heap.objs.size+3,s1.heap.objs.size,s1.heap.objs.size+1],_,Ir X.K a b,H1,rfl,I2,yw (s1.heap.objs.size+4) (s1.heap.objs.size+2) (s1.heap.objs.size+3) s1.heap.objs.size (s1.heap.objs.size+1) a b (Nat.ne_of_lt (Nat.lt_succ_self _)) (Nat.ne_of_lt (Nat.lt_succ_self _)),⟨z1,z2,⟨_,_,z3⟩,z4,z5⟩,fun c hc=>?_,q⟩
 have hge:s1.heap.objs.size<=c:=by
  simp at hc;rcases hc with e|e|e|e|e<;>subst e<;>omega
 exact I1.xM hge (I1.hok.fresh hge)
end
end L2
namespace L2.EP
open PySem PySem.Spec PyProof.Rows
section
variable{X:Cx}{Γ:aE}{α β:Type}[Py α][Py β]{e1 e2:Expr}{b1 b2:Bool}{elts:List Expr}{kk:Nat}{tp p ps:Pos}
theorem tW{xs:List α}{ys:List β}(hg:Gl X "zip")(hm:X.mg "zip"=none)(h1:E X Γ e1 b1 xs)(h2:E X Γ e2 b2 ys)(hs1:starEach [e1,e2] X.env=(false,eval e1 X.env)::starEach [e2] X.env:=by rfl)(hs2:starEach [e2] X.env=(false,eval e2 X.env)::starEach [] X.env:=by rfl)
  (hpl:(backTo ps (starEach [e2] X.env)).any (·.1)=false:=by rfl):EI X Γ (.Tuple elts kk tp) (.Call (.Name "zip" p) [e1,e2] [] ps) (b1&&b2) (xs.zip ys):=by
 with_unfolding_all
  exact⟨_,Em hg hm (aB h1 (aB h2 aV hs2) hs1) hs1 hpl,fun σ H H0 F O R Z q=>⟨H0,F,O,Z,fun v H1 s1 r1=>⟨H0,F,O,Z.go s1,fun w H2 s2 r2=>by
    obtain⟨a,va,ea,sa,na,ra⟩:=r1;obtain⟨c,vc,ec,sc,nc,rc⟩:=r2;have sa2:=(ag (O:=O) s2).seq sa;refine⟨a,c,by rw[ea,ec],⟨va,(ao _ _).seq sa2⟩,⟨vc,(ao _ _).seq sc⟩,q _ H2 (s1.trans s2) fun H' O' hO' sm=>⟨fun i u hu=>?_,?_⟩⟩
    .obtain⟨hx,hy⟩:=List.getElem?_zip_eq_some.mp hu;obtain⟨x,gx,rx⟩:=h7 ra hx;obtain⟨y,gy,ry⟩:=h7 rc hy;have sa':=(ao _ _).seq (sm.seq sa2);have sc':=(ao _ _).seq (sm.seq sc);refine⟨⟨va,vc,x,y,sa',sc',gx,gy⟩,fun v' H'' hv=>?_⟩;obtain⟨T,x',y',hT,rfl,rfl,f1,f2⟩:=hv;have ex:=f1 va sa';have ey:=f2 vc sc';rw[gx] at ex;cases ex;rw[gy] at ey;cases ey
     have hTO:¬O' T:=fun z=>by
      obtain⟨zs,w⟩:=hO' T z;rw[hT] at w;cases w
     refine⟨di hT _,T,x,y,rfl,.inl (by rw[a_ hTO];exact bK),?_,?_⟩
     .exact bE (fun _ _ n=>vC n) (ay ((ag s2).trans (sm.trans (ag (di hT _)))) rx)
     .exact bE (fun _ _ n=>u9 n) (ay (sm.trans (ag (di hT _))) ry)
    .refine⟨va,vc,(ao _ _).seq (sm.seq sa2),(ao _ _).seq (sm.seq sc),?_⟩;rw[bF ra,bF rc,List.length_zip]
     omega⟩⟩⟩
end
class PyT(β:Type)[Py β]:Prop where
 free:∀{K:PySem.W.Frag} {N N':Nn} {H H':Hp} {v:V} {b:β},(∀p xs,Rt H p xs->Rt H' p xs)->Py.rp K N H v b->Py.rp K N' H' v b
 nl:∀{K:PySem.W.Frag} {N:Nn} {H:Hp} {q:Addr} {b:β} {xs:List V},Py.rp K N H (.ref q) b->H q=some (.lst xs)->False
instance:PyT Int where
 free _ h:=h
 nl h _:=nomatch h
instance:PyT Bool where
 free _ h:=h
 nl h _:=nomatch h
instance{α β:Type}[Py α][Py β][PyT α][PyT β]:PyT (α×β) where
 free t h:=by
  obtain⟨p,x,y,e,s,h1,h2⟩:=h;exact⟨p,x,y,e,t _ _ s,PyT.free t h1,PyT.free t h2⟩
 nl h e:=by
  obtain⟨p,x,y,e',s,h1,h2⟩:=h;cases e';rcases s with s|⟨o,s⟩
  .rw[e] at s;cases s
  .rw[e] at s;cases s
def tN{α:Type}[Py α](K:PySem.W.Frag)(Γ:aE)(a:α):TE:=fun σ H Q=>∃H0 F O,dD K H0 F O Γ σ H/\∀v H',aD H H'->Py.rp K (.new H) (off H' O) v a->Q v H'
@[irreducible] def EN{α:Type}[Py α](X:Cx)(Γ:aE)(e:Expr)(a:α):Prop:=PE X e (tN X.K Γ a)
theorem qW{α:Type}[Py α]{K:PySem.W.Frag}{H H1 Hx:Hp}{v:V}{a:α}(s:aD H H1)(h:Py.rp K (.new H1) Hx v a):Py.rp K (.new H) Hx v a:=bE (N:=.new H1) (N':=.new H) (fun _ _ n=>⟨s.free n.1,n.2⟩) h
section
variable{X:Cx}{Γ:aE}{D:GD}{α β γ:Type}[Py α][Py β][Py γ]{e e1 e2:Expr}{b b1 b2:Bool}{pos p:Pos}{rest st:List Stmt}{k:Nat}{name:Str}{ps:List Str}
theorem An(i:Nat){x:Str}{a:α}{p:Pos}(hN:X.N.Nodup)(he:EN X Γ e a)(h:S X (Γ.set i (some (.dpo a))) rest D)(hi:X.N[i]?=some x:=by rfl)(hx:Loc X.env.scope x:=by first|exact Or.inl rfl|exact Or.inr rfl)
  (hs:swapsWith e (some (.Name x p)) pos.line X.env=pure false:=by rfl) (hf:X.fn x=true\/X.env.scope.names.lookup x=some .local:=by first|exact .inl rfl|exact .inr rfl):S X Γ (.Assign [.Name x p] e pos::rest) D:=by
 with_unfolding_all
  exact dw (du (pN hN hi hx he hs hf) fun De σ H ⟨H0,F,O,Z,n,_⟩=>⟨H0,F,O,Z,fun v H1 s1 r1=>by
    obtain⟨Z',so⟩:=Z.yI (i:=i) (v:=v) s1 (fun q=>H q=none/\∃xs:Mt,H1 q=some (mo xs)) (fun q z=>z) (Bd.dpo a) True.intro (by
     refine Py.tr (fun q xs sq nn=>?_) (fun q xs sq=>aD.rt (ao _ _) sq) r1;have:=(ao _ _) _ _ nn.2
     exact⟨Mo.of this,⟨nn.1,xs,this⟩,this⟩)
    exact n _ _ _ _ so Z' h⟩)
end
section
variable{X:Cx}{Γ:aE}{α:Type}[Py α]{e:Expr}{b b':Bool}{pos:Pos}
theorem E.up[PyT α]{a:α}(h:E X Γ e b a):E X Γ e b' a:=by
 with_unfolding_all
  exact aG h fun σ H Q ⟨H0,F,O,S,q⟩=>⟨H0,F,O,S,fun v H' s r=>q v H' s (PyT.free (fun _ _ z=>z) r)⟩
theorem gE[PyT α]{a:α}(h:E X Γ e b a):E X Γ e b' a:=by
 with_unfolding_all
  exact E.up h
end
theorem iP{α β:Type}{g:β->α->β}{z:β}{us:List α}{i:Nat}{a:α}(h:us[i]?=some a):(us.take (i+1)).foldl g z=g ((us.take i).foldl g z) a:=by
 rw[List.take_add_one,h,List.foldl_append];rfl
end L2.EP
namespace Q
theorem rG(a b:Int):Int.gcd b (a.fmod b)=Int.gcd a b:=by
 rw[Int.fmod_def,Int.gcd_comm a b];exact Int.gcd_sub_mul_left_right ..
theorem vt(a b:Int)(hb:b≠0):(a.fmod b).natAbs<b.natAbs:=by
 rcases Int.lt_or_gt_of_ne hb with h|h
 .have e:=Int.neg_fmod_neg a b;have h':(0:Int) < -b:=by omega
  have h1:=Int.fmod_nonneg_of_pos (-a) h';have h2:=Int.fmod_lt_of_pos (-a) h';omega
 .have h1:=Int.fmod_nonneg_of_pos a h;have h2:=Int.fmod_lt_of_pos a h;omega
def fd(t b:Int):Int:=if b<0 then -(Int.gcd t b:Int) else (Int.gcd t b:Int)
def fr(t b:Int):Int×Int:=(t.fdiv (fd t b),b.fdiv (fd t b))
theorem Gw{t b:Int}(hb:b≠0):fd t b≠0:=by
 have h:Int.gcd t b≠0:=by
  intro h;rw[Int.gcd_eq_zero_iff] at h;exact hb h.2
 unfold fd;split<;>omega
theorem ER(t b:Int):(fd t b).natAbs=Int.gcd t b:=by
 unfold fd;split<;>omega
theorem Gm{t b:Int}(hb:b≠0):(fd t b).natAbs<=b.natAbs:=by
 rw[ER];exact Nat.le_of_dvd (by omega) (Int.natAbs_dvd_natAbs.mpr (Int.gcd_dvd_right t b))
def JS(u:Int×Int):Prop:=1<=u.2/\Int.gcd u.1 u.2=1
abbrev Fr:=Int×Int
def FJ(n:Nat):List Int:=(List.range n).map fun i:Nat=>(i:Int)
abbrev Tb:=List (List Fr)
structure Sq(n:Nat)(T:Tb):Prop where
 len:T.length=n
 row:∀r∈T,r.length=n
 low:∀r∈T,∀u∈r,JS u
theorem getD_mem{α:Type}{l:List α}{i:Nat}{d:α}(h:i<l.length):l.getD i d∈l:=by
 rw[List.getD_eq_getElem?_getD,List.getElem?_eq_getElem h];exact List.getElem_mem h
theorem uB{α:Type}{P:α->Prop}(hu:∀a b,P a->P b->a=b){a:α}(h:P a):a=@Classical.epsilon α ⟨a⟩ P :=
 hu _ _ h (@Classical.epsilon_spec α P ⟨a,h⟩)
def pF:Nat->Nat
 |0=>0
 |n+1=>if (pF n+1)*(pF n+1)<=n+1 then pF n+1 else pF n
theorem zk:∀n,pF n*pF n<=n
 |0=>Nat.le_refl _
 |n+1=>by
  have:=zk n;unfold pF;split<;>omega
theorem xX:∀n,n<(pF n+1)*(pF n+1)
 |0=>by decide
 |n+1=>by
  have h:=xX n;unfold pF;split
  .have:(pF n+1)*(pF n+1)<(pF n+1+1)*(pF n+1+1):=Nat.mul_lt_mul'' (by omega) (by omega);omega
  .omega
def rt(k:Int):Int:=(pF k.toNat:Int)
theorem eJ(k:Int):0<=rt k:=by unfold rt;omega
theorem ve{k:Int}(h:0<=k):rt k*rt k<=k:=by
 have:=zk k.toNat;unfold rt;have e:((pF k.toNat*pF k.toNat:Nat):Int)<=((k.toNat:Nat):Int):=by omega
 rw[Int.natCast_mul] at e;omega
theorem Dk{k:Int}(h:0<=k):k<(rt k+1)*(rt k+1):=by
 have:=xX k.toNat;unfold rt;have e:((k.toNat:Nat):Int)<(((pF k.toNat+1)*(pF k.toNat+1):Nat):Int):=by omega
 rw[Int.natCast_mul] at e;simp only[Int.natCast_add,Int.natCast_one] at e;omega
theorem u_{a b:Int}(h0:0<=a)(h:a*a<b*b)(hb:0<=b):a<b:=by
 apply Classical.byContradiction;intro hn;have:b*b<=a*a:=Int.mul_le_mul (by omega) (by omega) hb h0;omega
theorem xW{a b:Int}(h0:0<=a)(h:a<=b):a*a<=b*b:=Int.mul_le_mul h h h0 (by omega)
theorem fZ{k r:Int}(h0:0<=r)(h1:r*r<=k)(h2:k<(r+1)*(r+1)):r=rt k:=by
 have hk:0<=k:=Int.le_trans (Int.mul_nonneg h0 h0) h1;have a:=ve hk;have b:=Dk hk;have c:=eJ k;have:=u_ h0 (show r*r<(rt k+1)*(rt k+1) by omega) (by omega);have:=u_ c (show rt k*rt k<(r+1)*(r+1) by omega) (by omega);omega
theorem rj{d k:Int}(h:0<=k)(hd:0<=d):d<rt k+1↔d*d<=k:=by
 constructor
 .intro z;exact Int.le_trans (xW hd (by omega)) (ve h)
 .intro z;exact u_ hd (by have:=Dk h;omega) (by have:=eJ k;omega)
theorem Ah{k r:Int}(hk:0<=k)(hr:0<r)(h:k<r*r):0<=(r+k.fdiv r).fdiv 2/\(r+k.fdiv r).fdiv 2<r/\k<((r+k.fdiv r).fdiv 2+1)*((r+k.fdiv r).fdiv 2+1):=by
 rw[Int.fdiv_eq_ediv_of_nonneg k (by omega),Int.fdiv_eq_ediv_of_nonneg _ (by decide)];have e:=Int.mul_ediv_add_emod k r;have m0:=Int.emod_nonneg k (show r≠0 by omega);have m1:=Int.emod_lt_of_pos k hr;have q0:0<=k/r:=Int.ediv_nonneg hk (by omega);have q1:k/r<r:=Int.ediv_lt_of_lt_mul hr h;generalize k/r=q at *;generalize k%r=m at *;have n1:2*((r+q)/2)<=r+q:=by omega
 have n2:r+q+1<=2*((r+q)/2)+2:=by omega
 refine⟨by omega,by omega,?_⟩;generalize (r+q)/2=n at *;have s1:(r+q+1)*(r+q+1)<=(2*n+2)*(2*n+2):=xW (by omega) n2
 have s2:0<=(r-(q+1))*(r-(q+1)):=by
  rcases Int.le_total 0 (r-(q+1)) with z|z
  .exact Int.mul_nonneg z z
  .exact Int.mul_nonneg_of_nonpos_of_nonpos z z
 grind
def qd(k:Int):Prop:=∀d:Int,3<=d->d*d<=k->d%2=1->¬d∣k
open Classical in
noncomputable def aM(k:Int):Bool:=decide (k=2\/(3<=k/\k%2=1/\qd k))
open Classical in
theorem bA{k:Int}:aM k=true↔k=2\/(3<=k/\k%2=1/\qd k):=by unfold aM;exact decide_eq_true_iff
theorem au{k:Int}(h:aM k=true):2<=k:=by rcases bA.mp h with h|h<;>omega
def oz(n:Nat)(m:Nat):Bool:=@Nat.rec (fun _=>Bool) true (fun i ih=>cond (Nat.beq (n%(2*i+3)) 0) false ih) m
theorem rJ{n:Nat}:∀{m:Nat},oz n m=true->∀i,i<m->n%(2*i+3)≠0
 |0,_,i,hi=>absurd hi (Nat.not_lt_zero _)
 |m+1,h,i,hi=>by
  have h':cond (Nat.beq (n%(2*m+3)) 0) false (oz n m)=true:=h;cases hb:Nat.beq (n%(2*m+3)) 0 with
  |true=>rw[hb] at h';cases h'
  |false =>
   rw[hb] at h';rcases Nat.lt_succ_iff_lt_or_eq.mp hi with z|z
   .exact rJ h' i z
   .subst z;intro e;rw[e] at hb;cases hb
theorem uj{n m:Nat}(h:oz n m=true)(hm:n<(2*m+3)*(2*m+3)):qd (n:Int):=by
 intro d h3 hd ho hdv
 have hlt:d<(2*m+3:Int):=u_ (by omega) (by
  have:(n:Int)<(((2*m+3)*(2*m+3):Nat):Int):=by omega
  rw[Int.natCast_mul] at this;simp only[Int.natCast_add,Int.natCast_mul] at this
  exact Int.lt_of_le_of_lt hd this) (by omega)
 have z:=rJ h ((d.toNat-3)/2) (by omega);have e:2*((d.toNat-3)/2)+3=d.toNat:=by omega
 rw[e] at z;obtain⟨c,hc⟩:=hdv;apply z
 have hdn:d.toNat∣n:=by
  have:(d.toNat:Int)∣(n:Int):=⟨c,by rw[hc];congr 1;omega⟩;exact Int.natCast_dvd_natCast.mp this
 exact Nat.mod_eq_zero_of_dvd hdn
theorem c8{n m:Nat}(h:oz n m=true)(h3:3<=n)(ho:n%2=1)(hm:n<(2*m+3)*(2*m+3)):aM (n:Int)=true :=
 bA.mpr (.inr ⟨by omega,by omega,uj h hm⟩)
def PB:Int:=1070000011
theorem mT:aM PB=true:=c8 (n:=1070000011) (m:=16384) (by decide +kernel) (by decide) (by decide) (by decide)
noncomputable def Cu:Nat->Int->Int
 |0,k=>k
 |n+1,k=>if aM k then k else Cu n (k+2)
noncomputable def pf(k:Int):Int:=if k<3 then 2 else Cu 1073741824 (k+1-k%2)
theorem my:∀(n:Nat) (k p:Int),aM p=true->k<=p->(p-k)%2=0->p-k<=2*n->aM (Cu n k)=true/\k<=Cu n k/\Cu n k<=p/\(Cu n k-k)%2=0
 |0,k,p,hp,h1,h2,h3=>by
  have:k=p:=by omega
  subst this;exact⟨hp,Int.le_refl _,Int.le_refl _,by unfold Cu;omega⟩
 |n+1,k,p,hp,h1,h2,h3=>by
  unfold Cu;split
  .rename_i h;exact⟨h,Int.le_refl _,h1,by omega⟩
  .rename_i h;have hne:k≠p:=by rintro rfl;exact h hp
   obtain⟨a,b,c,d⟩:=my n (k+2) p hp (by omega) (by omega) (by omega);exact⟨a,by omega,c,by omega⟩
theorem cv:aM 2=true:=bA.mpr (.inl rfl)
theorem nD{k:Int}(h:k<=PB):aM (pf k)=true:=by
 unfold pf;split
 .exact cv
 .exact(my _ _ PB mT (by unfold PB at *;omega) (by unfold PB at *;omega) (by unfold PB at *;omega)).1
theorem GC{k:Int}(h:k<=PB):pf k<=PB:=by
 unfold pf;split
 .decide
 .exact(my _ _ PB mT (by unfold PB at *;omega) (by unfold PB at *;omega) (by unfold PB at *;omega)).2.2.1
theorem nH{k p:Int}(hp:aM p=true)(h:k<=p)(ho:p%2=1)(hb:p<=PB)(h3:3<=k):pf k<=p:=by
 unfold pf;rw[if_neg (by omega)];exact(my _ _ p hp (by omega) (by omega) (by unfold PB at *;omega)).2.2.1
theorem ud{k:Int}(h:k<=PB)(h3:3<=k):pf k%2=1/\k<=pf k:=by
 unfold pf;rw[if_neg (by omega)];obtain⟨a,b,c,d⟩:=my 1073741824 (k+1-k%2) PB mT (by unfold PB at *;omega) (by unfold PB at *;omega) (by unfold PB at *;omega);omega
def xO(k b m:Int)(r:Option Int):Prop:=match r with
 |none=>∀d,b<=d->d<m->(d-b)%2=0->¬d∣k
 |some d=>b<=d/\d<m/\(d-b)%2=0/\d∣k/\∀d',b<=d'->d'<d->(d'-b)%2=0->¬d'∣k
theorem xO.uniq{k b m:Int}:∀r r',xO k b m r->xO k b m r'->r=r'
 |none,none,_,_=>rfl
 |none,some d,h,h'=>absurd h'.2.2.2.1 (h d h'.1 h'.2.1 h'.2.2.1)
 |some d,none,h,h'=>absurd h.2.2.2.1 (h' d h.1 h.2.1 h.2.2.1)
 |some d,some d',h,h'=>by
  rcases Int.lt_trichotomy d d' with z|z|z
  .exact absurd h.2.2.2.1 (h'.2.2.2.2 d h.1 z h.2.2.1)
  .rw[z]
  .exact absurd h'.2.2.2.1 (h.2.2.2.2 d' h'.1 z h'.2.2.1)
theorem xO.ex(k b m:Int):∀n:Nat,(∃d,xO k b m (some d))\/∀d,b<=d->d<m->d<b+2*n->(d-b)%2=0->¬d∣k
 |0=>.inr fun d h1 h2 h3=>by omega
 |n+1=>by
  rcases xO.ex k b m n with h|h
  .exact .inl h
  .by_cases hm:b+2*n<m/\(b+2*n:Int)∣k
   .exact .inl ⟨b+2*n,by omega,hm.1,by omega,hm.2,fun d' h1 h2 h3=>h d' h1 (by omega) h2 h3⟩
   .refine .inr fun d h1 h2 h3 h4 hd=>?_;by_cases e:d=b+2*n
    .subst e;exact hm ⟨h2,hd⟩
    .exact h d h1 h2 (by omega) h4 hd
noncomputable def G8(k b m:Int):Option Int:=Classical.epsilon (xO k b m)
theorem qr{k b m:Int}{r:Option Int}(h:xO k b m r):r=G8 k b m:=uB xO.uniq h
theorem uS(k b m:Int):xO k b m (G8 k b m):=by
 rcases xO.ex k b m (m-b).toNat with⟨d,h⟩|h
 .rw[<-qr h];exact h
 .have z:xO k b m none:=fun d h1 h2 h3=>h d h1 h2 (by omega) h3;rw[<-qr z];exact z
noncomputable def kq(k b e:Int):Option Int:=G8 k b (if rt k+1<e then rt k+1 else e)
theorem e9{d k:Int}:k.fmod d=0↔d∣k:=⟨Int.dvd_of_fmod_eq_zero,Int.fmod_eq_zero_of_dvd⟩
theorem B4{k:Int}(h3:3<=k)(ho:k%2=1):(kq k 3 k).isNone=aM k:=by
 have hz:=uS k 3 (if rt k+1<k then rt k+1 else k)
 have hk:rt k+1<=k:=by
  have:=(rj (show 0<=k by omega) (show 0<=k by omega)).mp;apply Classical.byContradiction;intro hn;have z:=this (by omega);have:3*k<=k*k:=Int.mul_le_mul h3 (Int.le_refl k) (by omega) (by omega);omega
 have hm:(if rt k+1<k then rt k+1 else k)=rt k+1:=by split<;>omega
 rw[hm] at hz;unfold kq;rw[hm];cases hr:G8 k 3 (rt k+1) with
 |none =>
  rw[hr] at hz;symm;refine bA.mpr (.inr ⟨h3,ho,fun d h1 h2 h4=>hz d h1 ((rj (by omega) (by omega)).mpr h2) (by omega)⟩)
 |some d =>
  rw[hr] at hz;symm;show aM k=false;cases hp:aM k with
  |false=>rfl
  |true =>
   rcases bA.mp hp with z|⟨_,_,z⟩
   .omega
   .have h1:3<=d:=hz.1;exact absurd hz.2.2.2.1 (z d hz.1 ((rj (by omega) (by omega)).mp hz.2.1) (by have:=hz.2.2.1;omega))
theorem eC{p d:Int}(hp:aM p=true)(hd:0<d)(h:d∣p):d=1\/d=p:=by
 obtain⟨e,he⟩:=h;have hp2:=au hp
 have he0:0<e:=by
  apply Classical.byContradiction;intro hn;have:d*e<=0:=Int.mul_nonpos_of_nonneg_of_nonpos (by omega) (by omega);omega
 rcases bA.mp hp with h2|⟨h3,ho,hf⟩
 .have:d<=2:=by
   have:=Int.le_of_dvd (show(0:Int)<2 by decide) (⟨e,by omega⟩:d∣2);omega
  omega
 .apply Classical.byContradiction;intro hn;have hd1:d≠1:=fun z=>hn (.inl z);have hd2:d≠p:=fun z=>hn (.inr z);have he1:e≠1:=by rintro rfl;omega
  have dodd:d%2=1:=by
   rcases Int.emod_two_eq d with z|z
   .obtain⟨c,hc⟩:=Int.dvd_of_emod_eq_zero z;rw[hc,Int.mul_assoc] at he;omega
   .exact z
  have eodd:e%2=1:=by
   rcases Int.emod_two_eq e with z|z
   .obtain⟨c,hc⟩:=Int.dvd_of_emod_eq_zero z;rw[hc,Int.mul_left_comm] at he;omega
   .exact z
  rcases Int.le_total d e with z|z
  .exact hf d (by omega) (by rw[he];exact Int.mul_le_mul_of_nonneg_left z (by omega)) dodd ⟨e,he⟩
  .exact hf e (by omega) (by rw[he];exact Int.mul_le_mul_of_nonneg_right z (by omega)) eodd ⟨d,by rw[he,Int.mul_comm]⟩
theorem euclid{p a b:Int}(hp:aM p=true)(h:p∣a*b):p∣a\/p∣b:=by
 have hp2:=au hp
 have hg:(0:Int)<(Int.gcd p a:Nat):=by
  have:=Int.gcd_pos_of_ne_zero_left a (show p≠0 by omega);omega
 rcases eC hp hg (Int.gcd_dvd_left p a) with z|z
 .right
  have hc:Nat.Coprime p.natAbs a.natAbs:=by
   show Nat.gcd p.natAbs a.natAbs=1;have:Int.gcd p a=1:=by omega
   exact this
  have:=Int.natAbs_dvd_natAbs.mpr h;rw[Int.natAbs_mul] at this;exact Int.natAbs_dvd_natAbs.mp (hc.dvd_of_dvd_mul_left this)
 .left;rw[<-z];exact Int.gcd_dvd_right p a
theorem Ft{m a b:Int}:a%m=b%m↔m∣a-b:=by
 rw[Int.emod_eq_emod_iff_emod_sub_eq_zero];exact⟨Int.dvd_of_emod_eq_zero,Int.emod_eq_zero_of_dvd⟩
theorem fX(x m:Int):∀n:Nat,(x%m)^n%m=x^n%m
 |0=>by rw[Int.pow_zero,Int.pow_zero]
 |n+1=>by rw[Int.pow_succ,Int.pow_succ,Int.mul_emod,fX x m n,Int.emod_emod_of_dvd _ (Int.dvd_refl m),<-Int.mul_emod]
theorem zf{M L:List Int}(hn:M.Nodup)(hs:∀x,x∈M->x∈L):∃L',L.Perm (M++L'):=by
 induction M generalizing L with
 |nil=>exact⟨L,List.Perm.refl _⟩
 |cons x M ih =>
  have hx:x∈L:=hs x (List.mem_cons_self ..);have hn':=List.nodup_cons.mp hn;obtain⟨L',h⟩:=ih (L:=L.erase x) hn'.2 fun y hy=>(List.mem_erase_of_ne (by rintro rfl;exact hn'.1 hy)).mpr (hs y (List.mem_cons_of_mem _ hy));exact⟨L',(List.perm_cons_erase hx).trans (List.Perm.cons x h)⟩
def b9:List Int->Int
 |[]=>1
 |x::l=>x*b9 l
theorem mZ{l l':List Int}(h:l.Perm l'):b9 l=b9 l':=by
 induction h with
 |nil=>rfl
 |cons x _ ih=>show x*_=x*_;rw[ih]
 |swap x y l=>show y*(x*_)=x*(y*_);rw[Int.mul_left_comm]
 |trans _ _ h1 h2=>exact h1.trans h2
theorem oa{p a:Int}:∀l:List Int,p∣b9 (l.map fun x=>a*x%p)-a^l.length*b9 l
 |[]=>⟨0,by simp[b9]⟩
 |x::l=>by
  obtain⟨c,hc⟩:=oa (p:=p) (a:=a) l;have e:=Int.emod_def (a*x) p;have e1:b9 (List.map (fun x=>a*x%p) (x::l))=(a*x%p)*b9 (l.map fun x=>a*x%p):=rfl;have e2:b9 (x::l)=x*b9 l:=rfl;rw[e1,e2,List.length_cons,Int.pow_succ];generalize b9 (l.map fun x=>a*x%p)=u at *;generalize a*x/p=q at *;generalize a*x%p=r at *;generalize a^l.length=t at *;generalize b9 l=v at *;have hu:u=t*v+p*c:=by omega
  exact⟨a*x*c-q*u,by rw[e];grind⟩
theorem fM{p:Int}(hp:aM p=true):∀l:List Int,(∀x,x∈l->¬p∣x)->¬p∣b9 l
 |[],_=>fun h=>by
  have:=au hp;have:=Int.le_of_dvd (by decide) (show p∣(1:Int) from h);omega
 |x::l,hl=>fun h=>by
  rcases euclid hp (show p∣x*b9 l from h) with z|z
  .exact hl x (List.mem_cons_self ..) z
  .exact fM hp l (fun y hy=>hl y (List.mem_cons_of_mem _ hy)) z
theorem cy{p x:Int}(h:p∣x)(h1:-p<x)(h2:x<p):x=0:=by
 obtain⟨c,rfl⟩:=h;have hp:0<p:=by omega
 by_cases hc:c=0
 .rw[hc,Int.mul_zero]
 .rcases Int.lt_or_gt_of_ne hc with z|z
  .have:p*c<=p*(-1):=Int.mul_le_mul_of_nonneg_left (by omega) (by omega);omega
  .have:p*1<=p*c:=Int.mul_le_mul_of_nonneg_left (by omega) (by omega);omega
theorem Eu{p a:Int}(hp:aM p=true)(ha:¬p∣a):p∣a^(p-1).toNat-1:=by
 have hp2:=au hp;let L:List Int:=(List.range (p-1).toNat).map fun i:Nat=>(i:Int)+1
 have hL:∀x,x∈L↔1<=x/\x<p:=by
  intro x;simp only[L,List.mem_map,List.mem_range];constructor
  .rintro⟨i,h,rfl⟩;omega
  .rintro⟨h1,h2⟩;exact⟨(x-1).toNat,by omega,by omega⟩
 have hnL:L.Nodup:=by
  refine List.pairwise_map.mpr (List.Pairwise.imp_of_mem ?_ (List.nodup_range (n:=(p-1).toNat)));intro i j _ _ hij;omega
 have hlen:L.length=(p-1).toNat:=by simp[L]
 clear_value L
 have hnd:∀x,x∈L->¬p∣x:=fun x hx hd=>by
  have:=(hL x).mp hx;have:=cy hd (by omega) (by omega);omega
 have hM:(L.map fun x=>a*x%p).Nodup:=by
  refine List.pairwise_map.mpr (List.Pairwise.imp_of_mem ?_ hnL);intro x y hx hy hxy he;have h1:p∣a*(x-y):=by rw[Int.mul_sub];exact Ft.mp he
  rcases euclid hp h1 with z|z
  .exact ha z
  .have:=(hL x).mp hx;have:=(hL y).mp hy;have:=cy z (by omega) (by omega);omega
 have hs:∀x,x∈(L.map fun x=>a*x%p)->x∈L:=by
  intro y hy;obtain⟨x,hx,rfl⟩:=List.mem_map.mp hy;have h0:=Int.emod_nonneg (a*x) (show p≠0 by omega);have h1:=Int.emod_lt_of_pos (a*x) (show 0<p by omega);refine(hL _).mpr ⟨?_,h1⟩;apply Classical.byContradiction;intro hn;have hz:a*x%p=0:=by omega
  rcases euclid hp (Int.dvd_of_emod_eq_zero hz) with z|z
  .exact ha z
  .exact hnd x hx z
 obtain⟨L',hperm⟩:=zf hM hs
 have hL':L'=[]:=by
  have:=hperm.length_eq;rw[List.length_append,List.length_map] at this;exact List.eq_nil_of_length_eq_zero (by omega)
 rw[hL',List.append_nil] at hperm;have hpr:=oa (p:=p) (a:=a) L;rw[<-mZ hperm,hlen] at hpr
 have h2:p∣(a^(p-1).toNat-1)*b9 L:=by
  obtain⟨c,hc⟩:=hpr;exact⟨-c,by rw[Int.sub_mul,Int.one_mul,Int.mul_neg];omega⟩
 rcases euclid hp h2 with z|z
 .exact z
 .exact absurd z (fM hp L hnd)
theorem Hj{p a:Int}(hp:aM p=true)(h2:p≠2)(ha:¬p∣a):p∣a^((p-1)/2).toNat-1\/p∣a^((p-1)/2).toNat+1:=by
 have ho:p%2=1:=by rcases bA.mp hp with z|z<;>omega
 have hp2:=au hp;have hf:=Eu hp ha;rw[show(p-1).toNat=((p-1)/2).toNat+((p-1)/2).toNat by omega,Int.pow_add] at hf;generalize a^((p-1)/2).toNat=y at *;exact euclid hp (show p∣(y-1)*(y+1) by rw[show(y-1)*(y+1)=y*y-1 by grind];exact hf)
def bu(k p:Int):Int:=if k%p=0 then 0 else if p=2 then 1 else if (k%p)^((p-1)/2).toNat%p=1 then 1 else -1
theorem iz{k p:Int}(h:p∣k):bu k p=0:=if_pos (Int.emod_eq_zero_of_dvd h)
theorem Cc(k p:Int):bu (k%p) p=bu k p:=by unfold bu;rw[Int.emod_emod_of_dvd _ (Int.dvd_refl p)]
theorem zj{k l p:Int}(h:k%p=l%p):bu k p=bu l p:=by unfold bu;rw[h]
theorem de{k p:Int}(hp:aM p=true)(h2:p≠2)(hk:¬p∣k):bu k p=1↔p∣k^((p-1)/2).toNat-1:=by
 have hp2:=au hp;unfold bu;rw[if_neg (fun z=>hk (Int.dvd_of_emod_eq_zero z)),if_neg h2,fX,<-Ft,Int.emod_eq_of_lt (show(0:Int)<=1 by decide) (show(1:Int)<p by omega)];split
 .rename_i h;exact⟨fun _=>h,fun _=>rfl⟩
 .rename_i h;exact⟨fun z=>absurd z (by decide),fun z=>absurd z h⟩
theorem dc{k p:Int}(hk:¬p∣k):bu k p=1\/bu k p=-1:=by
 unfold bu;rw[if_neg (fun z=>hk (Int.dvd_of_emod_eq_zero z))];split
 .exact .inl rfl
 .split
  .exact .inl rfl
  .exact .inr rfl
theorem fE{k p:Int}(hp:aM p=true)(h2:p≠2)(hk:¬p∣k):bu k p=-1↔p∣k^((p-1)/2).toNat+1:=by
 have hp2:=au hp;have e:=de hp h2 hk;rcases Hj hp h2 hk with z|z
 .rw[e.mpr z];refine⟨fun w=>absurd w (by decide),fun w=>?_⟩
  have:p∣2:=by
   obtain⟨c,hc⟩:=z;obtain⟨d,hd⟩:=w;exact⟨d-c,by rw[Int.mul_sub];omega⟩
  have:=Int.le_of_dvd (by decide) this;omega
 .refine⟨fun _=>z,fun _=>?_⟩;rcases dc hk with w|w
  .have:p∣2:=by
    obtain⟨c,hc⟩:=e.mp w;obtain⟨d,hd⟩:=z;exact⟨d-c,by rw[Int.mul_sub];omega⟩
   have:=Int.le_of_dvd (by decide) this;omega
  .exact w
theorem vJ{p:Int}(hp:aM p=true)(a b:Int):bu (a*b) p=bu a p*bu b p:=by
 have hp2:=au hp;by_cases ha:p∣a
 .rw[iz ha,Int.zero_mul,iz (Int.dvd_trans ha ⟨b,rfl⟩)]
 by_cases hb:p∣b
 .rw[iz hb,Int.mul_zero,iz (Int.dvd_trans hb ⟨a,Int.mul_comm ..⟩)]
 have hab:¬p∣a*b:=fun z=>by rcases euclid hp z with z|z<;>contradiction
 by_cases h2:p=2
 .subst h2;have e:∀k:Int,¬(2:Int)∣k->bu k 2=1:=fun k hk=>by unfold bu;rw[if_neg (fun z=>hk (Int.dvd_of_emod_eq_zero z)),if_pos rfl]
  rw[e _ ha,e _ hb,e _ hab];rfl
 have hm:(a*b)^((p-1)/2).toNat=a^((p-1)/2).toNat*b^((p-1)/2).toNat:=Int.mul_pow ..;rcases dc ha with ea|ea<;>rcases dc hb with eb|eb<;>rw[ea,eb]
 .refine(de hp h2 hab).mpr ?_;obtain⟨c,hc⟩:=(de hp h2 ha).mp ea;obtain⟨d,hd⟩:=(de hp h2 hb).mp eb;rw[hm];exact⟨c*d*p+c+d,by grind⟩
 .refine(fE hp h2 hab).mpr ?_;obtain⟨c,hc⟩:=(de hp h2 ha).mp ea;obtain⟨d,hd⟩:=(fE hp h2 hb).mp eb;rw[hm];exact⟨c*d*p-c+d,by grind⟩
 .refine(fE hp h2 hab).mpr ?_;obtain⟨c,hc⟩:=(fE hp h2 ha).mp ea;obtain⟨d,hd⟩:=(de hp h2 hb).mp eb;rw[hm];exact⟨c*d*p+c-d,by grind⟩
 .refine(de hp h2 hab).mpr ?_;obtain⟨c,hc⟩:=(fE hp h2 ha).mp ea;obtain⟨d,hd⟩:=(fE hp h2 hb).mp eb;rw[hm];exact⟨c*d*p-c-d,by grind⟩
def sN(k d:Int)(r:Int×Int):Prop:=0<=r.1/\k=r.2*d^r.1.toNat/\¬d∣r.2
theorem sN.lt{k d:Int}(hd:2<=d){r r':Int×Int}(h:sN k d r)(h':sN k d r')(hl:r.1<r'.1):False:=by
 obtain⟨a1,a2,a3⟩:=h;obtain⟨b1,b2,b3⟩:=h';have e:r'.1.toNat=(r'.1.toNat-r.1.toNat-1)+1+r.1.toNat:=by omega
 rw[e,Int.pow_add,Int.pow_succ] at b2;have hp:d^r.1.toNat≠0:=Int.pow_ne_zero (by omega);have z:r.2*d^r.1.toNat=(r'.2*d^(r'.1.toNat-r.1.toNat-1)*d)*d^r.1.toNat:=by rw[<-a2,b2];grind
 have w:=Int.eq_of_mul_eq_mul_right hp z;exact a3 ⟨r'.2*d^(r'.1.toNat-r.1.toNat-1),by rw[w,Int.mul_comm]⟩
theorem sN.uniq{k d:Int}(hd:2<=d)(r r':Int×Int)(h:sN k d r)(h':sN k d r'):r=r':=by
 have h1:r.1=r'.1:=by
  rcases Int.lt_trichotomy r.1 r'.1 with z|z|z
  .exact(sN.lt hd h h' z).elim
  .exact z
  .exact(sN.lt hd h' h z).elim
 have hp:d^r.1.toNat≠0:=Int.pow_ne_zero (by omega)
 have h2:r.2=r'.2:=by
  have:=h.2.1.symm.trans h'.2.1;rw[<-h1] at this;exact Int.eq_of_mul_eq_mul_right hp this
 exact Prod.ext h1 h2
theorem sN.ex{d:Int}(hd:2<=d):∀(n:Nat) (k:Int),k≠0->k.natAbs<=n->∃r,sN k d r
 |0,k,h0,hn=>by omega
 |n+1,k,h0,hn=>by
  by_cases h:d∣k
  .obtain⟨c,hc⟩:=h;have hc0:c≠0:=by rintro rfl;rw[Int.mul_zero] at hc;exact h0 hc
   have hlt:c.natAbs<k.natAbs:=by
    rw[hc,Int.natAbs_mul];have:2*c.natAbs<=d.natAbs*c.natAbs:=Nat.mul_le_mul_right _ (by omega);omega
   obtain⟨r,h1,h2,h3⟩:=sN.ex hd n c hc0 (by omega);refine⟨(r.1+1,r.2),by dsimp only;omega,?_,h3⟩;dsimp only;rw[show(r.1+1).toNat=r.1.toNat+1 by omega,Int.pow_succ,hc];rw[show d*c=d*(r.2*d^r.1.toNat) by rw[<-h2]];grind
  .exact⟨(0,k),Int.le_refl 0,by dsimp only;rw[show(0:Int).toNat=0 from rfl,Int.pow_zero,Int.mul_one],h⟩
noncomputable def a9(k d:Int):Int×Int:=Classical.epsilon (sN k d)
theorem hW{k d:Int}(hd:2<=d){r:Int×Int}(h:sN k d r):a9 k d=r:=(uB (sN.uniq hd) h).symm
theorem gL{k d:Int}(hd:2<=d)(h:k≠0):sN k d (a9 k d):=by
 obtain⟨r,hr⟩:=sN.ex hd k.natAbs k h (Nat.le_refl _);rw[hW hd hr];exact hr
theorem lP{k d:Int}{v:Nat}(hd:2<=d)(h:¬d∣k):a9 (k*d^v) d=((v:Int),k) :=
 hW hd ⟨by dsimp only;omega,by dsimp only;rw[Int.toNat_natCast],h⟩
theorem Bx{a b p:Int}(hp:aM p=true)(ha:a≠0)(hb:b≠0):a9 (a*b) p=((a9 a p).1+(a9 b p).1,(a9 a p).2*(a9 b p).2):=by
 have hd:=au hp;obtain⟨a1,a2,a3⟩:=gL hd ha;obtain⟨b1,b2,b3⟩:=gL hd hb;refine hW hd ⟨by dsimp only;omega,?_,fun z=>by rcases euclid hp z with w|w<;>contradiction⟩;dsimp only;rw[show((a9 a p).1+(a9 b p).1).toNat=(a9 a p).1.toNat+(a9 b p).1.toNat by omega,Int.pow_add];generalize (a9 a p).1.toNat=m at *;generalize (a9 b p).1.toNat=n at *;generalize (a9 a p).2=u at *;generalize (a9 b p).2=v at *;rw[a2,b2];generalize p^m=x;generalize p^n=y;grind
theorem rk{k d:Int}(hd:2<=d)(h:d∣k)(h0:k≠0):k.fdiv d*d=k/\k.fdiv d≠0/\(k.fdiv d).natAbs<k.natAbs:=by
 obtain⟨c,rfl⟩:=h;have e:(d*c).fdiv d=c:=Int.mul_fdiv_cancel_left c (by omega);rw[e];have hc:c≠0:=by rintro rfl;simp at h0
 refine⟨Int.mul_comm ..,hc,?_⟩;rw[Int.natAbs_mul];have:2*c.natAbs<=d.natAbs*c.natAbs:=Nat.mul_le_mul_right _ (by omega);omega
noncomputable def cls(k p:Int):Int×Int:=((a9 k p).1%2,if p=2 then (a9 k p).2%8 else bu (a9 k p).2 p)
def b1(c:Bool):Int:=if c then 1 else 0
def fh(x y:Int×Int):Bool:=decide ((b1 (decide (x.2%4=3)&&decide (y.2%4=3))+b1 (decide (x.1=1)&&(decide (y.2=3) || decide (y.2=5)))+b1 (decide (y.1=1)&&(decide (x.2=3) || decide (x.2=5))))%2=0)
def xj(x y:Int×Int)(p:Int):Bool:=decide ((if x.1=1 then y.2 else 1)*(if y.1=1 then x.2 else 1)*(if x.1=1/\y.1=1 then bu (-1) p else 1)=1)
noncomputable def aj(a b p:Int):Bool:=if p=0 then decide (0<a) || decide (0<b) else if p=2 then fh (cls a p) (cls b p) else xj (cls a p) (cls b p) p
def fS(x y:Int×Int)(p:Int):Int×Int:=((x.1+y.1)%2,if p=2 then x.2*y.2%8 else x.2*y.2)
theorem eH{p a b:Int}(hp:aM p=true)(ha:a≠0)(hb:b≠0):cls (a*b) p=fS (cls a p) (cls b p) p:=by
 unfold cls fS;rw[Bx hp ha hb];dsimp only;by_cases h:p=2
 .rw[if_pos h,if_pos h,if_pos h,if_pos h];exact Prod.ext (by dsimp only;omega) (Int.mul_emod ..)
 .rw[if_neg h,if_neg h,if_neg h,if_neg h];exact Prod.ext (by dsimp only;omega) (vJ hp ..)
def CO:List (Int×Int):=[(0,1),(0,-1),(1,1),(1,-1)]
def C2:List (Int×Int):=[(0,1),(0,3),(0,5),(0,7),(1,1),(1,3),(1,5),(1,7)]
theorem cL{p a:Int}(hp:2<=p)(h2:p≠2)(ha:a≠0):cls a p∈CO:=by
 obtain⟨_,_,hn⟩:=gL hp ha;unfold cls;rw[if_neg h2];rcases Int.emod_two_eq (a9 a p).1 with z|z<;>rcases dc hn with w|w<;>rw[z,w]<;>decide
theorem cP{a:Int}(ha:a≠0):cls a 2∈C2:=by
 obtain⟨_,_,hn⟩:=gL (d:=2) (by decide) ha;have h':(a9 a 2).2%2≠0:=fun z=>hn (Int.dvd_of_emod_eq_zero z);have:(a9 a 2).2%8=1\/(a9 a 2).2%8=3\/(a9 a 2).2%8=5\/(a9 a 2).2%8=7:=by omega
 unfold cls;rw[if_pos rfl];rcases Int.emod_two_eq (a9 a 2).1 with z|z<;>rcases this with w|w|w|w<;>rw[z,w]<;>decide
theorem oQ{p:Int}(hp:2<=p):bu (-1) p∈[(1:Int),-1]:=by
 have:¬p∣-1:=fun z=>by
  have:=Int.le_of_dvd (by decide) ((Int.dvd_neg).mp z);omega
 rcases dc this with w|w<;>rw[w]<;>decide
def i7(x y:Int×Int)(m:Int):Bool:=decide ((if x.1=1 then y.2 else 1)*(if y.1=1 then x.2 else 1)*(if x.1=1/\y.1=1 then m else 1)=1)
theorem E7(x y:Int×Int)(p:Int):xj x y p=i7 x y (bu (-1) p):=rfl
theorem Ge:∀x∈CO,∀y∈CO,∀m∈[(1:Int),-1],i7 x y m=i7 y x m:=by decide
theorem D6:∀x∈C2,∀y∈C2,fh x y=fh y x:=by decide
theorem Gb:∀x∈CO,∀y∈CO,∀z∈CO,∀m∈[(1:Int),-1],i7 x (fS y z 3) m=(i7 x y m==i7 x z m):=by decide +kernel
theorem DA:∀x∈C2,∀y∈C2,∀z∈C2,fh x (fS y z 2)=(fh x y==fh x z):=by decide +kernel
theorem IJ:∀x∈CO,∀y∈CO,fS (fS x y 3) y 3=x:=by decide
theorem GG:∀x∈C2,∀y∈C2,fS (fS x y 2) y 2=x:=by decide
theorem F2:∀x∈CO,∀m∈[(1:Int),-1],i7 x (fS (0,m) x 3) m=true:=by decide
theorem Fu:∀x∈C2,fh x (fS (0,7) x 2)=true:=by decide
theorem C8:∀x∈CO,∀y∈CO,∀m∈[(1:Int),-1],i7 x (fS y y 3) m=true:=by decide
theorem yn:∀x∈C2,∀y∈C2,fh x (fS y y 2)=true:=by decide
theorem ip{x y:Int×Int}{p:Int}(h:p≠2):fS x y p=fS x y 3:=by unfold fS;rw[if_neg h,if_neg (by decide)]
def Pl(p:Int):Prop:=p=0\/aM p=true
theorem aF{a b:Int}:aj a b 0=(decide (0<a) || decide (0<b)):=if_pos rfl
theorem aR{a b:Int}:aj a b 2=fh (cls a 2) (cls b 2):=by unfold aj;rw[if_neg (by decide),if_pos rfl]
theorem aZ{a b p:Int}(h0:p≠0)(h2:p≠2):aj a b p=i7 (cls a p) (cls b p) (bu (-1) p):=by unfold aj;rw[if_neg h0,if_neg h2,E7]
theorem Pl.cases{p:Int}(h:Pl p){Q:Prop}(h0:p=0->Q)(h2:p=2->Q)(ho:aM p=true->p≠2->p≠0->2<=p->Q):Q:=by
 rcases h with z|z
 .exact h0 z
 .have:=au z;by_cases w:p=2
  .exact h2 w
  .exact ho z w (by omega) this
theorem eQ{a b p:Int}(h:Pl p)(ha:a≠0)(hb:b≠0):aj b a p=aj a b p:=by
 refine h.cases (fun z=>?_) (fun z=>?_) (fun hp h2 h0 h3=>?_)
 .subst z;rw[aF,aF,Bool.or_comm]
 .subst z;rw[aR,aR];exact D6 _ (cP hb) _ (cP ha)
 .rw[aZ h0 h2,aZ h0 h2];exact Ge _ (cL h3 h2 hb) _ (cL h3 h2 ha) _ (oQ h3)
theorem cY{b c:Int}(hb:b≠0)(hc:c≠0):0<b*c↔(0<b↔0<c):=by
 rcases Int.lt_or_gt_of_ne hb with z|z<;>rcases Int.lt_or_gt_of_ne hc with w|w
 .have:=Int.mul_pos_of_neg_of_neg z w;constructor<;>intro<;>omega
 .have:=Int.mul_neg_of_neg_of_pos z w;constructor<;>intro<;>omega
 .have:=Int.mul_neg_of_pos_of_neg z w;constructor<;>intro<;>omega
 .have:=Int.mul_pos z w;constructor<;>intro<;>omega
theorem f9{a b c p:Int}(h:Pl p)(ha:a≠0)(hb:b≠0)(hc:c≠0):aj a (b*c) p=(aj a b p==aj a c p):=by
 refine h.cases (fun z=>?_) (fun z=>?_) (fun hp h2 h0 h3=>?_)
 .subst z;rw[aF,aF,aF];have:=cY hb hc;by_cases w:0<a
  .simp[w]
  .by_cases x:0<b<;>by_cases y:0<c<;>simp[w,x,y,this]
 .subst z;rw[aR,aR,aR,eH cv hb hc];exact DA _ (cP ha) _ (cP hb) _ (cP hc)
 .rw[aZ h0 h2,aZ h0 h2,aZ h0 h2,eH hp hb hc,ip h2];exact Gb _ (cL h3 h2 ha) _ (cL h3 h2 hb) _ (cL h3 h2 hc) _ (oQ h3)
theorem ui{a r p:Int}(hp:aM p=true)(ha:a≠0)(hr:r≠0):cls (a*r*r) p=cls a p:=by
 rw[eH hp (Int.mul_ne_zero ha hr) hr,eH hp ha hr];have h3:=au hp;by_cases h2:p=2
 .subst h2;exact GG _ (cP ha) _ (cP hr)
 .rw[ip h2,ip h2];exact IJ _ (cL h3 h2 ha) _ (cL h3 h2 hr)
theorem AQ{a b r p:Int}(h:Pl p)(ha:a≠0)(hr:r≠0):aj (a*r*r) b p=aj a b p:=by
 refine h.cases (fun z=>?_) (fun z=>?_) (fun hp h2 h0 h3=>?_)
 .subst z;rw[aF,aF]
  have e:0<a*r*r↔0<a:=by
   rw[Int.mul_assoc,cY ha (Int.mul_ne_zero hr hr)];have:0<r*r:=(cY hr hr).mpr Iff.rfl;constructor
   .intro z;exact z.mpr this
   .intro z;exact⟨fun _=>this,fun _=>z⟩
  rw[decide_eq_decide.mpr e]
 .subst z;rw[aR,aR,ui cv ha hr]
 .rw[aZ h0 h2,aZ h0 h2,ui hp ha hr]
theorem zw{p:Int}(hp:aM p=true):cls (-1) p=(0,if p=2 then 7 else bu (-1) p):=by
 have h3:=au hp
 have hn:¬p∣-1:=fun z=>by
  have:=Int.le_of_dvd (by decide) ((Int.dvd_neg).mp z);omega
 have e:a9 (-1) p=(0,-1):=hW h3 ⟨Int.le_refl 0,by dsimp only;rw[show(0:Int).toNat=0 from rfl,Int.pow_zero,Int.mul_one],hn⟩;unfold cls;rw[e];rfl
theorem rn{a p:Int}(h:Pl p)(ha:a≠0):aj a (0-a) p=true:=by
 have en:0-a=-1*a:=by omega
 refine h.cases (fun z=>?_) (fun z=>?_) (fun hp h2 h0 h3=>?_)
 .subst z;rw[aF];simp;omega
 .subst z;rw[aR,en,eH cv (by decide) ha,zw cv,if_pos rfl];exact Fu _ (cP ha)
 .rw[aZ h0 h2,en,eH hp (by decide) ha,zw hp,if_neg h2,ip h2];exact F2 _ (cL h3 h2 ha) _ (oQ h3)
theorem md{a r p:Int}(h:Pl p)(ha:a≠0)(hr:r≠0):aj a (r*r) p=true:=by
 refine h.cases (fun z=>?_) (fun z=>?_) (fun hp h2 h0 h3=>?_)
 .subst z;rw[aF];have:0<r*r:=(cY hr hr).mpr Iff.rfl;simp[this]
 .subst z;rw[aR,eH cv hr hr];exact yn _ (cP ha) _ (cP hr)
 .rw[aZ h0 h2,eH hp hr hr,ip h2];exact C8 _ (cL h3 h2 ha) _ (cL h3 h2 hr) _ (oQ h3)
theorem je{a p:Int}(hp:2<=p)(h:¬p∣a):a9 a p=(0,a) :=
 hW hp ⟨Int.le_refl 0,by dsimp only;rw[show(0:Int).toNat=0 from rfl,Int.pow_zero,Int.mul_one],h⟩
theorem eI{a b p:Int}(hp:aM p=true)(h2:p≠2)(ha:¬p∣a)(hb:¬p∣b):aj a b p=true:=by
 have h3:=au hp;rw[aZ (by omega) h2];unfold cls;rw[je h3 ha,je h3 hb];rfl
theorem mK{a p:Int}(hp:aM p=true)(h2:p≠2)(h:p∣a-1):bu a p=1:=by
 have h3:=au hp;rw[zj (l:=1) (Ft.mpr h)];unfold bu;rw[Int.emod_eq_of_lt (by decide) (by omega),if_neg (by decide),if_neg h2,Int.one_pow,Int.emod_eq_of_lt (by decide) (by omega),if_pos rfl]
noncomputable def xa(e:Int):Nat->List (Int×Int)->Int->Int->List (Int×Int)×Int
 |0,fs,l,_=>(fs,l)
 |n+1,fs,l,b=>match kq l b e with
  |none=>(fs,l)
  |some d=>xa e n (fs++[(d,(a9 l d).1)]) (a9 l d).2 (d+2)
noncomputable def rq(k:Int):List (Int×Int):=if 0<(a9 k 2).1 then [(2,(a9 k 2).1)] else []
noncomputable def aW(k e:Int):List (Int×Int)×Int:=xa e k.toNat (rq k) (a9 k 2).2 3
theorem ig{l b e d:Int}(hl:0<=l)(hb:1<=b)(h:kq l b e=some d):b<=d/\d<e/\d*d<=l/\(d-b)%2=0/\d∣l/\∀d',b<=d'->d'<d->(d'-b)%2=0->¬d'∣l:=by
 have z:=uS l b (if rt l+1<e then rt l+1 else e);unfold kq at h;rw[h] at z;obtain⟨z1,z2,z3,z4,z5⟩:=z;have h1:d<rt l+1/\d<e:=by split at z2<;>omega
 exact⟨z1,h1.2,(rj hl (by omega)).mp h1.1,z3,z4,z5⟩
theorem qJ{l b e:Int}(hl:0<=l)(hb:1<=b)(h:kq l b e=none):∀d,b<=d->d<e->d*d<=l->(d-b)%2=0->¬d∣l:=by
 have z:=uS l b (if rt l+1<e then rt l+1 else e);unfold kq at h;rw[h] at z;intro d h1 h2 h3 h4;have:=(rj hl (by omega)).mpr h3;exact z d h1 (by split<;>omega) h4
theorem s_{l d:Int}(hd:2<=d)(hl:0<l)(h:d∣l):0<(a9 l d).2/\2*(a9 l d).2<=l/\1<=(a9 l d).1/\(a9 l d).2∣l:=by
 obtain⟨h1,h2,h3⟩:=gL hd (show l≠0 by omega)
 have h1':1<=(a9 l d).1:=by
  apply Classical.byContradiction;intro hn;have e:(a9 l d).1.toNat=0:=by omega
  rw[e,Int.pow_zero,Int.mul_one] at h2;exact h3 (h2▸h)
 have hp:(2:Int)<=d^(a9 l d).1.toNat:=by
  have e:(a9 l d).1.toNat=((a9 l d).1.toNat-1)+1:=by omega
  rw[e,Int.pow_succ];have:(0:Int)<d^((a9 l d).1.toNat-1):=Int.pow_pos (by omega);have:1*2<=d^((a9 l d).1.toNat-1)*d:=Int.mul_le_mul (by omega) hd (by decide) (by omega);omega
 generalize (a9 l d).2=x at *;generalize d^(a9 l d).1.toNat=t at *
 have hx:0<x:=by
  apply Classical.byContradiction;intro hn;have:x*t<=0:=Int.mul_nonpos_of_nonpos_of_nonneg (by omega) (by omega);omega
 have:x*2<=x*t:=Int.mul_le_mul_of_nonneg_left hp (by omega);exact⟨hx,by omega,h1',⟨t,h2⟩⟩
def pp:List (Int×Int)->Int
 |[]=>1
 |u::us=>u.1^u.2.toNat*pp us
theorem lF(u:Int×Int):∀us,pp (us++[u])=pp us*u.1^u.2.toNat
 |[]=>by show _*1=1*_;rw[Int.mul_one,Int.one_mul]
 |v::us=>by
  show v.1^v.2.toNat*pp (us++[u])=v.1^v.2.toNat*pp us*_;rw[lF u us,Int.mul_assoc]
def fg:Int->List (Int×Int)->Int->Prop
 |a,[],b=>a<b
 |a,u::us,b=>a<u.1/\aM u.1=true/\1<=u.2/\fg u.1 us b
theorem fg.snoc{b b':Int}{u:Int×Int}(hu:aM u.1=true)(h1:1<=u.2)(hb:b<=u.1)(hb':u.1<b'):∀{a us},fg a us b->fg a (us++[u]) b'
 |_,[],h=>⟨Int.lt_of_lt_of_le h hb,hu,h1,hb'⟩
 |_,_::_,h=>⟨h.1,h.2.1,h.2.2.1,fg.snoc hu h1 hb hb' h.2.2.2⟩
structure tu(k:Int)(fs:List (Int×Int))(l b:Int):Prop where
 rise:fg 1 fs b
 prod:pp fs*l=k
 pos:0<l
 odd:l%2=1
 b3:3<=b
 bo:b%2=1
 free:∀d,3<=d->d<b->d%2=1->¬d∣l
theorem tu.prime{k:Int}{fs:List (Int×Int)}{l b e d:Int}(I:tu k fs l b)(h:kq l b e=some d):aM d=true:=by
 obtain⟨h1,h2,h3,h4,h5,h6⟩:=ig (Int.le_of_lt I.pos) (by have:=I.b3;omega) h;have hb:=I.b3;have hbo:=I.bo;refine bA.mpr (.inr ⟨by omega,by omega,fun f g1 g2 g3 g4=>?_⟩);have hfl:f∣l:=Int.dvd_trans g4 h5
 have hfd:f<d:=by
  have:f*3<=f*f:=Int.mul_le_mul_of_nonneg_left g1 (by omega);omega
 rcases Int.lt_or_le f b with z|z
 .exact I.free f g1 z g3 hfl
 .exact h6 f z hfd (by omega) hfl
theorem tu.step{k:Int}{fs:List (Int×Int)}{l b e d:Int}(I:tu k fs l b)(h:kq l b e=some d):tu k (fs++[(d,(a9 l d).1)]) (a9 l d).2 (d+2):=by
 obtain⟨h1,h2,h3,h4,h5,h6⟩:=ig (Int.le_of_lt I.pos) (by have:=I.b3;omega) h;have hb:=I.b3;have hbo:=I.bo;obtain⟨t1,t2,t3,t4⟩:=s_ (show 2<=d by omega) I.pos h5;obtain⟨s1,s2,s3⟩:=gL (show 2<=d by omega) (show l≠0 by have:=I.pos;omega);refine⟨I.rise.snoc (I.prime h) t3 h1 (by omega),?_,t1,?_,by omega,by omega,fun f g1 g2 g3 g4=>?_⟩
 .rw[lF,Int.mul_assoc,Int.mul_comm (d^_),<-s2,I.prod]
 .have ho:=I.odd;obtain⟨c,hc⟩:=t4;rcases Int.emod_two_eq (a9 l d).2 with z|z
  .obtain⟨y,hy⟩:=Int.dvd_of_emod_eq_zero z;rw[hy,Int.mul_assoc] at hc;omega
  .exact z
 .have hfl:f∣l:=Int.dvd_trans g4 t4;rcases Int.lt_trichotomy f d with z|z|z
  .rcases Int.lt_or_le f b with y|y
   .exact I.free f g1 y g3 hfl
   .exact h6 f y z (by omega) hfl
  .rw[z] at g4;exact s3 g4
  .omega
theorem yO{k e:Int}:∀(n:Nat) (fs:List (Int×Int)) (l b:Int),tu k fs l b->l<=n->∃b',tu k (xa e n fs l b).1 (xa e n fs l b).2 b'/\kq (xa e n fs l b).2 b' e=none
 |0,fs,l,b,I,h=>by have:=I.pos;omega
 |n+1,fs,l,b,I,h=>by
  unfold xa;cases hn:kq l b e with
  |none=>exact⟨b,I,hn⟩
  |some d =>
   obtain⟨h1,h2,h3,h4,h5,h6⟩:=ig (Int.le_of_lt I.pos) (by have:=I.b3;omega) hn;obtain⟨t1,t2,t3,t4⟩:=s_ (show 2<=d by have:=I.b3;omega) I.pos h5;exact yO n _ _ _ (I.step hn) (by omega)
theorem kf{k:Int}(hk:1<=k):tu k (rq k) (a9 k 2).2 3/\(a9 k 2).2<=k:=by
 obtain⟨s1,s2,s3⟩:=gL (show(2:Int)<=2 by decide) (show k≠0 by omega);have hodd:(a9 k 2).2%2=1:=by omega
 have hp:(0:Int)<2^(a9 k 2).1.toNat:=Int.pow_pos (by decide)
 have hpos:0<(a9 k 2).2:=by
  apply Classical.byContradiction;intro hn;have:(a9 k 2).2*2^(a9 k 2).1.toNat<=0:=Int.mul_nonpos_of_nonpos_of_nonneg (by omega) (by omega);omega
 have hle:(a9 k 2).2<=k:=by
  have:(a9 k 2).2*1<=(a9 k 2).2*2^(a9 k 2).1.toNat:=Int.mul_le_mul_of_nonneg_left (by omega) (by omega);omega
 refine⟨⟨?_,?_,hpos,hodd,by decide,by decide,fun d h1 h2=>by omega⟩,hle⟩
 .unfold rq;split
  .exact⟨by show(1:Int)<2;decide,cv,by dsimp only;omega,by show(2:Int)<3;decide⟩
  .show(1:Int)<3;decide
 .unfold rq;split
  .show(2^(a9 k 2).1.toNat*1)*_=k;rw[Int.mul_one,Int.mul_comm];exact s2.symm
  .have e:(a9 k 2).1.toNat=0:=by omega
   rw[e,Int.pow_zero,Int.mul_one] at s2;show 1*_=k;rw[Int.one_mul];exact s2.symm
theorem iE{k e:Int}(hk:1<=k):∃b,tu k (aW k e).1 (aW k e).2 b/\kq (aW k e).2 b e=none:=by
 obtain⟨I,h⟩:=kf hk;exact yO k.toNat _ _ 3 I (by omega)
noncomputable def kR(k:Int):List (Int×Int):=(aW k (k+1)).1++(if 1<(aW k (k+1)).2 then [((aW k (k+1)).2,1)] else [])
theorem gM:∀{us:List (Int×Int)} {a b:Int},0<=a->fg a us b->0<pp us
 |[],_,_,_,_=>by show(0:Int)<1;decide
 |u::us,a,b,ha,h=>Int.mul_pos (Int.pow_pos (by have:=h.1;omega)) (gM (by have:=h.1;omega) h.2.2.2)
theorem pe{k:Int}(hk:1<=k):(∃b,fg 1 (kR k) b)/\pp (kR k)=k:=by
 obtain⟨b,I,hn⟩:=iE (e:=k+1) hk
 have hle:(aW k (k+1)).2<=k:=by
  have h1:=I.prod;have h2:=gM (by decide) I.rise;have h3:=I.pos;have:1*(aW k (k+1)).2<=pp (aW k (k+1)).1*(aW k (k+1)).2:=Int.mul_le_mul_of_nonneg_right (by omega) (by omega);omega
 unfold kR;generalize aW k (k+1)=r at *;split
 .rename_i hl;have hodd:=I.odd;have hb3:=I.b3;have hbo:=I.bo
  have hlb:b<=r.2:=by
   rcases Int.lt_or_le r.2 b with z|z
   .exact absurd (Int.dvd_refl r.2) (I.free r.2 (by omega) z hodd)
   .exact z
  have hpr:aM r.2=true:=by
   refine bA.mpr (.inr ⟨by omega,hodd,fun f g1 g2 g3 g4=>?_⟩);rcases Int.lt_or_le f b with z|z
   .exact I.free f g1 z g3 g4
   .refine qJ (by omega) (by omega) hn f z ?_ g2 (by omega) g4;have:f*3<=f*f:=Int.mul_le_mul_of_nonneg_left g1 (by omega);omega
  refine⟨⟨r.2+1,I.rise.snoc hpr (Int.le_refl 1) hlb (by dsimp only;omega)⟩,?_⟩;rw[lF];show pp r.1*r.2^(1:Int).toNat=k;rw[show(1:Int).toNat=1 from rfl,Int.pow_succ,Int.pow_zero,Int.one_mul];exact I.prod
 .have:r.2=1:=by have:=I.pos;omega
  rw[List.append_nil];refine⟨⟨b,I.rise⟩,?_⟩;have:=I.prod;rw[‹r.2=1›,Int.mul_one] at this;exact this
def bj:List Int->Int
 |[]=>0
 |x::l=>x+bj l
theorem oU{l l':List Int}(h:l.Perm l'):bj l=bj l':=by
 induction h with
 |nil=>rfl
 |cons x _ ih=>show x+_=x+_;rw[ih]
 |swap x y l=>show y+(x+_)=x+(y+_);omega
 |trans _ _ h1 h2=>exact h1.trans h2
def gr(a p k:Int):Int:=a*k%p
def qc(a p k:Int):Int:=if gr a p k<=(p-1)/2 then 0 else 1
def gs(a p k:Int):Int:=if gr a p k<=(p-1)/2 then gr a p k else p-gr a p k
def jS(n:Int):Int:=if n%2=0 then 1 else -1
theorem vE(m n:Int):jS (m+n)=jS m*jS n:=by
 unfold jS;rcases Int.emod_two_eq m with a|a<;>rcases Int.emod_two_eq n with b|b
 .rw[if_pos (by omega),if_pos a,if_pos b];rfl
 .rw[if_neg (by omega),if_pos a,if_neg (by omega)];rfl
 .rw[if_neg (by omega),if_neg (by omega),if_pos b];rfl
 .rw[if_pos (by omega),if_neg (by omega),if_neg (by omega)];rfl
theorem rB{m n:Int}(h:m%2=n%2):jS m=jS n:=by unfold jS;rw[h]
def Hl(p:Int):List Int:=(List.range ((p-1)/2).toNat).map fun i:Nat=>(i:Int)+1
theorem iY{p x:Int}:x∈Hl p↔1<=x/\x<=(p-1)/2:=by
 unfold Hl;simp only[List.mem_map,List.mem_range];constructor
 .rintro⟨i,h,rfl⟩;omega
 .rintro⟨h1,h2⟩;exact⟨(x-1).toNat,by omega,by omega⟩
theorem x6(p:Int):(Hl p).Nodup:=by
 refine List.pairwise_map.mpr (List.Pairwise.imp_of_mem ?_ (List.nodup_range (n:=((p-1)/2).toNat)));intro i j _ _ hij;omega
theorem EU(p:Int):(Hl p).length=((p-1)/2).toNat:=by simp[Hl]
section
variable{p a:Int}(hp:aM p=true)(h2:p≠2)(ha:¬p∣a)
include hp h2 in
theorem fC:p%2=1/\3<=p:=by
 have:=au hp;rcases bA.mp hp with z|z<;>omega
include hp h2 ha in
theorem Hb{k:Int}(hk:k∈Hl p):1<=gr a p k/\gr a p k<p:=by
 have ho:=fC hp h2;have hk':=iY.mp hk;have h0:=Int.emod_nonneg (a*k) (show p≠0 by omega);have h1:=Int.emod_lt_of_pos (a*k) (show 0<p by omega);refine⟨?_,h1⟩;apply Classical.byContradiction;intro hn;have hz:a*k%p=0:=by unfold gr at hn;omega
 rcases euclid hp (Int.dvd_of_emod_eq_zero hz) with z|z
 .exact ha z
 .have:=cy z (by omega) (by omega);omega
include hp h2 ha in
theorem G4{k:Int}(hk:k∈Hl p):gs a p k∈Hl p:=by
 have ho:=fC hp h2;have:=Hb hp h2 ha hk;unfold gs;split
 .exact iY.mpr ⟨this.1,by assumption⟩
 .exact iY.mpr ⟨by omega,by omega⟩
theorem Ex(a p k:Int):p∣a*k-gr a p k:=by
 have:=Int.emod_add_mul_ediv (a*k) p;exact⟨a*k/p,by unfold gr;omega⟩
theorem tw(a p k:Int):p∣a*k-jS (qc a p k)*gs a p k:=by
 obtain⟨c,hc⟩:=Ex a p k;unfold qc gs jS;split
 .exact⟨c,by simp;omega⟩
 .exact⟨c+1,by rw[Int.mul_add];simp;omega⟩
include hp h2 ha in
theorem pz:(Hl p).Perm ((Hl p).map (gs a p)):=by
 have ho:=fC hp h2
 have hnd:((Hl p).map (gs a p)).Nodup:=by
  refine List.pairwise_map.mpr (List.Pairwise.imp_of_mem ?_ (x6 p));intro x y hx hy hxy he;have hx':=iY.mp hx;have hy':=iY.mp hy;obtain⟨c,hc⟩:=tw a p x;obtain⟨d,hd⟩:=tw a p y;rw[<-he] at hd;have e1:jS (qc a p x)=1\/jS (qc a p x)=-1:=by unfold jS;split<;>simp
  have e2:jS (qc a p y)=1\/jS (qc a p y)=-1:=by unfold jS;split<;>simp
  have key:p∣a*(x-y)\/p∣a*(x+y):=by
   rcases e1 with z|z<;>rcases e2 with w|w<;>rw[z] at hc<;>rw[w] at hd
   .exact .inl ⟨c-d,by rw[Int.mul_sub,Int.mul_sub];omega⟩
   .exact .inr ⟨c+d,by rw[Int.mul_add,Int.mul_add];omega⟩
   .exact .inr ⟨c+d,by rw[Int.mul_add,Int.mul_add];omega⟩
   .exact .inl ⟨c-d,by rw[Int.mul_sub,Int.mul_sub];omega⟩
  rcases key with z|z
  .rcases euclid hp z with w|w
   .exact ha w
   .have:=cy w (by omega) (by omega);omega
  .rcases euclid hp z with w|w
   .exact ha w
   .have:=cy w (by omega) (by omega);omega
 have hs:∀x,x∈(Hl p).map (gs a p)->x∈Hl p:=by
  intro y hy;obtain⟨x,hx,rfl⟩:=List.mem_map.mp hy;exact G4 hp h2 ha hx
 obtain⟨L',hperm⟩:=zf hnd hs
 have hL':L'=[]:=by
  have:=hperm.length_eq;rw[List.length_append,List.length_map] at this;exact List.eq_nil_of_length_eq_zero (by omega)
 rw[hL',List.append_nil] at hperm;exact hperm
theorem zz(a p:Int):∀l:List Int,p∣a^l.length*b9 l-jS (bj (l.map (qc a p)))*b9 (l.map (gs a p))
 |[]=>⟨0,by simp[b9,bj,jS]⟩
 |k::l=>by
  obtain⟨c,hc⟩:=zz a p l;obtain⟨d,hd⟩:=tw a p k;show p∣a^(l.length+1)*(k*b9 l)-jS (qc a p k+bj (l.map (qc a p)))*(gs a p k*b9 (l.map (gs a p)));rw[vE,Int.pow_succ];generalize jS (qc a p k)=e1 at *;generalize jS (bj (l.map (qc a p)))=e2 at *;generalize b9 (l.map (gs a p))=v at *;generalize b9 l=u at *;generalize a^l.length=t at *;generalize gs a p k=g at *;have h1:t*u=e2*v+p*c:=by omega
  have h2:a*k=e1*g+p*d:=by omega
  exact⟨a*k*c+d*(e2*v),by grind⟩
include hp h2 ha in
theorem AA:bu a p=jS (bj ((Hl p).map (qc a p))):=by
 have ho:=fC hp h2;have hg:=zz a p (Hl p);rw[<-mZ (pz hp h2 ha),EU] at hg;have hd:p∣(a^((p-1)/2).toNat-jS (bj ((Hl p).map (qc a p))))*b9 (Hl p):=by rw[Int.sub_mul];exact hg
 rcases euclid hp hd with z|z
 .unfold jS at *;split
  .rename_i h;rw[if_pos h] at z;exact(de hp h2 ha).mpr z
  .rename_i h;rw[if_neg h] at z;exact(fE hp h2 ha).mpr (by rw[show a^((p-1)/2).toNat+1=a^((p-1)/2).toNat - -1 by omega];exact z)
 .refine absurd z (fM hp _ fun x hx hdv=>?_);have:=iY.mp hx;have:=cy hdv (by omega) (by omega);omega
theorem Gv{a p k:Int}(ho:p%2=1):(a*k-a*k/p-gs a p k-qc a p k)%2=0:=by
 have e:=Int.emod_add_mul_ediv (a*k) p;have hpq:∃c,p=2*c+1:=⟨p/2,by omega⟩;obtain⟨c,hc⟩:=hpq
 have hq:p*(a*k/p)=2*(c*(a*k/p))+a*k/p:=by
  rw[hc];generalize a*k/(2*c+1)=z;grind
 unfold gs qc gr;generalize a*k/p=q at *;generalize c*q=y at *;split<;>omega
theorem yM{a p:Int}(ho:p%2=1):∀l:List Int,(a*bj l-bj (l.map fun k=>a*k/p)-bj (l.map (gs a p))-bj (l.map (qc a p)))%2=0
 |[]=>by simp[bj]
 |k::l=>by
  have h1:=yM (a:=a) ho l;have h2:=Gv (a:=a) (k:=k) ho;show(a*(k+bj l)-(a*k/p+bj (l.map fun k=>a*k/p))-(gs a p k+bj (l.map (gs a p)))-(qc a p k+bj (l.map (qc a p))))%2=0;rw[Int.mul_add];generalize a*bj l=x1 at *;generalize a*k=x2 at *;omega
include hp h2 ha in
theorem C_(ho:a%2=1):bj ((Hl p).map (qc a p))%2=bj ((Hl p).map fun k=>a*k/p)%2:=by
 have h:=yM (a:=a) (fC hp h2).1 (Hl p);rw[<-oU (pz hp h2 ha)] at h;have hq:∃c,a=2*c+1:=⟨a/2,by omega⟩;obtain⟨c,hc⟩:=hq
 have:a*bj (Hl p)=2*(c*bj (Hl p))+bj (Hl p):=by
  rw[hc];generalize bj (Hl p)=z;grind
 generalize c*bj (Hl p)=y at *;omega
end
theorem FA(n:Nat):2*bj ((List.range n).map fun i:Nat=>(i:Int)+1)=(n:Int)*(n+1):=by
 have ap:∀(l:List Int) (x:Int),bj (l++[x])=bj l+x:=fun l x=>by
  induction l with
  |nil=>show x+0=0+x;omega
  |cons y l ih=>show y+bj (l++[x])=y+bj l+x;omega
 induction n with
 |zero=>rfl
 |succ n ih =>
  rw[List.range_succ,List.map_append,List.map_cons,List.map_nil,ap,Int.mul_add,ih];have:((n+1:Nat):Int)=(n:Int)+1:=by omega
  rw[this];generalize (n:Int)=x;grind
theorem Bj{p:Int}(hp:aM p=true)(h2:p≠2):bu 2 p=if p%8=1\/p%8=7 then 1 else -1:=by
 have ho:=fC hp h2
 have ha:¬p∣2:=fun z=>by
  have:=Int.le_of_dvd (by decide) z;omega
 rw[AA hp h2 ha];have h:=yM (a:=2) ho.1 (Hl p);rw[<-oU (pz hp h2 ha)] at h
 have hf:∀l:List Int,(∀k,k∈l->k∈Hl p)->bj (l.map fun k=>2*k/p)=0:=fun l=>by
  induction l with
  |nil=>intro _;rfl
  |cons k l ih =>
   intro hl;have hk:=iY.mp (hl k (List.mem_cons_self ..));have h0:2*k/p=0:=Int.ediv_eq_zero_of_lt (by omega) (by omega);show 2*k/p+bj (l.map fun k=>2*k/p)=0;rw[h0,ih fun y hy=>hl y (List.mem_cons_of_mem _ hy)];rfl
 rw[hf _ fun _ z=>z] at h;have hs:=FA ((p-1)/2).toNat;have hT:bj (Hl p)=bj ((List.range ((p-1)/2).toNat).map fun i:Nat=>(i:Int)+1):=rfl;rw[<-hT] at hs;have hM:(((p-1)/2).toNat:Int)=(p-1)/2:=by omega
 rw[hM] at hs;have hc:∃c r,p=8*c+r/\(r=1\/r=3\/r=5\/r=7):=⟨p/8,p%8,by omega,by omega⟩;obtain⟨c,r,hpc,hr⟩:=hc;have key:∀x:Int,(p-1)/2=x->2*bj (Hl p)=x*(x+1):=fun x hx=>by rw[<-hx];exact hs
 rcases hr with rfl|rfl|rfl|rfl
 .have k:=key (4*c) (by omega)
  have:bj (Hl p)=2*(c*(4*c+1)):=by
   have:4*c*(4*c+1)=2*(2*(c*(4*c+1))):=by grind
   omega
  rw[if_pos (by omega)];unfold jS;rw[if_pos (by omega)]
 .have k:=key (4*c+1) (by omega)
  have:bj (Hl p)=2*(4*(c*c)+3*c)+1:=by
   have:(4*c+1)*(4*c+1+1)=2*(2*(4*(c*c)+3*c)+1):=by grind
   omega
  rw[if_neg (by omega)];unfold jS;rw[if_neg (by omega)]
 .have k:=key (4*c+2) (by omega)
  have:bj (Hl p)=2*(4*(c*c)+5*c+1)+1:=by
   have:(4*c+2)*(4*c+2+1)=2*(2*(4*(c*c)+5*c+1)+1):=by grind
   omega
  rw[if_neg (by omega)];unfold jS;rw[if_neg (by omega)]
 .have k:=key (4*c+3) (by omega)
  have:bj (Hl p)=2*(4*(c*c)+7*c+3):=by
   have:(4*c+3)*(4*c+3+1)=2*(2*(4*(c*c)+7*c+3)):=by grind
   omega
  rw[if_pos (by omega)];unfold jS;rw[if_pos (by omega)]
theorem o3{p:Int}(hp:aM p=true)(h2:p≠2):bu (-1) p=if p%4=3 then -1 else 1:=by
 have ho:=fC hp h2
 have ha:¬p∣-1:=fun z=>by
  have:=Int.le_of_dvd (by decide) ((Int.dvd_neg).mp z);omega
 have pw:∀n:Nat,(-1:Int)^(2*n)=1:=fun n=>by rw[Int.pow_mul,show(-1:Int)^2=1 from rfl,Int.one_pow]
 split
 .refine(fE hp h2 ha).mpr ?_;have e:((p-1)/2).toNat=2*(((p-1)/2).toNat/2)+1:=by omega
  rw[e,Int.pow_succ,pw];exact⟨0,by omega⟩
 .refine(de hp h2 ha).mpr ?_;have e:((p-1)/2).toNat=2*(((p-1)/2).toNat/2):=by omega
  rw[e,pw];exact⟨0,by omega⟩
def sm(n:Nat)(f:Nat->Int):Int:=bj ((List.range n).map f)
theorem df(n:Nat)(f:Nat->Int):sm (n+1) f=sm n f+f n:=by
 have ap:∀(l:List Int) (x:Int),bj (l++[x])=bj l+x:=fun l x=>by
  induction l with
  |nil=>show x+0=0+x;omega
  |cons y l ih=>show y+bj (l++[x])=y+bj l+x;omega
 unfold sm;rw[List.range_succ,List.map_append,List.map_cons,List.map_nil,ap]
theorem tP(n:Nat)(f g:Nat->Int):sm n (fun i=>f i+g i)=sm n f+sm n g:=by
 induction n with
 |zero=>rfl
 |succ n ih=>rw[df,df,df,ih];omega
theorem lj{n:Nat}{f g:Nat->Int}(h:∀i,i<n->f i=g i):sm n f=sm n g:=by
 induction n with
 |zero=>rfl
 |succ n ih=>rw[df,df,ih fun i hi=>h i (by omega),h n (by omega)]
theorem Cb(n:Nat):sm n (fun _=>0)=0:=by
 induction n with
 |zero=>rfl
 |succ n ih=>rw[df,ih];rfl
theorem AV(m n:Nat)(f:Nat->Nat->Int):sm m (fun i=>sm n (f i))=sm n (fun j=>sm m fun i=>f i j):=by
 induction m with
 |zero=>rw[show(fun j=>sm 0 fun i=>f i j)=fun _=>0 from rfl,Cb];rfl
 |succ m ih =>
  rw[df,ih,show(fun j=>sm (m+1) fun i=>f i j)=fun j=>(sm m fun i=>f i j)+f m j from funext fun j=>df m _,tP]
theorem En(n:Nat):sm n (fun _=>1)=n:=by
 induction n with
 |zero=>rfl
 |succ n ih=>rw[df,ih];omega
theorem cnt{n:Nat}{x:Int}(h0:0<=x):sm n (fun j=>if (j:Int)+1<=x then 1 else 0)=if x<=n then x else n:=by
 induction n with
 |zero=>show(0:Int)=_;split<;>omega
 |succ n ih =>
  rw[df,ih];split<;>split<;>split<;>omega
theorem below{p t:Int}{n:Nat}(hp:0<p)(ht:0<=t)(hd:¬p∣t)(hn:t/p<=n):sm n (fun j=>if p*((j:Int)+1)<t then 1 else 0)=t/p:=by
 have h0:0<=t/p:=Int.ediv_nonneg ht (by omega);have e:=cnt (n:=n) h0;rw[if_pos hn] at e;rw[<-e];refine lj fun j _=>?_
 have hiff:p*((j:Int)+1)<t↔(j:Int)+1<=t/p:=by
  rw[Int.le_ediv_iff_mul_le hp,Int.mul_comm];constructor
  .intro z;omega
  .intro z;rcases Int.lt_or_eq_of_le z with w|w
   .exact w
   .exact absurd ⟨_,by rw[<-w,Int.mul_comm]⟩ hd
 by_cases z:p*((j:Int)+1)<t
 .rw[if_pos z,if_pos (hiff.mp z)]
 .rw[if_neg z,if_neg fun w=>z (hiff.mpr w)]
theorem Cy{p q:Int}(hp:aM p=true)(h2:p≠2)(hq:aM q=true)(hq2:q≠2)(hne:p≠q):
  bj ((Hl p).map fun k=>q*k/p)=sm ((p-1)/2).toNat fun i=>sm ((q-1)/2).toNat fun j=>if p*((j:Int)+1)<q*((i:Int)+1) then 1 else 0:=by
 have ho:=fC hp h2;have hoq:=fC hq hq2
 have hpq:¬p∣q:=fun z=>by
  rcases eC hq (show 0<p by omega) z with w|w<;>omega
 unfold Hl sm;rw[List.map_map];show sm ((p-1)/2).toNat _=sm ((p-1)/2).toNat _;refine lj fun i hi=>?_;show q*((i:Int)+1)/p=sm _ _;refine(below (by omega) (Int.mul_nonneg (by omega) (by omega)) (fun z=>?_) ?_).symm
 .rcases euclid hp z with w|w
  .exact hpq w
  .have:=cy w (by omega) (by omega);omega
 .have h1:q*((i:Int)+1)<((q-1)/2+1)*p:=by
   have hi':2*((i:Int)+1)<=p-1:=by omega
   have:q*(2*((i:Int)+1))<=q*(p-1):=Int.mul_le_mul_of_nonneg_left hi' (by omega);have e2:2*((q-1)/2+1)=q+1:=by omega
   have e3:2*(((q-1)/2+1)*p)=(q+1)*p:=by rw[<-Int.mul_assoc,e2]
   have e4:q*(2*((i:Int)+1))=2*(q*((i:Int)+1)):=by grind
   have e5:q*(p-1)=q*p-q:=by grind
   have e6:(q+1)*p=q*p+p:=by grind
   omega
  have:=Int.ediv_lt_of_lt_mul (show 0<p by omega) h1;omega
theorem BK{p q:Int}(hp:aM p=true)(h2:p≠2)(hq:aM q=true)(hq2:q≠2)(hne:p≠q):
  bj ((Hl p).map fun k=>q*k/p)+bj ((Hl q).map fun k=>p*k/q)=(p-1)/2*((q-1)/2):=by
 have ho:=fC hp h2;have hoq:=fC hq hq2
 have hpq:¬p∣q:=fun z=>by
  rcases eC hq (show 0<p by omega) z with w|w<;>omega
 rw[Cy hp h2 hq hq2 hne,Cy hq hq2 hp h2 (fun z=>hne z.symm),AV ((q-1)/2).toNat,<-tP]
 have e1:sm ((p-1)/2).toNat (fun i=>(sm ((q-1)/2).toNat fun j=>if p*((j:Int)+1)<q*((i:Int)+1) then 1 else 0)+sm ((q-1)/2).toNat fun i_1=>if q*((i:Int)+1)<p*((i_1:Int)+1) then 1 else 0)=sm ((p-1)/2).toNat fun _=>(((q-1)/2).toNat:Int):=by
  refine lj fun i hi=>?_;rw[<-tP,<-En ((q-1)/2).toNat];refine lj fun j hj=>?_
  have hne':p*((j:Int)+1)≠q*((i:Int)+1):=fun z=>by
   rcases euclid hp (show p∣q*((i:Int)+1) from ⟨_,z.symm⟩) with w|w
   .exact hpq w
   .have:=cy w (by omega) (by omega);omega
  generalize p*((j:Int)+1)=x at *;generalize q*((i:Int)+1)=y at *;split<;>split<;>omega
 rw[e1]
 have e2:∀(n:Nat) (c:Int),sm n (fun _=>c)=n*c:=fun n c=>by
  induction n with
  |zero=>show(0:Int)=_;simp
  |succ n ih=>rw[df,ih];simp[Int.add_mul]
 rw[e2];rw[show(((p-1)/2).toNat:Int)=(p-1)/2 by omega,show(((q-1)/2).toNat:Int)=(q-1)/2 by omega]
theorem xR{p q:Int}(hp:aM p=true)(h2:p≠2)(hq:aM q=true)(hq2:q≠2)(hne:p≠q):bu q p*bu p q=if p%4=3/\q%4=3 then -1 else 1:=by
 have ho:=fC hp h2;have hoq:=fC hq hq2
 have hpq:¬p∣q:=fun z=>by
  rcases eC hq (show 0<p by omega) z with w|w<;>omega
 have hqp:¬q∣p:=fun z=>by
  rcases eC hp (show 0<q by omega) z with w|w<;>omega
 rw[AA hp h2 hpq,AA hq hq2 hqp,rB (C_ hp h2 hpq hoq.1),rB (C_ hq hq2 hqp ho.1),<-vE,BK hp h2 hq hq2 hne];unfold jS;have hm:=Int.mul_emod ((p-1)/2) ((q-1)/2) 2;rw[hm];by_cases a:p%4=3<;>by_cases b:q%4=3
 .rw[show(p-1)/2%2=1 by omega,show(q-1)/2%2=1 by omega];simp[a,b]
 .rw[show(p-1)/2%2=1 by omega,show(q-1)/2%2=0 by omega];simp[a,b]
 .rw[show(p-1)/2%2=0 by omega];simp[a]
 .rw[show(p-1)/2%2=0 by omega];simp[a]
def Cg(p a b:Int):Prop:=p∣a-b
theorem uN(p a:Int):Cg p (a%p) a:=by
 have:=Int.emod_add_mul_ediv a p;exact⟨-(a/p),by rw[Int.mul_neg];omega⟩
def Dc(p k:Int):Prop:=2<=k/\bu k p=-1/\∀j,2<=j->j<k->bu j p≠-1
theorem Dc.uniq{p:Int}(a b:Int)(ha:Dc p a)(hb:Dc p b):a=b:=by
 rcases Int.lt_trichotomy a b with z|z|z
 .exact absurd ha.2.1 (hb.2.2 a ha.1 z)
 .exact z
 .exact absurd hb.2.1 (ha.2.2 b hb.1 z)
noncomputable def qu(p:Int):Int:=Classical.epsilon (Dc p)
theorem ED{p k:Int}(h:Dc p k):k=qu p:=uB Dc.uniq h
def NR(p:Int):Prop:=∃g,2<=g/\bu g p=-1
theorem pO{p:Int}(h:NR p):Dc p (qu p):=by
 obtain⟨g,h1,h3⟩:=h
 have:∀n:Nat,(∃k,Dc p k)\/∀j:Int,2<=j->j<2+(n:Int)->bu j p≠-1:=fun n=>by
  induction n with
  |zero=>exact .inr fun j a b=>by omega
  |succ n ih =>
   rcases ih with z|z
   .exact .inl z
   .by_cases w:bu (2+(n:Int)) p=-1
    .exact .inl ⟨2+(n:Int),by omega,w,fun j a b=>z j a b⟩
    .refine .inr fun j a b=>?_;by_cases e:j=2+(n:Int)
     .rw[e];exact w
     .exact z j a (by omega)
 rcases this (g-1).toNat with⟨k,z⟩|z
 .rw[<-ED z];exact z
 .exact absurd h3 (z g h1 (by omega))
structure Kf(p k t r e m:Int):Prop where
 r0:0<=r/\r<p
 e0:0<=e/\e<p
 m0:0<=m/\m<p
 t1:1<=t
 rr:Cg p (r*r) (k*e)
 ee:Cg p (e^2^(t-1).toNat) 1
 mm:e≠1->Cg p (m^2^(t-1).toNat) (-1)
theorem eF{k n m:Int}(h:k∣n*m)(hg:Int.gcd k m=1):k∣n:=by
 have:=Int.dvd_mul_gcd_iff_dvd_mul.mpr h;rw[hg] at this;simpa using this
def gp(n:Int):Prop:=n≠0/\∀d:Int,2<=d->¬d*d∣n
theorem gP:gp 1:=⟨by decide,fun d hd h=>by
 have:=Int.le_of_dvd (by decide) h;have:2*2<=d*d:=Int.mul_le_mul hd hd (by decide) (by omega)
 omega⟩
theorem k_{n:Int}(h:gp n):gp (-n):=⟨by have:=h.1;omega,fun d hd z=>h.2 d hd (Int.dvd_neg.mp z)⟩
theorem lQ{n m:Int}(h:gp n)(hd:m∣n):gp m:=⟨by rintro rfl;exact h.1 (Int.zero_dvd.mp hd),fun d h2 z=>h.2 d h2 (Int.dvd_trans z hd)⟩
theorem iD{p d:Int}(hp:aM p=true)(h:¬p∣d):Int.gcd d p=1:=by
 have hp2:=au hp
 have h1:=eC hp (d:=(Int.gcd d p:Int)) (by
  have:0<Int.gcd d p:=Int.gcd_pos_of_ne_zero_right _ (by omega)
  omega) (Int.gcd_dvd_right ..)
 rcases h1 with h1|h1
 .omega
 .exact absurd (by rw[<-h1];exact Int.gcd_dvd_left ..) h
theorem fK{n p:Int}(h:gp n)(hp:aM p=true)(hn:¬p∣n):gp (n*p):=⟨Int.mul_ne_zero h.1 (by have:=au hp;omega),fun d hd z=>by
 have hp2:=au hp;by_cases hpd:p∣d
 .obtain⟨c,rfl⟩:=hpd;have:p*p∣n*p:=Int.dvd_trans ⟨c*c,by grind⟩ z;exact hn (Int.dvd_of_mul_dvd_mul_right (by omega) this)
 .exact h.2 d hd (eF z (iD hp fun w=>by rcases euclid hp w with w|w<;>exact hpd w))⟩
theorem Fy{r s:Int}(hg:Int.gcd r s=1):Int.gcd (s*s) (r*r)=1:=by
 have a:Int.gcd s (r*r)=1:=by rw[Int.gcd_mul_right_right_of_gcd_eq_one (by rw[Int.gcd_comm];exact hg),Int.gcd_comm];exact hg
 rw[Int.gcd_mul_right_left_of_gcd_eq_one a];exact a
theorem vI{f r s:Int}(hf:gp f)(hs:0<s)(hg:Int.gcd r s=1)(h:s*s∣f*(r*r)):s=1:=by
 have h2:s*s∣f:=eF h (Fy hg);rcases Int.lt_or_le s 2 with z|z
 .omega
 .exact absurd h2 (hf.2 s z)
theorem rK{n f r s:Int}(hn:gp n)(hf:gp f)(hr:0<r)(hs:0<s)(e:n*(r*r)=f*(s*s)):n=f/\r=s:=by
 obtain⟨g,r',s',hg,hgr,er,es⟩:∃g r' s':Int,0<g/\Int.gcd r' s'=1/\r=g*r'/\s=g*s':=by
  have h0:0<Int.gcd r s:=Int.gcd_pos_of_ne_zero_left _ (by omega);refine⟨Int.gcd r s,r/Int.gcd r s,s/Int.gcd r s,by omega,?_,(Int.mul_ediv_cancel' (Int.gcd_dvd_left ..)).symm,(Int.mul_ediv_cancel' (Int.gcd_dvd_right ..)).symm⟩;rw[Int.gcd_ediv_gcd_ediv_gcd h0]
 subst er es
 have hr':0<r':=by
  rcases Int.lt_or_le 0 r' with z|z
  .exact z
  .have:=Int.mul_nonpos_of_nonneg_of_nonpos (Int.le_of_lt hg) z;omega
 have hs':0<s':=by
  rcases Int.lt_or_le 0 s' with z|z
  .exact z
  .have:=Int.mul_nonpos_of_nonneg_of_nonpos (Int.le_of_lt hg) z;omega
 have e':n*(r'*r')=f*(s'*s'):=by
  have:(g*g)*(n*(r'*r'))=(g*g)*(f*(s'*s')):=by grind
  exact Int.eq_of_mul_eq_mul_left (Int.mul_ne_zero (by omega) (by omega)) this
 have h1:s'=1:=vI hn hs' hgr ⟨f,by grind⟩;have h2:r'=1:=vI hf hr' (by rw[Int.gcd_comm];exact hgr) ⟨n,by grind⟩;subst h1 h2;exact⟨by omega,rfl⟩
def tU(A:Int):Prop:=∀q,aM q=true->q∣A->q<32768
def AR(l:Int):Prop:=∀q,aM q=true->q∣l->32768<=q
theorem eK{k:Int}(h:2<=k):∃q,aM q=true/\q∣k:=by
 obtain⟨⟨b,hr⟩,hp⟩:=pe (k:=k) (by omega);cases hq:kR k with
 |nil=>rw[hq] at hp;simp only[pp] at hp;omega
 |cons u us =>
  rw[hq] at hr hp;refine⟨u.1,hr.2.1,?_⟩;rw[<-hp,pp];have h1:=hr.2.2.1;obtain⟨m,hm⟩:∃m,u.2.toNat=m+1:=⟨u.2.toNat-1,by omega⟩;rw[hm,Int.pow_succ];exact⟨u.1^m*pp us,by grind⟩
theorem jZ{a b:Int}(h:∀q,aM q=true->q∣a->¬q∣b)(ha:a≠0):Int.gcd a b=1:=by
 have h0:0<Int.gcd a b:=Int.gcd_pos_of_ne_zero_left _ ha;rcases Nat.lt_or_ge (Int.gcd a b) 2 with z|z
 .omega
 .obtain⟨q,h1,h2⟩:=eK (k:=(Int.gcd a b:Int)) (by omega);exact absurd (Int.dvd_trans h2 (Int.gcd_dvd_right ..)) (h q h1 (Int.dvd_trans h2 (Int.gcd_dvd_left ..)))
theorem p5{A l:Int}(ha:tU A)(hl:AR l)(h0:l≠0):Int.gcd l A=1:=jZ (fun q h1 h2 h3=>by have:=ha q h1 h3;have:=hl q h1 h2;omega) h0
theorem jC{A B:Int}(ha:tU A)(hb:tU B):tU (A*B):=fun q h1 h2=>by rcases euclid h1 h2 with z|z;exact ha q h1 z;exact hb q h1 z
theorem Br{A B:Int}(ha:AR A)(hb:AR B):AR (A*B):=fun q h1 h2=>by rcases euclid h1 h2 with z|z;exact ha q h1 z;exact hb q h1 z
theorem yE{A:Int}(h0:0<A)(h:A<32768):tU A:=fun q _ h2=>by have:=Int.le_of_dvd h0 h2;omega
theorem BD:AR 1:=fun q h1 h2=>by have:=Int.le_of_dvd (by decide) h2;have:=au h1;omega
theorem wq{q:Int}(hq:aM q=true)(h:q<32768):∀n:Nat,tU (q^n)
 |0=>fun r h1 h2=>by rw[Int.pow_zero] at h2;have:=Int.le_of_dvd (by decide) h2;have:=au h1;omega
 |n+1=>by
  rw[Int.pow_succ];exact jC (wq hq h n) fun r h1 h2=>by have:=Int.le_of_dvd (by have:=au hq;omega) h2;omega
theorem jQ{l b:Int}(hl:0<l)(ho:l%2=1)(b3:3<=b)(bo:b%2=1)(hf:∀d,3<=d->d<b->d%2=1->¬d∣l)(hn:kq l b 32768=none):∀d,3<=d->d<32768->d*d<=l->d%2=1->¬d∣l:=fun d h1 h2 h3 h4=>by
 rcases Int.lt_or_le d b with z|z
 .exact hf d h1 z h4
 .exact qJ (by omega) (by omega) hn d z h2 h3 (by omega)
theorem nB{k b l:Int}{fs:List (Int×Int)}(I:tu k fs l b)(hn:kq l b 32768=none)(h1:1<l)(h2:l<1073741824):aM l=true/\b<=l:=by
 have hf:=jQ I.pos I.odd I.b3 I.bo I.free hn;have ho:=I.odd;refine⟨bA.mpr (.inr ⟨by omega,ho,fun d a1 a2 a3=>hf d a1 ?_ a2 a3⟩),?_⟩
 .rcases Int.lt_or_le d 32768 with z|z
  .exact z
  .have:32768*32768<=d*d:=Int.mul_le_mul z z (by decide) (by omega);omega
 .rcases Int.lt_or_le l b with z|z
  .exact absurd (Int.dvd_refl l) (I.free l (by omega) z ho)
  .exact z
theorem nu{k b l:Int}{fs:List (Int×Int)}(I:tu k fs l b)(hn:kq l b 32768=none)(h:1073741824<=l):AR l:=fun q h1 h2=>by
 have hf:=jQ I.pos I.odd I.b3 I.bo I.free hn;rcases Int.lt_or_le q 32768 with z|z
 .rcases bA.mp h1 with w|⟨w1,w2,w3⟩
  .subst w;have:=I.odd;omega
  .have:q*q<=32768*32768:=Int.mul_le_mul (by omega) (by omega) (by omega) (by decide);exact absurd h2 (hf q w1 z (by omega) w2)
 .exact z
theorem oY{k e:Int}:∀(n:Nat) (fs:List (Int×Int)) (l b:Int),tu k fs l b->(∀u∈fs,u.1<e)->∀u∈(xa e n fs l b).1,u.1<e
 |0,fs,l,b,I,h=>h
 |n+1,fs,l,b,I,h=>by
  unfold xa;cases hd:kq l b e with
  |none=>exact h
  |some d =>
   refine oY n _ _ _ (I.step hd) fun u hu=>?_;rcases List.mem_append.mp hu with z|z
   .exact h u z
   .have:=ig (Int.le_of_lt I.pos) (by have:=I.b3;omega) hd;simp only[List.mem_singleton] at z;subst z;exact this.2.1
theorem mS{k e:Int}(hk:1<=k)(he:2<e):∀u∈(aW k e).1,u.1<e:=by
 refine oY _ _ _ _ (kf hk).1 fun u hu=>?_;unfold rq at hu;split at hu
 .simp only[List.mem_singleton] at hu;subst hu;exact he
 .cases hu
theorem iu:∀{us:List (Int×Int)} {a b:Int},fg a us b->∀u∈us,aM u.1=true/\1<=u.2
 |u::us,a,b,h,v,hv=>by
  rcases List.mem_cons.mp hv with z|z
  .subst z;exact⟨h.2.1,h.2.2.1⟩
  .exact iu h.2.2.2 v z
theorem tZ:∀{us:List (Int×Int)},(∀u∈us,aM u.1=true/\u.1<32768)->tU (pp us)
 |[],_=>fun q h1 h2=>by have h3:q∣1:=h2;have:=Int.le_of_dvd (by decide) h3;have:=au h1;omega
 |u::us,h=>jC (wq (h u (List.mem_cons_self ..)).1 (h u (List.mem_cons_self ..)).2 _) (tZ fun v hv=>h v (List.mem_cons_of_mem _ hv))
theorem uL{s:Int}(hs:1<=s):∃A L,tU A/\AR L/\0<A/\0<L/\s=A*L:=by
 obtain⟨b,I,hn⟩:=iE (k:=s) (e:=32768) hs;have hs':tU (pp (aW s 32768).1):=tZ fun u hu=>⟨(iu I.rise u hu).1,mS hs (by decide) u hu⟩;have hp:=gM (by decide) I.rise;have hl:=I.pos;by_cases h1:(aW s 32768).2<32768
 .exact⟨s,1,by rw[<-I.prod];exact jC hs' (yE hl h1),BD,by omega,by decide,by omega⟩
 .refine⟨_,_,hs',?_,hp,hl,I.prod.symm⟩;by_cases h2:(aW s 32768).2<1073741824
  .have:=nB I hn (by omega) h2;intro q q1 q2;rcases eC this.1 (by have:=au q1;omega) q2 with z|z
   .have:=au q1;omega
   .omega
  .exact nu I hn (by omega)
theorem Ew{A B l L:Int}(hA:tU A)(hB:tU B)(hl:AR l)(hL:AR L)(h0:0<l)(h1:0<L)(e:A*l=B*L):l=L:=by
 have d1:l∣L:=eF (k:=l) (n:=L) (m:=B) ⟨A,by grind⟩ (p5 hB hl (by omega));have d2:L∣l:=eF (k:=L) (n:=l) (m:=A) ⟨B,by grind⟩ (p5 hA hL (by omega));have:=Int.le_of_dvd h1 d1;have:=Int.le_of_dvd h0 d2;omega
def Tame(k:Int):Prop:=(∃f s,tU f/\0<f/\1<=s/\k=f*(s*s))\/(∃f P,tU f/\0<f/\aM P=true/\P<1073741824/\k=f*P)
theorem wY{k b l:Int}{fs:List (Int×Int)}(h:Tame k)(hk:1<=k)(I:tu k fs l b)(hf:∀u∈fs,u.1<32768)(hn:kq l b 32768=none):l<1073741824\/rt l*rt l=l:=by
 rcases Int.lt_or_le l 1073741824 with z|z
 .exact .inl z
 have hl:=nu I hn z;have hs':tU (pp fs):=tZ fun u hu=>⟨(iu I.rise u hu).1,hf u hu⟩;have hpr:=I.prod;rcases h with⟨f,s,h1,h2,h3,h4⟩|⟨f,P,h1,h2,h3,h4,h5⟩
 .obtain⟨A,L,a1,a2,a3,a4,a5⟩:=uL h3;have e:l=L*L:=Ew hs' (jC h1 (jC a1 a1)) hl (Br a2 a2) (by omega) (Int.mul_pos a4 a4) (by rw[hpr,h4,a5];grind);right;have:L=rt l:=fZ (by omega) (by omega) (by rw[e];grind);rw[<-this,e]
 .have d1:l∣P:=eF (k:=l) (n:=P) (m:=f) ⟨pp fs,by grind⟩ (p5 h1 hl (by omega));have:=Int.le_of_dvd (by have:=au h3;omega) d1;omega
def jy(c:Int×Int)(u:Int×Int):Int×Int:=(if u.2%2=1 then c.1*u.1 else c.1,c.2*u.1^(u.2/2).toNat)
theorem ur:∀{us:List (Int×Int)} {a b:Int} {c:Int×Int},fg a us b->gp c.1->(∀q,aM q=true->a<q->¬q∣c.1)->0<c.2 ->
  gp (us.foldl jy c).1/\0<(us.foldl jy c).2/\(us.foldl jy c).1*((us.foldl jy c).2*(us.foldl jy c).2)=c.1*(c.2*c.2)*pp us
 |[],a,b,c,_,hs,_,h0=>⟨hs,h0,by simp[pp]⟩
 |u::us,a,b,c,hr,hs,hq,h0=>by
  obtain⟨r1,r2,r3,r4⟩:=hr;have hu2:=au r2;have hpow:0<u.1^(u.2/2).toNat:=Int.pow_pos (by omega)
  have hS:gp (jy c u).1:=by
   unfold jy;dsimp only;split
   .exact fK hs r2 (hq _ r2 r1)
   .exact hs
  have hQ:∀q,aM q=true->u.1<q->¬q∣(jy c u).1:=fun q h1 h2 h3=>by
   unfold jy at h3;dsimp only at h3;split at h3
   .rcases euclid h1 h3 with z|z
    .exact hq q h1 (by omega) z
    .have:=Int.le_of_dvd (by omega) z;omega
   .exact hq q h1 (by omega) h3
  have hP:0<(jy c u).2:=Int.mul_pos h0 hpow;obtain⟨i1,i2,i3⟩:=ur (c:=jy c u) r4 hS hQ hP;refine⟨i1,i2,?_⟩;rw[List.foldl_cons,i3,pp]
  have hpw:(if u.2%2=1 then u.1 else 1)*(u.1^(u.2/2).toNat*u.1^(u.2/2).toNat)=u.1^u.2.toNat:=by
   rw[<-Int.pow_add];by_cases z:u.2%2=1
   .rw[if_pos z,show u.2.toNat=((u.2/2).toNat+(u.2/2).toNat)+1 by omega,Int.pow_succ,Int.mul_comm]
   .rw[if_neg z,Int.one_mul,show u.2.toNat=(u.2/2).toNat+(u.2/2).toNat by omega]
  unfold jy;dsimp only;rw[<-hpw];generalize u.1^(u.2/2).toNat=y;split<;>grind
noncomputable def k5(k:Int):List (Int×Int)×Int :=
 if 1<(aW k 32768).2/\(aW k 32768).2<1073741824 then ((aW k 32768).1++[((aW k 32768).2,1)],1) else ((aW k 32768).1,rt (aW k 32768).2)
theorem uA{k:Int}(hk:1<=k)(ht:Tame k):(1<(aW k 32768).2/\(aW k 32768).2<1073741824\/rt (aW k 32768).2*rt (aW k 32768).2=(aW k 32768).2)/\(∃b,fg 1 (k5 k).1 b)/\0<(k5 k).2/\pp (k5 k).1*((k5 k).2*(k5 k).2)=k:=by
 obtain⟨b,I,hn⟩:=iE (k:=k) (e:=32768) hk;have hl:=wY ht hk I (mS hk (by decide)) hn;have hpos:=I.pos;have hprod:=I.prod;unfold k5;by_cases h1:1<(aW k 32768).2/\(aW k 32768).2<1073741824
 .rw[if_pos h1];obtain⟨p1,p2⟩:=nB I hn h1.1 h1.2;refine⟨.inl h1,⟨_,fg.snoc p1 (by dsimp only;decide) p2 (b':=(aW k 32768).2+1) (by dsimp only;omega) I.rise⟩,by dsimp only;decide,?_⟩;dsimp only;rw[lF];dsimp only;rw[show(1:Int).toNat=1 from rfl,Int.pow_succ,Int.pow_zero,Int.one_mul,Int.mul_one,Int.mul_one,hprod]
 .rw[if_neg h1]
  have hsq:rt (aW k 32768).2*rt (aW k 32768).2=(aW k 32768).2:=by
   rcases hl with z|z
   .have e1:(aW k 32768).2=1:=by omega
    rw[e1];have:(1:Int)=rt 1:=fZ (by decide) (by decide) (by decide);rw[<-this];rfl
   .exact z
  have h0:=eJ (aW k 32768).2;refine⟨.inr hsq,⟨b,I.rise⟩,?_,?_⟩
  .dsimp only;rcases Int.lt_or_eq_of_le h0 with z|z
   .exact z
   .rw[<-z] at hsq;omega
  .dsimp only;rw[hsq,hprod]
noncomputable def EW(t b:Int):Int×Int:=(k5 (t.natAbs*b)).1.foldl jy (if 0<t then 1 else -1,(k5 (t.natAbs*b)).2)
theorem DM{t b f s:Int}(ht:t≠0)(hb:0<b)(htm:Tame (t.natAbs*b))(hf:gp f)(hs:0<s)(e:t*b=f*(s*s)):EW t b=(f,s):=by
 have hk:1<=(t.natAbs:Int)*b:=by
  have:0<(t.natAbs:Int)*b:=Int.mul_pos (by omega) hb;omega
 obtain⟨_,⟨b',hr⟩,h0,hp⟩:=uA hk htm;have hS:gp (if 0<t then (1:Int) else -1):=by split;exact gP;exact k_ gP
 have hQ:∀q,aM q=true->1<q->¬q∣(if 0<t then (1:Int) else -1):=fun q h1 h2 h3=>by
  split at h3
  .have:=Int.le_of_dvd (by decide) h3;omega
  .have:=Int.le_of_dvd (by decide) (Int.dvd_neg.mp h3);omega
 obtain⟨a1,a2,a3⟩:=ur (c:=(if 0<t then (1:Int) else -1,(k5 (t.natAbs*b)).2)) hr hS hQ h0
 have a4:(EW t b).1*((EW t b).2*(EW t b).2)=f*(s*s):=by
  show((k5 (t.natAbs*b)).1.foldl jy _).1*(((k5 (t.natAbs*b)).1.foldl jy _).2*((k5 (t.natAbs*b)).1.foldl jy _).2)=_;rw[a3,<-e];dsimp only;rw[show(if 0<t then (1:Int) else -1)*((k5 (t.natAbs*b)).2*(k5 (t.natAbs*b)).2)*pp (k5 (t.natAbs*b)).1=(if 0<t then (1:Int) else -1)*(pp (k5 (t.natAbs*b)).1*((k5 (t.natAbs*b)).2*(k5 (t.natAbs*b)).2)) by grind,hp];by_cases z:0<t
  .rw[if_pos z,show(t.natAbs:Int)=t by omega];omega
  .rw[if_neg z,show(t.natAbs:Int)=-t by omega];grind
 obtain⟨u1,u2⟩:=rK a1 hf a2 hs a4;exact Prod.ext u1 u2
theorem hU{a p:Int}(hp:2<=p)(h:¬p∣a):cls a p=(0,if p=2 then a%8 else bu a p):=by
 unfold cls;rw[je hp h];rfl
theorem zg{x y p:Int}(hp:aM p=true)(hx:x≠0)(hy:cls y p=(0,1)):aj x y p=true:=by
 have hp2:=au hp;by_cases h2:p=2
 .subst h2;rw[aR,hy];exact yn _ (cP hx) (0,1) (by decide)
 .rw[aZ (by omega) h2,hy];exact C8 _ (cL hp2 h2 hx) (0,1) (by decide) _ (oQ hp2)
theorem GO{u:Int}(h:u%2=1):u%8∈[(1:Int),3,5,7]:=by
 have:u%8=1\/u%8=3\/u%8=5\/u%8=7:=by omega
 rcases this with z|z|z|z<;>rw[z]<;>decide
theorem mV{a b r p:Int}(h:Pl p)(ha:a≠0)(hb:b≠0)(hr:r≠0):aj a (b*r*r) p=aj a b p:=by
 rw[eQ h (Int.mul_ne_zero (Int.mul_ne_zero hb hr) hr) ha,AQ h hb hr,eQ h ha hb]
theorem og{a p:Int}(h:Pl p)(ha:a≠0):aj a a p=aj a (-1) p:=by
 have h1:=rn h ha;rw[show(0:Int)-a=-1*a by omega,f9 h ha (by decide) ha] at h1;have:=eq_of_beq h1;exact this.symm
def ev:List Int->Int->Int
 |[],_=>0
 |c::cs,x=>c+x*ev cs x
def qo(r:Int):List Int->List Int
 |[]=>[]
 |[_]=>[]
 |_::d::cs=>ev (d::cs) r::qo r (d::cs)
theorem zh(r:Int):∀(c:Int) (cs:List Int),(qo r (c::cs)).length=cs.length
 |_,[]=>rfl
 |_,d::cs=>by simp only[qo,List.length_cons];rw[zh r d cs]
theorem vh(r:Int):∀(c d:Int) (cs:List Int),(qo r (c::d::cs)).getLast?=(c::d::cs).getLast?
 |c,d,[]=>by simp[qo,ev]
 |c,d,e::cs=>by
  have ih:=vh r d e cs;have h1:qo r (c::d::e::cs)=ev (d::e::cs) r::qo r (d::e::cs):=rfl;rw[h1,List.getLast?_cons_cons,<-ih];have h2:qo r (d::e::cs)=ev (e::cs) r::qo r (e::cs):=rfl;rw[h2,List.getLast?_cons_cons]
theorem CM(r x:Int):∀cs:List Int,ev cs x-ev cs r=(x-r)*ev (qo r cs) x
 |[]=>by simp[ev,qo]
 |[c]=>by simp[ev,qo]
 |c::d::cs=>by
  have ih:=CM r x (d::cs);have h1:qo r (c::d::cs)=ev (d::cs) r::qo r (d::cs):=rfl;rw[h1];have e1:ev (c::d::cs) x=c+x*ev (d::cs) x:=rfl;have e2:ev (c::d::cs) r=c+r*ev (d::cs) r:=rfl;have e3:ev (ev (d::cs) r::qo r (d::cs)) x=ev (d::cs) r+x*ev (qo r (d::cs)) x:=rfl;rw[e1,e2,e3];generalize ev (d::cs) x=u at *;generalize ev (d::cs) r=v at *;generalize ev (qo r (d::cs)) x=t at *;grind
theorem Gs{p:Int}(hp:aM p=true):∀(rs cs:List Int),cs.length<=rs.length->rs.Pairwise (fun a b=>¬p∣a-b)->(∀r∈rs,p∣ev cs r)->∀c,cs.getLast?=some c->p∣c
 |_,[],_,_,_,c,hc=>by simp at hc
 |[],_::_,h,_,_,_,_=>by simp at h
 |r::rs,[c],_,_,hr,d,hd=>by
  have:=hr r (List.mem_cons_self ..);simp[ev] at this;simp at hd;rw[<-hd];exact this
 |r::rs,c::d::cs,hl,hpw,hr,e,he=>by
  obtain⟨h1,h2⟩:=List.pairwise_cons.mp hpw;refine Gs hp rs (qo r (c::d::cs)) (by rw[zh];simpa using hl) h2 (fun s hs=>?_) e (by rw[vh];exact he);have a1:=hr s (List.mem_cons_of_mem _ hs);have a2:=hr r (List.mem_cons_self ..);have a3:=Int.dvd_sub a1 a2;rw[CM] at a3;rcases euclid hp a3 with z|z
  .exact absurd (by rw[show r-s=-(s-r) by omega];exact Int.dvd_neg.mpr z) (h1 s hs)
  .exact z
def xn(n:Nat):List Int:=-1::(List.replicate n 0++[1])
theorem zM(x:Int):∀n:Nat,ev (List.replicate n 0++[1]) x=x^n
 |0=>by simp[ev]
 |n+1=>by
  rw[List.replicate_succ,List.cons_append];show 0+x*ev (List.replicate n 0++[1]) x=_;rw[zM x n,Int.pow_succ,Int.mul_comm];omega
theorem C0{p:Int}(hp:aM p=true)(h2:p≠2):∃g,2<=g/\g<p/\bu g p=-1:=by
 have ho:=fC hp h2;have hp2:=au hp;apply Classical.byContradiction;intro hn
 have hall:∀g:Int,1<=g->g<p->p∣g^((p-1)/2).toNat-1:=fun g g1 g2=>by
  have hd:¬p∣g:=fun z=>by have:=Int.le_of_dvd (by omega) z;omega
  refine(de hp h2 hd).mp ?_;rcases dc hd with z|z
  .exact z
  .refine absurd ⟨g,?_,g2,z⟩ hn;rcases Int.lt_or_le g 2 with w|w
   .have:g=1:=by omega
    subst this;rw[mK hp h2 ⟨0,by omega⟩] at z;cases z
   .exact w
 obtain⟨m,hm⟩:∃m:Nat,((p-1)/2).toNat=m+1:=⟨((p-1)/2).toNat-1,by omega⟩
 have h1:=Gs hp ((List.range (p-1).toNat).map fun i:Nat=>(i:Int)+1) (xn m) (by simp[xn];omega) (by
   rw[List.pairwise_map];refine List.Pairwise.imp_of_mem ?_ (List.nodup_range (n:=(p-1).toNat));intro a b ha hb hab z;have ha':=List.mem_range.mp ha;have hb':=List.mem_range.mp hb;have:=cy z (by omega) (by omega)
   exact hab (by omega)) (fun r hr=>by
   obtain⟨i,hi,rfl⟩:=List.mem_map.mp hr;have hi':=List.mem_range.mp hi;have:=hall ((i:Int)+1) (by omega) (by omega);rw[hm] at this;show p∣-1+((i:Int)+1)*ev (List.replicate m 0++[1]) _;rw[zM,Int.mul_comm,<-Int.pow_succ];rw[show -1+((i:Int)+1)^(m+1)=((i:Int)+1)^(m+1)-1 by omega]
   exact this) 1 (by show((-1::List.replicate m 0)++[1]).getLast?=some 1;exact List.getLast?_concat)
 have:=Int.le_of_dvd (by decide) h1;omega
def JA:List Int->Int->Int
 |[],_=>1
 |q::qs,c=>(if c%2=1 then q else 1)*JA qs (c/2)
def P8:List Int:=[2,3,5,7,11,13,17,19]
theorem ny:∀r∈P8,aM r=true:=by
 intro r hr;simp only[P8,List.mem_cons,List.not_mem_nil,or_false] at hr;rcases hr with rfl|rfl|rfl|rfl|rfl|rfl|rfl|rfl
 .exact cv
 .exact c8 (m:=0) (n:=3) (by decide) (by decide) (by decide) (by decide)
 .exact c8 (m:=0) (n:=5) (by decide) (by decide) (by decide) (by decide)
 .exact c8 (m:=0) (n:=7) (by decide) (by decide) (by decide) (by decide)
 .exact c8 (m:=1) (n:=11) (by decide) (by decide) (by decide) (by decide)
 .exact c8 (m:=1) (n:=13) (by decide) (by decide) (by decide) (by decide)
 .exact c8 (m:=1) (n:=17) (by decide) (by decide) (by decide) (by decide)
 .exact c8 (m:=1) (n:=19) (by decide) (by decide) (by decide) (by decide)
noncomputable def JR(c:Int):Int:=if c%4=1 then pf (20+c/4%30000) else if c%4=3 then pf (32768+c/4%1000000) else 1
noncomputable def DY(c:Int):Int:=(1-2*(c%2))*(JA P8 (c/2)*JR (c/512))
noncomputable def Hu(u:Int×Int):Int×(Int×Int):=((EW u.1 u.2).1,fr (EW u.1 u.2).2 u.2)
theorem tO:∀(a b:List (Int×Int)),pp (a++b)=pp a*pp b
 |[],b=>by simp[pp]
 |u::a,b=>by rw[List.cons_append,pp,pp,tO a b,Int.mul_assoc]
theorem jV:∀{us:List (Int×Int)} {a b:Int},fg a us b->∀i,∃b',fg a (us.take i) b'
 |us,a,b,h,0=>⟨a+1,by rw[List.take_zero];show a<a+1;omega⟩
 |[],a,b,h,i+1=>⟨b,h⟩
 |u::us,a,b,h,i+1=>by
  obtain⟨b',h'⟩:=jV h.2.2.2 i;exact⟨b',h.1,h.2.1,h.2.2.1,h'⟩
theorem ke:∀{us:List (Int×Int)} {a b:Int},fg a us b->∀i,∃a',fg a' (us.drop i) b/\a<=a'
 |us,a,b,h,0=>⟨a,h,Int.le_refl _⟩
 |[],a,b,h,i+1=>⟨a,h,Int.le_refl _⟩
 |u::us,a,b,h,i+1=>by
  obtain⟨a',h',hl⟩:=ke h.2.2.2 i;exact⟨a',h',by have:=h.1;omega⟩
theorem gG{a b:Int}(ha:0<a)(hb:1<=b):a<=a*b:=by
 have:a*1<=a*b:=Int.mul_le_mul_of_nonneg_left hb (by omega);omega
theorem Bw{us:List (Int×Int)}{b sg R:Int}(hr:fg 1 us b)(hR:0<R)(hs:sg=1\/sg=-1)(i:Nat):
  ((us.take i).foldl jy (sg,R)).1.natAbs<=(pp us*(R*R)).natAbs/\0<((us.take i).foldl jy (sg,R)).2/\((us.take i).foldl jy (sg,R)).2<=pp us*(R*R):=by
 obtain⟨b',h'⟩:=jV hr i;obtain⟨a'',h'',hl⟩:=ke hr i;have hS:gp sg:=by rcases hs with z|z<;>rw[z];exact gP;exact k_ gP
 have hQ:∀q,aM q=true->1<q->¬q∣sg:=fun q h1 h2 h3=>by
  rcases hs with z|z
  .rw[z] at h3;have:=Int.le_of_dvd (by decide) h3;omega
  .rw[z] at h3;have:=Int.le_of_dvd (by decide) (Int.dvd_neg.mp h3);omega
 obtain⟨a1,a2,a3⟩:=ur (c:=(sg,R)) h' hS hQ hR;have e:pp us=pp (us.take i)*pp (us.drop i):=by rw[<-tO,List.take_append_drop]
 have p1:=gM (by decide) h';have p2:=gM (show 0<=a'' by omega) h'';have RR:=Int.mul_pos hR hR;dsimp only at a3;generalize (us.take i).foldl jy (sg,R)=c at *
 have n1:(c.1.natAbs:Int)*(c.2*c.2)=pp (us.take i)*(R*R):=by
  have h1:0<c.2*c.2:=Int.mul_pos a2 a2;have h2:0<pp (us.take i)*(R*R):=Int.mul_pos p1 RR;generalize c.2*c.2=X at *;generalize R*R=Y at *;generalize pp (us.take i)=Z at *;have h3:=congrArg Int.natAbs a3;rw[Int.natAbs_mul,Int.natAbs_mul,Int.natAbs_mul,show sg.natAbs=1 by rcases hs with z|z<;>rw[z]<;>rfl,Nat.one_mul] at h3;have h4:((c.1.natAbs*X.natAbs:Nat):Int)=((Y.natAbs*Z.natAbs:Nat):Int):=by rw[h3]
  rw[Int.natCast_mul,Int.natCast_mul,show(X.natAbs:Int)=X by omega,show(Y.natAbs:Int)=Y by omega,show(Z.natAbs:Int)=Z by omega] at h4;rw[h4,Int.mul_comm]
 have k1:pp (us.take i)*(R*R)<=pp us*(R*R):=by
  rw[e];exact Int.mul_le_mul_of_nonneg_right (gG p1 (by omega)) (by omega)
 have n0:0<(c.1.natAbs:Int):=by have:=a1.1;omega
 have c2:0<c.2*c.2:=Int.mul_pos a2 a2;have m1:=gG n0 (show 1<=c.2*c.2 by omega);have m2:c.2*c.2<=(c.1.natAbs:Int)*(c.2*c.2):=by rw[Int.mul_comm (c.1.natAbs:Int)];exact gG c2 (by omega)
 have m3:=gG a2 (show 1<=c.2 by omega);exact⟨by omega,a2,by omega⟩
theorem BL{us:List (Int×Int)}{b:Int}(hr:fg 1 us b){i:Nat}{u:Int×Int}(hu:us[i]?=some u):2<=u.1/\1<=u.2/\u.1^(u.2/2).toNat<=pp us/\u.1<=pp us/\(u.2:Int)<pp us:=by
 have hm:=iu hr u (List.mem_of_getElem? hu);have h2:=au hm.1;have hi:i<us.length:=(List.getElem?_eq_some_iff.mp hu).1
 have e:us.drop i=u::us.drop (i+1):=by
  rw[List.drop_eq_getElem_cons hi];rw[List.getElem?_eq_getElem hi] at hu;rw[Option.some.inj hu]
 obtain⟨b',h'⟩:=jV hr i;obtain⟨a'',h'',hl⟩:=ke hr (i+1)
 have e2:pp us=pp (us.take i)*(u.1^u.2.toNat*pp (us.drop (i+1))):=by
  have:pp us=pp (us.take i++us.drop i):=by rw[List.take_append_drop]
  rw[this,tO,e,pp]
 have p1:=gM (by decide) h';have p2:=gM (show 0<=a'' by omega) h'';have p3:0<u.1^u.2.toNat:=Int.pow_pos (by omega)
 have l1:u.1^u.2.toNat<=pp us:=by
  rw[e2];have:=gG p3 (show 1<=pp (us.drop (i+1)) by omega);have q:=Int.mul_pos p3 p2;have w:u.1^u.2.toNat*pp (us.drop (i+1))<=pp (us.take i)*(u.1^u.2.toNat*pp (us.drop (i+1))):=by rw[Int.mul_comm (pp (us.take i))];exact gG q (by omega)
  omega
 have mono:∀m n:Nat,m<=n->u.1^m<=u.1^n:=fun m n hmn=>by
  obtain⟨d,rfl⟩:∃d,n=m+d:=⟨n-m,by omega⟩;rw[Int.pow_add];exact gG (Int.pow_pos (by omega)) (by have:=Int.pow_pos (n:=u.1) (m:=d) (by omega);omega)
 refine⟨h2,hm.2,Int.le_trans (mono _ _ (by omega)) l1,?_,?_⟩
 .have:=mono 1 u.2.toNat (by omega);rw[Int.pow_succ,Int.pow_zero,Int.one_mul] at this;omega
 .have:((u.2.toNat:Nat):Int)<u.1^u.2.toNat:=by
   have g:∀n:Nat,(n:Int)<u.1^n:=fun n=>by
    induction n with
    |zero=>rw[Int.pow_zero];decide
    |succ n ih =>
     rw[Int.pow_succ];have:u.1^n*2<=u.1^n*u.1:=Int.mul_le_mul_of_nonneg_left h2 (Int.le_of_lt (Int.pow_pos (by omega)));omega
   exact g _
  omega
theorem rD{α:Type}{l:List α}{i:Nat}{a:α}(h:l[i]?=some a):l.drop i=a::l.drop (i+1):=by
 have hi:i<l.length:=(List.getElem?_eq_some_iff.mp h).1;rw[List.drop_eq_getElem_cons hi];rw[List.getElem?_eq_getElem hi] at h;rw[Option.some.inj h]
theorem Ee{b p:Int}(hp:aM p=true)(h2:p≠2)(hb:¬p∣b):cls (p*b) p=(1,bu b p):=by
 have hp2:=au hp;unfold cls;rw[show p*b=b*p^1 by rw[Int.pow_one];exact Int.mul_comm ..,lP hp2 hb,if_neg h2];rfl
theorem o7{a p:Int}(hp:aM p=true)(h2:p≠2)(ha:¬p∣a):cls a p=(0,bu a p):=by
 rw[hU (au hp) ha,if_neg h2]
theorem jO{a b p:Int}(hp:aM p=true)(h2:p≠2)(ha:¬p∣a)(hb:¬p∣b):aj a (p*b) p=decide (bu a p=1):=by
 have hp2:=au hp;rw[aZ (by omega) h2,Ee hp h2 hb,o7 hp h2 ha];unfold i7;simp
theorem cV{p:Int}(hp:aM p=true):¬p∣-1:=fun h=>by
 have:=au hp;have:=Int.le_of_dvd (by decide) (Int.dvd_neg.mp h);omega
theorem iL{p:Int}(hp:aM p=true)(h2:p≠2):p%2=1:=by
 apply Classical.byContradiction;intro hn;rcases bA.mp hp with z|z
 .omega
 .omega
theorem b_{a:Int}(h:a%2=1):cls a 2=(0,a%8):=by
 rw[hU (by decide) (by omega),if_pos rfl]
theorem IE{p:Int}(hp:aM p=true)(h2:p≠2):aj p (-1) p=!decide (p%4=3)/\aj (-p) (-1) p=!decide (p%4=3):=by
 have hp2:=au hp;have m1:=cV hp;have d1:¬p∣1:=fun h=>m1 (Int.dvd_neg.mpr h)
 have key:decide (bu (-1) p=1)=!decide (p%4=3):=by
  rw[o3 hp h2];by_cases z:p%4=3
  .rw[if_pos z];simp[z]
  .rw[if_neg z];simp[z]
 constructor
 .rw[<-eQ (.inr hp) (by omega) (by decide)];have:=jO hp h2 m1 d1;rw[Int.mul_one] at this;rw[this,key]
 .rw[<-eQ (.inr hp) (by omega) (by decide)];have:=jO hp h2 m1 m1;rw[show p*-1=-p by omega] at this;rw[this,key]
theorem Jj{p:Int}(ho:p%2=1):aj p (-1) 2=!decide (p%4=3):=by
 rw[aR,b_ ho,b_ (a:=-1) (by decide)];have e:p%8%4=p%4:=by omega
 unfold fh;simp only[e];by_cases z:p%4=3
 .simp[z,b1]
 .simp[z,b1]
theorem IW{p:Int}(h:0<p):aj p (-1) 0=true/\aj (-p) (-1) 0=false:=by
 rw[aF,aF];constructor
 .simp[h]
 .simp;omega
def dy(L:List Int)(f:Int->Bool):Bool:=decide ((L.filter fun p=>!f p).length%2=0)
theorem bg(p:Int)(L:List Int)(f:Int->Bool):dy (p::L) f=(f p==dy L f):=by
 unfold dy;rw[List.filter_cons];cases f p
 .simp only[Bool.not_false,if_true,List.length_cons];by_cases h:(L.filter fun p=>!f p).length%2=0
  .have:¬((L.filter fun p=>!f p).length+1)%2=0:=by omega
   simp[h,this]
  .have:((L.filter fun p=>!f p).length+1)%2=0:=by omega
   simp[h,this]
 .simp
theorem jz(f:Int->Bool):dy [] f=true:=rfl
theorem iO(f g:Int->Bool):∀L:List Int,dy L (fun p=>f p==g p)=(dy L f==dy L g)
 |[]=>rfl
 |p::L=>by
  rw[bg,bg,bg,iO f g L];generalize f p=a;generalize g p=b;generalize dy L f=c;generalize dy L g=d;revert a b c d;decide
theorem dU{f g:Int->Bool}{L:List Int}(h:∀p∈L,f p=g p):dy L f=dy L g:=by
 unfold dy;rw[List.filter_congr fun p hp=>by rw[h p hp]]
theorem lK{f:Int->Bool}{L S:List Int}(hL:L.Nodup)(hS:S.Nodup)(hsub:∀p∈S,p∈L)(h:∀p∈L,p∉S->f p=true):dy L f=dy S f:=by
 unfold dy
 have:(L.filter fun p=>!f p).Perm (S.filter fun p=>!f p):=by
  refine(List.perm_ext_iff_of_nodup (hL.filter _) (hS.filter _)).mpr fun a=>?_;rw[List.mem_filter,List.mem_filter];constructor
  .rintro⟨h1,h2⟩;refine⟨Classical.byContradiction fun hn=>?_,h2⟩;rw[h a h1 hn] at h2;cases h2
  .rintro⟨h1,h2⟩;exact⟨hsub a h1,h2⟩
 rw[this.length_eq]
theorem gC{f:Int->Bool}{L:List Int}(h:∀p∈L,f p=true):dy L f=true:=by
 unfold dy;rw[List.filter_eq_nil_iff.mpr fun p hp=>by rw[h p hp];decide];rfl
structure p9(L:List Int):Prop where
 nd:L.Nodup
 pr:∀p∈L,aM p=true
 two:(2:Int)∈L
def Fj(L:List Int)(x:Int):Prop:=x≠0/\∀q,aM q=true->q∣x->q∈L
theorem xP{L:List Int}(h:p9 L):(0:Int)∉L:=fun z=>by have:=au (h.pr 0 z);omega
theorem p9.all{L:List Int}(h:p9 L):((0:Int)::L).Nodup:=List.nodup_cons.mpr ⟨xP h,h.nd⟩
theorem p9.pl{L:List Int}(h:p9 L):∀p∈(0:Int)::L,Pl p:=fun p hp=>by
 rcases List.mem_cons.mp hp with z|z
 .exact .inl z
 .exact .inr (h.pr p z)
noncomputable def kr(L:List Int)(x y:Int):Bool:=dy (0::L) (aj x y)
theorem iM{L:List Int}(h:p9 L){x y:Int}(hx:x≠0)(hy:y≠0):kr L y x=kr L x y:=dU fun p hp=>eQ (h.pl p hp) hx hy
theorem wx{L:List Int}(h:p9 L){x y z:Int}(hx:x≠0)(hy:y≠0)(hz:z≠0):kr L x (y*z)=(kr L x y==kr L x z):=by
 unfold kr;rw[<-iO];exact dU fun p hp=>f9 (h.pl p hp) hx hy hz
theorem aN{p q:Int}(hp:aM p=true)(hq:aM q=true)(h:p∣q):p=q:=by
 have h1:=au hp;have h2:=au hq;apply Classical.byContradiction;intro hn;have hg:=iD (p:=p) (d:=q) hp;by_cases z:q∣p
 .have a:=Int.le_of_dvd (by omega) h;have b:=Int.le_of_dvd (by omega) z;omega
 .have e:=iD (p:=q) (d:=p) hq z;have:=Int.dvd_coe_gcd (Int.dvd_refl p) h;rw[e] at this;have:=Int.le_of_dvd (by decide) this;omega
theorem lg{x y p:Int}(hp:aM p=true)(h2:p≠2)(hx:∀q,aM q=true->q∣x->q≠p)(hy:∀q,aM q=true->q∣y->q≠p):aj x y p=true :=
 eI hp h2 (fun z=>hx p hp z rfl) fun z=>hy p hp z rfl
theorem eG{q:Int}(hq:aM q=true):∀r,aM r=true->r∣q->r=q:=fun r hr h=>aN hr hq h
theorem CD:∀r,aM r=true->¬r∣(-1:Int):=fun r hr=>cV hr
theorem Fw{f:Int->Bool}(a b:Int):dy [a,b] f=(f a==f b):=by
 rw[bg,bg,jz];cases f a<;>cases f b<;>rfl
theorem Iz{f:Int->Bool}(a b c:Int):dy [a,b,c] f=(f a==(f b==f c)):=by
 rw[bg,bg,bg,jz];cases f a<;>cases f b<;>cases f c<;>rfl
theorem Ib{L:List Int}(h:p9 L):kr L (-1) (-1)=true:=by
 unfold kr;rw[lK (S:=[0,2]) h.all (by decide) (fun p hp=>?_) (fun p hp hn=>?_),Fw,aF,aR,b_ (a:=-1) (by decide)]
 .rfl
 .simp only[List.mem_cons,List.not_mem_nil,or_false] at hp;rcases hp with rfl|rfl
  .exact List.mem_cons_self
  .exact List.mem_cons_of_mem _ h.two
 .simp only[List.mem_cons,List.not_mem_nil,or_false,not_or] at hn hp;have:=h.pr p (hp.resolve_left hn.1);exact eI this hn.2 (cV this) (cV this)
theorem yH:cls 2 2=(1,1):=by
 unfold cls;rw[show a9 2 2=(1,1) from hW (by decide) ⟨by decide,by decide,by omega⟩];rfl
theorem E6{L:List Int}(h:p9 L):kr L (-1) 2=true:=by
 refine gC fun p hp=>?_;rcases List.mem_cons.mp hp with rfl|z
 .rw[aF];rfl
 have hp':=h.pr p z;by_cases h2:p=2
 .subst h2;rw[aR,yH,b_ (a:=-1) (by decide)];rfl
 .exact lg hp' h2 (fun q hq hd=>absurd hd (CD q hq)) fun q hq hd e=>h2 (by rw[<-e];exact eG cv q hq hd)
theorem Gy{L:List Int}{q:Int}(h:p9 L)(hq:q∈L):∀p∈[2,q],p∈(0:Int)::L:=fun p hp=>by
 simp only[List.mem_cons,List.not_mem_nil,or_false] at hp;rcases hp with rfl|rfl
 .exact List.mem_cons_of_mem _ h.two
 .exact List.mem_cons_of_mem _ hq
theorem ES{L:List Int}(h:p9 L){q:Int}(hq:q∈L)(h2:q≠2):kr L (-1) q=true:=by
 have hp:=h.pr q hq;have hg:=au hp;rw[<-iM h (by decide) (by omega)];unfold kr;rw[lK (S:=[2,q]) h.all (by simp;omega) (Gy h hq) (fun p hp' hn=>?_),Fw,Jj (iL hp h2),(IE hp h2).1]
 .simp
 .simp only[List.mem_cons,List.not_mem_nil,or_false,not_or] at hn hp';rcases hp' with rfl|z
  .exact(IW (by omega)).1
  .exact lg (h.pr p z) hn.1 (fun r hr hd e=>hn.2 (by rw[<-e];exact eG hp r hr hd)) fun r hr hd=>absurd hd (CD r hr)
theorem yS{L:List Int}(h:p9 L){x:Int}(hx:x≠0):kr L x x=kr L (-1) x:=by
 rw[iM (x:=x) (y:=-1) h hx (by decide)];exact dU fun p hp=>og (h.pl p hp) hx
theorem Gz{L:List Int}(h:p9 L){q:Int}(hq:q∈L)(h2:q≠2):kr L 2 q=true:=by
 have hp:=h.pr q hq;have hg:=au hp;have ho:=iL hp h2;have n1:¬q∣2:=fun z=>h2 (eG cv q hp z);have d1:¬q∣1:=fun z=>cV hp (Int.dvd_neg.mpr z);unfold kr;rw[lK (S:=[2,q]) h.all (by simp;omega) (Gy h hq) (fun p hp' hn=>?_),Fw,aR,yH,b_ ho]
 .have e:=jO hp h2 n1 d1;rw[Int.mul_one] at e;rw[e,Bj hp h2];have h8:q%8=1\/q%8=3\/q%8=5\/q%8=7:=by omega
  rcases h8 with z|z|z|z<;>rw[z]<;>rfl
 .simp only[List.mem_cons,List.not_mem_nil,or_false,not_or] at hn hp';rcases hp' with rfl|z
  .rw[aF];rfl
  .exact lg (h.pr p z) hn.1 (fun r hr hd e=>hn.1 (by rw[<-e];exact eG cv r hr hd)) (fun r hr hd e=>hn.2 (by rw[<-e];exact eG hp r hr hd))
theorem Jo{L:List Int}(h:p9 L){q r:Int}(hq:q∈L)(h2:q≠2)(hr:r∈L)(hr2:r≠2)(hne:q≠r):kr L q r=true:=by
 have hp:=h.pr q hq;have hp':=h.pr r hr;have hg:=au hp;have hg':=au hp';have ho:=iL hp h2;have ho':=iL hp' hr2;have n1:¬q∣r:=fun z=>hne (eG hp' q hp z);have n2:¬r∣q:=fun z=>hne (eG hp r hp' z).symm;have d1:¬q∣1:=fun z=>cV hp (Int.dvd_neg.mpr z);have d2:¬r∣1:=fun z=>cV hp' (Int.dvd_neg.mpr z);unfold kr;rw[lK (S:=[2,q,r]) h.all (by simp;omega) (fun p hp1=>?_) (fun p hp1 hn=>?_),Iz,aR,b_ ho,b_ ho']
 .have e1:aj q r q=decide (bu r q=1):=by
   rw[<-eQ (.inr hp) (by omega) (by omega)];have e:=jO hp h2 n1 d1
   rwa [Int.mul_one] at e
  have e2:aj q r r=decide (bu q r=1):=by
   have e:=jO hp' hr2 n2 d2
   rwa [Int.mul_one] at e
  rw[e1,e2];have ex:=xR hp h2 hp' hr2 hne
  have t:fh (0,q%8) (0,r%8)=!decide (q%4=3/\r%4=3):=by
   unfold fh;have a1:q%8%4=q%4:=by omega
   have a2:r%8%4=r%4:=by omega
   simp only[a1,a2];by_cases z:q%4=3<;>by_cases z':r%4=3<;>simp[z,z',b1]
  rw[t];by_cases z:q%4=3/\r%4=3
  .rw[if_pos z] at ex;rw[decide_eq_true z];rcases dc n1 with u|u<;>rcases dc n2 with v|v<;>rw[u,v] at ex ⊢<;>simp_all
  .rw[if_neg z] at ex;rw[decide_eq_false z];rcases dc n1 with u|u<;>rcases dc n2 with v|v<;>rw[u,v] at ex ⊢<;>simp_all
 .simp only[List.mem_cons,List.not_mem_nil,or_false] at hp1;rcases hp1 with rfl|rfl|rfl
  .exact List.mem_cons_of_mem _ h.two
  .exact List.mem_cons_of_mem _ hq
  .exact List.mem_cons_of_mem _ hr
 .simp only[List.mem_cons,List.not_mem_nil,or_false,not_or] at hn hp1;rcases hp1 with rfl|z
  .rw[aF];simp;omega
  .exact lg (h.pr p z) hn.1 (fun s hs hd e=>hn.2.1 (by rw[<-e];exact eG hp s hs hd)) (fun s hs hd e=>hn.2.2 (by rw[<-e];exact eG hp' s hs hd))
theorem mD{L:List Int}{Q:Int->Prop}(h1:Q 1)(hm:Q (-1))(hq:∀q∈L,aM q=true->Q q)(hmul:∀x y,x≠0->y≠0->Q x->Q y->Q (x*y)):∀(n:Nat) (x:Int),x.natAbs<=n->Fj L x->Q x
 |0,x,hn,h=>absurd (show x=0 by omega) h.1
 |n+1,x,hn,h=>by
  have h0:=h.1;by_cases z:x=1
  .rw[z];exact h1
  by_cases z':x=-1
  .rw[z'];exact hm
  obtain⟨q,q1,c,hc⟩:=eK (k:=x.natAbs) (by omega);have q2:=au q1;have hd:q∣x:=Int.dvd_natAbs.mp ⟨c,hc⟩;obtain⟨d,rfl⟩:=hd;have d0:d≠0:=by rintro rfl;exact h0 (Int.mul_zero _)
  have hl:d.natAbs<=n:=by
   have e:(q*d).natAbs=q.natAbs*d.natAbs:=Int.natAbs_mul ..;have:2*d.natAbs<=q.natAbs*d.natAbs:=Nat.mul_le_mul_right _ (by omega);omega
  refine hmul q d (by omega) d0 (hq q (h.2 q q1 ⟨d,rfl⟩) q1) (mD h1 hm hq hmul n d hl ⟨d0,fun r hr hd=>h.2 r hr ?_⟩);obtain⟨e,rfl⟩:=hd;exact⟨q*e,by grind⟩
theorem wB{L:List Int}(h:p9 L){x:Int}(hx:x≠0):kr L x 1=true:=gC fun p hp=>by
 have:=md (a:=x) (r:=1) (h.pl p hp) hx (by decide)
 rwa [Int.mul_one] at this
theorem mP{L:List Int}(h:p9 L){x y:Int}(hx:Fj L x)(hy:Fj L y):kr L x y=true:=by
 have base:∀g,(g=-1\/g∈L)->∀y,Fj L y->g≠0/\kr L g y=true:=fun g hg y hy=>by
  have g0:g≠0:=by
   rcases hg with rfl|hg
   .decide
   .have:=au (h.pr g hg);omega
  refine⟨g0,mD (L:=L) (Q:=fun y=>kr L g y=true) (wB h g0) ?_ (fun q hq hq'=>?_) (fun x y hx hy h1 h2=>by rw[wx h g0 hx hy,h1,h2];rfl) y.natAbs y (Nat.le_refl _) hy⟩
  .rcases hg with rfl|hg
   .exact Ib h
   .rw[<-iM h g0 (by decide)];by_cases z:g=2
    .rw[z];exact E6 h
    .exact ES h hg z
  .have q2:=au hq';rcases hg with rfl|hg
   .by_cases z:q=2
    .rw[z];exact E6 h
    .exact ES h hq z
   .by_cases e:g=q
    .subst e;rw[yS h g0];by_cases z:g=2
     .rw[z];exact E6 h
     .exact ES h hg z
    by_cases z:g=2
    .rw[z];exact Gz h hq (by omega)
    by_cases z':q=2
    .rw[z',iM h (by decide) g0];exact Gz h hg z
    .exact Jo h hg z hq z' e
 have fl:∀x y,kr L y x=true->x≠0->y≠0->kr L x y=true:=fun x y e h1 h2=>by rw[iM h h2 h1];exact e
 rw[iM h hy.1 hx.1];exact mD (L:=L) (Q:=fun x=>kr L y x=true) (wB h hy.1) (fl _ _ (base _ (.inl rfl) y hy).2 hy.1 (by decide)) (fun q hq hq'=>fl _ _ (base q (.inr hq) y hy).2 hy.1 (base q (.inr hq) y hy).1) (fun a b ha hb h1 h2=>by rw[wx h hy.1 ha hb,h1,h2];rfl) x.natAbs x (Nat.le_refl _) hx
theorem vi{k:Int}(h1:1<=k)(h2:k<1073741824):Tame k:=by
 by_cases hs:tU k
 .exact .inl ⟨k,1,hs,by omega,by decide,by omega⟩
 .have ⟨q,hq⟩:=Classical.not_forall.mp hs;have ⟨q1,hq'⟩:=Classical.not_imp.mp hq;have ⟨⟨f,hf⟩,q3⟩:=Classical.not_imp.mp hq'
  have f0:0<f:=by
   apply Classical.byContradiction;intro hn;have:q*f<=0:=Int.mul_nonpos_of_nonneg_of_nonpos (by omega) (by omega);omega
  have hl:f<32768:=by
   apply Classical.byContradiction;intro hn;have:32768*32768<=q*f:=Int.mul_le_mul (by omega) (by omega) (by decide) (by omega);omega
  have hq2:q<1073741824:=by
   have:q*1<=q*f:=Int.mul_le_mul_of_nonneg_left (by omega) (by omega);omega
  exact .inr ⟨f,q,yE f0 hl,f0,q1,hq2,by rw[hf];exact Int.mul_comm ..⟩
theorem vK:∀(n:Nat) (x:Int),x≠0->x.natAbs<=n->∃f s,gp f/\0<s/\x=f*(s*s)
 |0,x,h0,hn=>absurd (show x=0 by omega) h0
 |n+1,x,h0,hn=>by
  by_cases hs:gp x
  .exact⟨x,1,hs,by decide,by omega⟩
  .have hs':¬∀d:Int,2<=d->¬d*d∣x:=fun z=>hs ⟨h0,z⟩;have ⟨d,hd⟩:=Classical.not_forall.mp hs';have ⟨d2,hd'⟩:=Classical.not_imp.mp hd;have ⟨c,hc⟩:=Classical.not_not.mp hd';have c0:c≠0:=by rintro rfl;exact h0 (by rw[hc,Int.mul_zero])
   have hl:c.natAbs<=n:=by
    have e:x.natAbs=(d*d).natAbs*c.natAbs:=by rw[hc,Int.natAbs_mul]
    have:2<=(d*d).natAbs:=by
     have:2*2<=d*d:=Int.mul_le_mul d2 d2 (by decide) (by omega);omega
    have:2*c.natAbs<=(d*d).natAbs*c.natAbs:=Nat.mul_le_mul_right _ this;omega
   obtain⟨f,s,h1,h2,h3⟩:=vK n c c0 hl;exact⟨f,s*d,h1,Int.mul_pos h2 (by omega),by rw[hc,h3];grind⟩
theorem A7{x f s:Int}(hs:0<s)(e:x=f*(s*s)):f.natAbs<=x.natAbs:=by
 rw[e,Int.natAbs_mul];have:1<=(s*s).natAbs:=by have:=Int.mul_pos hs hs;omega
 have:=Nat.mul_le_mul_left f.natAbs this;omega
theorem zr:∀{us:List (Int×Int)} {a b:Int},0<=a->fg a us b->(2:Int)^us.length<=pp us
 |[],_,_,_,_=>by show(1:Int)<=1;decide
 |u::us,a,b,ha,h=>by
  obtain⟨h1,h2,h3,h4⟩:=h;have h5:=au h2;have ih:=zr (by omega) h4
  have hp:(2:Int)<=u.1^u.2.toNat:=by
   rw[show u.2.toNat=(u.2.toNat-1)+1 by omega,Int.pow_succ];have:(0:Int)<u.1^(u.2.toNat-1):=Int.pow_pos (by omega);have:1*2<=u.1^(u.2.toNat-1)*u.1:=Int.mul_le_mul (by omega) h5 (by decide) (by omega);omega
  rw[List.length_cons,Int.pow_succ,Int.mul_comm];exact Int.mul_le_mul hp ih (Int.le_of_lt (Int.pow_pos (by decide))) (by omega)
theorem vD{k:Int}(h1:1<=k)(h2:k<1073741824):(kR k).length<30:=by
 obtain⟨⟨b,hr⟩,e⟩:=pe h1;have:=zr (by decide) hr;rw[e] at this;apply Classical.byContradiction;intro hn;obtain⟨d,hd⟩:∃d,(kR k).length=30+d:=⟨(kR k).length-30,by omega⟩;rw[hd,Int.pow_add] at this;have h3:(1:Int)<=2^d:=by have:=Int.pow_pos (n:=(2:Int)) (m:=d) (by decide);omega
 have:(2:Int)^30*1<=2^30*2^d:=Int.mul_le_mul_of_nonneg_left h3 (by decide);have:(2:Int)^30=1073741824:=by decide
 omega
theorem Av:∀{us:List (Int×Int)} {a b:Int},fg a us b->∀u∈us,u.1∣pp us
 |[],_,_,_,u,h=>absurd h List.not_mem_nil
 |v::us,a,b,hr,u,h=>by
  rcases List.mem_cons.mp h with rfl|z
  .show u.1∣u.1^u.2.toNat*pp us;have:=hr.2.2.1;rw[show u.2.toNat=(u.2.toNat-1)+1 by omega,Int.pow_succ];exact⟨u.1^(u.2.toNat-1)*pp us,by grind⟩
  .exact Int.dvd_trans (Av hr.2.2.2 u z) ⟨v.1^v.2.toNat,Int.mul_comm ..⟩
theorem zi{q:Int}(hq:aM q=true):∀{us:List (Int×Int)} {a b:Int},fg a us b->q∣pp us->∃u∈us,u.1=q
 |[],_,_,_,h=>by
  have:=Int.le_of_dvd (by decide) (show q∣1 from h);have:=au hq;omega
 |v::us,a,b,hr,h=>by
  rcases euclid hq (show q∣v.1^v.2.toNat*pp us from h) with z|z
  .have:∀n:Nat,q∣v.1^n->q∣v.1:=fun n=>by
    induction n with
    |zero =>
     intro h;rw[Int.pow_zero] at h;have:=Int.le_of_dvd (by decide) h;have:=au hq;omega
    |succ n ih =>
     intro h;rw[Int.pow_succ] at h;rcases euclid hq h with y|y
     .exact ih y
     .exact y
   exact⟨v,List.mem_cons_self,(aN hq hr.2.1 (this _ z)).symm⟩
  .obtain⟨u,h1,h2⟩:=zi hq hr.2.2.2 z;exact⟨u,List.mem_cons_of_mem _ h1,h2⟩
theorem iC{k q:Int}(hk:1<=k):q∈(kR k).map (·.1)↔aM q=true/\q∣k:=by
 obtain⟨⟨b,hr⟩,e⟩:=pe hk;rw[List.mem_map];constructor
 .rintro⟨u,h1,rfl⟩;exact⟨(iu hr u h1).1,e▸Av hr u h1⟩
 .rintro⟨h1,h2⟩;rw[<-e] at h2;exact zi h1 hr h2
theorem uC{p:Int}(hp:aM p=true)(h2:p≠2):NR p:=by
 obtain⟨g,h1,_,h3⟩:=C0 hp h2;exact⟨g,h1,h3⟩
structure Kb(k m r b f g:Int)(u v s:Int):Prop where
 r0:1<=r
 b0:0<=b
 lt:b<r
 rm:r<=m
 gc:Int.gcd r b=1
 fr:m∣k*f-r
 fb:m∣k*g-b
 sg:s=1\/s=-1
 fu:f=-s*u
 gv:g=s*v
 u0:0<=u
 v0:0<=v
 um:u<=m
 sum:u*b+v*r=m
structure Kd(k a d:Int)(ps:List Int):Prop where
 d1:1<=d
 a0:0<=a
 a1:a<d
 pr:∀q,aM q=true->q∣d->q∈ps
 sq:∀q∈ps,q∣a*a-k/\q∣d
theorem qF:∀{us:List (Int×Int)} {a b:Int},fg a us b->(us.map (·.1)).Pairwise (·<·)/\∀q∈us.map (·.1),a<q
 |[],_,_,_=>⟨List.Pairwise.nil,fun _ h=>absurd h List.not_mem_nil⟩
 |u::us,a,b,h=>by
  obtain⟨h1,h2,h3,h4⟩:=h;obtain⟨i1,i2⟩:=qF h4;refine⟨List.pairwise_cons.mpr ⟨i2,i1⟩,fun q hq=>?_⟩;rcases List.mem_cons.mp hq with rfl|z
  .exact h1
  .have:=i2 q z;omega
def dp:List (Int×Int)->Int
 |[]=>1
 |u::us=>u.1*dp us
end Q
namespace L2.EP
open PySem PySem.Spec PyProof.Rows
section
variable{X:Cx}{Γ:aE}{D:GD}{α β:Type}[Py α][Py β]{e e1 e2:Expr}{b b1 b2:Bool}{pos:Pos}{rest:List Stmt}
theorem GX{i j:Int}(ha:E X Γ e1 b1 i)(hb:E X Γ e2 b2 j)(hc:zW i j):E X Γ (.BinOp e1 .LShift e2 pos) true (i*2^j.toNat):=by
 with_unfolding_all
  exact uQ (g:=fun i j=>i*2^j.toNat) FC ha hb hc
theorem BH:IZ X "int.bit_length" (fun x xs H Q=>∃i,x=.int i/\xs=[]/\Q (.int (Builtin.Int.intBits i:Nat)) H):=by
 intro pins s σ H x xs v us Q I r rs h;obtain⟨i,rfl,rfl,q⟩:=h;obtain⟨t,rfl⟩:=r;cases rs;exact call_int_bit_length ⟨.int (Builtin.Int.intBits i:Nat),H,I.tok _,⟨_,rfl⟩,q⟩
theorem EF{i:Int}{apos:Pos}(ha:E X Γ e b i)(hbase:attributeBase e "bit_length" X.env (eval e X.env)=eval e X.env:=by rfl)(hline:(apos.endLine==pos.line)=true:=by rfl):E X Γ (.Call (.Attribute e "bit_length" apos) [] [] pos) true ((Builtin.Int.intBits i:Nat):Int):=by
 with_unfolding_all
  exact aG (E2 PySem.F.plainAttrs_int PySem.F.slot_int_bit_length PySem.F.type_int_bit_length BH ha hbase hline) fun σ H Q ⟨H0,F,O,S,q⟩=>⟨H0,F,O,S,fun v H1 s1 r1=>by
    cases r1
    exact⟨rfl,i,rfl,rfl,q _ H1 s1 rfl⟩⟩
theorem yG{i:Int}{u:Int×Int}:CV X .In i u (decide (u.1=i) || decide (u.2=i)):=⟨_,oh,fun N N' H v w Q h1 h2 q=>by
 obtain⟨p,x,y,rfl,sq,g1,g2⟩:=h2;cases h1;cases g1;cases g2;refine⟨p,_,rfl,.inr (mh (aD.refl _) sq),rfl,rfl,?_⟩
 simpa [FU,AD,Bool.beq_eq_decide_eq] using q⟩
theorem fT{K:PySem.W.Frag}{N:Nn}{H:Hp}:∀{vs:List V} {xs:List Int},Paired (fun x (b:Int)=>Py.rp K N H x b) vs xs->vs=xs.map V.int
 |_,_,.nil=>rfl
 |_,_,.cons h r=>by rw[fT r,show _=V.int _ from h];rfl
theorem nj{i:Int}:∀xs:List Int,FU (.int i) (xs.map V.int)=decide (i∈xs)
 |[]=>by simp[FU]
 |x::xs=>by
  have:=nj (i:=i) xs;unfold FU at *;rw[List.map_cons,List.any_cons,this];simp only[AD,List.mem_cons,Bool.beq_eq_decide_eq,Bool.decide_or];congr 1;exact decide_eq_decide.mpr eq_comm
theorem qa{i:Int}{xs:List Int}:CV X .In i xs (decide (i∈xs)):=⟨_,oh,fun N N' H v w Q h1 h2 q=>by
 obtain⟨p,vs,rfl,sq,n,r⟩:=h2;cases h1;refine⟨p,vs,rfl,.inl sq,rfl,?_,?_⟩
 .rw[fT r];simp[iS]
 .rw[fT r,nj];exact q⟩
theorem S.JC{D:GD}{nx':aE->Prop}{st:List Stmt}(h:S X Γ st D)(w:∀Γ',D.nx Γ'->nx' Γ'):S X Γ st {D with nx:=nx'}:=by
 with_unfolding_all
  exact mj h fun De σ H ⟨H0,F,O,Z,n,r,bk,ct⟩=>⟨H0,F,O,Z,fun Γ' σ' H' O' sm Z' q=>n Γ' σ' H' O' sm Z' (w Γ' q),r,bk,ct⟩
theorem fR{c:Bool}{body orelse:List Stmt}(J:aE->Prop)(hc:T X Γ e c)(h1:c=true->S X Γ body {D with nx:=J})(h2:c=false->S X Γ orelse {D with nx:=J})(h:∀Γ',J Γ'->S X Γ' rest D):S X Γ (.If e body orelse pos::rest) D:=by
 with_unfolding_all
  exact Hh hc (fun z=>(h1 z).JC h) (fun z=>(h2 z).JC h)
def oe(mg:Str->Option Value)(x:Str)(i:Int):Prop:=∃t,mg x=some (.int i t)
theorem rP{x:Str}{i:Int}(hg:Gl X x)(hm:oe X.mg x i)(hd:(x==("__debug__":Str))=false:=by decide):E X Γ (.Name x pos) true i:=by
 with_unfolding_all
  obtain⟨t,hm⟩:=hm;exact aG (vp (v:=.int i) hg hm ⟨t,rfl⟩ hd) fun σ H Q ⟨H0,F,O,S,q⟩=>q _ H (aD.refl _) rfl
end
theorem zq{α:Type}{xs:List α}{k:Int}{d:α}(h0:0<=k)(h:k<(xs.length:Int)):vd xs k=some (xs.getD k.toNat d):=by
 have hk:k.toNat<xs.length:=by omega
 have e:k=((k.toNat:Nat):Int):=by omega
 have q:vd xs ((k.toNat:Nat):Int)=some xs[k.toNat]:=Cp (by rw[List.getElem?_eq_getElem hk]);rw[<-e] at q;rw[q,List.getD_eq_getElem?_getD,List.getElem?_eq_getElem hk];rfl
structure rN(α:Type) where
 l:List α
def CY(K:PySem.W.Frag)(H:Hp)(p:Addr)(xs:List V):Prop:=Rt H p xs\/∃(o:Obj) (its:Array Value) (n:Nat),K.lookup p=some o/\o.cls=.type "tuple"/\o.data=.seq its n/\its.size<=sizeLine/\Vals xs its.toList
theorem CY.t{K:PySem.W.Frag}{H:Hp}{p:Addr}{xs:List V}(h:CY K H p xs):sI K H p xs:=h.imp Rt.rd id
theorem Fp{K:PySem.W.Frag}{H H':Hp}{p:Addr}{xs:List V}(t:∀p xs,Rt H p xs->Rt H' p xs)(h:CY K H p xs):CY K H' p xs:=h.imp (t _ _) id
theorem bU{K:PySem.W.Frag}{H H':Hp}{p:Addr}{xs:List V}(e:aD H H')(h:CY K H p xs):CY K H' p xs:=h.imp (fun z=>aD.rt e z) id
instance{α:Type}[Py α]:Py (rN α) where
 rp K N H v a:=∃p xs,v=.ref p/\CY K H p xs/\Paired (fun x b=>Py.rp K N H x b) xs a.l
 tr l t h:=by
  obtain⟨p,xs,e,s,r⟩:=h;exact⟨p,xs,e,Fp t s,bL (fun _ _ q=>Py.tr l t q) r⟩
instance{α β:Type}[Py α][Py β]:Py (α⊕β) where
 rp K N H v a:=match a with|.inl x=>Py.rp K N H v x|.inr y=>Py.rp K N H v y
 tr {K N N' H H' v a} l t h:=by
  cases a with
  |inl x=>exact Py.tr (α:=α) l t h
  |inr y=>exact Py.tr (α:=β) l t h
theorem pL(K:PySem.W.Frag)(N:Nn)(H:Hp)(a:Int):¬Py.rp K N H .non a:=fun h=>nomatch h
theorem wt{α:Type}[Py α](K:PySem.W.Frag)(N:Nn)(H:Hp)(a:List α):¬Py.rp K N H .non a:=fun⟨_,_,e,_⟩=>nomatch e
section
variable{X:Cx}{Γ:aE}{D:GD}{α β:Type}[Py α][Py β]{e e1 e2 tg:Expr}{b b1 b2:Bool}{pos:Pos}{rest:List Stmt}
theorem xY{a:α}(h:E X Γ e b a):E X Γ e b (Sum.inl a:α⊕β):=by
 with_unfolding_all
  exact h
theorem vM{a:β}(h:E X Γ e b a):E X Γ e b (Sum.inr a:α⊕β):=by
 with_unfolding_all
  exact h
theorem CJ{a:α}(h:E X Γ e b (Sum.inl a:α⊕β)):E X Γ e b a:=by
 with_unfolding_all
  exact h
theorem o4{a:β}(h:E X Γ e b (Sum.inr a:α⊕β)):E X Γ e b a:=by
 with_unfolding_all
  exact h
theorem uP{xs:List α}(he:E X Γ e b (rN.mk xs)):EI X Γ tg e b xs:=by
 with_unfolding_all
  exact⟨_,Fz he,fun σ H H0 F O R Z q=>⟨H0,F,O,Z,fun v H1 s1 r1=>by
   obtain⟨p,vs,e,sq,rr⟩:=r1;refine⟨p,e,⟨vs,(bU (ao _ _) sq).t⟩,q _ H1 s1 fun H' O' _ sm=>⟨fun i a ha=>?_,?_⟩⟩
   .obtain⟨x,h1,h2⟩:=h7 rr ha;refine⟨⟨vs,x,(bU (ao _ _) (bU sm sq)).t,h1⟩,fun y H'' hy=>?_⟩;obtain⟨e',hy⟩:=hy;subst e';have:=hy vs ((bU (ao _ _) (bU sm sq)).t);rw[h1] at this;cases this;exact⟨aD.refl _,ay sm h2⟩
   .exact⟨vs,(bU (ao _ _) (bU sm sq)).t,by rw[bF rr];exact Nat.le_refl _⟩⟩⟩
theorem BI{xs:rN α}{ys:List α}{k:Int}{p2:Pos}(ha:E X Γ e1 b xs)(hb:E X Γ e2 b2 k)(h0:0<k)(hl:0<xs.l.length)(hy:xs.l.drop k.toNat=ys:=by rfl):E X Γ (.Subscript e1 (.Slice (some e2) none none p2) pos) b (rN.mk ys):=by
 with_unfolding_all
  subst hy
  exact aG (rV FD ha (v9 hb) uX) fun σ H Q ⟨H0,F,O,S,q⟩=>⟨H0,F,O,S,fun v H1 s1 r1=>⟨H0,F,O,S.go s1,fun w H2 s2 r2=>by
   obtain⟨p,vs,e,sq,r⟩:=r1;have hlen:=bF r;have hk:k=((k.toNat:Nat):Int):=by omega
   have hsx:HT.dI vs.length 0 (some k)≠0:=by
    rw[hk,HT.pB];omega
   refine⟨k,r2,p,vs,e,(bU (ao _ _) (bU (ag s2) sq)).t,fun z=>hsx z.1,fun l hl=>?_⟩;obtain⟨z1,z2⟩:=lV (xs:=kW vs (some k) none) ((S.go s1).go s2) hl;refine q _ _ (s1.trans (s2.trans z1)) ⟨l,_,rfl,.inl z2,?_⟩
   have ec:kW vs (some k) none=vs.drop k.toNat:=by
    unfold kW;rw[hk,HT.pB,HT.sD];simp only[Int.toNat_natCast];by_cases hkn:k.toNat<=vs.length
    .rw[Nat.min_eq_left hkn,List.take_of_length_le (by rw[List.length_drop];exact Nat.le_refl _)]
    .rw[Nat.min_eq_right (by omega),List.drop_eq_nil_of_le (Nat.le_refl _),List.drop_eq_nil_of_le (by omega)];simp
   have rr:=bL (fun _ _ z=>ay ((ag s2).trans (ag z1)) z) (pS k.toNat r);rw[<-ec] at rr
   exact rr⟩⟩
def qw(K:PySem.W.Frag)(mg:Str->Option Value)(x:Str)(xs:List Int):Prop:=∃(p:Addr) (o:Obj) (its:Array Value) (n:Nat),mg x=some (.ref p)/\K.lookup p=some o/\o.cls=.type "tuple"/\o.data=.seq its n/\its.size<=sizeLine/\Vals (xs.map V.int) its.toList
theorem ma{x:Str}{xs:List Int}(hg:Gl X x)(hm:qw X.K X.mg x xs)(hd:(x==("__debug__":Str))=false:=by decide):E X Γ (.Name x pos) true (rN.mk xs):=by
 with_unfolding_all
  obtain⟨p,o,its,n,hm,h1,h2,h3,h4,h5⟩:=hm;exact aG (vp (v:=.ref p) hg hm rfl hd) fun σ H Q ⟨H0,F,O,S,q⟩=>q _ H (aD.refl _) ⟨p,_,rfl,.inr ⟨o,its,n,h1,h2,h3,h4,h5⟩,pQ xs⟩
theorem oe.mk{K:PySem.W.Frag}{h:Heap}{mg:Str->Option Value}{x:Str}{i:Int}{t:Tok}(Y:K.In h)(G:h.Ns mainGlobals mg)(a:PySem.W.nsIn K mainGlobals x=some (some (.int i t))):oe mg x i:=⟨t,PySem.W.mg_of Y G a⟩
theorem qw.mk{K:PySem.W.Frag}{h:Heap}{mg:Str->Option Value}{x:Str}{xs:List Int}{p:Addr}{od:Option Addr}{its:Array Value}{n:Nat}{osl:Array (Option Value)}(Y:K.In h)(G:h.Ns mainGlobals mg)(a:PySem.W.nsIn K mainGlobals x=some (some (.ref p)))
  (l:K.lookup p=some ⟨.type "tuple",od,.seq its n,osl⟩) (hz:its.size<=1000) (hv:Vals (xs.map V.int) its.toList):qw K mg x xs:=⟨p,_,its,n,PySem.W.mg_of Y G a,l,rfl,rfl,Nat.le_of_lt (cA hz),hv⟩
theorem ni{a:α}(h:E X Γ e b (some a)):E X Γ e b a:=by
 with_unfolding_all
  exact h
theorem Ac{a:α}(h:E X Γ e b a):E X Γ e b (some a):=by
 with_unfolding_all
  exact h
theorem Bt{x:Option α}{j:Nat}{p:Pos}(ha:E X Γ e1 b1 x)(hx:∀(K:PySem.W.Frag) (N:Nn) (H:Hp) (a:α),¬Py.rp K N H .non a):T X Γ (.Compare e1 [.IsNot] [.Constant .none j p] pos) (!x.isNone):=by
 with_unfolding_all
  exact oG (y4 (A9 ha)) fun σ H Q ⟨H0,F,O,S,q⟩=>⟨H0,F,O,S,fun v H1 s1 r1=>by
    refine⟨!decide (v=.non),rfl,?_⟩
    have e:decide (v=.non)=x.isNone:=by
     cases x with
     |none=>cases r1;rfl
     |some a =>
      have hv:v≠.non:=by rintro rfl;exact hx _ _ _ a r1
      rw[decide_eq_false hv];rfl
    rw[e];exact q H1 s1⟩
end
section
variable{X:Cx}{Γ:aE}{D:GD}{α β γ:Type}[Py α][Py β][Py γ]{e e1 e2 e3:Expr}{b b1 b2 b3:Bool}{pos:Pos}{rest:List Stmt}
theorem vP{op op':CmpOp}{x:α}{y:β}{z:γ}{c c':Bool}(h1:CV X op x y c)(h2:CV X op' y z c')(ha:E X Γ e1 b1 x)(hb:E X Γ e2 b2 y)(hc:E X Γ e3 b3 z)(hm:lastMarks [op,op'] [e2,e3]=false:=by with_unfolding_all rfl):T X Γ (.Compare e1 [op,op'] [e2,e3] pos) (c&&c'):=by
 with_unfolding_all
  obtain⟨r,ho,hr⟩:=h1;obtain⟨r',ho',hr'⟩:=h2
  exact oG (yr ho ho' ha hb hc hm) fun σ H Q ⟨H0,F,O,S,q⟩=>⟨H0,F,O,S,fun v H1 s1 r1=>⟨H0,F,O,S.go s1,fun w H2 s2 r2 =>
   hr _ _ H2 v w _ (ay ((ag s2).trans (ao _ _)) r1) (ay (ao _ _) r2) ⟨c,rfl,by
    cases c with
    |false=>exact⟨false,rfl,q H2 (s1.trans s2)⟩
    |true=>exact⟨H0,F,O,(S.go s1).go s2,fun u H3 s3 r3=>hr' _ _ H3 w u _ (ay ((ag s3).trans (ao _ _)) r2) (ay (ao _ _) r3) ⟨c',rfl,q H3 (s1.trans (s2.trans s3))⟩⟩⟩⟩⟩
end
def IY:GD:={nx:=fun _=>True,rt:=fun _=>False}
section
variable{P:Program}{w:World}{K:PySem.W.Frag}{mg:Str->Option Value}{base:Heap}{N ps:List Str}{x qual:Str}{st:Stmt}{f:Addr}{k:Nat}{fd:FuncData}
theorem xu{gs:List Bd}{vs:List V}{H:Hp}{O:Addr->Prop}{b:Bool}{Q:VK}{cdv:Value}{A:Around}{outer:List Env}{s:Shared}{E:XK}(B:Body P w K mg base N qual st f k gs IY)(hr:cZ k (A.deeper (envOfC qual (af st) s.heap.objs.size f cdv)))
  (ho:kY H O) (h:Args K (off H O) vs gs) (q:∀r H',aD H H'->Py.rp K (Nf H b) (off H' O) r ()->Q r H'):
  ∃t,nr (n8 nM P w K mg base N qual (af st) f cdv A outer s H E).Cs (cD st) t/\t {nx:=fun _ H'=>Q .non H',rt:=Q} (start N vs) H:=by
 with_unfolding_all
  refine⟨_,B cdv A outer s H E hr,H,O,O,j0 ho h,fun _ _ H' _ _ Z _=>q .non H' Z.same rfl,fun g v H' sm z e=>e.elim,fun _ _ _ _ _ _ z=>z.elim,fun _ _ _ _ _ _ z=>z.elim⟩
def ri{α:Type}(_:α):Unit:=()
theorem Ju{α:Type}[Py α]{pre:α->Prop}{b:Bool}(F:sJ K x qual st f fd)(sc:ai N ps (af st))(hl:ps.length=1)(B:∀a,pre a->Body P w K mg base N qual st f k [.val false a] IY):
  fj P w K mg base nM (k+1) f fd ps (dG K pre b (ri (α:=α))):=by
 with_unfolding_all
  refine F.ok sc (fun vs H Q E h=>?_) fun cdv A outer s H vs Q E hr h=>?_
  .obtain⟨O,v,a,_,rfl,_⟩:=h;rw[hl];rfl
  .obtain⟨O,v,a,ho,rfl,r,hp,q⟩:=h;exact xu (B a hp) hr ho (.cons r .nil) q
end
theorem uH{H:Hp}{O:Addr->Prop}(ho:∀p,O p->∃xs:Mt,H p=some (mo xs))(p:Addr)(xs:List V)(h:Rt H p xs):Rt (off H O) p xs:=by
 have hn:¬O p:=fun z=>by
  obtain⟨ys,e⟩:=ho p z;rcases h with h|⟨o,h⟩
  .rw[e] at h;rcases ys with ys|ys|ys<;>cases h
  .rw[e] at h;rcases ys with ys|ys|ys<;>cases h
 rcases h with h|⟨o,h⟩
 .exact .inl (by rw[a_ hn];exact h)
 .exact .inr ⟨o,by rw[a_ hn];exact h⟩
theorem o8{α β:Type}{F:α->β->Prop}:∀{l₁ l₂:List α} {m₁ m₂:List β},Paired F l₁ m₁->Paired F l₂ m₂->Paired F (l₁++l₂) (m₁++m₂)
 |_,_,_,_,.nil,h=>h
 |_,_,_,_,.cons h r,h'=>.cons h (o8 r h')
section
variable{X:Cx}{Γ:aE}{D:GD}{α β γ:Type}[Py α][Py β][Py γ]{e e1 e2:Expr}{b b1 b2:Bool}{pos:Pos}{st rest:List Stmt}
theorem mn{a a':α}(h:E X Γ e b a)(ha:a=a'):E X Γ e b a':=by
 with_unfolding_all
  subst ha;exact h
theorem lY{xs ys:List α}(ha:E X Γ e1 true xs)(hb:E X Γ e2 true ys)(hl:xs.length+ys.length<=1000):E X Γ (.BinOp e1 .Add e2 pos) true (xs++ys):=by
 with_unfolding_all
  exact aG (vz DF ha hb) fun σ H Q ⟨H0,F,O,S,q⟩=>⟨H0,F,O,S,fun v H1 s1 r1=>⟨H0,F,O,S.go s1,fun w H2 s2 r2=>by
    obtain⟨p,vs,e1,sq1,n1,rr1⟩:=r1;obtain⟨p',vs',e2,sq2,n2,rr2⟩:=r2;have h1:H2 p=some (.lst vs):=s2 _ _ ((ao _ _) _ _ n1.2);have h2:H2 p'=some (.lst vs'):=(ao _ _) _ _ n2.2;refine⟨p,p',vs,vs',e1,e2,h1,h2,by rw[bF rr1,bF rr2];exact Nat.le_of_lt (cA hl),fun l hl'=>?_⟩;obtain⟨z1,z2⟩:=cI (xs:=vs++vs') ((S.go s1).go s2) hl'
    exact q _ _ (s1.trans (s2.trans z1)) ⟨l,_,rfl,cW.of z2,Nf.wk (b:=true) (((S.go s1).go s2).gW hl') z2,o8 (bL (fun _ _ z=>ay ((ag s2).trans (ag z1)) z) rr1) (bL (fun _ _ z=>ay (ag z1) z) rr2)⟩⟩⟩
theorem uE[PyT α]{es:List Expr}{as:List α}(h:EA X Γ es b as)(hl:as.length<=1000):EN X Γ (.List es pos) as:=by
 with_unfolding_all
  exact aG (sT h) fun σ H Q ⟨H0,F,O,S,q⟩=>⟨H0,F,O,S,fun vs H1 s1 r1=>⟨by rw[bF r1];exact Nat.le_of_lt (cA hl),fun p hp=>by
    obtain⟨z1,z2⟩:=cI (xs:=vs) (S.go s1) hp
    exact q _ _ (s1.trans z1) ⟨p,vs,rfl,cW.of z2,⟨s1.free hp,z2⟩,bL (fun _ _ r=>PyT.free (fun _ _ w=>w) (ay (ag z1) r)) r1⟩⟩⟩
theorem Hf{c:Bool}{x y:α}(hc:T X Γ e c)(ha:c=true->EN X Γ e1 x)(hb:c=false->EN X Γ e2 y):EN X Γ (.IfExp e e1 e2 pos) (if c then x else y):=by
 with_unfolding_all
  cases c with
  |true=>exact aG (fW hc (ha rfl) kQ) fun σ H Q ⟨H0,F,O,S,q⟩=>⟨H0,F,O,S,fun H1 s1=>nW ⟨H0,F,O,S.go s1,fun w H2 s2 r2=>q w H2 (s1.trans s2) (qW s1 r2)⟩⟩
  |false=>exact aG (fW hc kQ (hb rfl)) fun σ H Q ⟨H0,F,O,S,q⟩=>⟨H0,F,O,S,fun H1 s1=>nY ⟨H0,F,O,S.go s1,fun w H2 s2 r2=>q w H2 (s1.trans s2) (qW s1 r2)⟩⟩
theorem Cw[PyT α](i:Nat)(b:Bool){as:List α}(hg:Γ[i]?=some (some (.dpo as)))(h:S X (Γ.set i (some (.own b as))) st D):S X Γ st D:=by
 with_unfolding_all
  exact mj h fun De σ H ⟨H0,F,O,Z,n,r,bk,ct⟩=>by
   refine⟨H0,F,O,⟨Z.same,Z.fo,Z.f0,Z.own,by rw[List.length_set];exact Z.len,fun j g e no=>?_,?_⟩,n,r,bk,ct⟩
   .by_cases hj:j=i
    .subst hj;have hl:j<Γ.length:=(List.getElem?_eq_some_iff.mp hg).1;rw[get_set_eq hl] at e;have e':Bd.own b as=g:=Option.some.inj (Option.some.inj e);exact absurd (e'▸(True.intro:(Bd.own b as).eP)) no
    .rw[get_set_ne hj] at e;exact Z.at_ j g e no
   .obtain⟨D',d1,d2,d3⟩:=Z.dis;refine⟨D',d1,d2,fun j g e o=>?_⟩;by_cases hj:j=i
    .subst hj;have hl:j<Γ.length:=(List.getElem?_eq_some_iff.mp hg).1;rw[get_set_eq hl] at e;have e':Bd.own b as=g:=Option.some.inj (Option.some.inj e);subst e';obtain⟨v,q1,p,xs,q2,q3,q4,q5⟩:=d3 j _ hg True.intro;exact⟨v,q1,p,xs,q2,q4.1,q4.2,bL (fun _ _ z=>PyT.free (uH Z.own) z) q5⟩
    .rw[get_set_ne hj] at e;exact d3 j g e o
end
end L2.EP
namespace L2
open PySem PySem.Spec PyProof.Rows
section
variable{X:Cx}{pos:Pos}
end
end L2
namespace L2.EP
open PySem PySem.Spec PyProof.Rows
section
variable{X:Cx}{Γ:aE}{D:GD}{α β γ:Type}[Py α][Py β][Py γ]{e e1 e2:Expr}{b b1 b2:Bool}{pos:Pos}{rest st:List Stmt}
theorem xx(hc:X.calm=true):gT X (.builtin "any") (fun xs H Q=>∃p,∃bs:List Bool,xs=[.ref p]/\cW X.K H p (bs.map V.bl)/\Q (.bl (bs.any id)) H):=by
 intro pins s σ H xs us Q I r h;obtain⟨p,bs,rfl,sq,q⟩:=h;obtain⟨u,rfl,rx⟩:=vals1 r;cases rx;obtain⟨its,rr,pl,_⟩:=I.list sq;have hb:=nE rr;have hl:=pl.isList;have hlt:p<s.heap.objs.size:=by obtain⟨_,e,_⟩:=hl;exact Heap.lt_size e
 refine call_any_walk (wpAny_pyIter_list hl ?_)
 refine⟨s.heap.objs.size,[s.heap.objs.size,p],[s.heap.objs.size],its.toArray.size,_,_,fun i=>(bs[i]?).getD false,rfl,Walks.list (A:=X.A.in1) (I.ok.hd hc) _ p (Nat.ne_of_lt hlt) its.toArray,
  ⟨⟨_,Heap.get?_push_size _ rfl,rfl,rfl⟩,hl.push _⟩,fun i v s' Q' E' hP hQ=>?_,fun h' tk hk=>?_⟩
 .obtain⟨b,e,rfl⟩:=hb.get i v (by simpa using hP);simp only[e,Option.getD_some] at hQ;exact wpAny_truthy_bool hQ
 .have e:((List.range its.toArray.size).any fun i=>(bs[i]?).getD false)=bs.any id:=by
   rw[List.size_toArray,hb.length];exact LSm.range_any bs
  rw[e];exact⟨.bl _,H,I.kept (LSm.kept_iter hk),rfl,q⟩
theorem HH{bs:List Bool}{p:Pos}(hc:X.calm=true)(hg:Gl X "any")(hm:X.mg "any"=none)(ha:E X Γ e b bs)(hs:starEach [e] X.env=(false,eval e X.env)::starEach [] X.env:=by rfl):E X Γ (.Call (.Name "any" p) [e] [] pos) true (bs.any id):=by
 with_unfolding_all
  exact aG (dP (xx hc) hg hm PyProof.Rows.boot_any (aB ha aV hs) (he:=hs)) fun σ H Q ⟨H0,F,O,S,q⟩=>⟨H0,F,O,S,fun v H1 s1 r1=>by
    obtain⟨p,vs,e,sq,n,r⟩:=r1;rw[yL r] at sq
    exact⟨p,bs,by rw[e],(ao _ _).seq sq,q _ H1 s1 rfl⟩⟩
end
theorem AL{X:Cx}:iR X (binaryOp .Add) (fun x y H Q=>∃l b xs zs,x=.ref l/\y=.ref b/\cW X.K H l xs/\cW X.K H b zs/\xs.length+zs.length<=sizeLine/\∀p,H p=none->Q (.ref p) (upd H p (.lst (xs++zs)))):=by
 intro pins s σ H x y v u Q I rx ry h;obtain⟨l,b,xs,zs,rfl,rfl,hH,hB,hz,q⟩:=h;cases rx;cases ry;obtain⟨its,r,pl,_⟩:=I.list hH;obtain⟨its2,r2,pl2,_⟩:=I.list hB;obtain⟨⟨cls,dd,data,sl⟩,n,ho,hc,hdd,hd⟩:=pl;obtain⟨⟨cls2,dd2,data2,sl2⟩,n2,ho2,hc2,hdd2,hd2⟩:=pl2;simp only at hc hdd hd hc2 hdd2 hd2;subst hc hdd hd hc2 hdd2 hd2;have l1:=r.length;have l2:=r2.length;have ea:its.toArray++its2.toArray=(its++its2).toArray:=by simp
 refine concat_meets ⟨_,ho,rfl⟩ ⟨_,ho2,rfl⟩ noFill_list_add seq_list_add PySem.F.slot_list_add PySem.F.entry_list_add (PySem.F.args_list_add_2 _ _) (list_addW l b its.toArray its2.toArray n n2 none none sl sl2 (by rw[List.size_toArray,List.size_toArray];omega)) ⟨ho,ho2,?_⟩;rw[ea];exact⟨.ref _,_,I.BZ (t':=s.toks) (r.append r2) (by rw[List.length_append];omega),rfl,q _ I.fresh⟩
section
variable{X:Cx}{Γ:aE}{D:GD}{α β γ:Type}[Py α][Py β][Py γ]{e e1 e2:Expr}{b b1 b2:Bool}{pos:Pos}{rest st:List Stmt}
theorem Fc[PyT α]{xs ys:List α}(ha:E X Γ e1 b1 xs)(hb:E X Γ e2 b2 ys)(hl:xs.length+ys.length<=1000):E X Γ (.BinOp e1 .Add e2 pos) true (xs++ys):=by
 with_unfolding_all
  exact aG (vz AL ha hb) fun σ H Q ⟨H0,F,O,S,q⟩=>⟨H0,F,O,S,fun v H1 s1 r1=>⟨H0,F,O,S.go s1,fun w H2 s2 r2=>by
    obtain⟨p,vs,e1,sq1,n1,rr1⟩:=r1;obtain⟨p',vs',e2,sq2,n2,rr2⟩:=r2;refine⟨p,p',vs,vs',e1,e2,(ao _ _).seq ((ag s2).seq sq1),(ao _ _).seq sq2,by rw[bF rr1,bF rr2];exact Nat.le_of_lt (cA hl),fun l hl'=>?_⟩;obtain⟨z1,z2⟩:=cI (xs:=vs++vs') ((S.go s1).go s2) hl';refine q _ _ (s1.trans (s2.trans z1)) ⟨l,_,rfl,cW.of z2,Nf.wk (b:=true) (((S.go s1).go s2).gW hl') z2,o8 ?_ ?_⟩
    .exact bL (fun _ _ z=>PyT.free (fun _ _ t=>aD.rt ((ag s2).trans (ag z1)) t) z) rr1
    .exact bL (fun _ _ z=>PyT.free (fun _ _ t=>aD.rt (ag z1) t) z) rr2⟩⟩
end
end L2.EP
namespace L2
open PySem PySem.Spec PyProof.Rows
def Jh(K : PySem.W.Frag)(a : Addr) : It :=
  ⟨fun i H=>∃xs x,cW K H a xs/\xs[i]?=some x,
   fun i H v H'=>∃T x,H T=none/\v=.ref T/\H'=upd H T (.tup [.int (i : Int),x])/\∀xs,cW K H a xs->xs[i]?=some x,
   fun i H=>∃xs,cW K H a xs/\xs.length<=i⟩
theorem wJ{P:Program}{w:World}{K:PySem.W.Frag}{elts:List Expr}{kk:Nat}{tp:Pos}(z it a:Addr):Turn P w K (.Tuple elts kk tp) (Jh K a) [z,it] z
  (fun i h=>(∃old,IsEnum h z it ((i:Nat):Int) old)/\h.IsListIter it a i) where
 mem:=by simp
 obj:=fun i h st c hc=>by
  obtain⟨⟨old,hz⟩,h1⟩:=st;have hc':c=z\/c=it:=by simpa using hc
  rcases hc' with e|e
  .subst e;exact⟨_,hz,fun v q=>by cases q⟩
  .subst e;obtain⟨o,q1,q2,q3⟩:=h1;exact⟨o,q1,fun v q=>by rw[q3] at q;cases q⟩
 keep:=fun i h h' st k=>by
  obtain⟨⟨old,hz⟩,h1⟩:=st;exact⟨⟨old,k z (by simp) _ hz⟩,h1.at fun o e=>k it (by simp) o e⟩
 item:=by
  intro X hP hw hK hc i pins s σ H E I hf st hg;subst hP hw hK;obtain⟨xs,x,sx,gx⟩:=hg;obtain⟨⟨old,hz⟩,h1⟩:=st;obtain⟨ix,rx,px,_⟩:=I.list sx;have X':∀{s t:String},s≠t->Value.type s≠Value.type t:=fun ne e=>ne (by injection e)
  have hne:z≠it:=by
   obtain⟨o1,a1,b1,_⟩:=h1;exact cc hz a1 (by rw[b1];exact X' (by decide))
  obtain⟨u,ux,uxr⟩:=rx.get gx;refine wpAny_pyNext_enum_item hz h1 px.isList (by simpa using ux) hne fun h' a1 a3 a5 a6 hk=>?_;have hT0:H s.heap.objs.size=none:=I.hok.fresh (Nat.le_refl _)
  have I1:Inv X pins σ (upd H s.heap.objs.size (.tup [.int (i:Int),x])) {s with heap:=h',toks:=s.toks+1}:=by
   refine I.vU (ch:=[z,it]) (Nat.le_refl _) (fun c o hc' e=>hk c o (fun q=>hc' (by simp[q])) (fun q=>hc' (by simp[q])) e) (fun c o e=>?_) (fun c hc'=>hf c hc') ?_
   .by_cases q1:c=z
    .subst q1;exact⟨_,a1⟩
    by_cases q3:c=it
    .subst q3;obtain⟨o',q,_⟩:=a3;exact⟨o',q⟩
    exact⟨o,hk c o q1 q3 e⟩
   .exact⟨by show 2<=sizeLine;decide,[.int i s.toks,u],.cons ⟨_,rfl⟩ (.cons uxr .nil),⟨_,a5,rfl,_,rfl⟩⟩
  refine⟨_,rfl,?_⟩;have fz:=hf z (by simp);refine wpAny_letOwnedTupleGo_enum a1 fun h2' hz' hs'=>?_;have zT:z≠s.heap.objs.size:=Nat.ne_of_lt (Heap.lt_size hz);have I2:Inv X pins σ (upd H s.heap.objs.size (.tup [.int (i:Int),x])) {({s with heap:=h',toks:=s.toks+1}:Shared) with heap:=h2',toks:=s.toks+1}:=I1.turned (fun c o hc' e=>hs'.extBut c o hc' e) (by rw[aS zT];exact fz.1) fz.2.1 fz.2.2.2.1 fz.2.2.2.2.1 fz.2.2.2.2.2;refine⟨.ref s.heap.objs.size,upd H s.heap.objs.size (.tup [.int (i:Int),x]),I2,rfl,⟨s.heap.objs.size,x,hT0,rfl,rfl,fun xs' sx'=>?_⟩,⟨⟨_,hz'⟩,a3.extBut hs'.extBut (Ne.symm hne)⟩,fun c hc'=>?_⟩
  .rw[I.jI sx' sx];exact gx
  .have hcl:c<s.heap.objs.size:=by
    have hc2:c=z\/c=it:=by simpa using hc'
    rcases hc2 with e|e
    .subst e;exact Heap.lt_size hz
    .subst e;obtain⟨_,q,_⟩:=h1;exact Heap.lt_size q
   rw[aS (Nat.ne_of_lt hcl)];exact(hf c hc').1
 done:=by
  intro X hP hw hK hc i pins s σ H E I hf st hg;subst hP hw hK;obtain⟨xs,sx,hend⟩:=hg;obtain⟨⟨old,hz⟩,h1⟩:=st;obtain⟨ix,rx,px,_⟩:=I.list sx;refine wpAny_pyNext_enum_end (I.ok.hd hc) hz h1 px.isList ?_ fun h' hk=>⟨rfl,?_⟩
  .have:=rx.length;simp;omega
  .have f1:=hf it (by simp)
   refine I.step (g':=s.gens) (d':=s.drawn) (t':=s.toks) (ch:=[it]) (fun b hb=>?_) (fun b o _ _ hc' e _=>hk b o (fun q=>hc' (by simp[q])) e) (fun b o _ _ hc' e _=>⟨o.slots,hk b o (fun q=>hc' (by simp[q])) e⟩) (fun _ _ _ _ n=>n)
    (fun b o hc' e=>⟨o,hk b o (fun q=>hc' (by simp[q])) e⟩) (fun _ _ e=>e) (fun _ _ _ e=>e) (fun b ps e=>⟨#[],by rw[e];simp⟩) (fun m hm=>?_) (fun b u e=>?_) I.bare
   .have q:=hf b (by simp at hb ⊢;simp[hb]);exact⟨q.2.2.2.1,q.2.1,q.2.2.2.2.1,q.2.2.2.2.2⟩
   .obtain⟨o,es,ep,ho,r⟩:=hm;exact⟨o,es,ep,hk _ o (Ne.symm f1.2.1) ho,r⟩
   .have nn:∀c v,H c=some v->c≠it:=fun c v e q=>by rw[q,f1.1] at e;cases e
    refine(I.hok b u e).rH (fun c v hc' q=>?_) (fun _ q=>q) fun _ _ q=>q;rcases hc' with e'|e'
    .subst e';exact hk c v (nn c _ e) q
    .exact hk c v (nn c _ e') q
 self:=fun _ _ _ _ _ st h=>by
  obtain⟨⟨old,hz⟩,_⟩:=st;exact wpAny_pyIter_enum hz h
section
variable{X:Cx}{elts:List Expr}{kk:Nat}{tp:Pos}
def GH(K:PySem.W.Frag)(ta:TA):TI:=fun σ H R=>ta σ H fun vs H1=>∃a,vs=[.ref a]/\(∃xs,cW K H1 a xs)/\R (Jh K a) H1
theorem Bf{e1:Expr}{ta:TA}{p pos:Pos}(hg:Gl X "enumerate")(hm:X.mg "enumerate"=none)(ha:PA X [e1] ta)(he:starEach [e1] X.env=(false,eval e1 X.env)::starEach [] X.env:=by rfl)
  (hpl:(backTo pos (starEach [] X.env)).any (·.1)=false:=by rfl):PI X (.Tuple elts kk tp) (.Call (.Name "enumerate" p) [e1] [] pos) (GH X.K ta):=by
 intro pins s σ H R I h;refine Call_ (dX I hg hm PyProof.Rows.boot_enumerate (PyProof.Rows.callWith_type1 (bV (ha pos pins s σ H _ I h) fun us s1 ⟨vs,H1,I1,r1,q1⟩=>?_) he hpl));obtain⟨a,e,⟨xs,sx⟩,q⟩:=q1;subst e;obtain⟨u,rfl,ra⟩:=vals1 r1;cases ra;obtain⟨ix,rx,px,_⟩:=I1.list sx;refine call_enumerate_list px.isList fun h' z1 z4 z6 hk=>?_;have I2:Inv X pins σ H1 {s1 with heap:=h',toks:=s1.toks}:=I1.kept hk;refine wpAny_pyIter_enum (s:={s1 with heap:=h'}) z1 ?_;refine⟨s1.heap.objs.size+1,[s1.heap.objs.size+1,s1.heap.objs.size],_,Jh X.K a,H1,rfl,I2,wJ (s1.heap.objs.size+1) s1.heap.objs.size a,⟨⟨_,z1⟩,z4⟩,fun c hc=>?_,q⟩
 have hge:s1.heap.objs.size<=c:=by
  simp at hc;rcases hc with e|e<;>subst e<;>omega
 exact I1.xM hge (I1.hok.fresh hge)
end
end L2
namespace L2.EP
open PySem PySem.Spec PyProof.Rows
def Dx{α:Type}(xs:List α):List (Int×α):=xs.mapIdx fun i x=>((i:Int),x)
theorem wG{α:Type}{xs:List α}{i:Nat}{u:Int×α}(h:(Dx xs)[i]?=some u):xs[i]?=some u.2/\u.1=(i:Int):=by
 unfold Dx at h;rw[List.getElem?_mapIdx] at h;cases e:xs[i]? with
 |none=>rw[e] at h;cases h
 |some x=>rw[e] at h;cases h;exact⟨rfl,rfl⟩
theorem vA{α:Type}(xs:List α):(Dx xs).length=xs.length:=by unfold Dx;rw[List.length_mapIdx]
section
variable{X:Cx}{Γ:aE}{α β:Type}[Py α][Py β]{e1 e2:Expr}{b1 b2:Bool}{elts:List Expr}{kk:Nat}{tp p ps:Pos}
theorem AN{xs:List α}(hg:Gl X "enumerate")(hm:X.mg "enumerate"=none)(h1:E X Γ e1 b1 xs)(hs1:starEach [e1] X.env=(false,eval e1 X.env)::starEach [] X.env:=by rfl)
  (hpl:(backTo ps (starEach [] X.env)).any (·.1)=false:=by rfl):EI X Γ (.Tuple elts kk tp) (.Call (.Name "enumerate" p) [e1] [] ps) b1 (Dx xs):=by
 with_unfolding_all
  exact⟨_,Bf hg hm (aB h1 aV hs1) hs1 hpl,fun σ H H0 F O R Z q=>⟨H0,F,O,Z,fun v H1 s1 r1=>by
    obtain⟨a,va,ea,sa,na,ra⟩:=r1;refine⟨a,by rw[ea],⟨va,(ao _ _).seq sa⟩,q _ H1 s1 fun H' O' hO' sm=>⟨fun i u hu=>?_,?_⟩⟩
    .obtain⟨hx,hi⟩:=wG hu;obtain⟨x,gx,rx⟩:=h7 ra hx;have sa':=(ao _ _).seq (sm.seq sa);refine⟨⟨va,x,sa',gx⟩,fun v' H'' hv=>?_⟩;obtain⟨T,x',hT,rfl,rfl,f1⟩:=hv;have ex:=f1 va sa';rw[gx] at ex;cases ex
     have hTO:¬O' T:=fun z=>by
      obtain⟨zs,w⟩:=hO' T z;rw[hT] at w;cases w
     refine⟨di hT _,T,.int (i:Int),x,rfl,.inl (by rw[a_ hTO];exact bK),?_,?_⟩
     .show V.int _=V.int _;rw[hi]
     .exact ay (sm.trans (ag (di hT _))) rx
    .refine⟨va,(ao _ _).seq (sm.seq sa),?_⟩;rw[bF ra,vA]
     omega⟩⟩
end
theorem zQ{α β:Type}{F:α->β->Prop}{l:List α}{m:List β}(h:Paired F l m):∀k,Paired F (List.replicate k l).flatten (List.replicate k m).flatten
 |0=>.nil
 |k+1=>by
  rw[List.replicate_succ,List.flatten_cons,List.replicate_succ,List.flatten_cons];exact o8 h (zQ h k)
section
variable{X:Cx}{Γ:aE}{D:GD}{α β γ:Type}[Py α][Py β][Py γ]{e e1 e2:Expr}{b b1 b2:Bool}{pos:Pos}{rest st:List Stmt}
theorem Hq{xs:List α}{k:Int}(ha:E X Γ e1 true xs)(hb:E X Γ e2 b2 k)(h0:0<=k)(h1:k<=1000)(hl:xs.length*k.toNat<=1000):E X Γ (.BinOp e1 .Mult e2 pos) true (List.replicate k.toNat xs).flatten:=by
 with_unfolding_all
  exact aG (vz Du ha hb) fun σ H Q ⟨H0,F,O,S,q⟩=>⟨H0,F,O,S,fun v H1 s1 r1=>⟨H0,F,O,S.go s1,fun w H2 s2 r2=>by
    obtain⟨p,vs,e1,sq1,n1,rr1⟩:=r1;have h1:H2 p=some (.lst vs):=s2 _ _ ((ao _ _) _ _ n1.2);refine⟨p,k,vs,e1,r2,h1,by omega,by omega,by rw[bF rr1];exact Nat.le_of_lt (cA hl),fun l hl'=>?_⟩;obtain⟨z1,z2⟩:=cI (xs:=(List.replicate k.toNat vs).flatten) ((S.go s1).go s2) hl'
    exact q _ _ (s1.trans (s2.trans z1)) ⟨l,_,rfl,cW.of z2,Nf.wk (b:=true) (((S.go s1).go s2).gW hl') z2,zQ (bL (fun _ _ z=>ay ((ag s2).trans (ag z1)) z) rr1) _⟩⟩⟩
theorem wF{a:α}:∀k,(List.replicate k [a]).flatten=List.replicate k a
 |0=>rfl
 |k+1=>by rw[List.replicate_succ,List.flatten_cons,wF k,List.replicate_succ];rfl
theorem D7{a:α}{k:Int}(ha:E X Γ e1 true [a])(hb:E X Γ e2 b2 k)(h0:0<=k)(h1:k<=1000):E X Γ (.BinOp e1 .Mult e2 pos) true (List.replicate k.toNat a):=by
 rw[<-wF];exact Hq ha hb h0 h1 (by simp;omega)
end
end L2.EP
namespace L2.Sx
open PySem
def wW(xs:Array Nat):Prop:=xs.toList.Pairwise (·<·)
theorem k9{xs:Array Nat}(h:wW xs){a b:Nat}(hab:a<b)(hb:b<xs.size):xs.getD a 0<xs.getD b 0:=by
 have h1:=List.pairwise_iff_getElem.mp h a b (by simpa using Nat.lt_trans hab hb) (by simpa using hb) hab;rw[Array.getElem_toList,Array.getElem_toList] at h1;simp only[Array.getD,dif_pos (Nat.lt_trans hab hb),dif_pos hb];exact h1
structure Lb(xs:Array Nat)(j i:Nat):Prop where
 le:i<=xs.size
 lo:∀k,k<i->xs.getD k 0<j
 hi:∀k,i<=k->k<xs.size->j<=xs.getD k 0
theorem x_{xs:Array Nat}{k d e:Nat}(h:k<xs.size):xs.getD k d=xs.getD k e:=by
 simp only[Array.getD,dif_pos h]
theorem zV{xs:Array Nat}{j:Nat}(hx:wW xs):∀(fuel lo hi:Nat),hi-lo<=fuel->lo<=hi->hi<=xs.size->(∀k,k<lo->xs.getD k 0<j)->(∀k,hi<=k->k<xs.size->j<=xs.getD k 0)->Lb xs j (SetTable.below.go xs j fuel lo hi)
 |0,lo,hi,h1,h2,h3,h4,h5=>by
  unfold SetTable.below.go;exact⟨by omega,h4,fun k a b=>h5 k (by omega) b⟩
 |fuel+1,lo,hi,h1,h2,h3,h4,h5=>by
  unfold SetTable.below.go;by_cases hlt:lo<hi
  .rw[if_pos hlt];dsimp only;have hm:(lo+hi)/2<xs.size:=by omega
   rw[x_ (e:=0) hm];by_cases hc:xs.getD ((lo+hi)/2) 0<j
   .rw[if_pos hc];refine zV hx fuel _ _ (by omega) (by omega) h3 (fun k hk=>?_) h5;rcases Nat.lt_or_eq_of_le (Nat.le_of_lt_succ hk) with z|z
    .exact Nat.lt_trans (k9 hx z hm) hc
    .rw[z];exact hc
   .rw[if_neg hc];refine zV hx fuel _ _ (by omega) (by omega) (by omega) h4 (fun k a b=>?_);rcases Nat.lt_or_eq_of_le a with z|z
    .exact Nat.le_trans (Nat.le_of_not_lt hc) (Nat.le_of_lt (k9 hx z b))
    .rw[<-z];exact Nat.le_of_not_lt hc
  .rw[if_neg hlt];exact⟨by omega,h4,fun k a b=>h5 k (by omega) b⟩
theorem mW{xs:Array Nat}(hx:wW xs)(j:Nat):Lb xs j (SetTable.below xs j) :=
 zV hx _ _ _ (by omega) (by omega) (Nat.le_refl _) (fun k h=>absurd h (Nat.not_lt_zero k)) (fun k a b=>absurd b (by omega))
theorem tj{xs:Array Nat}(hx:wW xs):SetTable.below xs 0=0:=by
 have h:=mW hx 0;rcases Nat.eq_zero_or_pos (SetTable.below xs 0) with z|z
 .exact z
 .exact absurd (h.lo 0 z) (Nat.not_lt_zero _)
theorem sU{xs:Array Nat}(hx:wW xs){i:Nat}(hi:i<xs.size):SetTable.below xs (xs.getD i 0+1)=i+1:=by
 have h:=mW hx (xs.getD i 0+1);rcases Nat.lt_trichotomy (SetTable.below xs (xs.getD i 0+1)) (i+1) with z|z|z
 .have:=h.hi i (by omega) hi;omega
 .exact z
 .have h1:=h.lo (i+1) z;have h2:=k9 hx (show i<i+1 by omega) (Nat.lt_of_lt_of_le z h.le);omega
theorem wV(n:Nat):wW (Array.range n):=by
 unfold wW;rw[Array.toList_range];exact List.pairwise_lt_range
theorem AK{xs:Array Nat}(hx:wW xs){j:Nat}(hj:xs[SetTable.below xs j]?≠some j):wW (SetTable.insertAt xs (SetTable.below xs j) j):=by
 have h:=mW hx j;unfold wW;rw[SetTable.toList_insertAt];refine List.pairwise_append.mpr ⟨List.Pairwise.sublist (List.take_sublist ..) hx,List.pairwise_cons.mpr ⟨fun y hy=>?_,List.Pairwise.sublist (List.drop_sublist ..) hx⟩,fun a ha y hy=>?_⟩
 .obtain⟨k,hk,e⟩:=List.mem_iff_getElem.mp hy;rw[List.getElem_drop,Array.getElem_toList] at e;rw[List.length_drop,Array.length_toList] at hk;have hk':SetTable.below xs j+k<xs.size:=by omega
  have h1:=h.hi (SetTable.below xs j+k) (by omega) hk';simp only[Array.getD,dif_pos hk'] at h1;rcases Nat.eq_zero_or_pos k with z|z
  .subst z;have h2:xs[SetTable.below xs j]?=some xs[SetTable.below xs j]:=Array.getElem?_eq_getElem (by omega);rcases Nat.lt_or_eq_of_le h1 with q|q
   .rw[<-e];exact q
   .refine absurd ?_ hj;rw[h2];exact congrArg some (by simpa using q.symm)
  .have h2:=k9 hx (a:=SetTable.below xs j) (b:=SetTable.below xs j+k) (by omega) hk';have h3:=h.hi (SetTable.below xs j) (Nat.le_refl _) (by omega);simp only[Array.getD,dif_pos hk'] at h2;rw[<-e];exact Nat.lt_of_le_of_lt h3 h2
 .obtain⟨k,hk,e⟩:=List.mem_iff_getElem.mp ha;rw[List.getElem_take,Array.getElem_toList] at e;rw[List.length_take,Array.length_toList] at hk;have h1:=h.lo k (by omega);simp only[Array.getD,dif_pos (show k<xs.size by omega)] at h1;have hay:a<j:=by rw[<-e];exact h1
  rcases List.mem_cons.mp hy with z|z
  .rw[z];exact hay
  .obtain⟨m,hm,e2⟩:=List.mem_iff_getElem.mp z;rw[List.getElem_drop,Array.getElem_toList] at e2;rw[List.length_drop,Array.length_toList] at hm;have hm':SetTable.below xs j+m<xs.size:=by omega
   have h2:=h.hi (SetTable.below xs j+m) (by omega) hm';simp only[Array.getD,dif_pos hm'] at h2;rw[<-e2];exact Nat.lt_of_lt_of_le hay h2
def lx(t:SetTable)(j:Nat):Prop:=t.place[SetTable.below t.place j]?≠some j
theorem rA{t:SetTable}{j:Nat}(h:t.slot j=.empty\/t.slot j=.dummy):lx t j:=fun e=>by
 unfold SetTable.slot at h;simp only[e,beq_self_eq_true,if_true] at h;rcases h with h|h<;>cases h
theorem n_(t:SetTable)(p:SetTable.Probe):(t.advance p).dummy=p.dummy:=by
 unfold SetTable.advance;split<;>rfl
theorem jW{t:SetTable}{f:Nat->Int}{h:Int}:∀(n:Nat) (p:SetTable.Probe),(∀d,p.dummy=some d->lx t d)->∀j d,SetTable.probe.go t f h n p=some (.empty j d)->lx t (d.getD j)
 |0,p,_,j,d,e=>by simp[SetTable.probe.go] at e
 |n+1,p,hp,j,d,e=>by
  unfold SetTable.probe.go at e;cases hs:t.slot p.j with
  |empty =>
   rw[hs] at e;simp only[Option.some.injEq,SetTable.Met.empty.injEq] at e;obtain⟨rfl,rfl⟩:=e;cases hd:p.dummy with
   |none=>exact rA (.inl hs)
   |some d=>exact hp d hd
  |dummy =>
   rw[hs] at e;refine jW n _ (fun d' hd'=>?_) j d e;rw[n_] at hd';simp only[Option.some.injEq] at hd';rw[<-hd'];exact rA (.inr hs)
  |live i =>
   rw[hs] at e;simp only at e;split at e
   .simp at e
   .exact jW n _ (fun d' hd'=>hp d' (by rw[n_] at hd';exact hd')) j d e
theorem xS{t:SetTable}{h:Int}{j:Nat}{b:Bool}(e:t.freeSlot h=some (j,b)):lx t j:=by
 unfold SetTable.freeSlot at e;split at e
 .rename_i j' d hq;have:=jW (t:=t) _ _ (fun d hd=>by simp[SetTable.probeStart] at hd) _ _ hq;simp only[Option.some.injEq,Prod.mk.injEq] at e;rw[<-e.1];exact this
 .cases e
structure Gd(l:Bool)(t:SetTable):Prop where
 led:t.led=l
 inc:wW t.place
theorem zC(l:Bool):Gd l (.fresh 0 0 l):=⟨rfl,by unfold wW SetTable.fresh;exact .nil⟩
theorem jf{l:Bool}{t:SetTable}(h:Gd l t)(n:Nat):Gd l (t.standIn n):=⟨h.led,wV n⟩
theorem DT{l:Bool}{t:SetTable}(h:Gd l t)(es:Array (Int×Value))(hs:Int)(x:Value):Gd l (layNew t es hs x).2.1:=by
 unfold layNew;split
 .rename_i j b e;have hn:=xS e;have g:Gd l (t.put j).1:=⟨h.led,AK h.inc hn⟩;show Gd l ((t.put j).1.orStandIn _);unfold SetTable.orStandIn;split
  .exact g
  .exact jf g _
 .exact jf h _
theorem Bl{mask fi mo:Nat}{l pl:Bool}{hs:Array Int}{t:SetTable}{o:Array Nat}(e:SetTable.laid mask fi mo l pl hs=some (t,o)):Gd l t:=by
 unfold SetTable.laid at e;cases hc:SetTable.layClean mask hs with
 |none=>rw[hc] at e;cases e
 |some ow =>
  rw[hc] at e;simp only[Option.bind_eq_bind,Option.bind_some,Option.pure_def,Option.some.injEq,Prod.mk.injEq] at e;rw[<-e.1];refine⟨rfl,?_⟩;unfold wW;simp only;rw[List.map_filterMap]
  have:∀l:List Nat,l.Pairwise (·<·)->(l.filterMap fun j=>Option.map (·.1) ((ow.getD j none).map fun x=>(j,x))).Pairwise (·<·):=fun l hl=>by
   refine List.Pairwise.filterMap _ (fun a a' haa b hb b' hb'=>?_) hl;cases ha:ow.getD a none with
   |none=>rw[ha] at hb;simp at hb
   |some u =>
    rw[ha] at hb;cases ha':ow.getD a' none with
    |none=>rw[ha'] at hb';simp at hb'
    |some u' =>
     rw[ha'] at hb';simp only[Option.map_some,Option.some.injEq] at hb hb';rw[<-hb,<-hb'];exact haa
  exact this _ List.pairwise_lt_range
theorem zH{l:Bool}{t:SetTable}(h:Gd l t)(es:Array (Int×Value))(n:Nat):Gd l (relayAll t es n).2.1:=by
 unfold relayAll;split
 .rename_i t' o e;dsimp only;split
  .unfold SetTable.relaid at e;rw[h.led] at e;exact Bl e
  .exact jf h _
 .exact jf h _
end L2.Sx
namespace L2.Sx
open PySem PyProof.Rows
structure gZ(p:Program)(w:World)(l:Bool)(h:Heap)(a:Addr)(o:Obj)(es:Array (Int×Value))(ep:Nat)(t:SetTable):Prop where
 get:h.get? a=some o
 ex:o.ExactSet
 dat:o.data=.set es ep t
 el:ElemsOf (intKind p w) es.toList
 bd:es.size<scanBound
 fit:t.fits es.size=true
 gd:Gd l t
def ki(p:Program)(w:World)(l:Bool)(h:Heap)(a:Addr)(ns:List Int):Prop :=
 ∃o es ep t,gZ p w l h a o es ep t/\(∀k,k∈ns↔∃e∈es.toList,(intKind p w).is k e.2=true)/\es.size=ns.length
theorem ki.keep{p:Program}{w:World}{l:Bool}{h h':Heap}{a:Addr}{ns:List Int}(q:ki p w l h a ns)(k:∀o,h.get? a=some o->h'.get? a=some o):ki p w l h' a ns:=by
 obtain⟨o,es,ep,t,g,m,z⟩:=q;exact⟨o,es,ep,t,⟨k o g.get,g.ex,g.dat,g.el,g.bd,g.fit,g.gd⟩,m,z⟩
def ins(ns:List Int)(k:Int):List Int:=if k∈ns then ns else ns++[k]
section
variable{p:Program}{w:World}{A:Around}{E:Value->Shared->Prop}{s:Shared}{l:Bool}{a:Addr}
theorem rL{h:Heap}{o:Obj}{es:Array (Int×Value)}{ep:Nat}{t:SetTable}(g:gZ p w l h a o es ep t){es':Array (Int×Value)}{t':SetTable}(he:ElemsOf (intKind p w) es'.toList)(hb:es'.size<scanBound)(hf:t'.fits es'.size=true)(hg:Gd l t'):
  gZ p w l (h.update a (Obj.putSet es' t')) a {o with data:=.set es' (ep+1) t'} es' (ep+1) t':=by
 refine⟨?_,g.ex,rfl,he,hb,hf,hg⟩;have q:=Heap.get?_update_self (Obj.putSet es' t') g.get (by rw[putSet_of es' t' g.dat];rfl)
 rwa [putSet_of es' t' g.dat] at q
theorem add_int{ns:List Int}{k:Int}{u:Tok}{Q:Bool->Shared->Prop}(hS:ki p w l s.heap a ns)(hr:ns.length+1<scanBound)(h:∀b h',Heap.SameBut a s.heap h'->ki p w l h' a (ins ns k)->Q b {s with heap:=h'}):
  wpAny (model p w) A (setAddHashed a (.int k u) ((intKind p w).hash k)) Q E s:=by
 obtain⟨o,es,ep,t,g,hm,hz⟩:=hS;have hk:(intKind p w).is k (.int k u)=true:=intKind_is _ _ _ _;have hsc:(Value.int k u).scannable=true:=rfl;have hbs:byScan (.int k u) es=true:=byScan_of hsc g.bd g.el;unfold setAddHashed setAddHashedIn;refine wpAny_holding (wpAny_bind (wpAny_setState_of g.get g.dat g.fit ?_));dsimp only;rw[if_pos hbs];unfold setAddByScan;refine wpAny_bind (wpAny_bind (wpAny_rule (wpAny_bind (wpAny_setScan_of hk g.get g.dat g.fit g.el ?_))));cases hf:es.toList.findIdx? (fun e=>(intKind p w).is k e.2) with
 |some j =>
  obtain⟨hj,hp,_⟩:=List.findIdx?_eq_some_iff_getElem.mp hf;have hin:k∈ns:=(hm k).mpr ⟨_,List.getElem_mem hj,hp⟩;refine wpAny_pure (wpAny_pure (h false s.heap (Heap.SameBut.refl a s.heap) ?_));unfold ins;rw[if_pos hin];exact⟨o,es,ep,t,g,hm,hz⟩
 |none =>
  have hout:k∉ns:=fun z=>by
   obtain⟨e,he,hp⟩:=(hm k).mp z;have q:=List.findIdx?_eq_none_iff.mp hf e he;rw[hp] at q;cases q
  have gw:∀(b:Bool) (s₁:Shared) (R:Unit->Shared->Prop),R () s₁->wpAny (model p w) A (match b with|true=>rule "set.scan.the-table-gave-way" |false=>pure ()) R E s₁:=fun b s₁ R q=>by
   cases b with
   |true=>exact wpAny_rule q
   |false=>exact wpAny_pure q
  have pm:=layNew_perm t es ((intKind p w).hash k) (.int k u);have ft:=layNew_fits t es ((intKind p w).hash k) (.int k u);have gd:=DT g.gd es ((intKind p w).hash k) (.int k u);generalize layNew t es ((intKind p w).hash k) (.int k u)=L at pm ft gd ⊢;obtain⟨es1,t1,wd,gv⟩:=L;dsimp only at pm ft gd ⊢;rw[Array.toList_push] at pm
  have sz:es1.size=es.size+1:=by
   rw[<-Array.length_toList,pm.length_eq,List.length_append,Array.length_toList];rfl
  have el1:ElemsOf (intKind p w) es1.toList:=(g.el.push hk hsc).perm pm
  have mem1:∀k',k'∈ns++[k]↔∃e∈es1.toList,(intKind p w).is k' e.2=true:=fun k'=>by
   rw[List.mem_append,hm k',List.mem_singleton];constructor
   .rintro(⟨e,he,q⟩|rfl)
    .exact⟨e,pm.mem_iff.mpr (List.mem_append_left _ he),q⟩
    .exact⟨_,pm.mem_iff.mpr (List.mem_append_right _ (List.mem_singleton.mpr rfl)),hk⟩
   .rintro⟨e,he,q⟩;rcases List.mem_append.mp (pm.mem_iff.mp he) with z|z
    .exact .inl ⟨e,z,q⟩
    .rw[List.mem_singleton.mp z] at q;exact .inr ((intKind p w).inj _ k' k q hk)
  have hins:ins ns k=ns++[k]:=by unfold ins;rw[if_neg hout]
  refine wpAny_bind (gw _ _ _ ?_)
  have tail:∀t2:SetTable,t2.fits es1.size=true->Gd l t2->wpAny (model p w) A (do
    storeSet a es1 t2
    if (!wd&&t2.tooFull)=true then do
      (match (relayAll t2 es1 (SetTable.grown es1.size)).2.2 with|true=>rule "set.scan.the-table-gave-way" |false=>pure ())
      storeSet a (relayAll t2 es1 (SetTable.grown es1.size)).1 (relayAll t2 es1 (SetTable.grown es1.size)).2.1
      pure (some true)
     else pure (some true)) (fun r s'=>wpAny (model p w) A (match r with|some b=>pure b|none=>setAddHashedIn a (.int k u) ((intKind p w).hash k) 99999) Q E s') E s:=fun t2 f2 g2=>by
   have G1:=rL g el1 (by omega) f2 g2;have B1:=Heap.SameBut.update s.heap a (Obj.putSet es1 t2);refine wpAny_bind (wpAny_storeSet_of g.get g.dat ?_ (fits_of_scanBound (by omega)));by_cases hc:(!wd&&t2.tooFull)=true
   .rw[if_pos hc];have pm2:=relayAll_perm t2 es1 (SetTable.grown es1.size);have ft2:=relayAll_fits t2 es1 (SetTable.grown es1.size);have gd2:=zH g2 es1 (SetTable.grown es1.size);generalize relayAll t2 es1 (SetTable.grown es1.size)=R at pm2 ft2 gd2 ⊢;obtain⟨es2,t3,gv2⟩:=R;dsimp only at pm2 ft2 gd2 ⊢;have sz2:es2.size=es1.size:=by rw[<-Array.length_toList,pm2.length_eq,Array.length_toList]
    have G2:=rL G1 (el1.perm pm2) (by omega) ft2 gd2;refine wpAny_bind (gw _ _ _ (wpAny_bind (wpAny_storeSet_of G1.get G1.dat ?_ (fits_of_scanBound (by omega)))));refine wpAny_pure (wpAny_pure (h true _ (B1.trans (Heap.SameBut.update _ a _)) ?_));rw[hins];refine⟨_,es2,_,t3,G2,fun k'=>(mem1 k').trans ⟨fun⟨e,he,q⟩=>⟨e,pm2.mem_iff.mpr he,q⟩,fun⟨e,he,q⟩=>⟨e,pm2.mem_iff.mp he,q⟩⟩,?_⟩;rw[List.length_append,sz2,sz,hz];rfl
   .rw[if_neg hc];refine wpAny_pure (wpAny_pure (h true _ B1 ?_));rw[hins];refine⟨_,es1,_,t2,G1,mem1,?_⟩;rw[List.length_append,sz,hz];rfl
  cases hp:t1.plain with
  |true =>
   rw[if_pos rfl,hashByValue_scannable 8 hsc];exact wpAny_bind (wpAny_pure (tail t1 ft gd))
  |false =>
   exact wpAny_bind (wpAny_pure (tail t1 ft gd))
end
end L2.Sx
namespace L2.Sx
open PySem PyProof.Rows PySem.Spec
def met(f:Nat->Int)(i:Nat):List Int:=((List.range i).map f).foldl ins []
theorem jA(f:Nat->Int)(i:Nat):met f (i+1)=ins (met f i) (f i):=by
 unfold met;rw[List.range_succ,List.map_append,List.foldl_append];rfl
theorem lq(f:Nat->Int):∀i,(met f i).length<=i
 |0=>Nat.le_refl _
 |i+1=>by
  have z:=lq f i;rw[jA];unfold ins;split
  .omega
  .rw[List.length_append];simp;omega
section
variable{p:Program}{w:World}{A:Around}{E:Value->Shared->Prop}{s:Shared}{l:Bool}
theorem zI{R:Result->Shared->Prop}{I S:Addr}{fp wr:List Addr}{G:Array GenState->Array GenState->Prop}{n:Nat}{P:Nat->Value->Prop}{St:Nat->Shared->Prop}(W:WalksS p w A.in1 I fp wr G n P St)(hS:S∉fp)(f:Nat->Int)(hf:∀i v,P i v->∃t,v=.int (f i) t)(hb:n+1<scanBound):
  ∀(k i:Nat) (s:Shared),i+k=n->St i s->ki p w l s.heap S (met f i)->(∀s',Moved (S::wr) G s s'->ki p w l s'.heap S (met f n)->R (.ok (.ret .none)) s') ->
   codeAny (model p w) A (.builtin "set.update.loop" ⟨[.ref S,.ref I],[]⟩) R s:=by
 have hw:S∉wr:=fun z=>hS (W.sub _ z);have up:∀b∈wr,b∈S::wr:=fun b z=>List.mem_cons_of_mem _ z;intro k
 induction k with
 |zero =>
  intro i s hk st g fin;obtain rfl:i=n:=by omega
  refine codeAny_builtin PyProof.Rows.F.entry_set_update_loop ?_;rw[Around.under_plainId PyProof.Rows.F.plain_set_update_loop _];show wpAny _ A.in1 (pyNext (.ref I) >>= _) _ _ s;exact wpAny_bind (W.done s _ _ st fun s' mv=>wpAny_pure (fin s' (mv.mono up) (g.keep fun o e=>mv.heap S o hw e)))
 |succ k ih =>
  intro i s hk st g fin;refine codeAny_builtin PyProof.Rows.F.entry_set_update_loop ?_;rw[Around.under_plainId PyProof.Rows.F.plain_set_update_loop _];show wpAny _ A.in1 (pyNext (.ref I) >>= _) _ _ s;refine wpAny_bind (W.item i s _ _ (by omega) st fun v s' hP st' mv=>?_);obtain⟨t,rfl⟩:=hf i v hP;have g':=g.keep (h':=s'.heap) fun o e=>mv.heap S o hw e;show wpAny _ A.in1 (holding [Value.int (f i) t] (setAdd S (.int (f i) t)) >>= _) _ _ s';unfold setAdd;refine wpAny_bind (wpAny_holding (wpAny_holding (wpAny_bind ((intKind p w).pyHash (k:=f i) (intKind_is _ _ _ _) ?_))));have room:(met f i).length+1<scanBound:=by have:=lq f i;omega
  refine add_int (s:={s' with toks:=s'.toks+1}) g' room fun b h' sb gn=>?_;rw[<-jA] at gn;refine wpAny_pure ⟨plainId_quiet PyProof.Rows.F.plain_set_update_loop _,ih (i+1) _ (by omega) (W.frame _ s' _ _ st' (Nat.le_succ _) fun c hc o e=>?_) gn fun s'' mv2 gz=>fin s'' (Moved.trans W.gtrans ((mv.mono up).then_heap (Nat.le_succ _) fun c o hc e=>?_) mv2) gz⟩
  .rw[sb.2 c fun z=>hS (z▸hc)];exact e
  .rw[sb.2 c fun z=>hc (z▸List.mem_cons_self)];exact e
abbrev nC(w:World):Bool:=!w.params.followText "set-order"
abbrev eS(w:World):Obj:={cls:=.type "set",dict:=none,data:=.set #[] 0 (.fresh 0 0 (nC w))}
theorem AO(a:Value){R:Value->Shared->Prop}(h:R (.ref s.heap.objs.size) {s with heap:=s.heap.push (eS w)}):codeAny (model p w) A (.call (.builtin "set.__new__") ⟨[.type "set",a],[]⟩) (wants R E) s:=by
 refine codeAny_of_tree (show wpAny _ A.in1 (checkBuiltinCall "set.__new__" ⟨[.type "set",a],[]⟩ >>= fun _=>again (.builtin "set.__new__" ⟨[.type "set",a],[]⟩)) _ _ s from ?_);refine wpAny_bind (wpAny_of_eq (PySem.F.newCall_set_1 a) (wpAny_pure ⟨plainId_quiet PySem.F.plain_set_new _,codeAny_builtin PySem.F.entry_set_new ?_⟩));rw[Around.under_plainId PySem.F.plain_set_new _];unfold Builtin.«set.__new__» Builtin.Frozenset.newClass;have sub:=sub_set_self;obtain⟨hp,g,d,tk,os⟩:=s;dsimp only
 wp_walk
 refine wpAny_askSetting (wpAny_pure ?_);simp only[newObj];exact wpAny_bind (wpAny_alloc (wpAny_pure (wpAny_pure h)))
end
end L2.Sx
namespace L2.Sx
open PySem PyProof.Rows PySem.Spec
section
variable{p:Program}{w:World}{A:Around}{E:Value->Shared->Prop}{s:Shared}
theorem BO{h:Heap}{a:Addr}(e:h.get? a=some (eS w)):ki p w (nC w) h a [] :=
 ⟨_,#[],0,_,⟨e,⟨rfl,rfl,rfl⟩,rfl,(fun x hx=>by simp at hx),by decide,rfl,zC _⟩,(fun k=>by simp),rfl⟩
theorem zJ{l:Addr}{items:Array Value}{ns:List Int}(hh:A.handled=none)(hl:s.heap.IsList l items)(hi:IntsAre items.toList ns)(hb:items.size+1<scanBound){R:Result->Shared->Prop}
  (h:∀h' tk,ki p w (nC w) h' s.heap.objs.size (met (fun i=>ns.getD i 0) items.size)->(∀b o,s.heap.get? b=some o->h'.get? b=some o)->R (.ok (.ret .none)) {s with heap:=h',toks:=tk}):
  wpAny (model p w) A.in1 (Builtin.«set.__init__» ⟨[.ref s.heap.objs.size,.ref l],[]⟩) (fun fin s'=>match fin with|.done f=>R (.ok f) s'|.again c'=>c'.quiet=true/\codeAny (model p w) A c' R s') (fun e s'=>R (.error e) s') {s with heap:=s.heap.push (eS w)}:=by
 obtain⟨ol,hol,hcl,nl,hdl⟩:=hl;obtain⟨ocls,odict,odata,oslots⟩:=ol;simp only at hcl hdl;subst hcl hdl;have hS:(s.heap.push (eS w)).get? s.heap.objs.size=some (eS w):=Heap.get?_push_size _ rfl;have hol':(s.heap.push (eS w)).get? l=some {cls:=.type "list",dict:=odict,data:=.seq items nl,slots:=oslots}:=Heap.get?_push_of_some _ hol;have q1:=PySem.F.sub_list_set;have q2:=PySem.F.sub_list_frozenset;have q3:(Value.type "list"==Value.type "dict")=false:=by decide
 have hl1:(s.heap.push (eS w)).IsList l items:=⟨_,hol',rfl,nl,rfl⟩;have hlS:l<s.heap.objs.size:=Heap.lt_size hol;have sz:(s.heap.push (eS w)).objs.size=s.heap.objs.size+1:=Heap.size_push ..;unfold Builtin.«set.__init__» noKeywords Builtin.Frozenset.updateFrom;generalize hp:pyIter=pI
 wp_walk
 subst hp;refine wpAny_pyIter_list hl1 (wpAny_bind (wpAny_runValue ?_));have nI:l≠(s.heap.push (eS w)).objs.size:=by rw[sz];exact Nat.ne_of_lt (Nat.lt_succ_of_lt hlS)
 have nS:s.heap.objs.size∉[(s.heap.push (eS w)).objs.size,l]:=by
  rw[sz];simp only[List.mem_cons,List.not_mem_nil,or_false,not_or];exact⟨Nat.ne_of_lt (Nat.lt_succ_self _),Nat.ne_of_gt hlS⟩
 refine zI (A:=A.in1) (l:=nC w) ((Walks.list (by simp[hh]) _ l nI items).toS) nS (fun i=>ns.getD i 0) (fun i v hv=>IntsAre.int_at hi i v (by rw[Array.getElem?_toList];exact hv)) hb items.size 0 _ (by omega) ⟨⟨_,Heap.get?_push_size _ rfl,rfl,rfl⟩,hl1.push _⟩ (BO (Heap.get?_push_of_some _ hS)) fun s' mv g=>?_;obtain⟨h',gn,dr,tk,os⟩:=s';obtain rfl:gn=s.gens:=mv.gens;obtain rfl:dr=s.drawn:=mv.drawn;obtain rfl:os=s.os:=mv.os;refine wpAny_pure (wpAny_pure (h h' tk g fun b o e=>?_));have hlt:=Heap.lt_size e;refine mv.heap b o ?_ (Heap.get?_push_of_some _ (Heap.get?_push_of_some _ e));rw[sz];simp only[List.mem_cons,List.not_mem_nil,or_false,not_or];exact⟨Nat.ne_of_lt hlt,Nat.ne_of_lt (Nat.lt_succ_of_lt hlt)⟩
theorem zx{l:Addr}{items:Array Value}{ns:List Int}{Q:Value->Shared->Prop}(hh:A.handled=none)(hl:s.heap.IsList l items)(hi:IntsAre items.toList ns)(hb:items.size+1<scanBound)
  (h:∀h' tk,ki p w (nC w) h' s.heap.objs.size (met (fun i=>ns.getD i 0) items.size)->(∀b o,s.heap.get? b=some o->h'.get? b=some o)->Q (.ref s.heap.objs.size) {s with heap:=h',toks:=tk}):
  wpAny (model p w) A (call (.type "set") [.ref l]) Q E s:=by
 obtain⟨c,tl,m1⟩:=PySem.F.called_set.mro;have m2:=PySem.F.called_set.made;have m3:=PySem.F.called_set.sub;have m4:=PySem.F.called_set.notType;have m5:=PySem.F.called_set.canCreate;have m6:=PySem.F.typeCall_set_1 (.ref l);refine wpAny_call (codeAny_of_tree (show wpAny _ _ (callAny (.type "set") _) _ _ _ from wpAny_pure ⟨Code.quiet_builtin _ (by decide +kernel),codeAny_builtin PySem.F.entry_type_call ?_⟩));rw[Around.under_plain (weight_type_call_type "set" [.ref l] []) rfl]
 repeat any_goals first|assumption|wp_step
 refine codeAny_mono (AO (.ref l) (E:=E) (R:=fun v s₁=>v=.ref s.heap.objs.size/\s₁={s with heap:=s.heap.push (eS w)}) ⟨rfl,rfl⟩) fun r s₁ hr=>?_;cases r with
 |error e=>exact hr
 |ok fl =>
  cases fl with
  |ret v =>
   obtain⟨rfl,rfl⟩:=hr;have hT:Shared.TypeIs {s with heap:=s.heap.push (eS w)} (.ref s.heap.objs.size) "set":=⟨_,Heap.get?_push_size _ rfl,rfl⟩;have m7:=PySem.F.called_set.init.lookup;have m8:=PySem.F.called_set.init.bind (.ref s.heap.objs.size)
   repeat any_goals first|assumption|wp_step
   refine codeAny_mono (codeAny_call_builtin (R:=wants (fun r s₂=>r=.none/\∃h' tk,s₂={s with heap:=h',toks:=tk}/\ki p w (nC w) h' s.heap.objs.size (met (fun i=>ns.getD i 0) items.size)/\∀b o,s.heap.get? b=some o->h'.get? b=some o) E) PySem.F.called_set.init.plain PySem.F.entry_set_init (check_set_init_1 hT (zJ (by simp[hh]) hl hi hb fun h' tk g k=>⟨rfl,h',tk,rfl,g,k⟩))) fun r₂ s₂ hr₂=>?_;cases r₂ with
   |error e=>exact hr₂
   |ok f2 =>
    cases f2 with
    |ret r =>
     obtain⟨rfl,h',tk,rfl,g,k⟩:=hr₂
     repeat any_goals first|assumption|wp_step
     exact h _ _ g k
    |_=>exact hr₂.elim
  |_=>exact hr.elim
end
end L2.Sx
namespace L2.Sx
open PySem PyProof.Rows PySem.Spec
section
variable{p:Program}{w:World}{A:Around}{E:Value->Shared->Prop}{s:Shared}{S:Addr}{o:Obj}{es:Array (Int×Value)}{ep:Nat}{t:SetTable}
def sl(t:SetTable):Nat->Nat
 |0=>0
 |i+1=>t.place.getD i 0+1
theorem lH{Q:Bool->Shared->Prop}(h:Q (w.params.followText "set-order") s):wpAny (model p w) A setsByText Q E s:=by
 unfold setsByText;exact wpAny_bind (wpAny_askSetting (wpAny_pure h))
theorem uJ(g:gZ p w (nC w) s.heap S o es ep t)(hb:w.params.followText "set-order"=false)(hd:t.plain=true\/es.size<=1){i:Nat}(hi:i<=es.size){Q:Option (Value×Nat)->Shared->Prop}(h:Q (es[i]?.map fun e=>(e.2,sl t (i+1))) s):
  wpAny (model p w) A (setNext S (sl t i) i ep) Q E s:=by
 unfold setNext;refine wpAny_bind (wpAny_setState_of g.get g.dat g.fit (wpAny_bind (lH ?_)));rw[hb]
 have dr:(!t.plain&&decide (es.size>1))=false:=by
  rcases hd with z|z
  .rw[z];rfl
  .rw[decide_eq_false (by omega)];simp
 refine wpAny_ite_split (fun q=>absurd q Bool.false_ne_true) fun _=>?_;refine wpAny_ite_split (fun q=>absurd (show(!t.plain&&decide (es.size>1))=true from q) (by rw[dr];exact Bool.false_ne_true)) fun _=>?_;have ld:t.led=true:=by rw[g.gd.led];show(!w.params.followText "set-order")=true;rw[hb];rfl
 refine wpAny_bind (show wpAny _ _ (if (!t.led&&!es.isEmpty)=true then unsupported "set:maker-not-led" else pure ()) _ _ _ from ?_);rw[if_neg (by rw[ld];simp)];refine wpAny_pure ?_;have sz:t.place.size=es.size:=by have f:=g.fit;simp only[SetTable.fits,Bool.and_eq_true,beq_iff_eq] at f;exact f.1
 have hbl:SetTable.below t.place (sl t i)=i:=by
  cases i with
  |zero=>exact tj g.gd.inc
  |succ i=>exact sU g.gd.inc (by omega)
 dsimp only;rw[hbl];refine wpAny_pure ?_;by_cases hlt:i<es.size
 .have h1:es[i]?=some es[i]:=Array.getElem?_eq_getElem hlt
  have h2:t.place[i]?=some (t.place.getD i 0):=by
   rw[Array.getElem?_eq_getElem (by omega)];simp only[Array.getD,dif_pos (show i<t.place.size by omega)];rfl
  rw[h1,h2];rw[h1] at h;exact h
 .have h1:es[i]?=none:=Array.getElem?_eq_none (by omega);rw[h1];rw[h1] at h;exact h
theorem xi(g:gZ p w (nC w) s.heap S o es ep t)(hb:w.params.followText "set-order"=true){i j:Nat}{Q:Option (Value×Nat)->Shared->Prop}(h:Q ((pickOrder (w.params.setOrder S ep) es)[i]?.map fun e=>(e.2,j)) s):
  wpAny (model p w) A (setNext S j i ep) Q E s:=by
 unfold setNext;refine wpAny_bind (wpAny_setState_of g.get g.dat g.fit (wpAny_bind (lH ?_)));rw[hb];refine wpAny_ite_split (fun _=>?_) fun q=>absurd rfl q;refine wpAny_ite_split (fun q=>absurd q (by simp)) fun _=>?_;unfold setWalk;refine wpAny_bind (wpAny_bind (wpAny_setState_of g.get g.dat g.fit (wpAny_bind (lH ?_))));rw[hb];refine wpAny_ite_split (fun _=>?_) fun q=>absurd rfl q;exact wpAny_bind (wpAny_askSetting (wpAny_pure (wpAny_pure h)))
end
end L2.Sx
namespace L2.Sx
open PySem PyProof.Rows PySem.Spec
theorem dh:Slot "set_iterator" "__next__" "set_iterator.__next__" :=
 .of (owner:="set_iterator") (n:="__next__") (by rw[typeLookup_type,builtinLookup_eq_fast];kernel_rfl) (by decide +kernel) (by decide +kernel) (by decide +kernel)
  (by first|exact .inr (by decide +kernel)|exact .inl (by decide +kernel)) (by rw[isSubtype_type];kernel_rfl)
theorem jk:entryFor table "set_iterator.__next__"=some Builtin.«set_iterator.__next__»:=entryFor_of_tree (by kernel_rfl)
theorem zO:Manifest.owners.lookup (String.ofList ['r','o','t','a','r','e','t','i','_','t','e','s'].reverse)=some Manifest.sig_set_iterator:=by kernel_rfl
theorem lJ(a:Value):argsOk "set_iterator.__next__" ⟨[a],[]⟩:=by
 unfold argsOk;rw[signature?_of (id:="set_iterator.__next__") (n:=['_','_','t','x','e','n','_','_']) (o:=['r','o','t','a','r','e','t','i','_','t','e','s']) (by kernel_rfl) zO];kernel_rfl
theorem rS:Slot "set_iterator" "__iter__" "set_iterator.__iter__" :=
 .of (owner:="set_iterator") (n:="__iter__") (by rw[typeLookup_type,builtinLookup_eq_fast];kernel_rfl) (by decide +kernel) (by decide +kernel) (by decide +kernel)
  (by first|exact .inr (by decide +kernel)|exact .inl (by decide +kernel)) (by rw[isSubtype_type];kernel_rfl)
theorem xw:entryFor table "set_iterator.__iter__"=some Builtin.«dict_keyiterator.__iter__»:=entryFor_alias (id':="dict_keyiterator.__iter__") (by kernel_rfl) rfl (by decide +kernel) (by kernel_rfl)
theorem yP(a:Value):argsOk "set_iterator.__iter__" ⟨[a],[]⟩:=by unfold argsOk;kernel_rfl
theorem yJ:entryFor table "set.__iter__"=some Builtin.«frozenset.__iter__»:=entryFor_alias (id':="frozenset.__iter__") (by kernel_rfl) rfl (by decide +kernel) (by kernel_rfl)
def i9(h:Heap)(I:Addr)(f:Value)(i:Nat)(S:Addr)(n ep:Nat):Prop:=∃o,h.get? I=some o/\o.cls=.type "set_iterator"/\o.data=.fields #[f,.int i 0,.ref S,.int n 0,.int ep 0]
section
variable{p:Program}{w:World}{A:Around}{E:Value->Shared->Prop}{s:Shared}{I S:Addr}{o:Obj}{es:Array (Int×Value)}{ep:Nat}{t:SetTable}
theorem i9.ty{f:Value}{i n:Nat}(q:i9 s.heap I f i S n ep):s.TypeIs (.ref I) "set_iterator":=let ⟨x,a,b,_⟩:=q;⟨x,a,b⟩
theorem u4{f:Value}{i n:Nat}{Q:Value->Shared->Prop}(q:i9 s.heap I f i S n ep)(h:Q (.ref I) s):wpAny (model p w) A (pyIter (.ref I)) Q E s:=by
 refine wpAny_pyIter_slot q.ty rS (wpAny_call_entry rS q.ty xw (show wpAny _ _ (ret (.ref I)) _ _ s from ?_) (yP _));exact wpAny_pure ⟨_,rfl,"set_iterator",_,q.ty,dh.lookup,h⟩
theorem i9.put{h:Heap}{f x:Value}{i n:Nat}(q:i9 h I f i S n ep):i9 (h.update I (Obj.mapFields (·.setIfInBounds 0 x))) I x i S n ep/\∀j:Nat,i9 (h.update I (Obj.mapFields (·.setIfInBounds 1 (rawInt j)))) I f j S n ep:=by
 obtain⟨a,b,c,d⟩:=q;refine⟨⟨_,Heap.get?_update_self _ b (Obj.isFreed_of_fields (Obj.data_mapFields d _)),(Obj.cls_mapFields ..).trans c,?_⟩,fun j=>⟨_,Heap.get?_update_self _ b (Obj.isFreed_of_fields (Obj.data_mapFields d _)),(Obj.cls_mapFields ..).trans c,?_⟩⟩
 .rw[Obj.data_mapFields d];simp
 .rw[Obj.data_mapFields d];simp[rawInt]
theorem Ci{u:Nat}{i:Nat}{x:Value}{nx:Nat}(q:i9 s.heap I (.int u 0) i S es.size ep)(g:gZ p w (nC w) s.heap S o es ep t){Q:Option Value->Shared->Prop}
  (hn:∀(A:Around) (E:Value->Shared->Prop) (R:Option (Value×Nat)->Shared->Prop),R (some (x,nx)) s->wpAny (model p w) A (setNext S u i ep) R E s)
  (h:∀h',i9 h' I (.int nx 0) (i+1) S es.size ep->Heap.SameBut I s.heap h'->Q (some x) {s with heap:=h'}):wpAny (model p w) A (pyNext (.ref I)) Q E s:=by
 obtain⟨oi,i1,i2,i3⟩:=id q;unfold pyNext;refine wpAny_bind (wpAny_attempt (wpAny_callSpecial?_slot (name:=Str.ofString "__next__") q.ty dh (wpAny_call_entry dh q.ty jk ?_ (lJ _))));unfold Builtin.«set_iterator.__next__»;refine wpAny_bind (wpAny_pure (wpAny_bind (wpAny_fieldsOf i1 i3 ?_)));dsimp only;refine wpAny_bind (wpAny_setEntries_of g.get g.dat g.fit ?_);refine wpAny_ite_split (fun z=>absurd z (by simp)) fun _=>?_;dsimp only[Int.toNat_natCast];refine wpAny_bind (hn _ _ _ ?_);dsimp only;have q1:=(q.put (x:=rawInt nx)).1;obtain⟨oj,j1,j2,j3⟩:=id q1;refine wpAny_bind (wpAny_setField i1 i3 (by simp) (wpAny_bind (wpAny_setField j1 j3 (by simp) (wpAny_pure ⟨x,rfl,wpAny_pure (h _ ?_ ((Heap.SameBut.update ..).trans (Heap.SameBut.update ..)))⟩))));exact(q1.put (x:=.none)).2 (i+1)
theorem oA{Q:Option Value->Shared->Prop}(hh:A.handled=none)(h:∀h',(∀b o,s.heap.get? b=some o->h'.get? b=some o)->Q none {s with heap:=h'}):
  wpAny (model p w) A.in1 (newExc (.type "StopIteration") [] >>= fun x=>raiseNew (α:=Fin) x) (fun fin s'=>∃v,fin=Fin.done (Flow.ret v)/\wpAny (model p w) A (pure (some v)) Q E s')
   (fun e s'=>wpAny (model p w) A (isInstance e (Value.type "StopIteration") >>= fun b=>if b=true then pure none else throw e) Q E s') s:=by
 refine wpAny_bind ?_;simp only[newExc,newTuple];refine wpAny_bind (wpAny_newObj_type ?_ (by size_fits));refine wpAny_bind (m:=firstArgMember _ _) (wpAny_of_eq (a:=Value.none) (by first|(simp only[firstArgMember];rfl)|rfl) ?_);refine wpAny_newObj_type ?_ (by size_fits);simp only[raiseNew];refine wpAny_bind (wpAny_handled ?_);rw[show A.in1.handled=none from hh];refine wpAny_bind (wpAny_pure (wpAny_throw ?_));refine wpAny_bind (wpAny_isInstance (T:="StopIteration") (b:=true) ⟨_,Heap.get?_push_size _ rfl,rfl⟩ isSubtype_stop (wpAny_pure (h _ fun b o e=>?_)));exact Heap.get?_push_of_some _ (Heap.get?_push_of_some _ e)
theorem Ed{u:Nat}{i:Nat}(hh:A.handled=none)(q:i9 s.heap I (.int u 0) i S es.size ep)(g:gZ p w (nC w) s.heap S o es ep t){Q:Option Value->Shared->Prop}
  (hn:∀(A:Around) (E:Value->Shared->Prop) (R:Option (Value×Nat)->Shared->Prop),R none s->wpAny (model p w) A (setNext S u i ep) R E s)
  (h:∀h',(∀b o,b≠I->s.heap.get? b=some o->h'.get? b=some o)->Q none {s with heap:=h'}):wpAny (model p w) A (pyNext (.ref I)) Q E s:=by
 obtain⟨oi,i1,i2,i3⟩:=id q;unfold pyNext;refine wpAny_bind (wpAny_attempt (wpAny_callSpecial?_slot (name:=Str.ofString "__next__") q.ty dh (wpAny_call_entry dh q.ty jk ?_ (lJ _))));unfold Builtin.«set_iterator.__next__»;refine wpAny_bind (wpAny_pure (wpAny_bind (wpAny_fieldsOf i1 i3 ?_)));dsimp only;refine wpAny_bind (wpAny_setEntries_of g.get g.dat g.fit ?_);refine wpAny_ite_split (fun z=>absurd z (by simp)) fun _=>?_;dsimp only[Int.toNat_natCast];refine wpAny_bind (hn _ _ _ ?_);dsimp only;refine wpAny_bind (wpAny_setField i1 i3 (by simp) ?_);refine oA (s:={s with heap:=s.heap.update I (Obj.mapFields (·.setIfInBounds 2 Value.none))}) hh fun h' k=>h h' fun b o hb e=>k b o ?_;rw[(Heap.SameBut.update s.heap I _).2 b hb];exact e
theorem mC{vs:List Value}{f:Nat->Nat}(hh:A.handled=none)(hne:S≠I)(hl:vs.length=es.size)
  (hn:∀(s:Shared) (i:Nat) (A:Around) (E:Value->Shared->Prop) (R:Option (Value×Nat)->Shared->Prop),i<=es.size->gZ p w (nC w) s.heap S o es ep t->R (vs[i]?.map fun v=>(v,f (i+1))) s->wpAny (model p w) A (setNext S (f i) i ep) R E s):
  Walks p w A I [I,S] [I] vs.length (fun i v=>vs[i]?=some v) (fun i h=>i<=vs.length/\i9 h I (.int (f i) 0) i S es.size ep/\gZ p w (nC w) h S o es ep t) where
 sub:=fun b hb=>by simp at hb;simp[hb]
 frame:=fun i h h' st k=>by
  obtain⟨st0,⟨x,a,b,c⟩,g⟩:=st;exact⟨st0,⟨x,k I (by simp) x a,b,c⟩,⟨k S (by simp) o g.get,g.ex,g.dat,g.el,g.bd,g.fit,g.gd⟩⟩
 item:=fun i s Q E hi st hQ=>by
  obtain⟨st0,q,g⟩:=st;have e:vs[i]?=some vs[i]:=List.getElem?_eq_getElem hi;refine Ci (x:=vs[i]) (nx:=f (i+1)) q g (fun A E R r=>hn s i A E R (by omega) g (by rw[e];exact r)) fun h' q' sb=>hQ _ h' s.toks e ⟨hi,q',?_⟩ fun b o' hb e'=>?_
  .exact⟨by rw[sb.2 S hne];exact g.get,g.ex,g.dat,g.el,g.bd,g.fit,g.gd⟩
  .rw[sb.2 b fun z=>hb (by simp[z])];exact e'
 done:=fun s Q E st hQ=>by
  obtain⟨st0,q,g⟩:=st;exact Ed hh q g (fun A E R r=>hn s _ A E R (by omega) g (by rw[List.getElem?_eq_none (Nat.le_refl _)];exact r)) fun h' k=>hQ h' s.toks fun b o' hb e'=>k b o' (fun z=>hb (by simp[z])) e'
 self:=fun i s Q E st hQ=>u4 st.2.1 hQ
end
end L2.Sx
namespace L2.Sx
open PySem PyProof.Rows PySem.Spec
section
variable{p:Program}{w:World}{A:Around}{E:Value->Shared->Prop}{s:Shared}{I S T:Addr}{o:Obj}{es:Array (Int×Value)}{ep:Nat}{t:SetTable}
theorem jc{α:Type}:∀(l:List α) (i:Nat) (h:i<l.length),(l[i]::l.eraseIdx i).Perm l
 |x::l,0,_=>.refl _
 |x::l,i+1,h=>by
  have:=jc l i (by simpa using h);simp only[List.getElem_cons_succ,List.eraseIdx_cons_succ];exact(List.Perm.swap ..).trans (this.cons x)
theorem tL{n:Nat}{src:Source}{Q:Nat->Shared->Prop}(hn:n≠0)(h:∀i d,i<n->Q i {s with drawn:=d}):wpAny (model p w) A (choose src n) Q E s:=by
 intro Γ q hA;show Sem.wp _ _ (.choose src n .pure) _ _ _ _;rw[Sem.wp_choose];exact⟨hn,h _ _ (Nat.mod_lt _ (Nat.pos_of_ne_zero hn))⟩
theorem si{α:Type}:∀(n:Nat) (xs:List α) (s:Shared) (Q:List α->Shared->Prop),xs.length=n->(∀ys d,ys.Perm xs->Q ys {s with drawn:=d})->wpAny (model p w) A (drawOrder n xs) Q E s
 |0,xs,s,Q,hl,h=>by
  obtain rfl:xs=[]:=List.length_eq_zero_iff.mp hl;unfold drawOrder;exact wpAny_pure (h [] s.drawn (.refl _))
 |n+1,[],s,Q,hl,h=>by simp at hl
 |n+1,x::xs,s,Q,hl,h=>by
  unfold drawOrder;refine wpAny_bind (tL (by simp) fun i d hi=>?_);have e:(x::xs)[i]?=some (x::xs)[i]:=List.getElem?_eq_getElem hi;rw[e];refine wpAny_bind (si n _ _ _ (by rw[List.length_eraseIdx,if_pos hi];simp at hl ⊢;omega) fun ys d2 pm=>?_);refine wpAny_pure (h _ d2 ?_);exact(List.Perm.cons _ pm).trans (jc _ i hi)
theorem B6{os:List Nat}{i j:Nat}{e:Int×Value}{oT:Obj}{nT:Nat}(q:i9 s.heap I (.ref T) i S es.size ep)(g:gZ p w (nC w) s.heap S o es ep t)(hT:s.heap.get? T=some oT)(dT:oT.data=.seq (os.map fun n:Nat=>rawInt (n:Int)).toArray nT)(hj:os[i]?=some j)(he:es[j]?=some e){Q:Option Value->Shared->Prop}
  (h:∀h',i9 h' I (.ref T) (i+1) S es.size ep->Heap.SameBut I s.heap h'->Q (some e.2) {s with heap:=h'}):wpAny (model p w) A (pyNext (.ref I)) Q E s:=by
 obtain⟨oi,i1,i2,i3⟩:=id q;unfold pyNext;refine wpAny_bind (wpAny_attempt (wpAny_callSpecial?_slot (name:=Str.ofString "__next__") q.ty dh (wpAny_call_entry dh q.ty jk ?_ (lJ _))));unfold Builtin.«set_iterator.__next__»;refine wpAny_bind (wpAny_pure (wpAny_bind (wpAny_fieldsOf i1 i3 ?_)));dsimp only;refine wpAny_bind (wpAny_setEntries_of g.get g.dat g.fit ?_);refine wpAny_ite_split (fun z=>absurd z (by simp)) fun _=>?_;dsimp only[Int.toNat_natCast];refine wpAny_bind (wpAny_seqItems hT dT ?_);dsimp only
 have e1:(os.map fun n:Nat=>rawInt (n:Int)).toArray[i]?=some (rawInt (j:Int)):=by
  rw[List.getElem?_toArray,List.getElem?_map,hj];rfl
 rw[e1];dsimp only[rawInt,Int.toNat_natCast];unfold setNextDrawn;refine wpAny_bind (wpAny_bind (wpAny_setState_of g.get g.dat g.fit ?_));refine wpAny_ite_split (fun z=>absurd z (by simp)) fun _=>?_;rw[he];refine wpAny_pure (wpAny_bind (wpAny_setField i1 i3 (by simp) (wpAny_pure ⟨e.2,rfl,wpAny_pure (h _ ?_ (Heap.SameBut.update ..))⟩)));exact(q.put (x:=.none)).2 (i+1)
theorem Fi{os:List Nat}{i:Nat}{oT:Obj}{nT:Nat}(hh:A.handled=none)(q:i9 s.heap I (.ref T) i S es.size ep)(g:gZ p w (nC w) s.heap S o es ep t)(hT:s.heap.get? T=some oT)(dT:oT.data=.seq (os.map fun n:Nat=>rawInt (n:Int)).toArray nT)(hj:os[i]?=none){Q:Option Value->Shared->Prop}
  (h:∀h',(∀b o,b≠I->s.heap.get? b=some o->h'.get? b=some o)->Q none {s with heap:=h'}):wpAny (model p w) A (pyNext (.ref I)) Q E s:=by
 obtain⟨oi,i1,i2,i3⟩:=id q;unfold pyNext;refine wpAny_bind (wpAny_attempt (wpAny_callSpecial?_slot (name:=Str.ofString "__next__") q.ty dh (wpAny_call_entry dh q.ty jk ?_ (lJ _))));unfold Builtin.«set_iterator.__next__»;refine wpAny_bind (wpAny_pure (wpAny_bind (wpAny_fieldsOf i1 i3 ?_)));dsimp only;refine wpAny_bind (wpAny_setEntries_of g.get g.dat g.fit ?_);refine wpAny_ite_split (fun z=>absurd z (by simp)) fun _=>?_;dsimp only[Int.toNat_natCast];refine wpAny_bind (wpAny_seqItems hT dT ?_);dsimp only
 have e1:(os.map fun n:Nat=>rawInt (n:Int)).toArray[i]?=none:=by
  rw[List.getElem?_toArray,List.getElem?_map,hj];rfl
 rw[e1];dsimp only;have q1:=(q.put (x:=rawInt 0)).1;obtain⟨oj,j1,j2,j3⟩:=id q1;refine wpAny_bind (wpAny_setField i1 i3 (by simp) (wpAny_bind (wpAny_setField j1 j3 (by simp) ?_)));refine oA (s:={s with heap:=(s.heap.update I (Obj.mapFields (·.setIfInBounds 0 (rawInt 0)))).update I (Obj.mapFields (·.setIfInBounds 2 Value.none))}) hh fun h' k=>h h' fun b o hb e=>k b o ?_;rw[(Heap.SameBut.update _ I _).2 b hb,(Heap.SameBut.update s.heap I _).2 b hb];exact e
theorem sS{os:List Nat}(hh:A.handled=none)(hne:S≠I)(hT:T≠I)(hp:os.Perm (List.range es.size)):
  Walks p w A I [I,S,T] [I] os.length (fun i v=>∃j e,os[i]?=some j/\es[j]?=some e/\v=e.2) (fun i h=>i<=os.length/\i9 h I (.ref T) i S es.size ep/\gZ p w (nC w) h S o es ep t/\∃oT nT,h.get? T=some oT/\oT.data=.seq (os.map fun n:Nat=>rawInt (n:Int)).toArray nT) where
 sub:=fun b hb=>by simp at hb;simp[hb]
 frame:=fun i h h' st k=>by
  obtain⟨st0,⟨x,a,b,c⟩,g,oT,nT,d1,d2⟩:=st;exact⟨st0,⟨x,k I (by simp) x a,b,c⟩,⟨k S (by simp) o g.get,g.ex,g.dat,g.el,g.bd,g.fit,g.gd⟩,oT,nT,k T (by simp) oT d1,d2⟩
 item:=fun i s Q E hi st hQ=>by
  obtain⟨st0,q,g,oT,nT,d1,d2⟩:=st;have e:os[i]?=some os[i]:=List.getElem?_eq_getElem hi;have hj:os[i]<es.size:=List.mem_range.mp (hp.mem_iff.mp (List.getElem_mem hi));have e2:es[os[i]]?=some es[os[i]]:=Array.getElem?_eq_getElem hj;refine B6 q g d1 d2 e e2 fun h' q' sb=>hQ _ h' s.toks ⟨_,_,e,e2,rfl⟩ ⟨hi,q',?_,oT,nT,by rw[sb.2 T hT];exact d1,d2⟩ fun b o' hb e'=>?_
  .exact⟨by rw[sb.2 S hne];exact g.get,g.ex,g.dat,g.el,g.bd,g.fit,g.gd⟩
  .rw[sb.2 b fun z=>hb (by simp[z])];exact e'
 done:=fun s Q E st hQ=>by
  obtain⟨st0,q,g,oT,nT,d1,d2⟩:=st;exact Fi hh q g d1 d2 (List.getElem?_eq_none (Nat.le_refl _)) fun h' k=>hQ h' s.toks fun b o' hb e'=>k b o' (fun z=>hb (by simp[z])) e'
 self:=fun i s Q E st hQ=>u4 st.2.1 hQ
end
end L2.Sx
namespace L2.Sx
open PySem PyProof.Rows PySem.Spec PySem.W PySem.Calls
structure rR(s s':Shared):Prop where
 keep:∀b o,s.heap.get? b=some o->s'.heap.get? b=some o
 gens:s'.gens=s.gens
 os:s'.os=s.os
structure GU(p:Program)(w:World)(s s':Shared)(S I:Addr)(es:Array (Int×Value)):Prop where
 gr:rR s s'
 new:s.heap.objs.size<=I
 wk:∃(fp:List Addr) (n:Nat) (P:Nat->Value->Prop) (St:Nat->Heap->Prop) (vs:List Value),(∀A:Around,A.handled=none->Walks p w A I fp [I] n P St)/\St 0 s'.heap/\(∀b∈fp,b=S\/s.heap.objs.size<=b)/\vs.length=n/\(∀i v,P i v->vs[i]?=some v)/\vs.Perm (es.toList.map (·.2))
theorem vS{α:Type}(f:Nat->Nat):∀(n k:Nat) (l:List α) (out:Array α),l.length=n->(pickOrder.go f n k l out).toList.Perm (out.toList++l)
 |0,k,l,out,h=>by
  obtain rfl:l=[]:=List.length_eq_zero_iff.mp h;simp[pickOrder.go]
 |n+1,k,l,out,h=>by
  have hi:f k%l.length<l.length:=Nat.mod_lt _ (by omega);unfold pickOrder.go;rw[List.getElem?_eq_getElem hi];refine(vS f n (k+1) _ _ (by rw[List.length_eraseIdx,if_pos hi];omega)).trans ?_;rw[Array.toList_push,List.append_assoc];exact List.Perm.append_left _ (jc l _ hi)
theorem wU{α:Type}(f:Nat->Nat)(xs:Array α):(pickOrder f xs).toList.Perm xs.toList:=by
 have:=vS f xs.size 0 xs.toList #[] (by simp);simpa [pickOrder] using this
section
variable{p:Program}{w:World}{A:Around}{E:Value->Shared->Prop}{s:Shared}{S:Addr}{o:Obj}{es:Array (Int×Value)}{ep:Nat}{t:SetTable}
theorem j4{h h':Heap}(g:gZ p w (nC w) h S o es ep t)(k:∀b o,h.get? b=some o->h'.get? b=some o):gZ p w (nC w) h' S o es ep t:=⟨k _ _ g.get,g.ex,g.dat,g.el,g.bd,g.fit,g.gd⟩
theorem yD(g:gZ p w (nC w) s.heap S o es ep t){Q:Value->Shared->Prop}(h:∀I s',GU p w s s' S I es->Q (.ref I) s'):wpAny (model p w) A (pyIter (.ref S)) Q E s:=by
 have ty:s.TypeIs (.ref S) "set":=⟨o,g.get,g.ex.1⟩;have hS:S<s.heap.objs.size:=Heap.lt_size g.get;refine wpAny_pyIter_slot ty PySem.F.slot_set_iter (wpAny_call_entry PySem.F.slot_set_iter ty yJ ?_ (PySem.F.args_set_iter_1 _));unfold Builtin.«frozenset.__iter__» Builtin.Frozenset.slot0 Builtin.Frozenset.sizeOf;refine wpAny_bind (wpAny_bind (wpAny_pure (wpAny_pure ?_)));refine wpAny_bind (wpAny_bind (wpAny_setEntries_of g.get g.dat g.fit (wpAny_pure ?_)));unfold setDrawn;refine wpAny_bind (wpAny_bind (wpAny_setState_of g.get g.dat g.fit (wpAny_bind (lH (wpAny_pure ?_)))));refine wpAny_ite_split (fun hd=>?_) fun hd=>?_
 .have hd':(!w.params.followText "set-order"&&(!t.plain&&decide (es.size>1)))=true:=hd;refine wpAny_bind (si es.size (List.range es.size) _ _ List.length_range fun os d pm=>?_);have lo:os.length=es.size:=by rw[pm.length_eq,List.length_range]
  refine wpAny_bind (wpAny_newTuple ?_ (by rw[List.length_map,lo];exact fits_of_scanBound g.bd));refine wpAny_bind (wpAny_setEpoch_of (Heap.get?_push_of_some _ g.get) g.dat g.fit ?_);refine wpAny_bind (wpAny_newObj_type (wpAny_pure ⟨_,rfl,"set_iterator",_,⟨_,Heap.get?_push_size _ rfl,rfl⟩,dh.lookup,h _ _ ?_⟩));refine⟨⟨fun b o e=>Heap.get?_push_of_some _ (Heap.get?_push_of_some _ e),rfl,rfl⟩,by rw[Heap.size_push];exact Nat.le_succ _,?_⟩;have nS:S≠(s.heap.push {cls:=.type "tuple",data:=.seq (os.map fun n:Nat=>rawInt (n:Int)).toArray}).objs.size:=by rw[Heap.size_push];exact Nat.ne_of_lt (Nat.lt_succ_of_lt hS)
  have nT:s.heap.objs.size≠(s.heap.push {cls:=.type "tuple",data:=.seq (os.map fun n:Nat=>rawInt (n:Int)).toArray}).objs.size:=by rw[Heap.size_push];exact Nat.ne_of_lt (Nat.lt_succ_self _)
  refine⟨_,_,_,_,os.map fun j=>(es.getD j (0,.none)).2,fun A hA=>sS (o:=o) (t:=t) (ep:=ep) hA nS nT pm,⟨Nat.zero_le _,⟨_,Heap.get?_push_size _ rfl,rfl,rfl⟩,j4 g fun b o e=>Heap.get?_push_of_some _ (Heap.get?_push_of_some _ e),_,_,Heap.get?_push_of_some _ (Heap.get?_push_size _ rfl),rfl⟩,?_,?_,?_,?_⟩
  .intro b hb;simp only[List.mem_cons,List.not_mem_nil,or_false] at hb;rcases hb with rfl|rfl|rfl
   .exact .inr (by rw[Heap.size_push];exact Nat.le_succ _)
   .exact .inl rfl
   .exact .inr (Nat.le_refl _)
  .rw[List.length_map]
  .rintro i v ⟨j,e,e1,e2,rfl⟩;rw[List.getElem?_map,e1];show some (es.getD j (0,.none)).2=some e.2;obtain⟨hj,e3⟩:=Array.getElem?_eq_some_iff.mp e2;simp only[Array.getD,dif_pos hj];exact congrArg (fun x:Int×Value=>some x.2) e3
  .refine(pm.map _).trans ?_
   have:(List.range es.size).map (fun j=>(es.getD j (0,.none)).2)=es.toList.map (·.2):=by
    refine List.ext_getElem? fun i=>?_;rw[List.getElem?_map,List.getElem?_map];by_cases hi:i<es.size
    .have h2:es.toList[i]?=some (es.getD i (0,.none)):=by
      rw[Array.getElem?_toList,Array.getElem?_eq_getElem hi];simp only[Array.getD,dif_pos hi];rfl
     rw[List.getElem?_range hi,h2];rfl
    .have h2:es.toList[i]?=none:=by rw[Array.getElem?_toList];exact Array.getElem?_eq_none (by omega)
     rw[List.getElem?_eq_none (by rw[List.length_range];omega),h2];rfl
   rw[this]
 .have hd':¬(!w.params.followText "set-order"&&(!t.plain&&decide (es.size>1)))=true:=hd;refine wpAny_bind (wpAny_pure (wpAny_bind (wpAny_setEpoch_of g.get g.dat g.fit ?_)));refine wpAny_bind (wpAny_newObj_type (wpAny_pure ⟨_,rfl,"set_iterator",_,⟨_,Heap.get?_push_size _ rfl,rfl⟩,dh.lookup,h _ _ ?_⟩));refine⟨⟨fun b o e=>Heap.get?_push_of_some _ e,rfl,rfl⟩,Nat.le_refl _,?_⟩;have nS:S≠s.heap.objs.size:=Nat.ne_of_lt hS
  have fpo:∀b∈[s.heap.objs.size,S],b=S\/s.heap.objs.size<=b:=fun b hb=>by
   simp only[List.mem_cons,List.not_mem_nil,or_false] at hb;rcases hb with rfl|rfl
   .exact .inr (Nat.le_refl _)
   .exact .inl rfl
  have gk:gZ p w (nC w) (s.heap.push {cls:=.type "set_iterator",data:=.fields [rawInt 0,rawInt 0,.ref S,rawInt es.size,rawInt ep].toArray}) S o es ep t:=j4 g fun b o e=>Heap.get?_push_of_some _ e;cases hb:w.params.followText "set-order" with
  |false =>
   rw[hb] at hd'
   have hpl:t.plain=true\/es.size<=1:=by
    cases hp:t.plain with
    |true=>exact .inl rfl
    |false =>
     rw[hp] at hd';refine .inr ?_;simpa using hd'
   have lv:(es.toList.map (·.2)).length=es.size:=by rw[List.length_map,Array.length_toList]
   refine⟨_,_,_,_,es.toList.map (·.2),fun A hA=>mC (vs:=es.toList.map (·.2)) (f:=sl t) (o:=o) (t:=t) (ep:=ep) hA nS lv fun s i A E R hi g r=>uJ g hb hpl hi ?_,⟨Nat.zero_le _,⟨_,Heap.get?_push_size _ rfl,rfl,rfl⟩,gk⟩,fpo,rfl,fun i v e=>e,.refl _⟩;rw[List.getElem?_map,Array.getElem?_toList,Option.map_map] at r;exact r
  |true =>
   have pm:=(wU (w.params.setOrder S ep) es).map (·.2);have lv:((pickOrder (w.params.setOrder S ep) es).toList.map (·.2)).length=es.size:=by rw[pm.length_eq,List.length_map,Array.length_toList]
   refine⟨_,_,_,_,(pickOrder (w.params.setOrder S ep) es).toList.map (·.2),fun A hA=>mC (vs:=(pickOrder (w.params.setOrder S ep) es).toList.map (·.2)) (f:=fun _=>0) (o:=o) (t:=t) (ep:=ep) hA nS lv fun s i A E R hi g r=>xi g hb ?_,⟨Nat.zero_le _,⟨_,Heap.get?_push_size _ rfl,rfl,rfl⟩,gk⟩,fpo,rfl,fun i v e=>e,pm⟩;rw[List.getElem?_map,Array.getElem?_toList,Option.map_map] at r;exact r
end
end L2.Sx
namespace L2.Sx
open PySem PyProof.Rows PySem.Spec PySem.W PySem.Calls
section
variable{p:Program}{w:World}{A:Around}{E:Value->Shared->Prop}{s:Shared}{S:Addr}{o:Obj}{es:Array (Int×Value)}{ep:Nat}{t:SetTable}
theorem x5{Q:Bool->Shared->Prop}(ty:s.TypeIs (.ref S) "set")(h:Q false s):wpAny (model p w) A (Builtin.List.listLengthHint (.ref S)) Q E s:=by
 unfold Builtin.List.listLengthHint;refine wpAny_bind (wpAny_specialOf ty PySem.F.slot_set_len.lookup ?_);generalize hid:("set.__len__":String)=id0
 wp_delta
 rw[show splitId id0=some ("set","__len__") from by subst hid;decide +kernel];subst hid;refine wpAny_bind (wpAny_isInstance (T:="set") (b:=true) ty (by rw[isSubtype_type];kernel_rfl) (wpAny_ite_split (fun z=>absurd z (by decide)) fun _=>?_));exact wpAny_ite_split (fun _=>wpAny_bind (wpAny_typeOf ty (wpAny_pure h))) fun z=>absurd (by decide +kernel) z
theorem uw{L:Addr}{c:Nat}{R:Result->Shared->Prop}{res:Value}(hh:A.handled=none)(g:gZ p w (nC w) s.heap S o es ep t)(hL:s.heap.get? L=some {cls:=.type "list",data:=.seq #[] c})(hne:L≠S)
  (h:∀s' acc c',(∀b o,b≠L->s.heap.get? b=some o->s'.heap.get? b=some o)->s'.gens=s.gens->s'.os=s.os->s'.heap.get? L=some {cls:=.type "list",dict:=none,data:=.seq acc c',slots:=#[]}->acc.toList.Perm (es.toList.map (·.2))->R (.ok (.ret res)) s'):
  wpAny (model p w) A.in1 (Builtin.List.listExtendWith (.ref L) (.ref S) res) (fun fin s'=>match fin with|.done f=>R (.ok f) s'|.again c'=>c'.quiet=true/\codeAny (model p w) A c' R s') (fun e s'=>R (.error e) s') s:=by
 have ty:s.TypeIs (.ref S) "set":=⟨o,g.get,g.ex.1⟩;unfold Builtin.List.listExtendWith;refine wpAny_bind (wpAny_typeOf (T:="set") ty ?_);have z1:Builtin.List.listSameRef (.ref L) (.ref S)=false:=by simp[Builtin.List.listSameRef,hne]
 have z2:(Value.type "set"==Value.type "list")=false:=by decide
 have z3:(Value.type "set"==Value.type "tuple")=false:=by decide
 simp only[z1,z2,z3,Bool.or_false,Bool.false_eq_true,if_false];refine wpAny_bind (yD g fun I s' wk=>?_);obtain⟨gr,nw,fp,n,P,St,vs,W,st,hfp,hl,hP,hpm⟩:=wk;have hLs:L<s.heap.objs.size:=Heap.lt_size hL
 have hLf:L∉fp:=fun z=>by
  rcases hfp L z with q|q
  .exact hne q
  .exact absurd hLs (Nat.not_lt.mpr q)
 have nsz:n<=sizeLine:=by
  rw[<-hl,hpm.length_eq,List.length_map,Array.length_toList];exact fits_of_scanBound g.bd
 have key:∀(s1:Shared) (c1:Nat),St 0 s1.heap->(∀b o,b≠L->s'.heap.get? b=some o->s1.heap.get? b=some o)->s1.gens=s'.gens->s1.os=s'.os->s1.heap.get? L=some {cls:=.type "list",data:=.seq #[] c1}->codeAny (model p w) A (.builtin "list.extend.loop" ⟨[.ref L,.ref I,res],[]⟩) R s1:=fun s1 c1 st1 k1 g1 o1 l1=>by
  refine codeAny_extend_loopS ((W A.in1 hh).toS) nsz L hLf res n 0 s1 #[] c1 rfl (Nat.zero_le _) st1 l1 (ItemsOf.nil _) fun s2 acc c2 mv l2 it=>?_;refine h s2 acc c2 (fun b o hb e=>mv.heap b o (fun z=>?_) (k1 b o hb (gr.keep b o e))) ?_ ?_ l2 ?_
  .rcases List.mem_cons.mp z with q|q
   .exact hb q
   .exact absurd (Heap.lt_size e) (Nat.not_lt.mpr (by rw[List.mem_singleton.mp q];exact nw))
  .exact(show s2.gens=s1.gens from mv.gens).trans (g1.trans gr.gens)
  .exact mv.os.trans (o1.trans gr.os)
  .have:acc.toList=vs:=by
    refine List.ext_getElem? fun i=>?_;by_cases hi:i<acc.toList.length
    .have e:=List.getElem?_eq_getElem hi;rw[e];exact(hP i _ (it.2 i _ (by rw[<-Array.getElem?_toList];exact e))).symm
    .have hn2:acc.toList.length=n:=by rw[Array.length_toList];exact it.1
     rw[List.getElem?_eq_none (by omega),List.getElem?_eq_none (by omega)]
   rw[this];exact hpm
 have L1:=gr.keep _ _ hL;refine wpAny_bind (wpAny_holding (x5 ⟨o,gr.keep _ _ g.get,g.ex.1⟩ ?_));refine wpAny_ite_split (fun _=>?_) (fun _=>wpAny_pure ⟨plainId_quiet PySem.F.plain_extend_loop _,key _ c st (fun b o _ e=>e) rfl rfl L1⟩);refine wpAny_bind (wpAny_rule (wpAny_bind (show wpAny _ _ (updateSeq L (·.push .none) >>= fun _=>updateSeq L (·.pop)) _ _ _ from wpAny_bind (wpAny_updateSeq L1 rfl ?_))));have L2:=Heap.get?_update_self (Obj.mapSeq (·.push Value.none)) L1 rfl;refine wpAny_updateSeq (hz:=by seq_fits) L2 rfl ?_;have L3:=Heap.get?_update_self (Obj.mapSeq (·.pop)) L2 rfl
 have oth:∀b o,b≠L->s'.heap.get? b=some o->((s'.heap.update L (Obj.mapSeq (·.push Value.none))).update L (Obj.mapSeq (·.pop))).get? b=some o:=fun b o hb e=>by
  rw[(Heap.SameBut.update _ L _).2 b hb,(Heap.SameBut.update _ L _).2 b hb];exact e
 exact wpAny_pure ⟨plainId_quiet PySem.F.plain_extend_loop _,key _ _ ((W A.in1 hh).frame 0 _ _ st fun b hb o e=>oth b o (fun q=>hLf (q▸hb)) e) oth rfl rfl L3⟩
end
end L2.Sx
namespace L2.Sx
open PySem PyProof.Rows PySem.Spec PySem.W PySem.Calls
def kv:Value->Int
 |.int k _=>k
 |_=>0
theorem vT:∀{vs:List Value},(∀v∈vs,∃k t,v=.int k t)->IntsAre vs (vs.map kv)
 |[],_=>.nil
 |v::vs,h=>by
  obtain⟨k,t,rfl⟩:=h v (List.mem_cons_self ..);exact .cons k t (vT fun v hv=>h v (List.mem_cons_of_mem _ hv))
theorem kT:∀{m l:List Int},m.Nodup->(∀x∈m,x∈l)->m.length=l.length->m.Perm l
 |[],l,_,_,h=>by
  obtain rfl:l=[]:=List.length_eq_zero_iff.mp h.symm;exact .nil
 |x::m,l,nd,hs,h=>by
  have hx:x∈l:=hs x (List.mem_cons_self ..);obtain⟨n1,n2⟩:=List.nodup_cons.mp nd;have pl:=List.perm_cons_erase hx;refine(List.Perm.cons x (kT n2 (fun y hy=>?_) ?_)).trans pl.symm
  .exact(List.mem_erase_of_ne (fun e:y=x=>n1 (e▸hy))).mpr (hs y (List.mem_cons_of_mem _ hy))
  .have:=pl.length_eq;simp only[List.length_cons] at this h ⊢;omega
theorem wQ{ns:List Int}{k:Int}(h:ns.Nodup):(ins ns k).Nodup:=by
 unfold ins;split
 .exact h
 .rename_i hk;rw[List.nodup_append];exact⟨h,by simp,fun a ha b hb e=>hk (by rw[<-List.mem_singleton.mp hb,<-e];exact ha)⟩
theorem A_{ns:List Int}{k x:Int}:x∈ins ns k↔x∈ns\/x=k:=by
 unfold ins;split
 .rename_i hk;exact⟨.inl,fun h=>h.elim id fun e=>e▸hk⟩
 .rw[List.mem_append,List.mem_singleton]
theorem kh(f:Nat->Int):∀i,(met f i).Nodup
 |0=>List.nodup_nil
 |i+1=>by rw[jA];exact wQ (kh f i)
theorem vQ(f:Nat->Int){x:Int}:∀i,x∈met f i↔∃j,j<i/\f j=x
 |0=>by simp[met]
 |i+1=>by
  rw[jA,A_,vQ f i];constructor
  .rintro(⟨j,h1,h2⟩|e)
   .exact⟨j,by omega,h2⟩
   .exact⟨i,by omega,e.symm⟩
  .rintro⟨j,h1,h2⟩;rcases Nat.lt_or_eq_of_le (Nat.le_of_lt_succ h1) with z|z
   .exact .inl ⟨j,z,h2⟩
   .exact .inr (by rw[<-h2,z])
section
variable{p:Program}{w:World}{A:Around}{E:Value->Shared->Prop}{s:Shared}{S:Addr}{o:Obj}{es:Array (Int×Value)}{ep:Nat}{t:SetTable}
theorem qx{R:List Value->Shared->Prop}(hh:A.handled=none)(g:gZ p w (nC w) s.heap S o es ep t)(h:∀s' vs,rR s s'->vs.Perm (es.toList.map (·.2))->R vs s'):wpAny (model p w) A (collect (.ref S)) R E s:=by
 have hS:S<s.heap.objs.size:=Heap.lt_size g.get;unfold collect;refine wpAny_bind (wpAny_runValue (codeAny_builtin entry_proto_collect' ?_));rw[Around.under_plainId PySem.F.plain_proto_collect _];refine(show wpAny _ A.in1 (newList [] >>= fun l=>again (.builtin "list.__iadd__" ⟨[l,.ref S],[]⟩)) _ _ s from wpAny_bind (wpAny_newObj_type (wpAny_pure ⟨plainId_quiet PySem.F.plain_list_iadd _,codeAny_builtin entry_list_iadd' ?_⟩)));rw[Around.under_plainId PySem.F.plain_list_iadd _];have hL:(s.heap.push {cls:=.type "list",data:=.seq ([]:List Value).toArray}).get? s.heap.objs.size=some {cls:=.type "list",data:=.seq #[]}:=Heap.get?_push_size _ rfl;refine(show wpAny _ A.in1 (Builtin.List.listExtendWith (.ref s.heap.objs.size) (.ref S) (.ref s.heap.objs.size)) _ _ _ from ?_)
 have key:=uw (A:=A) (s:={s with heap:=s.heap.push {cls:=.type "list",data:=.seq ([]:List Value).toArray}}) (res:=.ref s.heap.objs.size)
  (R:=fun q s'=>∃acc c',q=.ok (.ret (.ref s.heap.objs.size))/\rR s s'/\s'.heap.get? s.heap.objs.size=some {cls:=.type "list",dict:=none,data:=.seq acc c',slots:=#[]}/\acc.toList.Perm (es.toList.map (·.2)))
  hh (j4 g fun b o e=>Heap.get?_push_of_some _ e) hL (Nat.ne_of_gt hS) fun s' acc c' k gn os l pm=>⟨acc,c',rfl,⟨fun b o e=>k b o (Nat.ne_of_lt (Heap.lt_size e)) (Heap.get?_push_of_some _ e),gn,os⟩,l,pm⟩
 refine wpAny_mono key (fun fin s' x=>?_) fun e s' x=>?_
 .cases fin with
  |done f =>
   obtain⟨acc,c',e,gr,l,pm⟩:=x;cases e;exact show wpAny _ A (load s.heap.objs.size >>= _) _ _ _ from wpAny_bind (wpAny_load l (wpAny_pure (h s' _ gr pm)))
  |again c1 =>
   refine⟨x.1,codeAny_mono x.2 fun q s2 y=>?_⟩;obtain⟨acc,c',e,gr,l,pm⟩:=y;cases e;exact show wpAny _ A (load s.heap.objs.size >>= _) _ _ _ from wpAny_bind (wpAny_load l (wpAny_pure (h s2 _ gr pm)))
 .obtain⟨_,_,e',_⟩:=x;cases e'
theorem qR{Q:Value->Shared->Prop}{m:List Int}(hh:A.handled=none)(q:ki p w (nC w) s.heap S m)(nd:m.Nodup)(h64:m.length<64)
  (h:∀(s1:Shared) (vs:List Value) (out:Array Value) (ns:List Int),rR s s1->IntsAre out.toList ns->ns.Perm m->ns.Pairwise (·<=·)->Q (.ref s1.heap.objs.size) {s1 with heap:=sortedHeap (s1.heap.push (seqObj "list" vs.toArray 0)) s1.heap.objs.size vs out}):
  wpAny (model p w) A (call (.builtin "sorted") [.ref S]) Q E s:=by
 obtain⟨o,es,ep,t,g,hm,hz⟩:=q;refine Calls.call_function_entry kind_sorted plain_sorted entry_sorted (args_sorted1 _) ?_;unfold Builtin.«sorted»;refine wpAny_bind (m:=checkCount "sorted" 1 1 _) (wpAny_pure (wpAny_bind (qx (A:=A.in1) hh g fun s1 vs gr pm=>?_)));have lv:vs.length=m.length:=by rw[pm.length_eq,List.length_map,Array.length_toList,hz]
 have allI:∀v∈vs,∃k t,v=.int k t:=fun v hv=>by
  obtain⟨e,he,rfl⟩:=List.mem_map.mp (pm.mem_iff.mp hv);obtain⟨⟨k,hk,_⟩,_⟩:=g.el e he;obtain⟨t,ht⟩:=Value.isInt_shape hk;exact⟨k,t,ht⟩
 have pk:(vs.map kv).Perm m:=by
  refine(kT nd (fun x hx=>?_) (by rw[List.length_map,lv])).symm;obtain⟨e,he,hk⟩:=(hm x).mp hx;obtain⟨t,ht⟩:=Value.isInt_shape hk;exact List.mem_map.mpr ⟨e.2,pm.mem_iff.mpr (List.mem_map.mpr ⟨e,he,rfl⟩),by rw[ht];rfl⟩
 refine wpAny_bind (wpAny_newList ?_ (by rw[lv];exact Nat.le_trans (Nat.le_of_lt h64) (by decide)));have hL:(s1.heap.push (seqObj "list" vs.toArray 0)).get? s1.heap.objs.size=some (seqObj "list" vs.toArray 0):=Heap.get?_push_size _ rfl;refine wpAny_bind (wpAny_holding (wpAny_call_entry slot_list_sort ⟨_,hL,rfl⟩ entry_list_sort (list_sort_tree hL (vT allI) (by omega) fun out ns a1 a2 a3=>⟨_,rfl,?_⟩) (args_list_sort _)));exact wpAny_pure ⟨_,rfl,h s1 vs out ns gr a1 (a2.trans pk) a3⟩
end
end L2.Sx
namespace L2.EP
open PySem PySem.Spec PyProof.Rows L2.Sx
def fN(x:Int):List Int->List Int
 |[]=>[x]
 |y::l=>if x<y then x::y::l else if x=y then y::l else y::fN x l
def sset(ns:List Int):List Int:=ns.foldr fN []
theorem nJ{x a:Int}:∀{l:List Int},a∈fN x l↔a=x\/a∈l
 |[]=>by simp[fN]
 |y::l=>by
  unfold fN;split
  .simp
  .split
   .rename_i h;subst h;simp
   .rw[List.mem_cons,nJ (l:=l),List.mem_cons];constructor
    .rintro(h|h|h)
     .exact .inr (.inl h)
     .exact .inl h
     .exact .inr (.inr h)
    .rintro(h|h|h)
     .exact .inr (.inl h)
     .exact .inl h
     .exact .inr (.inr h)
theorem qY{x:Int}:∀{l:List Int},l.Pairwise (·<·)->(fN x l).Pairwise (·<·)
 |[],_=>by simp[fN]
 |y::l,h=>by
  obtain⟨h1,h2⟩:=List.pairwise_cons.mp h;unfold fN;split
  .rename_i hxy;refine List.pairwise_cons.mpr ⟨fun a ha=>?_,h⟩;rcases List.mem_cons.mp ha with z|z
   .omega
   .have:=h1 a z;omega
  .split
   .exact h
   .refine List.pairwise_cons.mpr ⟨fun a ha=>?_,qY h2⟩;rcases nJ.mp ha with z|z
    .omega
    .exact h1 a z
theorem hZ{a:Int}:∀{ns:List Int},a∈sset ns↔a∈ns
 |[]=>by simp[sset]
 |x::ns=>by
  show a∈fN x (sset ns)↔_;rw[nJ,hZ (ns:=ns),List.mem_cons]
theorem nv:∀(ns:List Int),(sset ns).Pairwise (·<·)
 |[]=>.nil
 |x::ns=>qY (nv ns)
theorem ng:∀{l m:List Int},l.Pairwise (·<·)->m.Pairwise (·<·)->(∀a,a∈l↔a∈m)->l=m
 |[],[],_,_,_=>rfl
 |[],y::m,_,_,h=>absurd ((h y).mpr (List.mem_cons_self ..)) (by simp)
 |x::l,[],_,_,h=>absurd ((h x).mp (List.mem_cons_self ..)) (by simp)
 |x::l,y::m,h1,h2,h=>by
  obtain⟨a1,a2⟩:=List.pairwise_cons.mp h1;obtain⟨b1,b2⟩:=List.pairwise_cons.mp h2
  have e:x=y:=by
   rcases List.mem_cons.mp ((h x).mp (List.mem_cons_self ..)) with z|z
   .exact z
   .rcases List.mem_cons.mp ((h y).mpr (List.mem_cons_self ..)) with q|q
    .exact q.symm
    .have:=b1 x z;have:=a1 y q;omega
  subst e;refine congrArg (x::·) (ng a2 b2 fun a=>⟨fun ha=>?_,fun ha=>?_⟩)
  .rcases List.mem_cons.mp ((h a).mp (List.mem_cons_of_mem _ ha)) with z|z
   .have:=a1 a ha;omega
   .exact z
  .rcases List.mem_cons.mp ((h a).mpr (List.mem_cons_of_mem _ ha)) with z|z
   .have:=b1 a ha;omega
   .exact z
theorem BS{ns m r:List Int}(h1:r.Perm m)(nd:m.Nodup)(h2:r.Pairwise (·<=·))(hm:∀a,a∈m↔a∈ns):r=sset ns:=by
 refine ng ?_ (nv ns) fun a=>by rw[h1.mem_iff,hm,hZ]
 have nd':r.Nodup:=h1.symm.nodup nd
 exact(List.Pairwise.and h2 nd').imp fun {a b} q=>by
  have:=q.1;have:=q.2;omega
theorem Inv.grown{X:Cx}{pins:List (Addr×Obj)}{σ:St}{H:Hp}{s s':Shared}(I:Inv X pins σ H s)(g:rR s s'):Inv X pins σ H s':=by
 obtain⟨h',gn,d,tk,os⟩:=s';obtain⟨k,e1,e2⟩:=g;have J:=I.kept (h':=h') (t':=tk) k;simp only at e1 e2;subst e1 e2;exact⟨J.ok,J.os,J.bare,J.base,J.loc,J.cell,J.free,J.freeC,J.pin,J.hok,J.len⟩
theorem lh:∀{vs:List Value} {ns:List Int},IntsAre vs ns->Vals (ns.map V.int) vs
 |_,_,.nil=>.nil
 |_,_,.cons n t h=>.cons ⟨t,rfl⟩ (lh h)
section
variable{X:Cx}{Γ:aE}{D:GD}{e:Expr}{b:Bool}{te:TE}
theorem uK{p1 p2 pos pos2:Pos}(hc:X.calm=true)(hg1:Gl X "sorted")(hm1:X.mg "sorted"=none)(hg2:Gl X "set")(hm2:X.mg "set"=none)(ha:PE X e te)
  (hs:starEach [e] X.env=(false,eval e X.env)::starEach [] X.env:=by rfl) (hs2:starEach [.Call (.Name "set" p2) [e] [] pos2] X.env=(false,eval (.Call (.Name "set" p2) [e] [] pos2) X.env)::starEach [] X.env:=by rfl)
  (hp1:(backTo pos (starEach [] X.env)).any (·.1)=false:=by rfl) (hp2:(backTo pos2 (starEach [] X.env)).any (·.1)=false:=by rfl):
  PE X (.Call (.Name "sorted" p1) [.Call (.Name "set" p2) [e] [] pos2] [] pos) (fun σ H Q=>te σ H fun v H1=>∃a,∃ns:List Int,v=.ref a/\cW X.K H1 a (ns.map V.int)/\ns.length<64/\∀l,H1 l=none->Q (.ref l) (upd H1 l (.lst ((sset ns).map V.int)))):=by
 intro pins s σ H Q I h
 have inner:wpAny (model X.prog X.w) X.A (eval (.Call (.Name "set" p2) [e] [] pos2) X.env) (fun u s1=>∃(S:Addr) (H1:Hp) (ns:List Int),u=.ref S/\Inv X pins σ H1 s1/\ki X.prog X.w (nC X.w) s1.heap S (met (fun i=>ns.getD i 0) ns.length)/\ns.length<64/\∀l,H1 l=none->Q (.ref l) (upd H1 l (.lst ((sset ns).map V.int)))) X.xe s:=by
  refine wpAny_Call_Name_kw (dX I hg2 hm2 PyProof.Rows.boot_set ?_ (by decide) (by decide));refine PyProof.Rows.callWith_type1 (bV (aB ha aV hs pos2 pins s σ H (fun xs H1=>match xs with|[v]=>∃a,∃ns:List Int,v=.ref a/\cW X.K H1 a (ns.map V.int)/\ns.length<64/\∀l,H1 l=none->Q (.ref l) (upd H1 l (.lst ((sset ns).map V.int)))|_=>False) I h) fun us s1 ⟨xs,H1,I1,r1,q1⟩=>?_) hs hp2;cases r1 with
  |nil=>exact q1.elim
  |@cons v u vs us rv rr =>
   cases rr with
   |cons _ _=>exact q1.elim
   |nil =>
    obtain⟨a,ns,rfl,sq,h64,q⟩:=q1;cases rv;obtain⟨its,rr,pl,_⟩:=I1.list sq;have hi:=intsAre_of rr;have hl:its.length=ns.length:=by rw[<-rr.length,List.length_map]
    refine zx (items:=its.toArray) (ns:=ns) (I1.ok.hd hc) pl.isList (by simpa using hi) (by rw[List.size_toArray,hl];exact Nat.lt_of_lt_of_le (Nat.add_lt_add_right h64 1) (by decide)) fun h' tk g k=>?_;rw[show its.toArray.size=ns.length by rw[List.size_toArray,hl]] at g;exact⟨_,H1,ns,rfl,I1.kept k,g,h64,q⟩
 refine wpAny_Call_Name_kw (dX I hg1 hm1 PyProof.Rows.boot_sorted ?_ (by decide) (by decide));refine PyProof.Rows.callWith_builtin1 ?_ hs2 hp1;rw[hs2];refine Calls.spliced_cons (bV inner fun u s1 ⟨S,H1,ns,e,I1,g,h64,q⟩=>Calls.spliced_nil ?_);subst e;refine qR (I1.ok.hd hc) g (kh _ _) (Nat.lt_of_le_of_lt (lq _ _) h64) fun s2 vs out ns' gr ia pm pw=>?_
 have hr:ns'=sset ns:=BS pm (kh _ _) pw fun a=>by
  rw[vQ];constructor
  .rintro⟨j,hj,rfl⟩;rw[List.getD_eq_getElem?_getD,List.getElem?_eq_getElem hj];exact List.getElem_mem hj
  .intro ha;obtain⟨j,hj,e⟩:=List.mem_iff_getElem.mp ha;exact⟨j,hj,by rw[List.getD_eq_getElem?_getD,List.getElem?_eq_getElem hj];exact e⟩
 subst hr;have I2:=Inv.grown I1 gr
 have lo:((sset ns).map V.int).length<=sizeLine:=by
  rw[List.length_map,pm.length_eq];exact Nat.le_trans (lq _ _) (Nat.le_trans (Nat.le_of_lt h64) (by decide))
 have hne:∀b o,s2.heap.get? b=some o->b≠s2.heap.objs.size:=fun b o e=>Nat.ne_of_lt (Heap.lt_size e)
 have kp:∀b o,s2.heap.get? b=some o->(sortedHeap (s2.heap.push (seqObj "list" vs.toArray 0)) s2.heap.objs.size vs out).get? b=some o:=fun b o e=>by
  unfold sortedHeap;rw[(Heap.SameBut.update _ _ _).2 b (hne b o e)];refine Heap.get?_push_of_some _ (Heap.get?_push_of_some _ ?_);rw[(Heap.SameBut.update _ _ _).2 b (hne b o e)];exact Heap.get?_push_of_some _ e
 obtain⟨c1,g1⟩:∃c1,(((s2.heap.push (seqObj "list" vs.toArray 0)).update s2.heap.objs.size (Obj.mapSeq fun _=>#[])).get? s2.heap.objs.size)=some (seqObj "list" #[] c1):=⟨_,get?_update_seq (Heap.get?_push_size _ rfl) (fun _=>#[])⟩;have g2:=get?_update_seq (Heap.get?_push_of_some (seqObj "list" #[] 0) (Heap.get?_push_of_some (seqObj "tuple" vs.toArray 0) g1)) (fun _=>out);refine⟨.ref s2.heap.objs.size,_,I2.laid (t':=s2.toks) (o:=.lst ((sset ns).map V.int)) kp (Nat.le_refl _) ⟨lo,out.toList,_,lh ia,g2⟩,rfl,q _ (I2.hok.fresh (Nat.le_refl _))⟩
theorem xk{ns:List Int}{p1 p2 pos pos2:Pos}(hc:X.calm=true)(hg1:Gl X "sorted")(hm1:X.mg "sorted"=none)(hg2:Gl X "set")(hm2:X.mg "set"=none)(ha:E X Γ e b ns)(hl:ns.length<64)
  (hs:starEach [e] X.env=(false,eval e X.env)::starEach [] X.env:=by rfl) (hs2:starEach [.Call (.Name "set" p2) [e] [] pos2] X.env=(false,eval (.Call (.Name "set" p2) [e] [] pos2) X.env)::starEach [] X.env:=by rfl)
  (hp1:(backTo pos (starEach [] X.env)).any (·.1)=false:=by rfl) (hp2:(backTo pos2 (starEach [] X.env)).any (·.1)=false:=by rfl):
  E X Γ (.Call (.Name "sorted" p1) [.Call (.Name "set" p2) [e] [] pos2] [] pos) true (sset ns):=by
 with_unfolding_all
  exact aG (uK hc hg1 hm1 hg2 hm2 ha hs hs2 hp1 hp2) fun σ H Q ⟨H0,F,O,S,q⟩=>⟨H0,F,O,S,fun v H1 s1 r1=>by
    obtain⟨a,vs,e,sq,n,r⟩:=r1;rw[pH r] at sq;refine⟨a,ns,by rw[e],(ao _ _).seq sq,hl,fun l hl'=>?_⟩;obtain⟨z1,z2⟩:=cI (xs:=(sset ns).map V.int) (S.go s1) hl';refine q _ _ (s1.trans z1) ⟨l,_,rfl,cW.of z2,Nf.wk (b:=true) ((S.go s1).gW hl') z2,?_⟩;generalize sset ns=m
    induction m with
    |nil=>exact .nil
    |cons x m ih=>exact .cons rfl ih⟩
end
open PySem PySem.Spec PyProof.Rows
section
variable{X:Cx}{Γ:aE}{D:GD}{α β γ:Type}[Py α][Py β][Py γ]{e e1 e2:Expr}{b b1 b2:Bool}{pos p:Pos}{rest st:List Stmt}
theorem qg{i:Int}{xs:List Int}:CV X .NotIn i xs (!decide (i∈xs)):=⟨_,o5,fun N N' H v w Q h1 h2 q=>by
 obtain⟨p,vs,rfl,sq,n,r⟩:=h2;cases h1;refine⟨p,vs,rfl,.inl sq,rfl,?_,?_⟩
 .rw[fT r];simp[iS]
 .rw[fT r,nj];exact q⟩
end
end L2.EP
namespace Q
theorem rW(f:Int->Int->Bool):∀(xs ys:List Int),dy xs (fun x=>dy ys (f x))=dy ys (fun y=>dy xs fun x=>f x y)
 |[],ys=>by rw[jz];exact(gC fun _ _=>rfl).symm
 |x::xs,ys=>by
  have e:(fun y=>dy (x::xs) fun x=>f x y)=fun y=>f x y==dy xs fun x=>f x y:=funext fun y=>bg x xs _;rw[bg,rW f xs ys,e,iO]
noncomputable def qv(p:Int):List Int->Bool
 |[]=>true
 |a::r=>dy r (fun b=>aj a b p)==qv p r
noncomputable def sf(p:Int):List Int->Nat
 |[]=>0
 |a::r=>(r.filter fun b=>!aj a b p).length+sf p r
theorem qh(p:Int):∀row:List Int,decide (sf p row%2=0)=qv p row
 |[]=>rfl
 |a::r=>by
  have ih:=qh p r;have e:dy r (fun b=>aj a b p)=decide ((r.filter fun b=>!aj a b p).length%2=0):=rfl;rw[qv,sf,e,<-ih];generalize (r.filter fun b=>!aj a b p).length=m;generalize sf p r=n;by_cases h1:m%2=0<;>by_cases h2:n%2=0
  .have:(m+n)%2=0:=by omega
   simp[h1,h2,this]
  .have:¬(m+n)%2=0:=by omega
   simp[h1,h2,this]
  .have:¬(m+n)%2=0:=by omega
   simp[h1,h2,this]
  .have:(m+n)%2=0:=by omega
   simp[h1,h2,this]
theorem qf{p:Int}(hp:aM p=true)(h2:p≠2):∀{row:List Int},(∀n∈row,¬p∣n)->qv p row=true
 |[],_=>rfl
 |a::r,h=>by
  rw[qv,qf hp h2 fun n hn=>h n (List.mem_cons_of_mem _ hn),gC fun b hb=>eI hp h2 (h a List.mem_cons_self) (h b (List.mem_cons_of_mem _ hb))];rfl
theorem vn{L:List Int}(h:p9 L):∀{row:List Int},(∀n∈row,Fj L n)->dy (0::L) (fun p=>qv p row)=true
 |[],_=>gC fun _ _=>rfl
 |a::r,hr=>by
  have e:(fun p=>qv p (a::r))=fun p=>dy r (fun b=>aj a b p)==qv p r:=rfl;have e3:(dy r fun y=>dy (0::L) fun x=>aj a y x)=true:=gC fun b hb=>mP h (hr a List.mem_cons_self) (hr b (List.mem_cons_of_mem _ hb));rw[e,iO,vn h fun n hn=>hr n (List.mem_cons_of_mem _ hn),rW (fun p b=>aj a b p),e3];rfl
theorem uG:∀{L M:List Int},L.Nodup->(∀x∈L,x∈M)->L.length<=M.length
 |[],M,_,_=>Nat.zero_le _
 |x::L,M,hn,h=>by
  obtain⟨n1,n2⟩:=List.nodup_cons.mp hn;have hx:=h x List.mem_cons_self;have ih:=uG (M:=M.erase x) n2 fun y hy=>(List.mem_erase_of_ne (by rintro rfl;exact n1 hy)).mpr (h y (List.mem_cons_of_mem _ hy));have hm:0<M.length:=List.length_pos_of_mem hx;rw[List.length_erase_of_mem hx] at ih;rw[List.length_cons];omega
theorem Bh{k:Int}{M:List Int}(hk:1<=k)(h:∀q,aM q=true->q∣k->q∈M):(kR k).length<=M.length:=by
 obtain⟨⟨b,hr⟩,_⟩:=pe hk;have hn:((kR k).map (·.1)).Nodup:=(qF hr).1.imp fun h=>by omega
 have:=uG hn fun q hq=>by
  obtain⟨h1,h2⟩:=(iC hk).mp hq;exact h q h1 h2
 rwa [List.length_map] at this
def AI:List Int:=[3,5,7,11,13]
def Q6:List Int:=[2,3,5,7,11,13]
def HW(p:Int):List Int:=if p=3 then [1] else if p=5 then [1,4] else if p=7 then [1,2,4] else if p=11 then [1,3,4,5,9] else [1,3,4,9,10,12]
theorem Gu:∀p∈([3,5,7,11,13]:List Nat),∀r∈List.range p,(bu (r:Int) (p:Int)=1↔(r:Int)∈HW (p:Int)):=by decide +kernel
theorem Dv{p k:Int}(hp:p∈AI):bu k p=1↔k%p∈HW p:=by
 have hm:p.toNat∈([3,5,7,11,13]:List Nat):=by
  simp only[AI,List.mem_cons,List.not_mem_nil,or_false] at hp;rcases hp with rfl|rfl|rfl|rfl|rfl<;>decide
 have h0:0<p:=by
  simp only[AI,List.mem_cons,List.not_mem_nil,or_false] at hp;omega
 have h1:=Int.emod_nonneg k (Int.ne_of_gt h0);have h2:=Int.emod_lt_of_pos k h0;have:=Gu p.toNat hm (k%p).toNat (List.mem_range.mpr (by omega));rw[show(((k%p).toNat:Nat):Int)=k%p by omega,show((p.toNat:Nat):Int)=p by omega,Cc] at this;exact this
def bS(s:Int)(w:List (Int×Int)):Int:=(Q6.zip w).foldl (fun acc u=>if u.2.1=1 then acc*u.1 else acc) s
structure GW(s:Int)(w:List (Int×Int)):Prop where
 sg:s=1\/s=-1
 len:w.length=6
 a:∀j,j<6->(w.getD j (0,1)).1=0\/(w.getD j (0,1)).1=1
 u2:(w.getD 0 (0,1)).2∈[(1:Int),3,5,7]
 u:∀j,1<=j->j<6->(w.getD j (0,1)).2=1\/(w.getD j (0,1)).2=-1
def bits:List (List Int):=(List.range 64).map fun(m:Nat)=>[(m:Int)%2,(m:Int)/2%2,(m:Int)/4%2,(m:Int)/8%2,(m:Int)/16%2,(m:Int)/32%2]
def AZ(s:Int)(a:List Int):Int:=(Q6.zip a).foldl (fun acc u=>if u.2=1 then acc*u.1 else acc) s
def sX(k p a:Int):Int:=if a=1 then k/p else k
theorem FF:∀s∈[(1:Int),-1],∀a∈bits,AZ s a≠0/\(-30030<=AZ s a/\AZ s a<=30030)/\(0<AZ s a↔s=1)/\∀j∈List.range 6,((a.getD j 0=1->AZ s a/Q6.getD j 1*Q6.getD j 1=AZ s a)/\sX (AZ s a) (Q6.getD j 1) (a.getD j 0)%Q6.getD j 1≠0):=by decide +kernel
theorem Cf:∀a0∈[(0:Int),1],∀a1∈[(0:Int),1],∀a2∈[(0:Int),1],∀a3∈[(0:Int),1],∀a4∈[(0:Int),1],∀a5∈[(0:Int),1],[a0,a1,a2,a3,a4,a5]∈bits:=by decide +kernel
theorem six{α:Type}{w:List α}(h:w.length=6):∃a b c d e f,w=[a,b,c,d,e,f]:=by
 match w,h with
 |[a,b,c,d,e,f],_=>exact⟨a,b,c,d,e,f,rfl⟩
theorem zG{s:Int}{w:List (Int×Int)}(h:w.length=6):bS s w=AZ s (w.map (·.1)):=by
 obtain⟨a,b,c,d,e,f,rfl⟩:=six h;rfl
theorem GW.bits{s:Int}{w:List (Int×Int)}(h:GW s w):w.map (·.1)∈Q.bits:=by
 obtain⟨a,b,c,d,e,f,rfl⟩:=six h.len;have z:=fun j hj=>h.a j hj;have m:∀x:Int,x=0\/x=1->x∈[(0:Int),1]:=fun x hx=>by simpa using hx
 exact Cf _ (m _ (z 0 (by decide))) _ (m _ (z 1 (by decide))) _ (m _ (z 2 (by decide))) _ (m _ (z 3 (by decide))) _ (m _ (z 4 (by decide))) _ (m _ (z 5 (by decide)))
theorem GW.st{s:Int}{w:List (Int×Int)}(h:GW s w):bS s w≠0/\(-30030<=bS s w/\bS s w<=30030)/\(0<bS s w↔s=1)/\∀j,j<6->(((w.getD j (0,1)).1=1->bS s w/Q6.getD j 1*Q6.getD j 1=bS s w)/\¬Q6.getD j 1∣sX (bS s w) (Q6.getD j 1) (w.getD j (0,1)).1):=by
 have hs:s∈[(1:Int),-1]:=by simpa using h.sg
 obtain⟨h1,h2,h3,h4⟩:=FF s hs _ h.bits;rw[<-zG h.len] at h1 h2 h3 h4;refine⟨h1,h2,h3,fun j hj=>?_⟩;have:=h4 j (List.mem_range.mpr hj)
 have e:(w.map (·.1)).getD j 0=(w.getD j (0,1)).1:=by
  have hl:=h.len;rw[List.getD_eq_getElem?_getD,List.getD_eq_getElem?_getD,List.getElem?_map,List.getElem?_eq_getElem (by omega)];rfl
 rw[e] at this;exact⟨this.1,fun z=>this.2 (Int.emod_eq_zero_of_dvd z)⟩
theorem iq:∀j,j<6->aM (Q6.getD j 1)=true:=fun j hj=>ny _ (by
 have:j=0\/j=1\/j=2\/j=3\/j=4\/j=5:=by omega
 rcases this with rfl|rfl|rfl|rfl|rfl|rfl<;>decide)
def HL(q:Int):Prop:=∀j,j<6->¬Q6.getD j 1∣q
theorem wI{q:Int}(hq:aM q=true)(h:17<=q):HL q:=fun j hj z=>by
 have:=aN (iq j hj) hq z;have:j=0\/j=1\/j=2\/j=3\/j=4\/j=5:=by omega
 rcases this with rfl|rfl|rfl|rfl|rfl|rfl<;>(simp[Q6] at *;omega)
theorem CL{s q:Int}{w:List (Int×Int)}(h:GW s w)(hq:HL q){j:Nat}(hj:j<6):a9 (bS s w*q) (Q6.getD j 1)=((w.getD j (0,1)).1,sX (bS s w) (Q6.getD j 1) (w.getD j (0,1)).1*q)/\¬Q6.getD j 1∣sX (bS s w) (Q6.getD j 1) (w.getD j (0,1)).1*q:=by
 obtain⟨_,_,_,h4⟩:=h.st;obtain⟨e1,e2⟩:=h4 j hj;have hp:=iq j hj;have hp2:=au hp;have hn:¬Q6.getD j 1∣sX (bS s w) (Q6.getD j 1) (w.getD j (0,1)).1*q:=fun z=>(euclid hp z).elim e2 (hq j hj);refine⟨?_,hn⟩;rcases h.a j hj with z|z
 .have e:sX (bS s w) (Q6.getD j 1) (w.getD j (0,1)).1=bS s w:=by unfold sX;rw[if_neg (by omega)]
  rw[e] at hn ⊢;rw[je hp2 hn,z]
 .have e:sX (bS s w) (Q6.getD j 1) (w.getD j (0,1)).1=bS s w/Q6.getD j 1:=by unfold sX;rw[if_pos z]
  have e3:=e1 z;rw[e] at hn ⊢;have:=lP (k:=bS s w/Q6.getD j 1*q) (v:=1) hp2 hn;rw[Int.pow_one,show bS s w/Q6.getD j 1*q*Q6.getD j 1=(bS s w/Q6.getD j 1*Q6.getD j 1)*q by grind,e3] at this;rw[this,z];rfl
noncomputable def vG(k s:Int)(w:List (Int×Int)):Bool:=decide ((if 0<k then 1 else -1)=s)&&(Q6.zip w).all fun u=>decide (cls k u.1=u.2)
def FV(k p:Int):Int:=if k%p=0 then k/p else k
theorem uz:∀j,j<5->AI.getD j 1=Q6.getD (j+1) 1/\AI.getD j 1∈AI/\AI.getD j 1≠2:=fun j hj=>by
 have:j=0\/j=1\/j=2\/j=3\/j=4:=by omega
 rcases this with rfl|rfl|rfl|rfl|rfl<;>decide
theorem uD{s q:Int}{w:List (Int×Int)}(h:GW s w)(hq:HL q){j:Nat}(hj:j<6):FV (bS s w*q) (Q6.getD j 1)=sX (bS s w) (Q6.getD j 1) (w.getD j (0,1)).1*q:=by
 obtain⟨_,hn⟩:=CL h hq hj;obtain⟨_,_,_,h4⟩:=h.st;obtain⟨e1,_⟩:=h4 j hj;have hp2:=au (iq j hj);unfold FV;rcases h.a j hj with z|z
 .have e:sX (bS s w) (Q6.getD j 1) (w.getD j (0,1)).1=bS s w:=by unfold sX;rw[if_neg (by omega)]
  rw[e] at hn ⊢;rw[if_neg fun c=>hn (Int.dvd_of_emod_eq_zero c)]
 .have e:sX (bS s w) (Q6.getD j 1) (w.getD j (0,1)).1=bS s w/Q6.getD j 1:=by unfold sX;rw[if_pos z]
  have e3:=e1 z;rw[e];generalize bS s w/Q6.getD j 1=m at *;rw[<-e3,if_pos (Int.emod_eq_zero_of_dvd ⟨m*q,by grind⟩),show m*Q6.getD j 1*q=(m*q)*Q6.getD j 1 by grind,Int.mul_ediv_cancel _ (by omega)]
theorem we{k s:Int}{w:List (Int×Int)}(hl:w.length=6):vG k s w=true↔(if 0<k then (1:Int) else -1)=s/\∀j,j<6->cls k (Q6.getD j 1)=w.getD j (0,1):=by
 obtain⟨a,b,c,d,e,f,rfl⟩:=six hl;unfold vG;rw[Bool.and_eq_true,decide_eq_true_eq];refine and_congr Iff.rfl ?_;have:(Q6.zip [a,b,c,d,e,f])=[(2,a),(3,b),(5,c),(7,d),(11,e),(13,f)]:=rfl;rw[this];simp only[List.all_cons,List.all_nil,Bool.and_eq_true,decide_eq_true_eq,and_true];constructor
 .rintro⟨h0,h1,h2,h3,h4,h5⟩ j hj;have:j=0\/j=1\/j=2\/j=3\/j=4\/j=5:=by omega
  rcases this with rfl|rfl|rfl|rfl|rfl|rfl
  .exact h0
  .exact h1
  .exact h2
  .exact h3
  .exact h4
  .exact h5
 .intro h;exact⟨h 0 (by decide),h 1 (by decide),h 2 (by decide),h 3 (by decide),h 4 (by decide),h 5 (by decide)⟩
theorem Ck{s q:Int}{w:List (Int×Int)}(h:GW s w)(hq:HL q)(q0:0<q):vG (bS s w*q) s w=true↔FV (bS s w*q) 2%8=(w.getD 0 (0,1)).2/\∀j,j<5->bu (FV (bS s w*q) (AI.getD j 1)) (AI.getD j 1)=(w.getD (j+1) (0,1)).2:=by
 obtain⟨n0,_,hsg,_⟩:=h.st;rw[we h.len]
 have e0:(if 0<bS s w*q then (1:Int) else -1)=s:=by
  rcases h.sg with z|z
  .rw[if_pos (Int.mul_pos (hsg.mpr z) q0),z]
  .have:¬0<bS s w:=fun c=>by have:=hsg.mp c;omega
   have:bS s w*q<0:=Int.mul_neg_of_neg_of_pos (by omega) q0;rw[if_neg (by omega),z]
 have ec:∀j,j<6->(cls (bS s w*q) (Q6.getD j 1)=w.getD j (0,1)↔(if Q6.getD j 1=2 then FV (bS s w*q) (Q6.getD j 1)%8 else bu (FV (bS s w*q) (Q6.getD j 1)) (Q6.getD j 1))=(w.getD j (0,1)).2):=fun j hj=>by
  obtain⟨e1,_⟩:=CL h hq hj;rw[uD h hq hj];unfold cls;rw[e1];dsimp only;have ea:(w.getD j (0,1)).1%2=(w.getD j (0,1)).1:=by rcases h.a j hj with z|z<;>rw[z]<;>decide
  rw[ea];constructor
  .intro c;rw[<-c]
  .intro c;rw[c]
 constructor
 .rintro⟨_,c⟩;refine⟨?_,fun j hj=>?_⟩
  .have:=(ec 0 (by decide)).mp (c 0 (by decide));exact this
  .obtain⟨p1,p2,p3⟩:=uz j hj;have:=(ec (j+1) (by omega)).mp (c (j+1) (by omega));rw[<-p1,if_neg p3] at this;exact this
 .rintro⟨c0,c⟩;refine⟨e0,fun j hj=>(ec j hj).mpr ?_⟩
  match j,hj with
  |0,_=>exact c0
  |j+1,hj =>
   obtain⟨p1,p2,p3⟩:=uz j (by omega);rw[<-p1,if_neg p3];exact c j (by omega)
def JE:List Nat:=[17,19,23,29,31,37,41,43,47,53,59,61,67,71,73,79,83,89,97,101,103,107,109,113,127,131,137,139,149,151,157,167,173,179,181,191,193,197,199,211,223,229,233,239,241,251,257,263,269,271,277,281,283,293,307,311,313,317,331,337,349,353,389,397,401,421,439,443,461,463,467,479,491,503,509,521,563,569,587,593,601,607,613,619,631,641,643,647,683,733,739,743,751,757,773,797,823,827,839,859,863,883,937,967,997,1009,1019,1031,1061,1171,1321,1361,1381,1483,1559,1609,1621,1723,1733,1873,1913,1931,2017,2521,2689,2699,3583,8089]
def IH(q:Nat):Nat:=((List.range 46).find? fun m=>decide (q<(2*m+3)*(2*m+3))).getD 0
theorem w8:∀q∈JE,oz q (IH q)=true/\17<=q/\q%2=1/\q<=8089/\q<(2*IH q+3)*(2*IH q+3):=by decide +kernel
def qm(q:Nat)(p:Int):Bool:=decide ((q:Int)%p∈HW p)
theorem B0:∀c∈[1,3,5,7],∀e0∈[true,false],∀e1∈[true,false],∀e2∈[true,false],∀e3∈[true,false],∀e4∈[true,false],(JE.any fun q=>decide (q%8=c)&&(qm q 3==e0)&&(qm q 5==e1)&&(qm q 7==e2)&&(qm q 11==e3)&&(qm q 13==e4))=true:=by decide +kernel
theorem IB{s:Int}{w:List (Int×Int)}(h:GW s w):∃q,aM q=true/\17<=q/\q<=8089/\vG (bS s w*q) s w=true:=by
 obtain⟨m,hm⟩:∃m:Nat->Int,∀j,m j=sX (bS s w) (Q6.getD j 1) (w.getD j (0,1)).1:=⟨_,fun _=>rfl⟩;have nd:∀j,j<6->¬Q6.getD j 1∣m j:=fun j hj=>by rw[hm];exact(h.st.2.2.2 j hj).2
 have m2:m 0%2=1:=by
  have:=nd 0 (by decide);simp[Q6] at this;omega
 have hc:((m 0*(w.getD 0 (0,1)).2)%8).toNat∈[1,3,5,7]:=by
  have hu:=h.u2;simp only[List.mem_cons,List.not_mem_nil,or_false] at hu ⊢;have hr:m 0%8=1\/m 0%8=3\/m 0%8=5\/m 0%8=7:=by omega
  rw[Int.mul_emod];rcases hu with z|z|z|z<;>rcases hr with y|y|y|y<;>rw[z,y]<;>decide
 have bl:∀b:Bool,b∈[true,false]:=by decide
 obtain⟨e,he⟩:∃e:Nat->Bool,∀j,e j=(decide (bu (m (j+1)) (AI.getD j 1)=1)==decide ((w.getD (j+1) (0,1)).2=1)):=⟨_,fun _=>rfl⟩;obtain⟨q,hq,hh⟩:=List.any_eq_true.mp (B0 _ hc (e 0) (bl _) (e 1) (bl _) (e 2) (bl _) (e 3) (bl _) (e 4) (bl _));simp only[Bool.and_eq_true,decide_eq_true_eq,beq_iff_eq] at hh;obtain⟨⟨⟨⟨⟨q8,g0⟩,g1⟩,g2⟩,g3⟩,g4⟩:=hh;obtain⟨t1,t2,t3,t4,t5⟩:=w8 q hq;have hp:aM (q:Int)=true:=c8 t1 (by omega) t3 t5;have cq:=wI hp (by omega);refine⟨q,hp,by omega,by omega,(Ck h cq (by omega)).mpr ⟨?_,fun j hj=>?_⟩⟩
 .have:=uD h cq (show 0<6 by decide);rw[<-hm] at this;rw[show(2:Int)=Q6.getD 0 1 from rfl,this];have hu:=h.u2;simp only[List.mem_cons,List.not_mem_nil,or_false] at hu;have hr:m 0%8=1\/m 0%8=3\/m 0%8=5\/m 0%8=7:=by omega
  have q8':(q:Int)%8=(m 0*(w.getD 0 (0,1)).2)%8:=by omega
  rw[Int.mul_emod,q8',Int.mul_emod (m 0) ((w.getD 0 (0,1)).2)];rcases hu with z|z|z|z<;>rcases hr with y|y|y|y<;>rw[z,y]<;>decide
 .obtain⟨p1,p2,p3⟩:=uz j hj;have:=uD h cq (show j+1<6 by omega);rw[<-hm] at this;rw[p1,this];have hpp:=iq (j+1) (by omega);rw[vJ hpp]
  have hqq:qm q (Q6.getD (j+1) 1)=e j:=by
   have:j=0\/j=1\/j=2\/j=3\/j=4:=by omega
   rcases this with rfl|rfl|rfl|rfl|rfl
   .exact g0
   .exact g1
   .exact g2
   .exact g3
   .exact g4
  rw[he,p1] at hqq;unfold qm at hqq;rw[p1] at p2;have hs:=Dv (k:=(q:Int)) p2;have hd:decide ((q:Int)%Q6.getD (j+1) 1∈HW (Q6.getD (j+1) 1))=decide (bu (q:Int) (Q6.getD (j+1) 1)=1):=decide_eq_decide.mpr hs.symm;rw[hd] at hqq;rcases dc (nd (j+1) (by omega)) with a|a<;>rcases dc (cq (j+1) (by omega)) with b|b<;>rcases h.u (j+1) (by omega) (by omega) with c|c<;>rw[a,b,c] at hqq<;>rw[a,b,c]<;>first|rfl|(exfalso;revert hqq;decide)
theorem wg{n:Int}:∀(k:Nat) (m:Int),m.natAbs<=k->0<m->gp m->(∀q,aM q=true->q∣m->q∣n)->m∣n
 |0,m,hk,h0,_,_=>by omega
 |k+1,m,hk,h0,hs,h=>by
  by_cases h1:m=1
  .rw[h1];exact Int.one_dvd n
  .obtain⟨q,hq,⟨m',rfl⟩⟩:=eK (k:=m) (by omega);have q2:=au hq;have m0:0<m':=Int.pos_of_mul_pos_right h0 (by omega)
   have lt:m'<q*m':=by
    have:=Int.mul_le_mul_of_nonneg_right q2 (show 0<=m' by omega);omega
   obtain⟨t,ht⟩:=wg k m' (by omega) m0 (lQ hs (Int.dvd_mul_left _ _)) fun r hr hd=>h r hr (Int.dvd_trans hd (Int.dvd_mul_left _ _));have hqn:=h q hq (Int.dvd_mul_right _ _);rw[ht] at hqn;rcases euclid hq hqn with z|z
   .exfalso;obtain⟨c,rfl⟩:=z;exact hs.2 q q2 ⟨c,by rw[Int.mul_assoc]⟩
   .obtain⟨c,rfl⟩:=z;exact⟨c,by rw[ht];grind⟩
def k1(r:Int):Int:=if r=3\/r=7 then 1 else 0
def k2(r:Int):Int:=if r=3\/r=5 then 1 else 0
theorem qS{u:Int}(h:u%2=1):((u-1)/2)%2=k1 (u%8):=by
 unfold k1;split<;>omega
theorem Au{u:Int}(h:u%2=1):((u*u-1)/8)%2=k2 (u%8):=by
 have e:=Int.emod_add_mul_ediv u 8;have hr:u%8=1\/u%8=3\/u%8=5\/u%8=7:=by omega
 generalize u/8=q at *;generalize hu:u%8=r at *;have e2:u*u-1=8*(2*(4*(q*q)+q*r))+(r*r-1):=by rw[<-e];grind
 rw[e2,Int.mul_add_ediv_left _ _ (by decide)];rcases hr with rfl|rfl|rfl|rfl
 .show(2*_+(1*1-1)/8)%2=k2 1;rw[show((1:Int)*1-1)/8=0 by decide];unfold k2;omega
 .rw[show((3:Int)*3-1)/8=1 by decide,show k2 3=1 from rfl];omega
 .rw[show((5:Int)*5-1)/8=3 by decide,show k2 5=1 from rfl];omega
 .rw[show((7:Int)*7-1)/8=6 by decide,show k2 7=0 from rfl];omega
theorem Ih(a b c d e f:Int):(a*b+c*d+e*f)%2=((a%2)*(b%2)+(c%2)*(d%2)+(e%2)*(f%2))%2:=by
 rw[Int.add_emod,Int.add_emod (a*b),Int.mul_emod a b,Int.mul_emod c d,Int.mul_emod e f];rw[Int.add_emod ((a%2)*(b%2)+(c%2)*(d%2)),Int.add_emod ((a%2)*(b%2))]
theorem Bv:∀r∈[(1:Int),3,5,7],∀t∈[(1:Int),3,5,7],∀A∈[(0:Int),1],∀B∈[(0:Int),1],decide ((k1 r*k1 t+A*k2 t+B*k2 r)%2=0)=fh (A,r) (B,t):=by decide
theorem mod2(A:Int):A%2∈[(0:Int),1]:=by
 have:A%2=0\/A%2=1:=by omega
 rcases this with e|e<;>rw[e]<;>decide
theorem BE{u v A B:Int}(hu:u%2=1)(hv:v%2=1):decide (((u-1)/2*((v-1)/2)+A*((v*v-1)/8)+B*((u*u-1)/8))%2=0)=fh (A%2,u%8) (B%2,v%8):=by
 rw[Ih,qS hu,qS hv,Au hu,Au hv];exact Bv _ (GO hu) _ (GO hv) _ (mod2 A) _ (mod2 B)
theorem B8:∀x∈[(1:Int),-1],∀y∈[(1:Int),-1],∀A∈[(0:Int),1],∀B∈[(0:Int),1],∀m∈[(0:Int),1],decide ((A*B*m+(if x≠1 then B else 0)+(if y≠1 then A else 0))%2=0)=i7 (A,x) (B,y) (if m=1 then -1 else 1):=by decide
theorem Ca{p u v A B:Int}(hp:aM p=true)(h2:p≠2)(hu:¬p∣u)(hv:¬p∣v):decide ((A*B*((p-1)/2)+(if bu u p≠1 then B else 0)+(if bu v p≠1 then A else 0))%2=0)=i7 (A%2,bu u p) (B%2,bu v p) (bu (-1) p):=by
 have p2:=au hp;have od:p%2=1:=by rcases bA.mp hp with z|z<;>omega
 have em:bu (-1) p=if ((p-1)/2)%2=1 then -1 else 1:=by
  rw[o3 hp h2];by_cases z:p%4=3
  .rw[if_pos z,if_pos (by omega)]
  .rw[if_neg z,if_neg (by omega)]
 have pm:∀{w:Int},¬p∣w->bu w p∈[(1:Int),-1]:=fun {w} h=>by
  rcases dc h with e|e<;>rw[e]<;>decide
 have key:(A*B*((p-1)/2)+(if bu u p≠1 then B else 0)+(if bu v p≠1 then A else 0))%2=((A%2)*(B%2)*(((p-1)/2)%2)+(if bu u p≠1 then B%2 else 0)+(if bu v p≠1 then A%2 else 0))%2:=by
  have e1:(A*B*((p-1)/2))%2=((A%2)*(B%2)*(((p-1)/2)%2))%2:=by
   rw[Int.mul_emod,Int.mul_emod A B,<-Int.mul_emod ((A%2)*(B%2)),Int.mul_emod ((A%2)*(B%2)) (((p-1)/2)%2),Int.emod_emod_of_dvd _ (Int.dvd_refl 2),<-Int.mul_emod]
  have e2:∀(c:Prop) [Decidable c] (Z:Int),(if c then Z else 0)%2=(if c then Z%2 else 0)%2:=fun c _ Z=>by split<;>omega
  have h3:=e2 (bu u p≠1) B;have h4:=e2 (bu v p≠1) A;generalize (if bu u p≠1 then B else 0)=X1 at *;generalize (if bu u p≠1 then B%2 else 0)=X2 at *;generalize (if bu v p≠1 then A else 0)=Y1 at *;generalize (if bu v p≠1 then A%2 else 0)=Y2 at *;generalize A*B*((p-1)/2)=Z1 at *;generalize A%2*(B%2)*((p-1)/2%2)=Z2 at *;omega
 rw[key,em];exact B8 _ (pm hu) _ (pm hv) _ (mod2 A) _ (mod2 B) _ (mod2 _)
def PW:List Int:=[2,3,5,7,11,13,17,19,23,29,31,97,101,997,10007,32771,32779,40009,40013]
def JD:List (Nat×Nat):=[(3,0),(5,0),(7,0),(11,1),(13,1),(17,2),(19,2),(23,2),(29,3),(31,3),(97,4),(101,5),(997,15),(10007,49),(32771,90),(32779,90),(40009,99),(40013,99)]
theorem Ig{p:Int}(h:p∈PW):aM p=true:=by
 have hb:∀u∈JD,oz u.1 u.2=true/\3<=u.1/\u.1%2=1/\u.1<(2*u.2+3)*(2*u.2+3):=by decide +kernel
 have hq:∀q∈PW,q=2\/∃u∈JD,((u.1:Nat):Int)=q:=by decide +kernel
 rcases hq p h with rfl|⟨u,hu,rfl⟩
 .exact cv
 .obtain⟨a,b,c,d⟩:=hb u hu;exact c8 a b c d
def dJ:Nat->List Int
 |0=>[1,-1]
 |i+1=>dJ i++(dJ i).map fun k=>k*Q6.getD i 1
theorem BX:∀i,i<=6->(dJ i).length<=128:=by decide +kernel
theorem oX:(dJ 6).length=128/\∀k∈dJ 6,k≠0/\-30030<=k/\k<=30030/\30030%k=0:=by decide +kernel
theorem EJ:∀s∈[(1:Int),-1],∀a∈bits,AZ s a∈dJ 6:=by decide +kernel
theorem Ef:∀i,i<=6->∀k∈dJ i,-30030<=k/\k<=30030:=by decide +kernel
def P7:List Int:=[0,2,3,5,7,11,13]
noncomputable def eB(k p:Int):Int⊕(Int×Int):=if p=0 then .inl (if 0<k then 1 else -1) else .inr (cls k p)
def kU(a b:Int⊕(Int×Int))(p:Int):Int⊕(Int×Int):=match a,b with
 |.inl x,.inl y=>.inl (x*y)
 |.inr u,.inr v=>.inr (fS u v p)
 |_,_=>.inl 0
theorem eM:∀p∈Q6,aM p=true:=fun p hp=>by
 obtain⟨j,hj,e⟩:=List.mem_iff_getElem.mp hp;have hj':j<6:=hj;have:=iq j hj';rw[List.getD_eq_getElem?_getD,List.getElem?_eq_getElem hj,e] at this;exact this
theorem cm{p:Int}(h:p∈P7):p=0\/(p≠0/\aM p=true/\p∈Q6):=by
 have:p=0\/p∈Q6:=List.mem_cons.mp h;rcases this with z|z
 .exact .inl z
 .have q:=eM p z;have:=au q;exact .inr ⟨by omega,q,z⟩
theorem ju{p a b:Int}(hp:p∈P7)(ha:a≠0)(hb:b≠0):kU (eB a p) (eB b p) p=eB (a*b) p:=by
 rcases cm hp with rfl|⟨p0,pp,_⟩
 .unfold eB kU;rw[if_pos rfl,if_pos rfl,if_pos rfl];show Sum.inl _=Sum.inl _;congr 1;rcases Int.lt_or_gt_of_ne ha with x|x<;>rcases Int.lt_or_gt_of_ne hb with y|y
  .rw[if_neg (by omega),if_neg (by omega),if_pos (Int.mul_pos_of_neg_of_neg x y)];rfl
  .rw[if_neg (by omega),if_pos y,if_neg (by have:=Int.mul_neg_of_neg_of_pos x y;omega)];rfl
  .rw[if_pos x,if_neg (by omega),if_neg (by have:=Int.mul_neg_of_pos_of_neg x y;omega)];rfl
  .rw[if_pos x,if_pos y,if_pos (Int.mul_pos x y)];rfl
 .unfold eB kU;rw[if_neg p0,if_neg p0,if_neg p0];show Sum.inr _=Sum.inr _;rw[eH pp ha hb]
theorem xU{p a r:Int}(hp:p∈P7)(ha:a≠0)(hr:r≠0):eB (a*r*r) p=eB a p:=by
 rcases cm hp with rfl|⟨p0,pp,_⟩
 .unfold eB;rw[if_pos rfl,if_pos rfl];congr 1
  have q:0<r*r:=by
   rcases Int.lt_or_gt_of_ne hr with z|z
   .exact Int.mul_pos_of_neg_of_neg z z
   .exact Int.mul_pos z z
  rw[Int.mul_assoc];by_cases z:0<a
  .rw[if_pos z,if_pos (Int.mul_pos z q)]
  .rw[if_neg z,if_neg (by have:=Int.mul_neg_of_neg_of_pos (show a<0 by omega) q;omega)]
 .unfold eB;rw[if_neg p0,if_neg p0,ui pp ha hr]
theorem rZ{p f k n:Int}(hp:p∈P7)(hf:f≠0)(hk:k≠0)(hn:n≠0):eB k p=kU (eB f p) (eB n p) p↔eB (k*f) p=eB n p:=by
 rw[ju hp hf hn];constructor
 .intro h;rw[<-ju hp hk hf,h,ju hp (Int.mul_ne_zero hf hn) hf,show f*n*f=n*f*f by grind,xU hp hn hf]
 .intro h;rw[<-ju hp hf hn,<-h,ju hp hf (Int.mul_ne_zero hk hf),show f*(k*f)=k*f*f by grind,xU hp hk hf]
theorem gh{n p:Int}(hp:aM p=true)(hn:n≠0):((cls n p).1=0\/(cls n p).1=1)/\(p=2->(cls n p).2∈[(1:Int),3,5,7])/\(p≠2->(cls n p).2=1\/(cls n p).2=-1):=by
 have t:=gL (au hp) hn;have nd:¬p∣(a9 n p).2:=t.2.2;refine⟨?_,fun h2=>?_,fun h2=>?_⟩
 .show(a9 n p).1%2=0\/(a9 n p).1%2=1;omega
 .show(if p=2 then (a9 n p).2%8 else bu (a9 n p).2 p)∈_;rw[if_pos h2];rw[h2] at nd;have:(a9 n 2).2%8=1\/(a9 n 2).2%8=3\/(a9 n 2).2%8=5\/(a9 n 2).2%8=7:=by omega
  rw[h2];simp only[List.mem_cons,List.not_mem_nil,or_false];exact this
 .show(if p=2 then (a9 n p).2%8 else bu (a9 n p).2 p)=1\/(if p=2 then (a9 n p).2%8 else bu (a9 n p).2 p)=-1;rw[if_neg h2];exact dc nd
theorem y8{ns:List Int}(hl:ns.length=7)(h0:∀n∈ns,n≠0):∃k q,k∈dJ 6/\aM q=true/\17<=q/\q<=8089/\∀j,j<7->eB (k*q) (P7.getD j 0)=eB (ns.getD j 1) (P7.getD j 0):=by
 obtain⟨n0,n1,n2,n3,n4,n5,n6,rfl⟩:∃a b c d e f g,ns=[a,b,c,d,e,f,g]:=by
  match ns,hl with
  |[a,b,c,d,e,f,g],_=>exact⟨a,b,c,d,e,f,g,rfl⟩
 have m:∀n,n∈[n0,n1,n2,n3,n4,n5,n6]->n≠0:=h0
 have h:GW (if 0<n0 then 1 else -1) [cls n1 2,cls n2 3,cls n3 5,cls n4 7,cls n5 11,cls n6 13]:=by
  have c1:=gh (n:=n1) (p:=2) (eM 2 (by decide)) (m _ (by simp));have c2:=gh (n:=n2) (p:=3) (eM 3 (by decide)) (m _ (by simp));have c3:=gh (n:=n3) (p:=5) (eM 5 (by decide)) (m _ (by simp));have c4:=gh (n:=n4) (p:=7) (eM 7 (by decide)) (m _ (by simp));have c5:=gh (n:=n5) (p:=11) (eM 11 (by decide)) (m _ (by simp));have c6:=gh (n:=n6) (p:=13) (eM 13 (by decide)) (m _ (by simp));refine⟨by split<;>simp,rfl,fun j hj=>?_,c1.2.1 rfl,fun j h1 hj=>?_⟩
  .have:j=0\/j=1\/j=2\/j=3\/j=4\/j=5:=by omega
   rcases this with rfl|rfl|rfl|rfl|rfl|rfl
   .exact c1.1
   .exact c2.1
   .exact c3.1
   .exact c4.1
   .exact c5.1
   .exact c6.1
  .have:j=1\/j=2\/j=3\/j=4\/j=5:=by omega
   rcases this with rfl|rfl|rfl|rfl|rfl
   .exact c2.2.2 (by decide)
   .exact c3.2.2 (by decide)
   .exact c4.2.2 (by decide)
   .exact c5.2.2 (by decide)
   .exact c6.2.2 (by decide)
 obtain⟨q,q1,q2,q3,q4⟩:=IB h;have ha:=(we (k:=bS _ _*q) h.len).mp q4;refine⟨bS (if 0<n0 then 1 else -1) [cls n1 2,cls n2 3,cls n3 5,cls n4 7,cls n5 11,cls n6 13],q,?_,q1,q2,q3,fun j hj=>?_⟩
 .rw[zG h.len];exact EJ _ (by rcases h.sg with z|z<;>rw[z]<;>simp) _ h.bits
 .have:j=0\/j=1\/j=2\/j=3\/j=4\/j=5\/j=6:=by omega
  rcases this with rfl|rfl|rfl|rfl|rfl|rfl|rfl
  .exact congrArg Sum.inl ha.1
  .exact congrArg Sum.inr (ha.2 0 (by decide))
  .exact congrArg Sum.inr (ha.2 1 (by decide))
  .exact congrArg Sum.inr (ha.2 2 (by decide))
  .exact congrArg Sum.inr (ha.2 3 (by decide))
  .exact congrArg Sum.inr (ha.2 4 (by decide))
  .exact congrArg Sum.inr (ha.2 5 (by decide))
def jn(a b:Int):Int:=a.fdiv ((Int.gcd a b:Nat):Int)*b.fdiv ((Int.gcd a b:Nat):Int)
theorem yz{a b:Int}(ha:a≠0):∃g u v,0<g/\a=g*u/\b=g*v/\jn a b=u*v/\Int.gcd u v=1:=by
 obtain⟨u,hu⟩:=Int.gcd_dvd_left a b;obtain⟨v,hv⟩:=Int.gcd_dvd_right a b;have g0:((Int.gcd a b:Nat):Int)≠0:=fun z=>ha (by rw[hu,z,Int.zero_mul])
 have eu:a.fdiv ((Int.gcd a b:Nat):Int)=u:=by
  have:=Int.mul_fdiv_cancel_left u g0;rw[<-hu] at this;exact this
 have ev:b.fdiv ((Int.gcd a b:Nat):Int)=v:=by
  have:=Int.mul_fdiv_cancel_left v g0;rw[<-hv] at this;exact this
 have u0:u≠0:=fun z=>ha (by rw[hu,z,Int.mul_zero]);refine⟨((Int.gcd a b:Nat):Int),u,v,by omega,hu,hv,by unfold jn;rw[eu,ev],jZ (fun q hq ⟨s,hs⟩ ⟨t,ht⟩=>?_) u0⟩;have h1:((Int.gcd a b:Nat):Int)*q∣a:=⟨s,by rw[Int.mul_assoc,<-hs];exact hu⟩;have h2:((Int.gcd a b:Nat):Int)*q∣b:=⟨t,by rw[Int.mul_assoc,<-ht];exact hv⟩;have h3:=Int.dvd_coe_gcd h1 h2;have h4:=Int.le_of_dvd (by omega) h3;have:=au hq;have:=Int.mul_le_mul_of_nonneg_left (show(2:Int)<=q by omega) (show(0:Int)<=((Int.gcd a b:Nat):Int) by omega);omega
theorem GL{a b:Int}(ha:a≠0):∃g u,0<g/\a=g*u/\a*b=jn a b*(g*g):=by
 obtain⟨g,u,v,g0,e1,e2,e3,_⟩:=yz (b:=b) ha;refine⟨g,u,g0,e1,?_⟩;rw[e3,e1,e2];grind
theorem DU{a b m:Int}(ha:a≠0)(h1:a∣m)(h2:b∣m):jn a b∣m:=by
 obtain⟨g,u,v,g0,e1,e2,e3,e4⟩:=yz (b:=b) ha;rw[e3];have d1:u∣m:=Int.dvd_trans ⟨g,by rw[e1,Int.mul_comm]⟩ h1;have d2:v∣m:=Int.dvd_trans ⟨g,by rw[e2,Int.mul_comm]⟩ h2;have c:Nat.Coprime u.natAbs v.natAbs:=e4;have:=Nat.Coprime.mul_dvd_of_dvd_of_dvd c (Int.natAbs_dvd_natAbs.mpr d1) (Int.natAbs_dvd_natAbs.mpr d2);rw[<-Int.natAbs_mul] at this;exact Int.natAbs_dvd_natAbs.mp this
theorem IK:∀d∈List.range 174,2<=d->30030%(d*d)≠0:=by decide +kernel
theorem sW:gp 30030:=⟨by decide,fun d hd z=>by
 have h1:=Int.le_of_dvd (by decide) z
 have hl:d<174:=by
  apply Classical.byContradiction;intro hn;have:=Int.mul_le_mul (show(174:Int)<=d by omega) (show(174:Int)<=d by omega) (by decide) (by omega);omega
 obtain⟨n,rfl⟩:=Int.eq_ofNat_of_zero_le (show 0<=d by omega);have:=IK n (List.mem_range.mpr (by omega)) (by omega)
 have z':n*n∣30030:=by
  have:=Int.natAbs_dvd_natAbs.mpr z;rw[Int.natAbs_mul] at this;exact this
 exact this (Nat.mod_eq_zero_of_dvd z')⟩
theorem lr{k:Int}(h:k∈dJ 6):k∣30030:=Int.dvd_of_emod_eq_zero (oX.2 k h).2.2.2
theorem lL{k:Int}(h:k∈dJ 6):gp k:=lQ sW (lr h)
theorem Ad{q:Int}(hq:aM q=true)(h:q∣30030):q∈Q6:=by
 have e:(30030:Int)=2*(3*(5*(7*(11*13)))):=by decide
 rw[e] at h;have m:∀{p:Int},p∈Q6->q∣p->q∈Q6:=fun {p} hp hd=>by rw[aN hq (eM p hp) hd];exact hp
 rcases euclid hq h with z|h
 .exact m (by decide) z
 rcases euclid hq h with z|h
 .exact m (by decide) z
 rcases euclid hq h with z|h
 .exact m (by decide) z
 rcases euclid hq h with z|h
 .exact m (by decide) z
 rcases euclid hq h with z|h
 .exact m (by decide) z
 .exact m (by decide) h
theorem lZ{k q:Int}(h:k∈dJ 6)(hq:aM q=true)(hd:q∣k):q∈Q6:=Ad hq (Int.dvd_trans hd (lr h))
theorem vk:∀k∈dJ 6,-k∈dJ 6/\(k.natAbs:Int)∈dJ 6/\jn k 1=k/\jn k (-1)=-k:=by decide +kernel
theorem l9:∀n∈dJ 6,∀s∈[(1:Int),-1],s*((jn n 30030).natAbs:Int)∈dJ 6/\jn n (s*((jn n 30030).natAbs:Int))=(if 0<n then s else -s)*30030/\(0<s*((jn n 30030).natAbs:Int)↔s=1):=by decide +kernel
theorem wc:p9 Q6:=⟨by decide,eM,by decide⟩
theorem CA{k:Int}(h:k∈dJ 6):Fj Q6 k:=⟨(oX.2 k h).1,fun _ hq hd=>lZ h hq hd⟩
noncomputable def pW(k p:Int):Bool:=if p=0 then decide (0<k) else decide (cls k p=(0,1))
theorem EV:∀p∈Q6,∀s∈[(1:Int),-1],(cls (s*30030) p).1=1:=by
 intro p hp s hs;have key:∀p∈Q6,∀s∈[(1:Int),-1],s*30030=s*(30030/p)*p/\¬p∣s*(30030/p)/\2<=p:=by decide +kernel
 obtain⟨h1,h2,h3⟩:=key p hp s hs
 have:a9 (s*30030) p=(1,s*(30030/p)):=by
  have:=lP (v:=1) h3 h2;rw[Int.pow_succ,Int.pow_zero,Int.one_mul,<-h1] at this;exact this
 show(a9 (s*30030) p).1%2=1;rw[this];rfl
theorem Ag{p s:Int}(hp:p∈Q6)(hs:s∈[(1:Int),-1]):pW (s*30030) p=false:=by
 have:=au (eM p hp);unfold pW;rw[if_neg (by omega)];refine decide_eq_false fun z=>?_;have:=EV p hp s hs;rw[z] at this;cases this
noncomputable def uk(p:Int):List Int:=if p=0 then [1,-1] else if p=2 then [1,3,5,7,2,6,10,14] else [1,qu p,p,p*qu p]
theorem z_{p:Int}(hp:p∈P7):∀k∈uk p,k≠0:=fun k hk=>by
 unfold uk at hk;split at hk
 .simp only[List.mem_cons,List.not_mem_nil,or_false] at hk;omega
 .rename_i h0;split at hk
  .simp only[List.mem_cons,List.not_mem_nil,or_false] at hk;omega
  .rename_i h2;obtain⟨_,pp,_⟩:=(cm hp).resolve_left h0;have n:=(pO (uC pp h2)).1;simp only[List.mem_cons,List.not_mem_nil,or_false] at hk;rcases hk with rfl|rfl|rfl|rfl
   .decide
   .omega
   .exact h0
   .exact Int.mul_ne_zero h0 (by omega)
theorem zy(p:Int):(uk p).length<=8:=by unfold uk;split;decide;split<;>simp
theorem G3:∀c∈C2,c≠(0,1)->fh (0,3) c=false\/fh (0,5) c=false\/fh (1,1) c=false:=by decide
theorem FY:∀c∈CO,c≠(0,1)->∀m∈[(1:Int),-1],i7 (1,1) c m=false\/i7 (0,-1) c m=false:=by decide
theorem Es{p n:Int}(hp:p∈P7)(hn:n≠0)(c:Bool)(h:c=false->pW n p=false):∃k∈uk p,aj k n p=c:=by
 have pl:Pl p:=by
  rcases cm hp with z|z
  .exact .inl z
  .exact .inr z.2.1
 cases c with
 |true =>
  refine⟨1,?_,?_⟩
  .unfold uk;split;simp;split<;>simp
  .rw[eQ pl hn (by decide)];exact md (r:=1) pl hn (by decide)
 |false =>
  have h:=h rfl;unfold pW at h;unfold uk;by_cases h0:p=0
  .subst h0;rw[if_pos rfl] at h;rw[if_pos rfl];refine⟨-1,by simp,?_⟩;rw[aF,h];rfl
  rw[if_neg h0] at h;rw[if_neg h0];have h:=of_decide_eq_false h;by_cases h2:p=2
  .subst h2;rw[if_pos rfl];have c3:cls 3 2=(0,3):=by rw[hU (by decide) (by decide)];rfl
   have c5:cls 5 2=(0,5):=by rw[hU (by decide) (by decide)];rfl
   rcases G3 _ (cP hn) h with z|z|z
   .exact⟨3,by simp,by rw[aR,c3];exact z⟩
   .exact⟨5,by simp,by rw[aR,c5];exact z⟩
   .exact⟨2,by simp,by rw[aR,yH];exact z⟩
  .rw[if_neg h2];obtain⟨_,pp,_⟩:=(cm hp).resolve_left h0;have p2:=au pp;obtain⟨n1,n2,_⟩:=pO (uC pp h2)
   have nd:¬p∣qu p:=fun z=>by
    rw[iz z] at n2;cases n2
   have cn:cls (qu p) p=(0,-1):=by rw[hU p2 nd,if_neg h2,n2]
   have cp:cls p p=(1,1):=by
    have nd1:¬p∣1:=fun z=>by have:=Int.le_of_dvd (by decide) z;omega
    have:=lP (v:=1) p2 nd1;rw[Int.pow_succ,Int.pow_zero,Int.one_mul,Int.one_mul] at this;unfold cls;rw[this,if_neg h2];have:bu 1 p=1:=mK pp h2 ⟨0,by omega⟩;dsimp only;rw[this];rfl
   rcases FY _ (cL p2 h2 hn) h _ (oQ p2) with z|z
   .exact⟨p,by simp,by rw[aZ h0 h2,cp];exact z⟩
   .exact⟨qu p,by simp,by rw[aZ h0 h2,cn];exact z⟩
theorem yj{a k c p:Int}(h:eB a p=eB k p):aj a c p=aj k c p:=by
 unfold eB at h;by_cases h0:p=0
 .subst h0;rw[if_pos rfl,if_pos rfl] at h;have e:=Sum.inl.inj h;rw[aF,aF];congr 1;by_cases x:0<a<;>by_cases y:0<k<;>simp[x,y] at e ⊢
 .rw[if_neg h0,if_neg h0] at h;have e:=Sum.inr.inj h;unfold aj;rw[if_neg h0,if_neg h0,e]
def kj:List Int->Int
 |[]=>1
 |x::xs=>x*kj xs
structure Due(s g n:Int)(ns:List Int):Prop where
 s1:1<=s
 s8:s<=8
 g0:0<=g
 gs:g<=s
 nm:n∈dJ 6
 sub:∀p∈ns,p∈P7
 len:ns.length<=7
 sg:n<0↔(s-g)%2=1
 ev:dy P7 (fun p=>!decide (p∈ns))=true
 z:(0:Int)∈ns↔(s-g)*(s-g-1)/2%2=1
 one:s=1->ns=[]
 two:s=2->∀p∈ns,pW (-n) p=false
structure Res(s g n:Int)(ns row:List Int):Prop where
 len:(row.length:Int)=s
 nz:∀x∈row,gp x/\x.natAbs<1073741824
 sg:((row.filter fun k=>decide (0<k)).length:Int)=g
 pr:∃t,0<t/\kj row=n*(t*t)
 no:∀p,Pl p->qv p row=!decide (p∈ns)
 fw:∃q,∀x∈row,∀r,aM r=true->r∣x->r∈q::Q6
theorem vH{a p:Int}(hp:Pl p)(ha:a≠0):∀{row:List Int},(∀x∈row,x≠0)->dy row (fun b=>aj a b p)=aj a (kj row) p/\kj row≠0
 |[],_=>⟨(md (r:=1) hp ha (by decide)).symm,by show(1:Int)≠0;decide⟩
 |x::xs,h=>by
  obtain⟨e,n⟩:=vH (row:=xs) hp ha fun y hy=>h y (List.mem_cons_of_mem _ hy);have x0:=h x List.mem_cons_self;refine⟨?_,Int.mul_ne_zero x0 n⟩;rw[bg,e];exact(f9 hp ha x0 n).symm
theorem GQ{p:Int}(h:p∈P7):Pl p:=by
 rcases cm h with z|z
 .exact .inl z
 .exact .inr z.2.1
theorem yy{p:Int}(hp:Pl p)(h:p∉P7):aM p=true/\p≠2/\p∉Q6:=by
 rcases hp with z|z
 .exact absurd (by rw[z];decide) h
 .exact⟨z,fun e=>h (by rw[e];decide),fun e=>h (List.mem_cons_of_mem _ e)⟩
theorem ba{k:Int}(h:k∈dJ 6):k≠0:=(oX.2 k h).1
theorem fP{k:Int}(h:k∈dJ 6):k.natAbs<=30030:=by have:=oX.2 k h;omega
theorem A6{g n:Int}{ns:List Int}(h:Due 1 g n ns):Res 1 g n ns [n]:=by
 have hn:=h.nm;have n0:=ba hn;have e:=h.one rfl;refine⟨rfl,fun x hx=>?_,?_,⟨1,by decide,by show n*1=n*(1*1);rfl⟩,fun p _=>by rw[e];rfl,0,fun x hx r hr hd=>?_⟩
 .rw[List.mem_singleton.mp hx];exact⟨lL hn,by have:=fP hn;omega⟩
 .have a:=h.sg;have b:=h.g0;have c:=h.gs;by_cases z:0<n
  .rw[List.filter_cons_of_pos (by simpa using z)];show((0+1:Nat):Int)=g;omega
  .rw[List.filter_cons_of_neg (by simpa using z)];show((0:Nat):Int)=g;omega
 .rw[List.mem_singleton.mp hx] at hd;exact List.mem_cons_of_mem _ (lZ hn hr hd)
theorem AW{g n k q:Int}{ns:List Int}(h:Due 2 g n ns)(hk:k∈dJ 6)(hq:q=1\/(aM q=true/\17<=q/\q<=8089))(hc:∀p∈P7,aj (k*q) (-n) p=!decide (p∈ns)):Res 2 g n ns [k*q,jn (k*q) n]:=by
 have hn:=h.nm;have n0:=ba hn;have k0:=ba hk;have q1:1<=q/\q<=8089:=by omega
 have a0:k*q≠0:=Int.mul_ne_zero k0 (by omega)
 have sq:gp (30030*q):=by
  rcases hq with z|z
  .rw[z];exact sW
  .exact fK sW z.1 fun d=>by
    have:=Ad z.1 d;simp only[Q6,List.mem_cons,List.not_mem_nil,or_false] at this;omega
 have da:k*q∣30030*q:=Int.mul_dvd_mul (lr hk) (Int.dvd_refl q);have dn:n∣30030*q:=Int.dvd_trans (lr hn) (Int.dvd_mul_right _ _);have db:=DU a0 da dn;obtain⟨t,u,t0,eu,e⟩:=GL (b:=n) a0
 have pa:∀r,aM r=true->r∣30030*q->r∈q::Q6:=fun r hr hd=>by
  rcases euclid hr hd with z|z
  .exact List.mem_cons_of_mem _ (Ad hr z)
  .rcases hq with w|w
   .rw[w] at z;have:=Int.le_of_dvd (by decide) z;have:=au hr;omega
   .rw[aN hr w.1 z];exact List.mem_cons_self
 have fw:∀x∈[k*q,jn (k*q) n],∀r,aM r=true->r∣x->r∈q::Q6:=fun x hx r hr hd=>by
  simp only[List.mem_cons,List.not_mem_nil,or_false] at hx;rcases hx with rfl|rfl
  .exact pa r hr (Int.dvd_trans hd da)
  .exact pa r hr (Int.dvd_trans hd db)
 generalize hb:jn (k*q) n=b at *;generalize ha:k*q=a at *;have b0:b≠0:=fun z=>by rw[z,Int.zero_mul] at e;exact Int.mul_ne_zero a0 n0 e
 have bd:∀{x:Int},x≠0->x∣30030*q->x.natAbs<1073741824:=fun {x} x0 hd=>by
  have:=Int.le_of_dvd (b:=30030*q) (by omega) (Int.natAbs_dvd.mpr hd);omega
 have t1:t≠0:=by omega
 have say:∀p,Pl p->aj a b p=aj a (-n) p:=fun p hp=>by
  rw[<-mV hp a0 b0 t1,Int.mul_assoc,<-e,f9 hp a0 a0 n0,og hp a0,<-f9 hp a0 (by decide) n0];congr 1;omega
 have hqv:∀p,qv p [a,b]=aj a b p:=fun p=>by
  show(dy [b] (fun b=>aj a b p)==(dy [] (fun c=>aj b c p)==true))=_;rw[bg,jz];cases aj a b p<;>rfl
 have pos:0<a*n↔0<b:=by
  rw[e];constructor
  .intro z;exact Int.pos_of_mul_pos_left z (Int.mul_pos t0 t0)
  .intro z;exact Int.mul_pos z (Int.mul_pos t0 t0)
 rw[cY a0 n0] at pos;refine⟨rfl,fun x hx=>?_,?_,⟨(u.natAbs:Int),?_⟩,fun p hp=>?_,q,fw⟩
 .simp only[List.mem_cons,List.not_mem_nil,or_false] at hx;rcases hx with rfl|rfl
  .exact⟨lQ sq da,bd a0 da⟩
  .exact⟨lQ sq db,bd b0 db⟩
 .have z1:=hc 0 (by decide);rw[aF] at z1;have h1:=h.sg;have h2:=h.z;have h3:=h.g0;have h4:=h.gs;have gg:g=0\/g=1\/g=2:=by omega
  by_cases x:0<a
  .by_cases y:0<b
   .have w:0<n:=(pos.mpr y).mp x
    have nz:(0:Int)∉ns:=fun m=>by
     rw[decide_eq_true x,decide_eq_true m] at z1;cases z1
    rw[List.filter_cons_of_pos (by simpa using x),List.filter_cons_of_pos (by simpa using y)];show((2:Nat):Int)=g;rcases gg with rfl|rfl|rfl
    .exact absurd (h2.mpr (by decide)) nz
    .have:=h1.mpr (by decide);omega
    .rfl
   .have w:¬0<n:=fun w=>y (pos.mp ⟨fun _=>w,fun _=>x⟩);rw[List.filter_cons_of_pos (by simpa using x),List.filter_cons_of_neg (by simpa using y)];show((1:Nat):Int)=g;have:=h1.mp (by omega);omega
  .by_cases y:0<b
   .have w:¬0<n:=fun w=>x ((pos.mpr y).mpr w);rw[List.filter_cons_of_neg (by simpa using x),List.filter_cons_of_pos (by simpa using y)];show((1:Nat):Int)=g;have:=h1.mp (by omega);omega
   .have w:0<n:=by
     apply Classical.byContradiction;intro w;exact y (pos.mp ⟨fun z=>absurd z x,fun z=>absurd z w⟩)
    have nz:(0:Int)∈ns:=by
     apply Classical.byContradiction;intro m;rw[decide_eq_false x,decide_eq_false m,decide_eq_false (show ¬0 < -n by omega)] at z1;cases z1
    rw[List.filter_cons_of_neg (by simpa using x),List.filter_cons_of_neg (by simpa using y)];show((0:Nat):Int)=g;rcases gg with rfl|rfl|rfl
    .rfl
    .have:=h2.mp nz;revert this;decide
    .have:=h2.mp nz;revert this;decide
 .have u0:u≠0:=fun z=>by rw[z,Int.mul_zero] at eu;exact a0 eu
  refine⟨by omega,?_⟩;have uu:(u.natAbs:Int)*(u.natAbs:Int)=u*u:=Int.natAbs_mul_self' u;rw[uu];have e1:u*n=b*t:=Int.eq_of_mul_eq_mul_left t1 (by rw[<-Int.mul_assoc,<-eu,e];grind);show a*(b*1)=n*(u*u);rw[Int.mul_one,eu,show t*u*b=u*(b*t) by grind,<-e1];grind
 .rw[hqv];by_cases m:p∈P7
  .rw[say p hp];exact hc p m
  .obtain⟨pp,p2,p6⟩:=yy hp m;rw[decide_eq_false (fun z=>m (h.sub p z))];show aj a b p=true;by_cases pq:p=q
   .have hqp:aM q=true:=pq▸pp
    have L:p9 (q::Q6):=⟨List.nodup_cons.mpr ⟨pq▸p6,wc.nd⟩,fun r hr=>by
     rcases List.mem_cons.mp hr with z|z
     .rw[z];exact hqp
     .exact eM r z,List.mem_cons_of_mem _ wc.two⟩
    have ev:=mP L (x:=a) (y:=b) ⟨a0,fun r hr hd=>fw a (by simp) r hr hd⟩ ⟨b0,fun r hr hd=>fw b (by simp) r hr hd⟩
    have e7:dy P7 (aj a b)=true:=by
     rw[<-h.ev];exact dU fun r hr=>by rw[say r (GQ hr)];exact hc r hr
    have e1:kr (q::Q6) a b=(aj a b 0==(aj a b q==dy Q6 (aj a b))):=by
     unfold kr;rw[bg,bg]
    have e2:dy P7 (aj a b)=(aj a b 0==dy Q6 (aj a b)):=bg 0 Q6 _;rw[e1] at ev;rw[e2] at e7;rw[pq];revert ev e7;cases aj a b 0<;>cases aj a b q<;>cases dy Q6 (aj a b)<;>simp
   .refine eI pp p2 (fun d=>?_) fun d=>?_
    .rcases List.mem_cons.mp (fw a (by simp) p pp d) with z|z
     .exact pq z
     .exact p6 z
    .rcases List.mem_cons.mp (fw b (by simp) p pp d) with z|z
     .exact pq z
     .exact p6 z
theorem J0(b:Int)(h0:1<=b)(h8:b<=8):((b-1)*(b-1-1)/2%2=1)↔¬(((b*(b-1)/2)%2=1)↔(b-1)%2=1):=by
 have:b=1\/b=2\/b=3\/b=4\/b=5\/b=6\/b=7\/b=8:=by omega
 rcases this with rfl|rfl|rfl|rfl|rfl|rfl|rfl|rfl<;>decide
structure FW(s g n f l:Int):Prop where
 fm:f∈dJ 6
 lm:l∈dJ 6
 fs:0<f↔0<g
 ls:0<l↔(0<n↔0<f)
 pr:∃t,0<t/\f*l=n*(t*t)
 t3:s=3->l=30030\/l=-30030
theorem Ap{n f l:Int}(hn:n≠0)(hf:f≠0)(e:l=jn n f):∃t,0<t/\f*l=n*(t*t):=by
 obtain⟨g,u,v,g0,e1,e2,e3,_⟩:=yz (b:=f) hn;have v0:v≠0:=fun z=>by rw[z,Int.mul_zero] at e2;exact hf e2
 refine⟨(v.natAbs:Int),by omega,?_⟩;have vv:(v.natAbs:Int)*(v.natAbs:Int)=v*v:=Int.natAbs_mul_self' v;rw[vv,e,e3,e1,e2];grind
theorem FO:(30030:Int)∈dJ 6/\(-30030:Int)∈dJ 6/\(1:Int)∈dJ 6/\(-1:Int)∈dJ 6:=by decide +kernel
theorem Dy{s g n f:Int}(hn:n∈dJ 6)(hf:f=(if 0<g then (1:Int) else -1)*(if s=3 then ((jn n 30030).natAbs:Int) else 1)):FW s g n f (jn n f):=by
 have n0:=ba hn;by_cases h3:s=3
 .rw[if_pos h3] at hf;by_cases hg:0<g
  .rw[if_pos hg] at hf;obtain⟨h1,h2,h4⟩:=l9 n hn 1 (by decide);rw[<-hf] at h1 h2 h4;refine⟨h1,?_,⟨fun _=>hg,fun _=>h4.mpr rfl⟩,?_,Ap n0 (ba h1) rfl,fun _=>?_⟩
   .rw[h2];split;exact FO.1;exact FO.2.1
   .have:=h4.mpr rfl;rw[h2];split<;>simp_all
   .rw[h2];split<;>simp
  .rw[if_neg hg] at hf;obtain⟨h1,h2,h4⟩:=l9 n hn (-1) (by decide);rw[<-hf] at h1 h2 h4;have nf:¬0<f:=fun z=>by have:=h4.mp z;revert this;decide
   refine⟨h1,?_,⟨fun z=>absurd z nf,fun z=>absurd z hg⟩,?_,Ap n0 (ba h1) rfl,fun _=>?_⟩
   .rw[h2];split;exact FO.2.1;exact FO.1
   .rw[h2];split
    .rename_i w;exact⟨fun z=>absurd z (by decide),fun z=>absurd (z.mp w) nf⟩
    .rename_i w;exact⟨fun _=>⟨fun z=>absurd z w,fun z=>absurd z nf⟩,fun _=>by decide⟩
   .rw[h2];split<;>simp
 .rw[if_neg h3,Int.mul_one] at hf;obtain⟨k1,_,k2,k3⟩:=vk n hn;by_cases hg:0<g
  .rw[if_pos hg] at hf;subst hf;rw[k2];refine⟨FO.2.2.1,hn,⟨fun _=>hg,fun _=>by decide⟩,by simp,⟨1,by decide,by omega⟩,fun z=>absurd z h3⟩
  .rw[if_neg hg] at hf;subst hf;rw[k3];refine⟨FO.2.2.2,k1,⟨fun z=>absurd z (by decide),fun z=>absurd z hg⟩,?_,⟨1,by decide,by omega⟩,fun z=>absurd z h3⟩;constructor
   .intro z;exact⟨fun w=>by omega,fun w=>absurd w (by decide)⟩
   .intro z;apply Classical.byContradiction;intro w;have:=z.mp (by omega);revert this;decide
theorem yd{s g n f l:Int}{ns an:List Int}(h:Due s g n ns)(h3:3<=s)(F:FW s g n f l)(ha:∀p∈P7,p∈an↔aj f l p=false):Due (s-1) (if g-1>0 then g-1 else 0) l (P7.filter fun p=>decide (p∈ns) != decide (p∈an)):=by
 have hn:=h.nm;have n0:=ba hn;have f0:=ba F.fm;have l0:=ba F.lm;have a1:=h.s8;have a2:=h.g0;have a3:=h.gs;have hsg:=h.sg;have hz:=h.z
 have pan:∀p∈P7,decide (p∈an)=!aj f l p:=fun p hp=>by
  cases e:aj f l p
  .exact decide_eq_true ((ha p hp).mpr e)
  .exact decide_eq_false fun z=>by rw[(ha p hp).mp z] at e;cases e
 have mem:∀p∈P7,(!decide (p∈P7.filter fun p=>decide (p∈ns) != decide (p∈an)))=((!decide (p∈ns))==aj f l p):=fun p hp=>by
  have:decide (p∈P7.filter fun p=>decide (p∈ns) != decide (p∈an))=(decide (p∈ns) != decide (p∈an)):=by
   rw[Bool.eq_iff_iff,decide_eq_true_iff,List.mem_filter];exact⟨fun z=>z.2,fun z=>⟨hp,z⟩⟩
  rw[this,pan p hp];cases decide (p∈ns)<;>cases aj f l p<;>rfl
 have z0:(0:Int)∈(P7.filter fun p=>decide (p∈ns) != decide (p∈an))↔¬((0:Int)∈ns↔¬(0<f\/0<l)):=by
  have:=mem 0 (by decide);rw[aF] at this;by_cases x:(0:Int)∈(P7.filter fun p=>decide (p∈ns) != decide (p∈an))<;>by_cases y:(0:Int)∈ns<;>by_cases z:0<f<;>by_cases w:0<l<;>simp[x,y,z,w] at this ⊢
 have lsg:l<0↔(s-1-(if g-1>0 then g-1 else 0))%2=1:=by
  have e1:=F.ls;have e2:=F.fs;by_cases x:0<g
  .have y:=e2.mpr x;have:(if g-1>0 then g-1 else 0)=g-1:=by split<;>omega
   rw[this,show s-1-(g-1)=s-g by omega,<-hsg];have:0<l↔0<n:=e1.trans ⟨fun z=>z.mpr y,fun z=>⟨fun _=>y,fun _=>z⟩⟩;omega
  .have y:¬0<f:=fun z=>x (e2.mp z);have:(if g-1>0 then g-1 else 0)=0:=if_neg (by omega);rw[this];have:0<l↔¬0<n:=e1.trans ⟨fun z w=>y (z.mp w),fun z=>⟨fun w=>absurd w z,fun w=>absurd w y⟩⟩;omega
 have hz':(0:Int)∈(P7.filter fun p=>decide (p∈ns) != decide (p∈an))↔(s-1-(if g-1>0 then g-1 else 0))*(s-1-(if g-1>0 then g-1 else 0)-1)/2%2=1:=by
  rw[z0];by_cases x:0<g
  .have y:=F.fs.mpr x;have:(if g-1>0 then g-1 else 0)=g-1:=by split<;>omega
   rw[this,show s-1-(g-1)=s-g by omega,<-hz];constructor
   .intro w;apply Classical.byContradiction;intro v;exact w ⟨fun m=>absurd m v,fun m=>absurd (.inl y) m⟩
   .intro m w;exact w.mp m (.inl y)
  .have y:¬0<f:=fun z=>x (F.fs.mp z);have g0:g=0:=by omega
   have e:(if g-1>0 then g-1 else 0)=0:=if_neg (by omega);rw[e] at lsg ⊢;rw[g0] at hz;rw[show s-1-0=s-1 by omega] at lsg ⊢;rw[show s-0=s by omega] at hz;rw[hz,J0 s (by omega) a1]
   have:(¬(0<f\/0<l))↔(s-1)%2=1:=by
    rw[<-lsg];constructor
    .intro w;have:¬0<l:=fun v=>w (.inr v);omega
    .rintro w (v|v)
     .exact y v
     .omega
   rw[this]
 refine⟨by omega,by omega,by split<;>omega,by split<;>omega,F.lm,fun p hp=>(List.mem_filter.mp hp).1,Nat.le_trans (List.length_filter_le _ _) (by decide),lsg,?_,hz',fun z=>by omega,fun z p hp=>?_⟩
 .rw[dU mem,iO,h.ev,show dy P7 (aj f l)=true from mP wc (CA F.fm) (CA F.lm)];rfl
 .have hp7:=(List.mem_filter.mp hp).1;have l3:=F.t3 (by omega);rcases cm hp7 with rfl|⟨_,_,p6⟩
  .have w:=hz'.mp hp;unfold pW;rw[if_pos rfl];refine decide_eq_false fun v=>?_;have:=lsg.mp (by omega);have e:s-1-(if g-1>0 then g-1 else 0)=1:=by split at this<;>split<;>omega
   rw[e] at w;revert w;decide
  .rcases l3 with e|e
   .rw[e];exact Ag (s:=-1) p6 (by decide)
   .rw[e];exact Ag (s:=1) p6 (by decide)
theorem yV{s g n f l:Int}{ns an row:List Int}(h:Due s g n ns)(h3:3<=s)(F:FW s g n f l)(ha:∀p∈P7,p∈an↔aj f l p=false)(R:Res (s-1) (if g-1>0 then g-1 else 0) l (P7.filter fun p=>decide (p∈ns) != decide (p∈an)) row):Res s g n ns (f::row):=by
 have f0:=ba F.fm;have l0:=ba F.lm;have n0:=ba h.nm;have a2:=h.g0;have rl:=R.len;have rz:∀x∈row,x≠0:=fun x hx=>(R.nz x hx).1.1;obtain⟨t,t0,et⟩:=F.pr;obtain⟨u,u0,eu⟩:=R.pr;refine⟨by rw[List.length_cons];omega,fun x hx=>?_,?_,⟨t*u,Int.mul_pos t0 u0,?_⟩,fun p hp=>?_,?_⟩
 .rcases List.mem_cons.mp hx with rfl|z
  .exact⟨lL F.fm,by have:=fP F.fm;omega⟩
  .exact R.nz x z
 .have e:=R.sg;by_cases x:0<f
  .rw[List.filter_cons_of_pos (by simpa using x),List.length_cons];have:=F.fs.mp x;split at e<;>omega
  .rw[List.filter_cons_of_neg (by simpa using x)];have:¬0<g:=fun z=>x (F.fs.mpr z);split at e<;>omega
 .show f*kj row=_;rw[eu,<-Int.mul_assoc,et];grind
 .show(dy row (fun b=>aj f b p)==qv p row)=_;rw[(vH hp f0 rz).1,eu,<-Int.mul_assoc,mV hp f0 l0 (by omega),R.no p hp];by_cases m:p∈P7
  .have e1:decide (p∈P7.filter fun p=>decide (p∈ns) != decide (p∈an))=(decide (p∈ns) != decide (p∈an)):=by
    rw[Bool.eq_iff_iff,decide_eq_true_iff,List.mem_filter];exact⟨fun z=>z.2,fun z=>⟨m,z⟩⟩
   have e2:decide (p∈an)=!aj f l p:=by
    cases e:aj f l p
    .exact decide_eq_true ((ha p m).mpr e)
    .exact decide_eq_false fun z=>by rw[(ha p m).mp z] at e;cases e
   rw[e1,e2];cases decide (p∈ns)<;>cases aj f l p<;>rfl
  .obtain⟨pp,p2,p6⟩:=yy hp m;rw[decide_eq_false (fun z=>m (h.sub p z)),decide_eq_false (fun z=>m (List.mem_filter.mp z).1),eI pp p2 (fun d=>p6 (lZ F.fm pp d)) fun d=>p6 (lZ F.lm pp d)];rfl
 .obtain⟨q,hq⟩:=R.fw;refine⟨q,fun x hx r hr hd=>?_⟩;rcases List.mem_cons.mp hx with rfl|z
  .exact List.mem_cons_of_mem _ (lZ F.fm hr hd)
  .exact hq x z r hr hd
theorem Ii:∀a∈List.range 174,∀b∈List.range 174,30030%(174*a+b)=0->((174*a+b:Nat):Int)∈dJ 6:=by decide +kernel
theorem Bz{n:Int}(h:n∣30030):n∈dJ 6:=by
 have h1:n.natAbs∣30030:=Int.natAbs_dvd_natAbs.mpr h;have h2:=Nat.le_of_dvd (by decide) h1
 have key:(n.natAbs:Int)∈dJ 6:=by
  have e:n.natAbs=174*(n.natAbs/174)+n.natAbs%174:=by omega
  have:=Ii (n.natAbs/174) (List.mem_range.mpr (by omega)) (n.natAbs%174) (List.mem_range.mpr (by omega));rw[<-e] at this;exact this (Nat.mod_eq_zero_of_dvd h1)
 rcases Int.natAbs_eq n with e|e
 .rw[e];exact key
 .rw[e];exact(vk _ key).1
def jv(row:List Int):Nat:=(row.filter fun k=>!decide (0<k)).length
def oM(row:List Int):Nat:=(row.filter fun k=>decide (0<k)).length
theorem CP:∀row:List Int,oM row+jv row=row.length
 |[]=>rfl
 |x::xs=>by
  have ih:=CP xs;unfold oM jv at *;by_cases z:0<x
  .rw[List.filter_cons_of_pos (by simpa using z),List.filter_cons_of_neg (by simpa using z),List.length_cons,List.length_cons];omega
  .rw[List.filter_cons_of_neg (by simpa using z),List.filter_cons_of_pos (by simpa using z),List.length_cons,List.length_cons];omega
theorem CZ:∀{row:List Int},(∀x∈row,x≠0)->(kj row<0↔jv row%2=1)/\kj row≠0
 |[],_=>⟨by show(1:Int)<0↔0%2=1;decide,by show(1:Int)≠0;decide⟩
 |x::xs,h=>by
  obtain⟨ih,n0⟩:=CZ (row:=xs) fun y hy=>h y (List.mem_cons_of_mem _ hy);have x0:=h x List.mem_cons_self;have m0:=Int.mul_ne_zero x0 n0;have pos:=cY x0 n0;refine⟨?_,m0⟩;show x*kj xs<0↔_;unfold jv at *;by_cases z:0<x
  .rw[List.filter_cons_of_neg (by simpa using z),<-ih];have:0<x*kj xs↔0<kj xs:=pos.trans ⟨fun w=>w.mp z,fun w=>⟨fun _=>w,fun _=>z⟩⟩;omega
  .rw[List.filter_cons_of_pos (by simpa using z),List.length_cons];have:0<x*kj xs↔¬0<kj xs:=pos.trans ⟨fun w v=>z (w.mpr v),fun w=>⟨fun v=>absurd v z,fun v=>absurd v w⟩⟩;omega
theorem G9(xs:List Int):dy xs (fun b=>decide (0<b))=decide (jv xs%2=0):=rfl
theorem Fs(b:Nat):(b+1)*b/2=b*(b-1)/2+b:=by
 cases b with
 |zero=>rfl
 |succ c =>
  show(c+1+1)*(c+1)/2=(c+1)*c/2+(c+1);have:(c+1+1)*(c+1)=(c+1)*c+(c+1)*2:=by grind
  rw[this,Nat.add_mul_div_right _ _ (by decide)]
theorem wA:∀row:List Int,qv 0 row=decide (jv row*(jv row-1)/2%2=0)
 |[]=>rfl
 |x::xs=>by
  have ih:=wA xs;show(dy xs (fun b=>aj x b 0)==qv 0 xs)=_;by_cases z:0<x
  .have e:dy xs (fun b=>aj x b 0)=true:=gC fun b _=>by rw[aF,decide_eq_true z];rfl
   have e2:jv (x::xs)=jv xs:=by unfold jv;rw[List.filter_cons_of_neg (by simpa using z)]
   rw[e,e2,ih];cases decide (jv xs*(jv xs-1)/2%2=0)<;>rfl
  .have e:dy xs (fun b=>aj x b 0)=decide (jv xs%2=0):=by
    rw[<-G9];exact dU fun b _=>by rw[aF,decide_eq_false z];rfl
   have e2:jv (x::xs)=jv xs+1:=by unfold jv;rw[List.filter_cons_of_pos (by simpa using z)];rfl
   rw[e,e2,ih,Nat.add_sub_cancel,Fs];generalize jv xs*(jv xs-1)/2=T;generalize jv xs=N;by_cases a:T%2=0<;>by_cases b:N%2=0
   .rw[decide_eq_true a,decide_eq_true b,decide_eq_true (by omega)];rfl
   .rw[decide_eq_true a,decide_eq_false b,decide_eq_false (by omega)];rfl
   .rw[decide_eq_false a,decide_eq_true b,decide_eq_false (by omega)];rfl
   .rw[decide_eq_false a,decide_eq_false b,decide_eq_true (by omega)];rfl
theorem zF{x n p:Int}(hp:Pl p)(hx:x≠0)(h:pW n p=true):aj x n p=true:=by
 unfold pW at h;by_cases h0:p=0
 .subst h0;rw[if_pos rfl] at h;rw[aF,h,Bool.or_true]
 .rw[if_neg h0] at h;exact zg (hp.resolve_left h0) hx (of_decide_eq_true h)
theorem BJ{row:List Int}{n:Int}(h1:1<=row.length)(h8:row.length<=8)(hz:∀x∈row,Fj Q6 x)(hn:n∈dJ 6)(pr:∃t,0<t/\kj row=n*(t*t)):Due (row.length:Int) (oM row:Int) n (P7.filter fun p=>!qv p row):=by
 have n0:=ba hn;have rz:∀x∈row,x≠0:=fun x hx=>(hz x hx).1;have np:=CP row;obtain⟨t,t0,et⟩:=pr;have sg:=(CZ rz).1;have tt:0<t*t:=Int.mul_pos t0 t0
 have mem:∀p∈P7,decide (p∈P7.filter fun p=>!qv p row)=!qv p row:=fun p hp=>by
  rw[Bool.eq_iff_iff,decide_eq_true_iff,List.mem_filter];exact⟨fun z=>z.2,fun z=>⟨hp,z⟩⟩
 have b0:(row.length:Int)-(oM row:Int)=(jv row:Int):=by omega
 refine⟨by omega,by omega,by omega,by omega,hn,fun p hp=>(List.mem_filter.mp hp).1,Nat.le_trans (List.length_filter_le _ _) (by decide),?_,?_,?_,fun e=>?_,fun e p hp=>?_⟩
 .rw[b0]
  have e1:kj row<0↔n<0:=by
   rw[et];constructor
   .intro z;apply Classical.byContradiction;intro w;have:=Int.mul_nonneg (show 0<=n by omega) (show 0<=t*t by omega);omega
   .intro z;exact Int.mul_neg_of_neg_of_pos z tt
  rw[<-e1,sg];omega
 .have:=vn wc hz;have e:dy P7 (fun p=>!decide (p∈P7.filter fun p=>!qv p row))=dy P7 (fun p=>qv p row):=dU fun p hp=>by rw[mem p hp,Bool.not_not]
  rw[e];exact this
 .have e1:=mem 0 (by decide);rw[wA] at e1
  have e2:(((row.length:Int)-(oM row:Int))*((row.length:Int)-(oM row:Int)-1)/2%2=1)↔¬(jv row*(jv row-1)/2%2=0):=by
   rw[b0]
   have:(jv row:Int)*((jv row:Int)-1)=((jv row*(jv row-1):Nat):Int):=by
    cases hc:jv row with
    |zero=>rfl
    |succ c=>rw[Nat.add_sub_cancel,Int.natCast_mul];congr 1;omega
   rw[this];omega
  rw[e2];by_cases z:jv row*(jv row-1)/2%2=0
  .rw[decide_eq_true z] at e1;exact⟨fun w=>(by rw[decide_eq_true w] at e1;cases e1),fun w=>absurd z w⟩
  .rw[decide_eq_false z] at e1;exact⟨fun _=>z,fun _=>of_decide_eq_true e1⟩
 .have:∃x,row=[x]:=by
   match row,(show row.length=1 by omega) with
   |[x],_=>exact⟨x,rfl⟩
  obtain⟨x,rfl⟩:=this;rfl
 .have:∃x y,row=[x,y]:=by
   match row,(show row.length=2 by omega) with
   |[x,y],_=>exact⟨x,y,rfl⟩
  obtain⟨x,y,rfl⟩:=this;have hp7:=(List.mem_filter.mp hp).1;have hq:=(List.mem_filter.mp hp).2;have pl:=GQ hp7;have x0:=rz x (by simp);have y0:=rz y (by simp);cases hs:pW (-n) p with
  |false=>rfl
  |true =>
   exfalso;have e:kj [x,y]=x*y:=by show x*(y*1)=x*y;rw[Int.mul_one]
   rw[e] at et
   have yes:aj x y p=true:=by
    have h1:aj x (-n*t*t) p=true:=by rw[mV pl x0 (by omega) (by omega)];exact zF pl x0 hs
    have e2:-n*t*t=(0-x)*y:=by rw[Int.mul_assoc,Int.neg_mul,<-et];grind
    rw[e2,f9 pl x0 (by omega) y0,rn pl x0] at h1;revert h1;cases aj x y p<;>decide
   have hqv:qv p [x,y]=aj x y p:=by
    show(dy [y] (fun b=>aj x b p)==(dy [] (fun c=>aj y c p)==true))=_;rw[bg,jz];cases aj x y p<;>rfl
   rw[hqv,yes] at hq;cases hq
end Q
namespace L2.EP
open PySem PySem.Spec PyProof.Rows
section
variable{X:Cx}{Γ:aE}{D:GD}{α β γ:Type}[Py α][Py β][Py γ]{e e1 e2:Expr}{b b1 b2:Bool}{pos:Pos}{rest st:List Stmt}
theorem vj(i j:Nat){x y:Str}{p1 p2 p3:Pos}{k:Nat}(hN:X.N.Nodup)(hc:X.calm=true:=by rfl)(hi:X.N[i]?=some x:=by rfl)(hj:X.N[j]?=some y:=by rfl)
  (hx:Loc X.env.scope x:=by first|exact Or.inl rfl|exact Or.inr rfl) (hy:Loc X.env.scope y:=by first|exact Or.inl rfl|exact Or.inr rfl)
  (hf:X.fn x=true\/X.env.scope.names.lookup x=some .local:=by first|exact .inl rfl|exact .inr rfl) (hf2:X.fn y=true\/X.env.scope.names.lookup y=some .local:=by first|exact .inl rfl|exact .inr rfl)
  (hn:(assignEach [.Name x p1,.Name y p2] X.env).length=2:=by rfl)
  (hst:(assignEach [.Name x p1,.Name y p2] X.env).findIdx? (·.1)=none:=by rfl) (ha1:assignEach [.Name x p1,.Name y p2] X.env=(false,assign (.Name x p1) X.env)::assignEach [.Name y p2] X.env:=by rfl) (ha2:assignEach [.Name y p2] X.env=(false,assign (.Name y p2) X.env)::assignEach [] X.env:=by rfl):
  G X (.Tuple [.Name x p1,.Name y p2] k p3) (DW X.K 2 (sE (jL i) (sE (jL j) E9))) (α×β) (fun b u Γ=>(Γ.set i (some (.val b u.1))).set j (some (.val b u.2))) (fun k=>k=i\/k=j):=by
 with_unfolding_all
  exact⟨yW hc (ji (gq hN hi hx hf) (ji (gq hN hj hy hf2) wz)),Fe i j⟩
end
section
variable{X:Cx}{Γ:aE}{D:GD}{α β γ:Type}[Py α][Py β][Py γ]{e e1 e2 e3:Expr}{b b1 b2 b3:Bool}{pos:Pos}{rest st:List Stmt}
theorem nK{xs:List α}{i:Int}{a:α}(ha:E X Γ e1 b (rN.mk xs))(hb:E X Γ e2 b2 i)(h:vd xs i=some a)(hs:pX e2:=by intro _ _;rfl):E X Γ (.Subscript e1 e2 pos) b a:=by
 with_unfolding_all
  exact aG (vg tQ ha hb hs) fun σ H Q ⟨H0,F,O,S,q⟩=>⟨H0,F,O,S,fun v H1 s1 r1=>⟨H0,F,O,S.go s1,fun w H2 s2 r2=>by
    obtain⟨p,vs,e,sq,r⟩:=r1;obtain⟨j,h1,h2,h3,h4,h5⟩:=lM h;obtain⟨x,g1,g2⟩:=h7 r h2;refine⟨p,vs,i,x,e,r2,(bU (ao _ _) (bU (ag s2) sq)).t,?_,q x H2 (s1.trans s2) (ay (ag s2) g2)⟩;unfold vd at h ⊢;rw[bF r];cases hx:C5 xs.length i with
    |none=>rw[hx] at h;cases h
    |some k =>
     have hk:=(pV hx).1;rw[h1] at hk;cases hk
     exact g1⟩⟩
end
instance:PyD (Int⊕(Int×Int)) where
 dat a:=match a with|.inl i=>.int i|.inr u=>.tuple [.int u.1,.int u.2]
 dr {K N H v a} h:=by
  cases a with
  |inl i=>exact PyD.dr (α:=Int) (N:=N) h
  |inr u=>exact PyD.dr (α:=Int×Int) (N:=N) h
 lay a:=by
  cases a with
  |inl i=>exact PyD.lay (α:=Int) i
  |inr u=>exact PyD.lay (α:=Int×Int) u
 dep:=PyD.dep (Int×Int)
 depth a:=by
  cases a with
  |inl i=>exact Nat.le_trans (PyD.depth (α:=Int) i) (Nat.zero_le _)
  |inr u=>exact PyD.depth (α:=Int×Int) u
 eqv a b:=by
  cases a with
  |inl i=>cases b with
   |inl j=>exact(PyD.eqv (α:=Int) i j).trans ⟨fun h=>by rw[h],fun h=>by injection h⟩
   |inr u=>simp[PyData.eqv]
  |inr v=>cases b with
   |inl j=>simp[PyData.eqv]
   |inr u=>exact(PyD.eqv (α:=Int×Int) v u).trans ⟨fun h=>by rw[h],fun h=>by injection h⟩
abbrev Xo(C:Addr)(vs:Array Value):Obj:={cls:=.ref C,data:=.fields vs}
structure Kc(fs:List Addr)(ch:Addr->Prop)(h h':Heap):Prop where
 keep:∀b o,h.get? b=some o->b∉fs->¬ch b->h'.get? b=some o
 slot:∀b o,h.get? b=some o->¬ch b->∃sl,h'.get? b=some {o with slots:=sl}
def Tr(h:Heap)(C e:Addr)(T:Option Addr):Prop:=∃vs,h.get? e=some (Xo C vs)/\match T with
 |none=>vs[1]?=some .none
 |some t=>vs[1]?=some (.ref t)/\t≠e/\∃oT ts,h.get? t=some oT/\oT.data=.fields ts/\ts[3]?=some .none
section
variable{M:Model}{A:Around}{E:Value->Shared->Prop}{s:Shared}{base:Heap}{env:Env}{outer:List Env}{L C e:Addr}
end
section
variable{X:Cx}{pins:List (Addr×Obj)}{σ:St}{H H':Hp}{s:Shared}{h':Heap}{C e:Addr}
end
def J1(P:Program)(w:World):xm:=fun outer H s E ev s'=>∃e C t H',ev=.ref e/\s'.os=s.os/\AllBare s'.gens/\Un (sL outer) [] H H' s.heap s'.heap/\lI P w H' s'.heap /\
 s.heap.get? e=none/\H' e=none/\s.heap.get? t=none/\H' t=none/\Tr s'.heap C e (some t)/\E (.ref C) none H'
section
variable{X:Cx}{pins:List (Addr×Obj)}{σ:St}{H:Hp}{s s':Shared}{E:XK}
end
structure Xn where
 e:Addr
instance:Py Xn where
 rp _ _ _ v a:=v=.ref a.e
 tr _ _ h:=h
structure RB where
 B:Hp
 H0:Hp
 F:Addr->Prop
section
variable{X:Cx}{R:RB}{Γ:aE}{D:GD}{α β γ:Type}[Py α][Py β][Py γ]{e e1 e2 e3:Expr}{b b1 b2 b3:Bool}{p pos np cpos cps:Pos}{st:Stmt}{rest body orelse:List Stmt}{C:Addr}{cn:Str}
end
structure JT(P:Program)(w:World)(K:PySem.W.Frag)(mg:Str->Option Value)(base:Heap)(k:Nat)(name:Str)(ps:List Str)(sp:Sp):Prop where
 ex:∃(f:Addr) (fd:FuncData),fj P w K mg base (J1 P w) k f fd ps sp/\Binds K fd ps []/\PySem.W.keepIn K (.ref f)=true/\mg name=some (.ref f)
section
variable{X:Cx}{R:RB}{Γ:aE}{α β γ:Type}[Py α][Py β][Py γ]{e e1 e2 e3:Expr}{es:List Expr}{b b1 b2 b3:Bool}{p pos:Pos}{C f:Addr}{x name:Str}{k:Nat}{ps:List Str}{fd:FuncData}{t:TA}{sp:Sp}
end
section
variable{P:Program}{w:World}{K:PySem.W.Frag}{mg:Str->Option Value}{base:Heap}{N ps:List Str}{k:Nat}{x qual:Str}{st:Stmt}{f:Addr}{fd:FuncData}
end
section
variable{X:Cx}{Γ:aE}{D:GD}{α β γ:Type}[Py α][Py β][Py γ]{e e1 e2 e3:Expr}{b b1 b2 b3:Bool}{p p2 pos np hpos:Pos}{b₀:Stmt}{rest body suite:List Stmt}{C Cd:Addr}{n dn:Str}
end
section
variable{prog:Program}{w:World}{A:Around}{E:Value->Shared->Prop}{s:Shared}{K:PySem.W.Frag}{a C:Addr}{ox:Obj}
end
section
variable{X:Cx}{Γ:aE}{e:Expr}{b c:Bool}{p p2 pos:Pos}{a C Cd:Addr}{T:Str}
end
structure G6(k:Nat)(A:Around):Prop where
 dp:A.depth+3*k+5<recursionLimit
 un:A.units+16*k+200<cLine
structure JQ(P:Program)(w:World)(K:PySem.W.Frag)(mg:Str->Option Value)(base:Heap)(k:Nat)(name:Str)(C:Addr)(c:Bool):Prop where
 ex:∃f:Addr,PySem.W.keepIn K (.ref f)=true/\mg name=some (.ref f)/\∀(A:Around) (outer:List Env) (s:Shared) (H:Hp) (a:Addr) (vs:Array Value),G6 k A->yX P w K mg base A outer s H->s.heap.get? a=some (Xo C vs)->H a=none->a∉sL outer ->
  codeAny (model P w) A (.call (.ref f) ⟨[.ref a],[]⟩) (CR nM outer P w H s (fun v H'=>v=.bl c/\aD H H') E0) s
section
variable{P:Program}{w:World}{K:PySem.W.Frag}{mg:Str->Option Value}{base h:Heap}{N:List Str}{k:Nat}{x y:Str}{st:Stmt}{C:Addr}{c:Bool}
end
mutual
inductive DN(K:PySem.W.Frag)(N:Nn)(H:Hp):V->PyData->Prop
 |non:DN K N H .non .none
 |bl (b:Bool):DN K N H (.bl b) (.bool b)
 |int (i:Int):DN K N H (.int i) (.int i)
 |str (x:Str):DN K N H (.str x) (.str x)
 |lst {a:Addr} {xs:List V} {ds:List PyData}:cW K H a xs->N.has H a (.inl xs)->oH K N H xs ds->DN K N H (.ref a) (.list ds)
 |tup {a:Addr} {xs:List V} {ds:List PyData}:Rt H a xs->oH K N H xs ds->DN K N H (.ref a) (.tuple ds)
inductive oH(K:PySem.W.Frag)(N:Nn)(H:Hp):List V->List PyData->Prop
 |nil:oH K N H [] []
 |cons {x:V} {xs:List V} {d:PyData} {ds:List PyData}:DN K N H x d->oH K N H xs ds->oH K N H (x::xs) (d::ds)
end
mutual
theorem DN.tr{K:PySem.W.Frag}{N N':Nn}{H H':Hp}(l:∀p (o:Mt),Mo K H p o->N.has H p o->Mo K H' p o/\N'.has H' p o)(t:∀p xs,Rt H p xs->Rt H' p xs):∀{v:V} {d:PyData},DN K N H v d->DN K N' H' v d
 |_,_,.non=>.non
 |_,_,.bl b=>.bl b
 |_,_,.int i=>.int i
 |_,_,.str x=>.str x
 |_,_,.lst (xs:=xs) s n r=>.lst (l _ (.inl xs) s n).1 (l _ (.inl xs) s n).2 (oH.tr l t r)
 |_,_,.tup s r=>.tup (t _ _ s) (oH.tr l t r)
theorem oH.tr{K:PySem.W.Frag}{N N':Nn}{H H':Hp}(l:∀p (o:Mt),Mo K H p o->N.has H p o->Mo K H' p o/\N'.has H' p o)(t:∀p xs,Rt H p xs->Rt H' p xs):∀{v:List V} {d:List PyData},oH K N H v d->oH K N' H' v d
 |_,_,.nil=>.nil
 |_,_,.cons h r=>.cons (DN.tr l t h) (oH.tr l t r)
end
structure Dt where
 d:PyData
instance:Py Dt where
 rp K N H v a:=DN K N H v a.d
 tr l t h:=DN.tr l t h
mutual
theorem DN.dr{K:PySem.W.Frag}{N:Nn}{H:Hp}:∀{v:V} {d:PyData},DN K N H v d->DR K H v d
 |_,_,.non=>.non
 |_,_,.bl b=>.bl b
 |_,_,.int i=>.int i
 |_,_,.str x=>.str x
 |_,_,.lst s _ r=>.lst s (oH.dr r)
 |_,_,.tup s r=>.tup (CY.t (.inl s)) (oH.dr r)
theorem oH.dr{K:PySem.W.Frag}{N:Nn}{H:Hp}:∀{v:List V} {d:List PyData},oH K N H v d->xc K H v d
 |_,_,.nil=>.nil
 |_,_,.cons h r=>.cons (DN.dr h) (oH.dr r)
end
theorem yN{K:PySem.W.Frag}{N:Nn}{H:Hp}:∀{xs:List V} {ds:List PyData},oH K N H xs ds->Paired (fun x (b:Dt)=>Py.rp K N H x b) xs (ds.map Dt.mk)
 |_,_,.nil=>.nil
 |_,_,.cons h r=>.cons h (yN r)
theorem yY{K:PySem.W.Frag}{N:Nn}{H:Hp}:∀{xs:List V} {ds:List Dt},Paired (fun x (b:Dt)=>Py.rp K N H x b) xs ds->oH K N H xs (ds.map Dt.d)
 |_,_,.nil=>.nil
 |_,_,.cons h r=>.cons h (yY r)
theorem rO{K:PySem.W.Frag}{N:Nn}{H:Hp}:∀{xs:List V} {ks:List Int},oH K N H xs (ks.map PyData.int)->Paired (fun x (b:Int)=>Py.rp K N H x b) xs ks
 |_,[],.nil=>.nil
 |_,k::ks,.cons h r=>by
  cases h;exact .cons rfl (rO r)
theorem rX{K:PySem.W.Frag}{N:Nn}{H:Hp}:∀{xs:List V} {ks:List Int},Paired (fun x (b:Int)=>Py.rp K N H x b) xs ks->oH K N H xs (ks.map PyData.int)
 |_,_,.nil=>.nil
 |_,_,.cons h r=>by
  have h':_=V.int _:=h;rw[h'];exact .cons (.int _) (rX r)
section
variable{X:Cx}{Γ:aE}{α β:Type}[Py α][Py β]{e e1 e2:Expr}{b b1 b2:Bool}{p p2 pos:Pos}
theorem nP{a:α}{c:β}(h:E X Γ e b a)(w:∀N H v,Py.rp X.K N H v a->Py.rp X.K N H v c):E X Γ e b c:=by
 with_unfolding_all
  exact aG h fun σ H Q ⟨H0,F,O,S,q⟩=>⟨H0,F,O,S,fun v H1 s1 r1=>q v H1 s1 (w _ _ _ r1)⟩
theorem j6{k:Int}(h:E X Γ e b k):E X Γ e b (Dt.mk (.int k)):=nP h fun N H v r=>by cases r;exact DN.int k
theorem Iu(h:E X Γ e b (none:Option Int)):E X Γ e b (Dt.mk .none):=nP h fun N H v r=>by cases r;exact DN.non
theorem Bg{x:Str}(h:E X Γ e b x):E X Γ e b (Dt.mk (.str x)):=nP h fun N H v r=>by cases r;exact DN.str x
theorem tT{k:Int}(h:E X Γ e b (Dt.mk (.int k))):E X Γ e b k:=nP h fun N H v r=>by
 have r':DN X.K N H v (.int k):=r;cases r';rfl
theorem vL{ks:List Int}(h:E X Γ e b ks):E X Γ e b (Dt.mk (.list (ks.map .int))):=nP h fun N H v ⟨p,xs,ev,sq,n,r⟩=>by
 subst ev;exact DN.lst sq n (rX r)
theorem Bc{ks:List Int}(h:E X Γ e b (Dt.mk (.list (ks.map .int)))):E X Γ e b ks:=nP h fun N H v r=>by
 have r':DN X.K N H v (.list (ks.map .int)):=r;cases r' with
 |lst sq n q=>exact⟨_,_,rfl,sq,n,rO q⟩
theorem pP{ds:List PyData}(h:E X Γ e b (Dt.mk (.tuple ds))):E X Γ e b (rN.mk (ds.map Dt.mk)):=nP h fun N H v r=>by
 have r':DN X.K N H v (.tuple ds):=r;cases r' with
 |tup sq q=>exact⟨_,_,rfl,.inl sq,yN q⟩
theorem mR{es:List Expr}{ds:List Dt}{k:Nat}(h:EA X Γ es b ds)(hl:ds.length<=1000):E X Γ (.Tuple es k pos) b (Dt.mk (.tuple (ds.map Dt.d))):=by
 with_unfolding_all
  exact aG (yq h) fun σ H Q ⟨H0,F,O,S,q⟩=>⟨H0,F,O,S,fun vs H1 s1 r1=>⟨by rw[bF r1];exact Nat.le_of_lt (cA hl),fun p hp=>by
    obtain⟨z1,z2⟩:=lV (xs:=vs) (S.go s1) hp
    exact q _ _ (s1.trans z1) (DN.tup z2 (yY (bL (fun _ _ r=>ay (ag z1) r) r1)))⟩⟩
end
section
variable{X:Cx}{Γ:aE}{D:GD}{α β γ:Type}[Py α][Py β][Py γ]{e e1 e2:Expr}{b b1 b2:Bool}{pos:Pos}{rest st:List Stmt}
end
@[irreducible] def EX{α:Type}[Py α](X:Cx)(Γ:aE)(e:Expr)(b:Bool)(post:α->Prop):Prop:=PE X e fun σ H Q=>∃H0 F O,dD X.K H0 F O Γ σ H/\∀a v H',post a->aD H H'->Py.rp X.K (Nf H0 b) (off H' O) v a->Q v H'
def AH{α:Type}[Py α](b:Bool)(post:α->Prop):GD:={nx:=fun _=>False,rt:=fun g=>∃a,post a/\g=.val b a}
def BQ{α β:Type}[Py α][Py β](K:PySem.W.Frag)(pre:α->Prop)(b:Bool)(post:α->β->Prop):Sp:=fun vs H Q _=>∃O v a,kY H O/\vs=[v]/\Py.rp K .any (off H O) v a/\pre a/\∀z r H',post a z->aD H H'->Py.rp K (Nf H b) (off H' O) r z->Q r H'
def sV{α β γ:Type}[Py α][Py β][Py γ](K:PySem.W.Frag)(pre:α->β->Prop)(b:Bool)(post:α->β->γ->Prop):Sp:=fun vs H Q _=>∃O v w a c,kY H O/\vs=[v,w]/\Py.rp K .any (off H O) v a/\Py.rp K .any (off H O) w c/\pre a c/\∀z r H',post a c z->aD H H'->Py.rp K (Nf H b) (off H' O) r z->Q r H'
section
variable{X:Cx}{Γ:aE}{D:GD}{α β γ δ:Type}[Py α][Py β][Py γ][Py δ]{e e1 e2 e3:Expr}{b b1 b2 b3:Bool}{p pos:Pos}{rest:List Stmt}{k:Nat}{name:Str}{ps:List Str}
theorem l5{pre:α->Prop}{post:α->β->Prop}{a:α}(C:aJ X.prog X.w X.K X.mg X.base k name ps (BQ X.K pre b post))(hr:cZ k X.A)(hg:Gl X name)(h1:E X Γ e1 b1 a)(hp:pre a)
  (hs1:starEach [e1] X.env=(false,eval e1 X.env)::starEach [] X.env:=by rfl) (hdb:(name==("__debug__":Str))=false:=by decide) (hpl:(backTo pos (starEach [] X.env)).any (·.1)=false:=by rfl):
  EX X Γ (.Call (.Name name p) [e1] [] pos) b (post a):=by
 with_unfolding_all
  obtain⟨fa,fd,F,B,kp,m⟩:=C.ex
  exact aG (gj F hr hg m kp B .nil kG (aB h1 aV hs1) hdb hs1 hpl) fun σ H Q ⟨H0,F,O,S,q⟩=>⟨H0,F,O,S,fun v1 H1 s1 r1 =>
   ⟨O,v1,a,(S.go s1).own,rfl,bE bQ r1,hp,fun z r H' hz s' rz=>q z r H' hz (s1.trans s') ((S.go s1).back rz)⟩⟩
theorem qL{pre:α->β->Prop}{post:α->β->γ->Prop}{a:α}{c:β}(C:aJ X.prog X.w X.K X.mg X.base k name ps (sV X.K pre b post))(hr:cZ k X.A)(hg:Gl X name)(h1:E X Γ e1 b1 a)(h2:E X Γ e2 b2 c)(hp:pre a c)
  (hs1:starEach [e1,e2] X.env=(false,eval e1 X.env)::starEach [e2] X.env:=by rfl) (hs2:starEach [e2] X.env=(false,eval e2 X.env)::starEach [] X.env:=by rfl) (hdb:(name==("__debug__":Str))=false:=by decide) (hpl:(backTo pos (starEach [e2] X.env)).any (·.1)=false:=by rfl):
  EX X Γ (.Call (.Name name p) [e1,e2] [] pos) b (post a c):=by
 with_unfolding_all
  obtain⟨fa,fd,F,B,kp,m⟩:=C.ex
  exact aG (gj F hr hg m kp B .nil kG (aB h1 (aB h2 aV hs2) hs1) hdb hs1 hpl) fun σ H Q ⟨H0,F,O,S,q⟩=>⟨H0,F,O,S,fun v1 H1 s1 r1=>⟨H0,F,O,S.go s1,fun v2 H2 s2 r2 =>
   ⟨O,v1,v2,a,c,(S.go (s1.trans s2)).own,rfl,bE bQ (ay (ag s2) r1),bE bQ r2,hp,fun z r H' hz s' rz=>q z r H' hz (s1.trans (s2.trans s')) ((S.go (s1.trans s2)).back rz)⟩⟩⟩
theorem GK{a:α}{post:α->Prop}(h:E X Γ e b a)(hp:post a):EX X Γ e b post:=by
 with_unfolding_all
  exact aG h fun σ H Q ⟨H0,F,O,S,q⟩=>⟨H0,F,O,S,fun v H' s' r=>q a v H' hp s' r⟩
theorem uc(i:Nat){x:Str}{post:α->Prop}{p:Pos}(hN:X.N.Nodup)(he:EX X Γ e b post)(h:∀a,post a->S X (Γ.set i (some (.val b a))) rest D)(hi:X.N[i]?=some x:=by rfl)(hx:Loc X.env.scope x:=by first|exact Or.inl rfl|exact Or.inr rfl)
  (hs:swapsWith e (some (.Name x p)) pos.line X.env=pure false:=by rfl) (hf:X.fn x=true\/X.env.scope.names.lookup x=some .local:=by first|exact .inl rfl|exact .inr rfl):S X Γ (.Assign [.Name x p] e pos::rest) D:=by
 with_unfolding_all
  exact dw (du (pN hN hi hx he hs hf) fun De σ H ⟨H0,F,O,Z,n,_⟩=>⟨H0,F,O,Z,fun a v H1 hz s1 r1=>n _ _ H1 O (ag s1) ((Z.go s1).set r1) (h a hz)⟩)
end
section
variable{P:Program}{w:World}{K:PySem.W.Frag}{mg:Str->Option Value}{base:Heap}{N ps:List Str}{k:Nat}{x qual:Str}{st:Stmt}{f:Addr}{fd:FuncData}
theorem iF{gs:List Bd}{vs:List V}{H:Hp}{O:Addr->Prop}{α:Type}[Py α]{b:Bool}{post:α->Prop}{Q:VK}{cdv:Value}{A:Around}{outer:List Env}{s:Shared}{E:XK}(B:Body P w K mg base N qual st f k gs (AH b post))(hr:cZ k (A.deeper (envOfC qual (af st) s.heap.objs.size f cdv)))
  (ho:kY H O) (h:Args K (off H O) vs gs) (q:∀a r H',post a->aD H H'->Py.rp K (Nf H b) (off H' O) r a->Q r H'):
  ∃t,nr (n8 nM P w K mg base N qual (af st) f cdv A outer s H E).Cs (cD st) t/\t {nx:=fun _ H'=>Q .non H',rt:=Q} (start N vs) H:=by
 with_unfolding_all
  refine⟨_,B cdv A outer s H E hr,H,O,O,j0 ho h,fun _ _ _ _ _ _ z=>z.elim,fun g v H' sm z e=>?_,fun _ _ _ _ _ _ z=>z.elim,fun _ _ _ _ _ _ z=>z.elim⟩;obtain⟨a,ha,e'⟩:=e;subst e';exact q a v H' ha sm z
theorem II{α β:Type}[Py α][Py β]{pre:α->Prop}{b:Bool}{post:α->β->Prop}(F:sJ K x qual st f fd)(sc:ai N ps (af st))(hl:ps.length=1)(B:∀a,pre a->Body P w K mg base N qual st f k [.val false a] (AH b (post a))):
  fj P w K mg base nM (k+1) f fd ps (BQ K pre b post):=by
 with_unfolding_all
  refine F.ok sc (fun vs H Q E h=>?_) fun cdv A outer s H vs Q E hr h=>?_
  .obtain⟨O,v,a,_,rfl,_⟩:=h;rw[hl];rfl
  .obtain⟨O,v,a,ho,rfl,r,hp,q⟩:=h;exact iF (B a hp) hr ho (.cons r .nil) q
theorem G_{α β γ:Type}[Py α][Py β][Py γ]{pre:α->β->Prop}{b:Bool}{post:α->β->γ->Prop}(F:sJ K x qual st f fd)(sc:ai N ps (af st))(hl:ps.length=2)(B:∀a c,pre a c->Body P w K mg base N qual st f k [.val false a,.val false c] (AH b (post a c))):
  fj P w K mg base nM (k+1) f fd ps (sV K pre b post):=by
 with_unfolding_all
  refine F.ok sc (fun vs H Q E h=>?_) fun cdv A outer s H vs Q E hr h=>?_
  .obtain⟨O,v,v2,a,c,_,rfl,_⟩:=h;rw[hl];rfl
  .obtain⟨O,v,v2,a,c,ho,rfl,r,r2,hp,q⟩:=h;exact iF (B a c hp) hr ho (.cons r (.cons r2 .nil)) q
end
section
variable{X:Cx}{Γ:aE}{D:GD}{α β γ:Type}[Py α][Py β][Py γ]{e e1 e2:Expr}{b b1 b2:Bool}{pos:Pos}{rest st:List Stmt}
theorem Gq{c:Bool}{post:α->Prop}(hc:T X Γ e c)(ha:c=true->EX X Γ e1 b post)(hb:c=false->EX X Γ e2 b post):EX X Γ (.IfExp e e1 e2 pos) b post:=by
 with_unfolding_all
  cases c with
  |true=>exact aG (fW hc (ha rfl) kQ) fun σ H Q ⟨H0,F,O,S,q⟩=>⟨H0,F,O,S,fun H1 s1=>nW ⟨H0,F,O,S.go s1,fun a w H2 hz s2 r2=>q a w H2 hz (s1.trans s2) r2⟩⟩
  |false=>exact aG (fW hc kQ (hb rfl)) fun σ H Q ⟨H0,F,O,S,q⟩=>⟨H0,F,O,S,fun H1 s1=>nY ⟨H0,F,O,S.go s1,fun a w H2 hz s2 r2=>q a w H2 hz (s1.trans s2) r2⟩⟩
theorem uU{post:α->Prop}(he:EX X Γ e b post)(h:∀a,post a->D.rt (.val b a)):S X Γ (.Return (some e) pos::rest) D:=by
 with_unfolding_all
  exact dw (du (zB he) fun De σ H ⟨H0,F,O,Z,n,r,_⟩=>⟨H0,F,O,Z,fun a v H1 hz s1 r1=>r (.val b a) v H1 ((Z.go s1).same) (ay (jE Z.fo) r1) (h a hz)⟩)
end
section
variable{X:Cx}{Γ:aE}{D:GD}{α β γ δ ε:Type}[Py α][Py β][Py γ][Py δ][Py ε]{e e1 e2 e3 e4:Expr}{b b1 b2 b3 b4:Bool}{p pos:Pos}{rest:List Stmt}{k:Nat}{name:Str}{ps:List Str}
theorem yc{a:α}{post:α->Prop}(h:EX X Γ e b post)(hp:∀z,post z->z=a):E X Γ e b a:=by
 with_unfolding_all
  exact aG h fun σ H Q ⟨H0,F,O,S,q⟩=>⟨H0,F,O,S,fun z v H' hz s' r=>q v H' s' (hp z hz▸r)⟩
end
open PySem PySem.Spec PyProof.Rows L2.Sx
def iQ(ns:List Int):List Int:=ns.mergeSort fun a b=>decide (a<=b)
theorem mz(ns:List Int):(iQ ns).Perm ns/\(iQ ns).Pairwise (·<=·):=by
 refine⟨List.mergeSort_perm _ _,?_⟩;have:=List.pairwise_mergeSort (le:=fun a b:Int=>decide (a<=b)) (fun a b c h1 h2=>by simp at *;omega) (fun a b=>by simp;omega) ns;exact this.imp fun h=>by simpa using h
theorem Dm{m ns:List Int}(h1:m.Perm ns)(h2:m.Pairwise (·<=·)):m=iQ ns :=
 List.Perm.eq_of_pairwise (fun _ _ _ _ h h'=>Int.le_antisymm h h') h2 (mz ns).2 (h1.trans (mz ns).1.symm)
section
variable{X:Cx}{Γ:aE}{D:GD}{α β γ:Type}[Py α][Py β][Py γ]{e e1 e2 ek ev ek2 ev2:Expr}{b b1 b2 b3 b4:Bool}{pos:Pos}{rest st:List Stmt}
theorem sY:gT X (.builtin "sorted") (fun xs H Q=>∃p,∃ns:List Int,xs=[.ref p]/\cW X.K H p (ns.map V.int)/\ns.length<64/\∀l,H l=none->Q (.ref l) (upd H l (.lst ((iQ ns).map V.int)))):=by
 intro pins s σ H xs us Q I r h;obtain⟨p,ns,rfl,sq,h64,q⟩:=h;obtain⟨u,rfl,rx⟩:=vals1 r;cases rx;obtain⟨its,rr,pl,_⟩:=I.list sq;have hi:=intsAre_of rr;have hl:its.length=ns.length:=by rw[<-rr.length,List.length_map]
 refine sorted_ints pl.isList hi (by rw[hl];exact h64) fun out ns' a1 a2 a3=>?_;have e:=Dm a2 a3;subst e;obtain⟨c,g2⟩:=sortedAll_at s.heap its out
 have lo:((iQ ns).map V.int).length<=sizeLine:=by
  rw[List.length_map,a2.length_eq];exact Nat.le_trans (Nat.le_of_lt h64) (by decide)
 exact⟨.ref (s.heap.objs.size+1),_,I.laid (t':=s.toks) (o:=.lst ((iQ ns).map V.int)) (fun _ _=>sortedAll_old) (Nat.le_succ _) ⟨lo,out.toList,_,lh a1,g2⟩,rfl,q _ (I.hok.fresh (Nat.le_succ _))⟩
theorem u3{ns:List Int}{p:Pos}(hg:Gl X "sorted")(hm:X.mg "sorted"=none)(ha:E X Γ e b ns)(h64:ns.length<64)(hs:starEach [e] X.env=(false,eval e X.env)::starEach [] X.env:=by rfl):E X Γ (.Call (.Name "sorted" p) [e] [] pos) true (iQ ns):=by
 with_unfolding_all
  exact aG (dP sY hg hm boot_sorted (aB ha aV hs) (he:=hs)) fun σ H Q ⟨H0,F,O,S,q⟩=>⟨H0,F,O,S,fun v H1 s1 r1=>by
    obtain⟨p,vs,e,sq,n,r⟩:=r1;rw[pH r] at sq;refine⟨p,ns,by rw[e],(ao _ _).seq sq,h64,fun l hl'=>?_⟩;obtain⟨z1,z2⟩:=cI (xs:=(iQ ns).map V.int) (S.go s1) hl';refine q _ _ (s1.trans z1) ⟨l,_,rfl,cW.of z2,Nf.wk (b:=true) ((S.go s1).gW hl') z2,?_⟩;generalize iQ ns=m
    induction m with
    |nil=>exact .nil
    |cons x m ih=>exact .cons rfl ih⟩
end
end L2.EP
namespace L2.Sx
open PySem PyProof.Rows PySem.Spec PySem.W PySem.Calls
section
variable{p:Program}{w:World}{A:Around}{E:Value->Shared->Prop}{s:Shared}{d:Addr}{kvs:List (Key×Value)}
end
end L2.Sx
namespace L2.EP
open PySem PySem.Spec PyProof.Rows L2.Sx
section
variable{X:Cx}{Γ:aE}{D:GD}{α β γ:Type}[Py α][Py β][Py γ]{e e1 e2 ek ev ek2 ev2:Expr}{b b1 b2 b3 b4:Bool}{pos:Pos}{rest st:List Stmt}
end
section
variable{X:Cx}{Γ:aE}{pos:Pos}
end
open PySem PySem.Spec PyProof.Rows
section
variable{X:Cx}{Γ:aE}{D:GD}{α β γ:Type}[Py α][Py β][Py γ]{e e1 e2:Expr}{b b1 b2:Bool}{pos p:Pos}{rest st:List Stmt}{k:Nat}{name:Str}{ps:List Str}
end
end L2.EP
namespace L2.Srt
open PySem PyProof.Rows
def Jz:Bool->Keyed->Array Keyed->Nat->Nat->Nat->StateT SortSt Sem (Option Nat):=sortPriv% PySem.Builtin.gallop
def JN:Array Keyed->Array Keyed->StateT SortSt Sem (Array Keyed):=sortPriv% PySem.Builtin.mergeLo
def Jw:Array Keyed->Array Keyed->StateT SortSt Sem (Array Keyed):=sortPriv% PySem.Builtin.mergeHi
section
variable{w:World}{prog:Program}{s:Shared}{E:Value->Shared->Prop}{A:Around}
def kO(x:Keyed):Prop:=∃n t,x.1=Value.int n t
theorem rY{st:SortSt}{x y:Keyed}{Q:Option Bool->SortSt->Prop}(hk:kindOf st=oneType')(hx:kO x)(hy:kO y)(h:∀b,Q (some b) st):wpS (model prog w) A E s (lt' x y) Q st:=by
 obtain⟨a,t,ea⟩:=hx;obtain⟨b,u,eb⟩:=hy;rw[lt'_eq];refine wpS_bind (wpS_get ?_);rw[hk,keyLt'_oneType,ea,eb];exact wpS_bind (wpS_lift (wpAny_attempt (oneLt_int ⟨rfl,wpS_pure (h _)⟩)))
theorem wp_rule{st:SortSt}{tag:String}{Q:Unit->SortSt->Prop}(h:Q () st):wpS (model prog w) A E s (liftM (rule tag):StateT SortSt Sem Unit) Q st:=wpS_lift (wpAny_rule ⟨rfl,h⟩)
theorem aI{st:SortSt}{arr:Array Keyed}{i:Nat}{Q:Keyed->SortSt->Prop}(hi:i<arr.size)(h:Q arr[i] st):wpS (model prog w) A E s (elem' arr i) Q st:=by
 rw[elem'_eq,getElem?_pos arr i hi];exact wpS_pure h
theorem qH{st:SortSt}{left:Bool}{key:Keyed}{arr:Array Keyed}{j:Nat}{Q:Option Bool->SortSt->Prop}(hk:kindOf st=oneType')(hK:∀x∈arr,kO x)(hy:kO key)(hj:j<arr.size)(h:∀b,Q (some b) st):
  wpS (model prog w) A E s (elem' arr j >>= fun x=>if left=true then lt' x key else (lt' key x >>= fun r=>pure (Option.map (fun b=>!b) r))) Q st:=by
 refine wpS_bind (aI hj ?_);have hx:=hK arr[j] (Array.getElem_mem hj);cases left
 .exact wpS_bind (rY hk hy hx fun b=>wpS_pure (h _))
 .exact rY hk hx hy h
theorem iA{st:SortSt}{left:Bool}{key:Keyed}{arr:Array Keyed}{base n hint:Nat}{Q:Option Nat->SortSt->Prop}(hk:kindOf st=oneType')(hK:∀x∈arr,kO x)(hy:kO key)(hh:hint<n)(hb:base+n<=arr.size)(h:∀k,k<=n->Q (some k) st):wpS (model prog w) A E s (Jz left key arr base n hint) Q st:=by
 unfold Jz;refine wpS_bind (qH hk hK hy (by omega) fun right=>?_)
 have stepN:∀{f:Nat->Option (Option Nat)×Nat×Nat->StateT SortSt Sem (ForInStep (Option (Option Nat)×Nat×Nat))} {g:Option (Option Nat)×Nat×Nat->StateT SortSt Sem (Option Nat)} {c:Option (Option Nat)×Nat×Nat} (P:Nat×Nat->Prop),
   (∀i u,P u->wpS (model prog w) A E s (f i (none,u)) (fun r st'=>st'=st/\((∃v,r=.done (none,v)/\P v)\/∃v,r=.yield (none,v)/\P v)) st)->c.1=none->P c.2->(∀u,P u->wpS (model prog w) A E s (g (none,u)) Q st)->wpS (model prog w) A E s (forIn [0:n] c f >>= g) Q st:=by
  intro f g c P hf hc hP hg;refine wpS_bind (wpS_forRange (I:=fun _ c st'=>st'=st/\c.1=none/\P c.2) ?_ ?_ ⟨rfl,hc,hP⟩)
  .rintro i ⟨o,u⟩ st' _ _ ⟨rfl,rfl,hu⟩;refine wpS_mono (hf i u hu) ?_;rintro r st' ⟨rfl,⟨v,rfl,hv⟩|⟨v,rfl,hv⟩⟩
   .exact hg v hv
   .exact⟨rfl,rfl,hv⟩
  .rintro⟨o,u⟩ st' ⟨rfl,rfl,hu⟩;exact hg u hu
 cases right
 .dsimp only;simp only[if_false,Bool.false_eq_true];refine stepN (fun _=>True) ?_ rfl True.intro ?_
  .rintro i ⟨lastofs,ofs⟩ _;dsimp only;by_cases z:ofs≥hint+1
   .rw[if_pos z];exact wpS_pure ⟨rfl,.inl ⟨_,rfl,True.intro⟩⟩
   .rw[if_neg z];refine wpS_bind (qH hk hK hy (by omega) fun b=>?_);cases b
    .exact wpS_pure ⟨rfl,.inr ⟨_,rfl,True.intro⟩⟩
    .exact wpS_pure ⟨rfl,.inl ⟨_,rfl,True.intro⟩⟩
  .rintro⟨lastofs,ofs⟩ _;dsimp only;refine stepN (fun u=>u.2<=n) ?_ rfl (by dsimp only;omega) ?_
   .rintro i ⟨lo,hi⟩ hu;dsimp only at hu ⊢;by_cases z:lo≥hi
    .rw[if_pos z];exact wpS_pure ⟨rfl,.inl ⟨_,rfl,hu⟩⟩
    .rw[if_neg z];refine wpS_bind (qH hk hK hy (by omega) fun b=>?_);cases b
     .exact wpS_pure ⟨rfl,.inr ⟨_,rfl,by dsimp only;omega⟩⟩
     .exact wpS_pure ⟨rfl,.inr ⟨_,rfl,hu⟩⟩
   .rintro⟨lo,hi⟩ hu;exact wpS_pure (h _ hu)
 .dsimp only;simp only[if_true];refine stepN (fun _=>True) ?_ rfl True.intro ?_
  .rintro i ⟨lastofs,ofs⟩ _;dsimp only;by_cases z:ofs≥n-hint
   .rw[if_pos z];exact wpS_pure ⟨rfl,.inl ⟨_,rfl,True.intro⟩⟩
   .rw[if_neg z];refine wpS_bind (qH hk hK hy (by omega) fun b=>?_);cases b
    .exact wpS_pure ⟨rfl,.inl ⟨_,rfl,True.intro⟩⟩
    .exact wpS_pure ⟨rfl,.inr ⟨_,rfl,True.intro⟩⟩
  .rintro⟨lastofs,ofs⟩ _;dsimp only;refine stepN (fun u=>u.2<=n) ?_ rfl (by dsimp only;omega) ?_
   .rintro i ⟨lo,hi⟩ hu;dsimp only at hu ⊢;by_cases z:lo≥hi
    .rw[if_pos z];exact wpS_pure ⟨rfl,.inl ⟨_,rfl,hu⟩⟩
    .rw[if_neg z];refine wpS_bind (qH hk hK hy (by omega) fun b=>?_);cases b
     .exact wpS_pure ⟨rfl,.inr ⟨_,rfl,by dsimp only;omega⟩⟩
     .exact wpS_pure ⟨rfl,.inr ⟨_,rfl,hu⟩⟩
   .rintro⟨lo,hi⟩ hu;exact wpS_pure (h _ hu)
theorem ax{α:Type}{c:Prop}[Decidable c]{x y:StateT SortSt Sem α}{Q:α->SortSt->Prop}{st:SortSt}(h1:c->wpS (model prog w) A E s x Q st)(h2:¬c->wpS (model prog w) A E s y Q st):wpS (model prog w) A E s (if c then x else y) Q st:=by
 by_cases z:c
 .rw[if_pos z];exact h1 z
 .rw[if_neg z];exact h2 z
def MI(a b:Array Keyed)(out:Array Keyed)(ia ib:Nat):Prop:=out.toList.Perm (a.toList.take ia++b.toList.take ib)
def Al(a b out:Array Keyed):Prop:=out.toList.Perm (a.toList++b.toList)
theorem CN{α:Type}(a b c d:List α):((a++b)++(c++d)).Perm ((a++c)++(b++d)):=by
 rw[List.append_assoc,List.append_assoc];refine List.Perm.append_left a ?_;rw[<-List.append_assoc];rw[<-List.append_assoc];exact List.Perm.append_right d List.perm_append_comm
theorem MI.fin{a b out:Array Keyed}{ia ib:Nat}(h:MI a b out ia ib):(out.toList++(a.toList.drop ia++b.toList.drop ib)).Perm (a.toList++b.toList):=by
 refine(List.Perm.append_right _ h).trans ((CN _ _ _ _).trans ?_);rw[List.take_append_drop,List.take_append_drop]
theorem lN(a:Array Keyed)(i:Nat):(a.extract i a.size).toList=a.toList.drop i:=by
 rw[Array.toList_extract];show(a.toList.drop i).take (a.size-i)=_;rw[List.take_of_length_le (by rw[List.length_drop,Array.length_toList];exact Nat.le_refl _)]
theorem xT(a:Array Keyed)(i k:Nat):(a.extract i (i+k)).toList=(a.toList.drop i).take k:=by
 rw[Array.toList_extract];show(a.toList.drop i).take (i+k-i)=_;rw[Nat.add_sub_cancel_left]
theorem MI.done{a b out:Array Keyed}{ia ib:Nat}(h:MI a b out ia ib):Al a b (out++a.extract ia++b.extract ib):=by
 show(out++a.extract ia a.size++b.extract ib b.size).toList.Perm _;rw[Array.toList_append,Array.toList_append,lN,lN,List.append_assoc];exact h.fin
theorem MI.last{a b out:Array Keyed}{ia ib:Nat}(h:MI a b out ia ib):Al a b (out++b.extract ib++a.extract ia):=by
 show(out++b.extract ib b.size++a.extract ia a.size).toList.Perm _;rw[Array.toList_append,Array.toList_append,lN,lN,List.append_assoc];exact(List.Perm.append_left _ List.perm_append_comm).trans h.fin
theorem qe{a:Array Keyed}{i:Nat}(h:i<a.size):a.toList.take (i+1)=a.toList.take i++[a[i]]:=by
 rw[List.take_add_one];have e:a.toList[i]?=some a[i]:=by rw[Array.getElem?_toList];exact getElem?_pos a i h
 rw[e];rfl
theorem zv(a:Array Keyed)(i k:Nat):a.toList.take (i+k)=a.toList.take i++(a.toList.drop i).take k:=List.take_add ..
theorem MI.b{a b out:Array Keyed}{ia ib:Nat}(h:MI a b out ia ib)(hb:ib<b.size):MI a b (out.push b[ib]) ia (ib+1):=by
 unfold MI;rw[Array.toList_push,qe hb,<-List.append_assoc];exact List.Perm.append_right _ h
theorem MI.a{a b out:Array Keyed}{ia ib:Nat}(h:MI a b out ia ib)(ha:ia<a.size):MI a b (out.push a[ia]) (ia+1) ib:=by
 unfold MI;rw[Array.toList_push,qe ha,List.append_assoc];refine(List.Perm.append_right _ h).trans ?_;rw[List.append_assoc];exact List.Perm.append_left _ List.perm_append_comm
theorem MI.bk{a b out:Array Keyed}{ia ib:Nat}(h:MI a b out ia ib)(k:Nat):MI a b (out++b.extract ib (ib+k)) ia (ib+k):=by
 unfold MI;rw[Array.toList_append,xT,zv,<-List.append_assoc];exact List.Perm.append_right _ h
theorem MI.ak{a b out:Array Keyed}{ia ib:Nat}(h:MI a b out ia ib)(k:Nat):MI a b (out++a.extract ia (ia+k)) (ia+k) ib:=by
 unfold MI;rw[Array.toList_append,xT,zv,List.append_assoc];refine(List.Perm.append_right _ h).trans ?_;rw[List.append_assoc];exact List.Perm.append_left _ List.perm_append_comm
def Sg(st st':SortSt):Prop:=kindOf st'=kindOf st/\arrOf st'=arrOf st/\pendingOf st'=pendingOf st/\failedOf st'=failedOf st
theorem Sg.refl(st:SortSt):Sg st st:=⟨rfl,rfl,rfl,rfl⟩
def JL:Nat->StateT SortSt Sem Unit:=sortPriv% PySem.Builtin.setMinGallop
theorem p_{st0 st:SortSt}{g:Nat}{Q:Unit->SortSt->Prop}(hs:Sg st0 st)(h:∀st',Sg st0 st'->Q () st'):wpS (model prog w) A E s (JL g) Q st:=by
 unfold JL;exact wpS_modify (h _ hs)
set_option maxHeartbeats 1000000 in
theorem E_{st:SortSt}{a b:Array Keyed}{Q:Array Keyed->SortSt->Prop}(hk:kindOf st=oneType')(ha:∀x∈a,kO x)(hb:∀x∈b,kO x)(a1:1<=a.size)(b1:1<=b.size)(h:∀out st',Sg st st'->Al a b out->Q out st'):wpS (model prog w) A E s (JN a b) Q st:=by
 have atA:∀{i:Nat} (hi:i<a.size),kO a[i]:=fun hi=>ha _ (Array.getElem_mem hi);have atB:∀{i:Nat} (hi:i<b.size),kO b[i]:=fun hi=>hb _ (Array.getElem_mem hi);unfold JN;refine wpS_bind (wp_rule ?_);dsimp only;refine wpS_bind (aI (by omega) ?_)
 have m0:MI a b #[b[0]] 0 1:=by
  unfold MI;rw[qe (by omega:0<b.size)];exact List.Perm.refl _
 by_cases z1:1=b.size
 .rw[if_pos (by simpa using z1)];exact wpS_pure (h _ _ (Sg.refl _) m0.done)
 rw[if_neg (by simpa using z1)];by_cases z2:0+1=a.size
 .rw[if_pos (by simpa using z2)];exact wpS_pure (h _ _ (Sg.refl _) m0.last)
 rw[if_neg (by simpa using z2)];refine wpS_bind (wpS_get ?_);refine wpS_bind (wpS_mono (wpS_forRange (I:=fun i c st'=>Sg st st'/\c.1=none/\MI a b c.2.1 c.2.2.1 c.2.2.2.1/\c.2.2.1+1<a.size/\c.2.2.2.1<b.size/\i+1<=c.2.2.1+c.2.2.2.1) (Q:=fun c st'=>Sg st st'/\∃r,c.1=some r/\Al a b r) ?_ ?_ ⟨Sg.refl _,rfl,m0,by dsimp only;omega,by dsimp only;omega,by dsimp only;omega⟩) ?_)
 .rintro i ⟨o,out,ia,ib,mg⟩ st1 _ hi ⟨sg,eo,mi,la,lb,pr⟩;dsimp only at eo mi la lb pr ⊢;subst eo;refine wpS_bind (wpS_mono (wpS_forRange (I:=fun j c st'=>st'=st1/\c.1=none/\MI a b c.2.1 c.2.2.1 c.2.2.2.1/\c.2.2.1+1<a.size/\c.2.2.2.1<b.size/\ia+ib+j<=c.2.2.1+c.2.2.2.1) (Q:=fun c st'=>st'=st1/\((∃r,c.1=some r/\Al a b r)\/(c.1=none/\MI a b c.2.1 c.2.2.1 c.2.2.2.1/\c.2.2.1+1<a.size/\c.2.2.2.1<b.size/\ia+ib+1<=c.2.2.1+c.2.2.2.1))) ?_ ?_ ⟨rfl,rfl,mi,la,lb,by dsimp only;omega⟩) ?_)
  .rintro j ⟨o,out,ia',ib',ac,bc⟩ st2 _ hj ⟨rfl,eo,mi,la,lb,pr'⟩;dsimp only at eo mi la lb pr' ⊢;subst eo;refine wpS_bind (aI lb (wpS_bind (aI (by omega:ia'<a.size) (wpS_bind (rY (by rw[sg.1];exact hk) (atB lb) (atA (by omega)) fun bw=>?_)))));cases bw
   .refine wpS_bind (aI (by omega:ia'<a.size) ?_);have mi':=mi.a (by omega:ia'<a.size);by_cases z:ia'+1+1=a.size
    .rw[if_pos (by simpa using z)];exact wpS_pure ⟨rfl,.inl ⟨_,rfl,mi'.last⟩⟩
    .rw[if_neg (by simpa using z)];split
     .exact wpS_pure ⟨rfl,.inr ⟨rfl,mi',by dsimp only;omega,lb,by dsimp only;omega⟩⟩
     .exact wpS_pure ⟨rfl,rfl,mi',by dsimp only;omega,lb,by dsimp only;omega⟩
   .refine wpS_bind (aI lb ?_);have mi':=mi.b lb;by_cases z:ib'+1=b.size
    .rw[if_pos (by simpa using z)];exact wpS_pure ⟨rfl,.inl ⟨_,rfl,mi'.done⟩⟩
    .rw[if_neg (by simpa using z)];split
     .exact wpS_pure ⟨rfl,.inr ⟨rfl,mi',la,by dsimp only;omega,by dsimp only;omega⟩⟩
     .exact wpS_pure ⟨rfl,rfl,mi',la,by dsimp only;omega,by dsimp only;omega⟩
  .rintro⟨o,out,ia',ib',ac,bc⟩ st2 ⟨rfl,eo,mi,la,lb,pr'⟩;dsimp only at eo mi la lb pr';exact⟨rfl,.inr ⟨eo,mi,la,lb,by dsimp only;omega⟩⟩
  .rintro⟨o,out,ia',ib',ac,bc⟩ st2 ⟨rfl,⟨r,er,al⟩|⟨er,mi,la,lb,pr'⟩⟩
   .dsimp only at er ⊢;subst er;exact wpS_pure ⟨sg,r,rfl,al⟩
   .dsimp only at er mi la lb pr' ⊢;subst er;refine wpS_bind (wp_rule ?_);refine wpS_bind (wpS_mono (wpS_forRange (I:=fun j c st'=>Sg st st'/\c.1=none/\MI a b c.2.1 c.2.2.1 c.2.2.2.1/\c.2.2.1+1<a.size/\c.2.2.2.1<b.size/\ia'+ib'<=c.2.2.1+c.2.2.2.1) (Q:=fun c st'=>Sg st st'/\((∃r,c.1=some r/\Al a b r)\/(c.1=none/\MI a b c.2.1 c.2.2.1 c.2.2.2.1/\c.2.2.1+1<a.size/\c.2.2.2.1<b.size/\ia'+ib'<=c.2.2.1+c.2.2.2.1))) ?_ ?_ ⟨sg,rfl,mi,la,lb,Nat.le_refl _⟩) ?_)
    .rintro j ⟨o,out,ia2,ib2,mg2,ac2,bc2⟩ st3 _ hj ⟨sg3,eo,mi,la,lb,pr2⟩;dsimp only at eo mi la lb pr2 ⊢;subst eo;refine ax (fun _=>?_) (fun _=>?_)
     all_goals
      refine wpS_bind (p_ sg3 fun st4 sg4=>?_);refine wpS_bind (aI lb ?_);refine wpS_bind (iA (by rw[sg4.1];exact hk) ha (atB lb) (by omega) (by omega) fun k hk1=>?_);dsimp only;refine ax (fun k0=>?_) (fun k0=>?_)
      .have mk:=mi.ak k;refine ax (fun z=>wpS_pure ⟨sg4,.inl ⟨_,rfl,mk.last⟩⟩) (fun z=>?_);refine ax (fun z'=>wpS_pure ⟨sg4,.inl ⟨_,rfl,mk.done⟩⟩) (fun z'=>?_);have la2:ia2+k+1<a.size:=by simp at z z';omega
       refine wpS_bind (aI lb ?_);have mb:=mk.b lb;refine ax (fun z=>wpS_pure ⟨sg4,.inl ⟨_,rfl,mb.done⟩⟩) (fun z=>?_);have lb2:ib2+1<b.size:=by simp at z;omega
       refine wpS_bind (aI (show ia2+k<a.size by omega) ?_);refine wpS_bind (iA (by rw[sg4.1];exact hk) hb (atA (show ia2+k<a.size by omega)) (by omega) (by omega) fun k' hk'=>?_);dsimp only;refine ax (fun k0'=>?_) (fun k0'=>?_)
       .have mb2:=mb.bk k';refine ax (fun z=>wpS_pure ⟨sg4,.inl ⟨_,rfl,mb2.done⟩⟩) (fun z=>?_);have lb3:ib2+1+k'<b.size:=by simp at z;omega
        refine wpS_bind (aI (show ia2+k<a.size by omega) ?_);have me:=mb2.a (show ia2+k<a.size by omega);refine ax (fun z=>wpS_pure ⟨sg4,.inl ⟨_,rfl,me.last⟩⟩) (fun z=>?_);have la4:ia2+k+1+1<a.size:=by simp at z;omega
        refine ax (fun z=>wpS_pure ⟨sg4,.inr ⟨rfl,me,la4,lb3,by dsimp only;omega⟩⟩) (fun z=>wpS_pure ⟨sg4,rfl,me,la4,lb3,by dsimp only;omega⟩)
       .refine wpS_bind (aI (show ia2+k<a.size by omega) ?_);have me:=mb.a (show ia2+k<a.size by omega);refine ax (fun z=>wpS_pure ⟨sg4,.inl ⟨_,rfl,me.last⟩⟩) (fun z=>?_);have la4:ia2+k+1+1<a.size:=by simp at z;omega
        refine ax (fun z=>wpS_pure ⟨sg4,.inr ⟨rfl,me,la4,lb2,by dsimp only;omega⟩⟩) (fun z=>wpS_pure ⟨sg4,rfl,me,la4,lb2,by dsimp only;omega⟩)
      .have mk:=mi;have la2:=la;refine wpS_bind (aI lb ?_);have mb:=mk.b lb;refine ax (fun z=>wpS_pure ⟨sg4,.inl ⟨_,rfl,mb.done⟩⟩) (fun z=>?_);have lb2:ib2+1<b.size:=by simp at z;omega
       refine wpS_bind (aI (show ia2<a.size by omega) ?_);refine wpS_bind (iA (by rw[sg4.1];exact hk) hb (atA (show ia2<a.size by omega)) (by omega) (by omega) fun k' hk'=>?_);dsimp only;refine ax (fun k0'=>?_) (fun k0'=>?_)
       .have mb2:=mb.bk k';refine ax (fun z=>wpS_pure ⟨sg4,.inl ⟨_,rfl,mb2.done⟩⟩) (fun z=>?_);have lb3:ib2+1+k'<b.size:=by simp at z;omega
        refine wpS_bind (aI (show ia2<a.size by omega) ?_);have me:=mb2.a (show ia2<a.size by omega);refine ax (fun z=>wpS_pure ⟨sg4,.inl ⟨_,rfl,me.last⟩⟩) (fun z=>?_);have la4:ia2+1+1<a.size:=by simp at z;omega
        refine ax (fun z=>wpS_pure ⟨sg4,.inr ⟨rfl,me,la4,lb3,by dsimp only;omega⟩⟩) (fun z=>wpS_pure ⟨sg4,rfl,me,la4,lb3,by dsimp only;omega⟩)
       .refine wpS_bind (aI (show ia2<a.size by omega) ?_);have me:=mb.a (show ia2<a.size by omega);refine ax (fun z=>wpS_pure ⟨sg4,.inl ⟨_,rfl,me.last⟩⟩) (fun z=>?_);have la4:ia2+1+1<a.size:=by simp at z;omega
        refine ax (fun z=>wpS_pure ⟨sg4,.inr ⟨rfl,me,la4,lb2,by dsimp only;omega⟩⟩) (fun z=>wpS_pure ⟨sg4,rfl,me,la4,lb2,by dsimp only;omega⟩)
    .rintro⟨o,out,ia2,ib2,mg2,ac2,bc2⟩ st3 ⟨sg3,eo,mi,la,lb,pr2⟩;exact⟨sg3,.inr ⟨eo,mi,la,lb,pr2⟩⟩
    .rintro⟨o,out,ia2,ib2,mg2,ac2,bc2⟩ st3 ⟨sg3,⟨r,er,al⟩|⟨er,mi,la,lb,pr2⟩⟩
     .dsimp only at er ⊢;subst er;exact wpS_pure ⟨sg3,r,rfl,al⟩
     .dsimp only at er mi la lb pr2 ⊢;subst er;exact wpS_bind (p_ sg3 fun st4 sg4=>wpS_pure ⟨sg4,rfl,mi,la,lb,by dsimp only;omega⟩)
 .rintro⟨o,out,ia,ib,mg⟩ st1 ⟨sg,eo,mi,la,lb,pr⟩;exfalso;dsimp only at la lb pr;omega
 .rintro⟨o,out,ia,ib,mg⟩ st1 ⟨sg,r,er,al⟩;dsimp only at er ⊢;subst er;exact wpS_pure (h _ _ sg al)
def MH(a b:Array Keyed)(out:Array Keyed)(na nb:Nat):Prop:=out.toList.Perm (a.toList.drop na++b.toList.drop nb)
theorem lu(a:Array Keyed)(n:Nat):(a.extract 0 n).toList=a.toList.take n:=by
 rw[Array.toList_extract];rfl
theorem iJ(a:Array Keyed)(i j:Nat):(a.extract i j).toList=(a.toList.drop i).take (j-i):=by
 rw[Array.toList_extract]
theorem MH.fin{a b out:Array Keyed}{na nb:Nat}(h:MH a b out na nb):(a.toList.take na++b.toList.take nb++out.toList.reverse).Perm (a.toList++b.toList):=by
 refine(List.Perm.append_left _ ((List.reverse_perm _).trans h)).trans ((CN _ _ _ _).trans ?_);rw[List.take_append_drop,List.take_append_drop]
theorem MH.done{a b out:Array Keyed}{na nb:Nat}(h:MH a b out na nb):Al a b (a.extract 0 na++b.extract 0 nb++out.reverse):=by
 unfold Al;rw[Array.toList_append,Array.toList_append,lu,lu,Array.toList_reverse];exact h.fin
theorem MH.first{a b out:Array Keyed}{na nb:Nat}(h:MH a b out na nb):Al a b (b.extract 0 nb++a.extract 0 na++out.reverse):=by
 unfold Al;rw[Array.toList_append,Array.toList_append,lu,lu,Array.toList_reverse];exact(List.Perm.append_right _ List.perm_append_comm).trans h.fin
theorem pD{a:Array Keyed}{n:Nat}(h1:1<=n)(h:n-1<a.size):a.toList.drop (n-1)=a[n-1]::a.toList.drop n:=by
 have e:=List.drop_eq_getElem_cons (l:=a.toList) (i:=n-1) (by rw[Array.length_toList];exact h);rw[e,show n-1+1=n by omega];rfl
theorem MH.a{a b out:Array Keyed}{na nb:Nat}(h:MH a b out na nb)(h1:1<=na)(hn:na-1<a.size):MH a b (out.push a[na-1]) (na-1) nb:=by
 unfold MH;rw[Array.toList_push,pD h1 hn];exact(List.perm_append_singleton _ _).trans (List.Perm.cons _ h)
theorem MH.b{a b out:Array Keyed}{na nb:Nat}(h:MH a b out na nb)(h1:1<=nb)(hn:nb-1<b.size):MH a b (out.push b[nb-1]) na (nb-1):=by
 unfold MH;rw[Array.toList_push,pD h1 hn];exact(List.perm_append_singleton _ _).trans ((List.Perm.cons _ h).trans List.perm_middle.symm)
theorem pR{a:Array Keyed}{k n:Nat}(h:k<=n):a.toList.drop k=(a.toList.drop k).take (n-k)++a.toList.drop n:=by
 have e:=(List.take_append_drop (n-k) (a.toList.drop k)).symm;rw[List.drop_drop,show k+(n-k)=n by omega] at e;exact e
theorem MH.ak{a b out:Array Keyed}{na nb k:Nat}(h:MH a b out na nb)(h1:k<=na)(hn:na<=a.size):MH a b (out++(a.extract k na).reverse) k nb:=by
 unfold MH;rw[Array.toList_append,Array.toList_reverse,iJ,pR h1,List.append_assoc];rw[show(List.take (na-k) (List.take (na-k) (List.drop k a.toList)++List.drop na a.toList))=List.take (na-k) (List.drop k a.toList) by rw[<-pR h1]];exact(List.perm_append_comm.trans (List.Perm.append (List.reverse_perm _) h))
theorem MH.bk{a b out:Array Keyed}{na nb k:Nat}(h:MH a b out na nb)(h1:k<=nb)(hn:nb<=b.size):MH a b (out++(b.extract k nb).reverse) na k:=by
 unfold MH;rw[Array.toList_append,Array.toList_reverse,iJ,pR h1];rw[show(List.take (nb-k) (List.take (nb-k) (List.drop k b.toList)++List.drop nb b.toList))=List.take (nb-k) (List.drop k b.toList) by rw[<-pR h1]];refine(List.Perm.append_right _ h).trans ?_;rw[List.append_assoc];exact List.Perm.append_left _ (List.perm_append_comm.trans (List.Perm.append_right _ (List.reverse_perm _)))
set_option maxHeartbeats 1000000 in
theorem DE{st:SortSt}{a b:Array Keyed}{Q:Array Keyed->SortSt->Prop}(hk:kindOf st=oneType')(ha:∀x∈a,kO x)(hb:∀x∈b,kO x)(a1:1<=a.size)(b1:1<=b.size)(h:∀out st',Sg st st'->Al a b out->Q out st'):wpS (model prog w) A E s (Jw a b) Q st:=by
 have atA:∀{i:Nat} (hi:i<a.size),kO a[i]:=fun hi=>ha _ (Array.getElem_mem hi);have atB:∀{i:Nat} (hi:i<b.size),kO b[i]:=fun hi=>hb _ (Array.getElem_mem hi);unfold Jw;refine wpS_bind (wp_rule ?_);dsimp only;refine wpS_bind (aI (show a.size-1<a.size by omega) ?_)
 have m0:MH a b #[a[a.size-1]] (a.size-1) b.size:=by
  unfold MH;rw[pD a1 (by omega),List.drop_of_length_le (by rw[Array.length_toList];exact Nat.le_refl _),List.drop_of_length_le (by rw[Array.length_toList];exact Nat.le_refl _)];exact List.Perm.refl _
 refine ax (fun z=>wpS_pure (h _ _ (Sg.refl _) m0.done)) (fun z1=>?_);refine ax (fun z=>wpS_pure (h _ _ (Sg.refl _) m0.first)) (fun z2=>?_);have na0:1<=a.size-1:=by simp at z1;omega
 have nb0:2<=b.size:=by simp at z2;omega
 refine wpS_bind (wpS_get ?_);refine wpS_bind (wpS_mono (wpS_forRange (I:=fun i c st'=>Sg st st'/\c.1=none/\MH a b c.2.2.2.1 c.2.1 c.2.2.1/\1<=c.2.1/\c.2.1<=a.size/\2<=c.2.2.1/\c.2.2.1<=b.size/\c.2.1+c.2.2.1+i+1<=a.size+b.size) (Q:=fun c st'=>Sg st st'/\∃r,c.1=some r/\Al a b r) ?_ ?_ ⟨Sg.refl _,rfl,m0,na0,by dsimp only;omega,nb0,Nat.le_refl _,by dsimp only;omega⟩) ?_)
 .rintro i ⟨o,na,nb,out,mg⟩ st1 _ hi ⟨sg,eo,mi,la,la',lb,lb',pr⟩;dsimp only at eo mi la la' lb lb' pr ⊢;subst eo;refine wpS_bind (wpS_mono (wpS_forRange (I:=fun j c st'=>st'=st1/\c.1=none/\MH a b c.2.2.2.1 c.2.1 c.2.2.1/\1<=c.2.1/\c.2.1<=a.size/\2<=c.2.2.1/\c.2.2.1<=b.size/\c.2.1+c.2.2.1+j<=na+nb) (Q:=fun c st'=>st'=st1/\((∃r,c.1=some r/\Al a b r)\/(c.1=none/\MH a b c.2.2.2.1 c.2.1 c.2.2.1/\1<=c.2.1/\c.2.1<=a.size/\2<=c.2.2.1/\c.2.2.1<=b.size/\c.2.1+c.2.2.1+1<=na+nb))) ?_ ?_ ⟨rfl,rfl,mi,la,la',lb,lb',by dsimp only;omega⟩) ?_)
  .rintro j ⟨o,na',nb',out,ac,bc⟩ st2 _ hj ⟨rfl,eo,mi,la,la',lb,lb',pr'⟩;dsimp only at eo mi la la' lb lb' pr' ⊢;subst eo;refine wpS_bind (aI (show nb'-1<b.size by omega) (wpS_bind (aI (show na'-1<a.size by omega) (wpS_bind (rY (by rw[sg.1];exact hk) (atB (by omega)) (atA (by omega)) fun bw=>?_)))));cases bw
   .refine wpS_bind (aI (show nb'-1<b.size by omega) ?_);have mi':=mi.b (show 1<=nb' by omega) (show nb'-1<b.size by omega);refine ax (fun z=>wpS_pure ⟨rfl,.inl ⟨_,rfl,mi'.first⟩⟩) (fun z=>?_);have z':2<=nb'-1:=by simp at z;omega
    refine ax (fun _=>wpS_pure ⟨rfl,.inr ⟨rfl,mi',la,la',z',by dsimp only;omega,by dsimp only;omega⟩⟩) (fun _=>wpS_pure ⟨rfl,rfl,mi',la,la',z',by dsimp only;omega,by dsimp only;omega⟩)
   .refine wpS_bind (aI (show na'-1<a.size by omega) ?_);have mi':=mi.a la (show na'-1<a.size by omega);refine ax (fun z=>wpS_pure ⟨rfl,.inl ⟨_,rfl,mi'.done⟩⟩) (fun z=>?_);have z':1<=na'-1:=by simp at z;omega
    refine ax (fun _=>wpS_pure ⟨rfl,.inr ⟨rfl,mi',z',by dsimp only;omega,lb,lb',by dsimp only;omega⟩⟩) (fun _=>wpS_pure ⟨rfl,rfl,mi',z',by dsimp only;omega,lb,lb',by dsimp only;omega⟩)
  .rintro⟨o,na',nb',out,ac,bc⟩ st2 ⟨rfl,eo,mi,la,la',lb,lb',pr'⟩;dsimp only at eo mi la la' lb lb' pr';exact⟨rfl,.inr ⟨eo,mi,la,la',lb,lb',by dsimp only;omega⟩⟩
  .rintro⟨o,na',nb',out,ac,bc⟩ st2 ⟨rfl,⟨r,er,al⟩|⟨er,mi,la,la',lb,lb',pr'⟩⟩
   .dsimp only at er ⊢;subst er;exact wpS_pure ⟨sg,r,rfl,al⟩
   .dsimp only at er mi la la' lb lb' pr' ⊢;subst er;refine wpS_bind (wp_rule ?_);refine wpS_bind (wpS_mono (wpS_forRange (I:=fun j c st'=>Sg st st'/\c.1=none/\MH a b c.2.2.2.1 c.2.1 c.2.2.1/\1<=c.2.1/\c.2.1<=a.size/\2<=c.2.2.1/\c.2.2.1<=b.size/\c.2.1+c.2.2.1<=na'+nb') (Q:=fun c st'=>Sg st st'/\((∃r,c.1=some r/\Al a b r)\/(c.1=none/\MH a b c.2.2.2.1 c.2.1 c.2.2.1/\1<=c.2.1/\c.2.1<=a.size/\2<=c.2.2.1/\c.2.2.1<=b.size/\c.2.1+c.2.2.1<=na'+nb'))) ?_ ?_ ⟨sg,rfl,mi,la,la',lb,lb',Nat.le_refl _⟩) ?_)
    .rintro j ⟨o,na2,nb2,out,mg2,ac2,bc2⟩ st3 _ hj ⟨sg3,eo,mi,la,la',lb,lb',pr2⟩;dsimp only at eo mi la la' lb lb' pr2 ⊢;subst eo;refine ax (fun _=>?_) (fun _=>?_)
     all_goals
      refine wpS_bind (p_ sg3 fun st4 sg4=>?_);refine wpS_bind (aI (show nb2-1<b.size by omega) ?_);refine wpS_bind (iA (by rw[sg4.1];exact hk) ha (atB (show nb2-1<b.size by omega)) (by omega) (by omega) fun k hk1=>?_);dsimp only;refine ax (fun k0=>?_) (fun k0=>?_)
      .have mk:=mi.ak hk1 (show na2<=a.size by omega);refine ax (fun z'=>wpS_pure ⟨sg4,.inl ⟨_,rfl,mk.done⟩⟩) (fun z'=>?_);have la2:1<=k:=by simp at z';omega
       refine wpS_bind (aI (show nb2-1<b.size by omega) ?_);have mb:=mk.b (show 1<=nb2 by omega) (show nb2-1<b.size by omega);refine ax (fun z=>wpS_pure ⟨sg4,.inl ⟨_,rfl,mb.first⟩⟩) (fun z=>?_);have lb2:2<=nb2-1:=by simp at z;omega
       refine wpS_bind (aI (show k-1<a.size by omega) ?_);refine wpS_bind (iA (by rw[sg4.1];exact hk) hb (atA (show k-1<a.size by omega)) (by omega) (by omega) fun k' hk'=>?_);dsimp only;refine ax (fun k0'=>?_) (fun k0'=>?_)
       .have mb2:=mb.bk hk' (show nb2-1<=b.size by omega);refine ax (fun z=>wpS_pure ⟨sg4,.inl ⟨_,rfl,mb2.first⟩⟩) (fun z=>?_);refine ax (fun z'=>wpS_pure ⟨sg4,.inl ⟨_,rfl,mb2.done⟩⟩) (fun z'=>?_);have lb3:2<=k':=by simp at z z';omega
        refine wpS_bind (aI (show k-1<a.size by omega) ?_);have me:=mb2.a (show 1<=k by omega) (show k-1<a.size by omega);refine ax (fun z=>wpS_pure ⟨sg4,.inl ⟨_,rfl,me.done⟩⟩) (fun z=>?_);have la4:1<=k-1:=by simp at z;omega
        refine ax (fun z=>wpS_pure ⟨sg4,.inr ⟨rfl,me,la4,by dsimp only;omega,lb3,by dsimp only;omega,by dsimp only;omega⟩⟩) (fun z=>wpS_pure ⟨sg4,rfl,me,la4,by dsimp only;omega,lb3,by dsimp only;omega,by dsimp only;omega⟩)
       .refine wpS_bind (aI (show k-1<a.size by omega) ?_);have me:=mb.a (show 1<=k by omega) (show k-1<a.size by omega);refine ax (fun z=>wpS_pure ⟨sg4,.inl ⟨_,rfl,me.done⟩⟩) (fun z=>?_);have la4:1<=k-1:=by simp at z;omega
        refine ax (fun z=>wpS_pure ⟨sg4,.inr ⟨rfl,me,la4,by dsimp only;omega,lb2,by dsimp only;omega,by dsimp only;omega⟩⟩) (fun z=>wpS_pure ⟨sg4,rfl,me,la4,by dsimp only;omega,lb2,by dsimp only;omega,by dsimp only;omega⟩)
      .have mk:=mi;have la2:=la;refine wpS_bind (aI (show nb2-1<b.size by omega) ?_);have mb:=mk.b (show 1<=nb2 by omega) (show nb2-1<b.size by omega);refine ax (fun z=>wpS_pure ⟨sg4,.inl ⟨_,rfl,mb.first⟩⟩) (fun z=>?_);have lb2:2<=nb2-1:=by simp at z;omega
       refine wpS_bind (aI (show na2-1<a.size by omega) ?_);refine wpS_bind (iA (by rw[sg4.1];exact hk) hb (atA (show na2-1<a.size by omega)) (by omega) (by omega) fun k' hk'=>?_);dsimp only;refine ax (fun k0'=>?_) (fun k0'=>?_)
       .have mb2:=mb.bk hk' (show nb2-1<=b.size by omega);refine ax (fun z=>wpS_pure ⟨sg4,.inl ⟨_,rfl,mb2.first⟩⟩) (fun z=>?_);refine ax (fun z'=>wpS_pure ⟨sg4,.inl ⟨_,rfl,mb2.done⟩⟩) (fun z'=>?_);have lb3:2<=k':=by simp at z z';omega
        refine wpS_bind (aI (show na2-1<a.size by omega) ?_);have me:=mb2.a (show 1<=na2 by omega) (show na2-1<a.size by omega);refine ax (fun z=>wpS_pure ⟨sg4,.inl ⟨_,rfl,me.done⟩⟩) (fun z=>?_);have la4:1<=na2-1:=by simp at z;omega
        refine ax (fun z=>wpS_pure ⟨sg4,.inr ⟨rfl,me,la4,by dsimp only;omega,lb3,by dsimp only;omega,by dsimp only;omega⟩⟩) (fun z=>wpS_pure ⟨sg4,rfl,me,la4,by dsimp only;omega,lb3,by dsimp only;omega,by dsimp only;omega⟩)
       .refine wpS_bind (aI (show na2-1<a.size by omega) ?_);have me:=mb.a (show 1<=na2 by omega) (show na2-1<a.size by omega);refine ax (fun z=>wpS_pure ⟨sg4,.inl ⟨_,rfl,me.done⟩⟩) (fun z=>?_);have la4:1<=na2-1:=by simp at z;omega
        refine ax (fun z=>wpS_pure ⟨sg4,.inr ⟨rfl,me,la4,by dsimp only;omega,lb2,by dsimp only;omega,by dsimp only;omega⟩⟩) (fun z=>wpS_pure ⟨sg4,rfl,me,la4,by dsimp only;omega,lb2,by dsimp only;omega,by dsimp only;omega⟩)
    .rintro⟨o,na2,nb2,out,mg2,ac2,bc2⟩ st3 ⟨sg3,eo,mi,la,la',lb,lb',pr2⟩;exact⟨sg3,.inr ⟨eo,mi,la,la',lb,lb',pr2⟩⟩
    .rintro⟨o,na2,nb2,out,mg2,ac2,bc2⟩ st3 ⟨sg3,⟨r,er,al⟩|⟨er,mi,la,la',lb,lb',pr2⟩⟩
     .dsimp only at er ⊢;subst er;exact wpS_pure ⟨sg3,r,rfl,al⟩
     .dsimp only at er mi la la' lb lb' pr2 ⊢;subst er;exact wpS_bind (p_ sg3 fun st4 sg4=>wpS_pure ⟨sg4,rfl,mi,la,la',lb,lb',by dsimp only;omega⟩)
 .rintro⟨o,na,nb,out,mg⟩ st1 ⟨sg,eo,mi,la,la',lb,lb',pr⟩;exfalso;dsimp only at la lb pr;omega
 .rintro⟨o,na,nb,out,mg⟩ st1 ⟨sg,r,er,al⟩;dsimp only at er ⊢;subst er;exact wpS_pure (h _ _ sg al)
end
end L2.Srt
namespace L2.Srt
open PySem PyProof.Rows
section
variable{w:World}{prog:Program}{s:Shared}{E:Value->Shared->Prop}{A:Around}{a₀:Array Keyed}{pd:Array (Nat×Nat×Nat)}
structure PB(a₀:Array Keyed)(pd:Array (Nat×Nat×Nat))(st:SortSt):Prop where
 perm:(arrOf st).Perm a₀
 kind:kindOf st=oneType'
 failed:failedOf st=none
 pend:pendingOf st=pd
theorem PB.size{st:SortSt}(h:PB a₀ pd st):(arrOf st).size=a₀.size:=h.perm.size_eq
theorem PB.JF{st:SortSt}(h:PB a₀ pd st)(h0:∀x∈a₀,kO x):∀x∈arrOf st,kO x:=fun x hx=>h0 x (Array.mem_def.mpr ((Array.perm_iff_toList_perm.mp h.perm).mem_iff.mp (Array.mem_def.mp hx)))
theorem dg{st:SortSt}{i j:Nat}{Q:Option Bool->SortSt->Prop}(hP:PB a₀ pd st)(h0:∀x∈a₀,kO x)(hi:i<a₀.size)(hj:j<a₀.size)(h:∀b,Q (some b) st):wpS (model prog w) A E s (ltAt' i j) Q st:=by
 rw[ltAt'_eq];have hi':i<(arrOf st).size:=by rw[hP.size];exact hi
 have hj':j<(arrOf st).size:=by rw[hP.size];exact hj
 have k:=hP.JF h0;exact wpS_bind (wpS_get (wpS_bind (aI hi' (wpS_bind (aI hj' (rY hP.kind (k _ (Array.getElem_mem hi')) (k _ (Array.getElem_mem hj')) h))))))
theorem gf{st:SortSt}{i j:Nat}{Q:Unit->SortSt->Prop}(hP:PB a₀ pd st)(h:∀st',PB a₀ pd st'->Q () st'):wpS (model prog w) A E s (reverseSlice' i j) Q st:=by
 rw[reverseSlice'_eq];exact wpS_modify (h _ ⟨(mirror_perm _ _ _ _).trans hP.perm,hP.kind,hP.failed,hP.pend⟩)
theorem Ez{st:SortSt}{i j:Nat}{Q:Unit->SortSt->Prop}(hP:PB a₀ pd st)(h:∀st',PB a₀ pd st'->Q () st'):wpS (model prog w) A E s (moveDown' i j) Q st:=by
 rw[moveDown'_eq];exact wpS_modify (h _ ⟨(bubble_perm _ _ _).trans hP.perm,hP.kind,hP.failed,hP.pend⟩)
theorem Ey{st:SortSt}{lo n ok:Nat}{Q:Bool->SortSt->Prop}(hP:PB a₀ pd st)(h0:∀x∈a₀,kO x)(hn:lo+n<=a₀.size)(h:∀st',PB a₀ pd st'->Q true st'):wpS (model prog w) A E s (binarySort' lo n ok) Q st:=by
 unfold binarySort';refine wpS_bind (wpS_mono (wpS_forRange (I:=fun _ c st'=>PB a₀ pd st'/\c.1=none) (Q:=fun c st'=>PB a₀ pd st'/\c.1=none) ?_ (fun c st' q=>q) ⟨hP,rfl⟩) ?_)
 .rintro k ⟨o,u⟩ st1 _ hk ⟨hP1,eo⟩;dsimp only at eo ⊢;subst eo;refine wpS_bind (wpS_mono (wpS_forRange (I:=fun _ c st'=>st'=st1/\c.1=none/\c.2.2<=k) (Q:=fun c st'=>st'=st1/\c.1=none/\c.2.2<=k) ?_ (fun c st' q=>q) ⟨rfl,rfl,Nat.le_refl _⟩) ?_)
  .rintro j ⟨o,l,r⟩ st2 _ hj ⟨rfl,eo,l1⟩;dsimp only at eo l1 ⊢;subst eo;refine ax (fun _=>wpS_pure ⟨rfl,rfl,l1⟩) (fun z=>?_);refine wpS_bind (dg hP1 h0 (by omega) (by omega) fun b=>?_);cases b
   .exact wpS_pure ⟨rfl,rfl,l1⟩
   .exact wpS_pure ⟨rfl,rfl,by dsimp only;omega⟩
  .rintro⟨o,l,r⟩ st2 ⟨rfl,eo,l1⟩;dsimp only at eo ⊢;subst eo;exact wpS_bind (Ez hP1 fun st3 hP3=>wpS_pure ⟨hP3,rfl⟩)
 .rintro⟨o,u⟩ st1 ⟨hP1,eo⟩;dsimp only at eo ⊢;subst eo;exact wpS_pure (h _ hP1)
set_option maxHeartbeats 1000000 in
theorem E3{st:SortSt}{lo nrem:Nat}{Q:Option Nat->SortSt->Prop}(hP:PB a₀ pd st)(h0:∀x∈a₀,kO x)(h1:1<=nrem)(hn:lo+nrem<=a₀.size)(h:∀m st',PB a₀ pd st'->1<=m->m<=nrem->Q (some m) st'):wpS (model prog w) A E s (countRun' lo nrem) Q st:=by
 unfold countRun';refine wpS_bind (wpS_mono (wpS_forRange (I:=fun x c st'=>PB a₀ pd st'/\c.1=none/\1<=c.2/\c.2<=nrem/\(c.2=x\/nrem<=x)) (Q:=fun c st'=>PB a₀ pd st'/\c.1=none/\1<=c.2/\c.2<=nrem) ?_ ?_ ⟨hP,rfl,Nat.le_refl _,h1,.inl rfl⟩) ?_)
 .rintro x ⟨o,n⟩ st1 hx hx' ⟨hP1,eo,l1,l2,l3⟩;dsimp only at eo l1 l2 l3 ⊢;subst eo;refine wpS_bind (dg hP1 h0 (by omega) (by omega) fun b=>?_);cases b
  .exact wpS_pure ⟨hP1,rfl,by dsimp only;omega,by dsimp only;omega,by dsimp only;omega⟩
  .exact wpS_pure ⟨hP1,rfl,l1,l2⟩
 .rintro⟨o,n⟩ st1 ⟨hP1,eo,l1,l2,l3⟩;exact⟨hP1,eo,l1,l2⟩
 .rintro⟨o,n⟩ st1 ⟨hP1,eo,l1,l2⟩;dsimp only at eo l1 l2 ⊢;subst eo;refine ax (fun _=>wpS_pure (h _ _ hP1 l1 l2)) (fun z=>?_);have z':n<nrem:=by simp at z;omega
  refine ax (fun n1=>?_) (fun n1=>?_)
  .refine wpS_bind (dg hP1 h0 (by omega) (by omega) fun b=>?_);cases b
   .dsimp only;refine ax (fun q=>absurd q (by decide)) (fun _=>?_);refine wpS_bind (gf hP1 fun st3 hP3=>?_);refine wpS_bind (wp_rule ?_);refine wpS_bind (wpS_mono (wpS_forRange (I:=fun x c st'=>PB a₀ pd st'/\c.1=none/\1<=c.2.1/\c.2.1<=nrem/\(c.2.1=x\/nrem<=x)) (Q:=fun c st'=>PB a₀ pd st'/\c.1=none/\1<=c.2.1/\c.2.1<=nrem) ?_ ?_ ⟨hP3,rfl,by dsimp only;omega,by dsimp only;omega,.inl rfl⟩) ?_)
    .rintro x ⟨o,n2,ne⟩ st4 hx hx' ⟨hP4,eo,l1,l2,l3⟩;dsimp only at eo l1 l2 l3 ⊢;subst eo;refine wpS_bind (dg hP4 h0 (by omega) (by omega) fun b=>?_);cases b
     .refine wpS_bind (dg hP4 h0 (by omega) (by omega) fun b=>?_);cases b
      .exact wpS_pure ⟨hP4,rfl,by dsimp only;omega,by dsimp only;omega,by dsimp only;omega⟩
      .exact wpS_pure ⟨hP4,rfl,l1,l2⟩
     .dsimp only;refine ax (fun _=>?_) (fun q=>absurd rfl q);refine ax (fun _=>?_) (fun _=>?_)
      .exact wpS_bind (gf hP4 fun st5 hP5=>wpS_pure ⟨hP5,rfl,by dsimp only;omega,by dsimp only;omega,by dsimp only;omega⟩)
      .exact wpS_pure ⟨hP4,rfl,by dsimp only;omega,by dsimp only;omega,by dsimp only;omega⟩
    .rintro⟨o,n2,ne⟩ st4 ⟨hP4,eo,l1,l2,l3⟩;exact⟨hP4,eo,l1,l2⟩
    .rintro⟨o,n2,ne⟩ st4 ⟨hP4,eo,l1,l2⟩;dsimp only at eo l1 l2 ⊢;subst eo;dsimp only;refine ax (fun _=>?_) (fun _=>?_)
     .refine wpS_bind (gf hP4 fun st5 hP5=>?_);refine wpS_bind (gf hP5 fun st6 hP6=>?_);refine wpS_bind (wpS_mono (wpS_forRange (I:=fun x c st'=>PB a₀ pd st'/\c.1=none/\1<=c.2/\c.2<=nrem/\(c.2=x\/nrem<=x)) (Q:=fun c st'=>PB a₀ pd st'/\c.1=none/\1<=c.2/\c.2<=nrem) ?_ ?_ ⟨hP6,rfl,by dsimp only;omega,by dsimp only;omega,.inl rfl⟩) ?_)
      .rintro x ⟨o,n3⟩ st7 hx hx' ⟨hP7,eo,l1,l2,l3⟩;dsimp only at eo l1 l2 l3 ⊢;subst eo;refine wpS_bind (dg hP7 h0 (by omega) (by omega) fun b=>?_);cases b
       .exact wpS_pure ⟨hP7,rfl,by dsimp only;omega,by dsimp only;omega,by dsimp only;omega⟩
       .exact wpS_pure ⟨hP7,rfl,l1,l2⟩
      .rintro⟨o,n3⟩ st7 ⟨hP7,eo,l1,l2,l3⟩;exact⟨hP7,eo,l1,l2⟩
      .rintro⟨o,n3⟩ st7 ⟨hP7,eo,l1,l2⟩;dsimp only at eo l1 l2 ⊢;subst eo;exact wpS_pure (h _ _ hP7 l1 l2)
     .have hP5:=hP4;refine wpS_bind (gf hP5 fun st6 hP6=>?_);refine wpS_bind (wpS_mono (wpS_forRange (I:=fun x c st'=>PB a₀ pd st'/\c.1=none/\1<=c.2/\c.2<=nrem/\(c.2=x\/nrem<=x)) (Q:=fun c st'=>PB a₀ pd st'/\c.1=none/\1<=c.2/\c.2<=nrem) ?_ ?_ ⟨hP6,rfl,by dsimp only;omega,by dsimp only;omega,.inl rfl⟩) ?_)
      .rintro x ⟨o,n3⟩ st7 hx hx' ⟨hP7,eo,l1,l2,l3⟩;dsimp only at eo l1 l2 l3 ⊢;subst eo;refine wpS_bind (dg hP7 h0 (by omega) (by omega) fun b=>?_);cases b
       .exact wpS_pure ⟨hP7,rfl,by dsimp only;omega,by dsimp only;omega,by dsimp only;omega⟩
       .exact wpS_pure ⟨hP7,rfl,l1,l2⟩
      .rintro⟨o,n3⟩ st7 ⟨hP7,eo,l1,l2,l3⟩;exact⟨hP7,eo,l1,l2⟩
      .rintro⟨o,n3⟩ st7 ⟨hP7,eo,l1,l2⟩;dsimp only at eo l1 l2 ⊢;subst eo;exact wpS_pure (h _ _ hP7 l1 l2)
   .exact wpS_pure (h _ _ hP1 l1 l2)
  .have hP3:=hP1;refine wpS_bind (wp_rule ?_);refine wpS_bind (wpS_mono (wpS_forRange (I:=fun x c st'=>PB a₀ pd st'/\c.1=none/\1<=c.2.1/\c.2.1<=nrem/\(c.2.1=x\/nrem<=x)) (Q:=fun c st'=>PB a₀ pd st'/\c.1=none/\1<=c.2.1/\c.2.1<=nrem) ?_ ?_ ⟨hP3,rfl,by dsimp only;omega,by dsimp only;omega,.inl rfl⟩) ?_)
   .rintro x ⟨o,n2,ne⟩ st4 hx hx' ⟨hP4,eo,l1,l2,l3⟩;dsimp only at eo l1 l2 l3 ⊢;subst eo;refine wpS_bind (dg hP4 h0 (by omega) (by omega) fun b=>?_);cases b
    .refine wpS_bind (dg hP4 h0 (by omega) (by omega) fun b=>?_);cases b
     .exact wpS_pure ⟨hP4,rfl,by dsimp only;omega,by dsimp only;omega,by dsimp only;omega⟩
     .exact wpS_pure ⟨hP4,rfl,l1,l2⟩
    .dsimp only;refine ax (fun _=>?_) (fun q=>absurd rfl q);refine ax (fun _=>?_) (fun _=>?_)
     .exact wpS_bind (gf hP4 fun st5 hP5=>wpS_pure ⟨hP5,rfl,by dsimp only;omega,by dsimp only;omega,by dsimp only;omega⟩)
     .exact wpS_pure ⟨hP4,rfl,by dsimp only;omega,by dsimp only;omega,by dsimp only;omega⟩
   .rintro⟨o,n2,ne⟩ st4 ⟨hP4,eo,l1,l2,l3⟩;exact⟨hP4,eo,l1,l2⟩
   .rintro⟨o,n2,ne⟩ st4 ⟨hP4,eo,l1,l2⟩;dsimp only at eo l1 l2 ⊢;subst eo;dsimp only;refine ax (fun _=>?_) (fun _=>?_)
    .refine wpS_bind (gf hP4 fun st5 hP5=>?_);refine wpS_bind (gf hP5 fun st6 hP6=>?_);refine wpS_bind (wpS_mono (wpS_forRange (I:=fun x c st'=>PB a₀ pd st'/\c.1=none/\1<=c.2/\c.2<=nrem/\(c.2=x\/nrem<=x)) (Q:=fun c st'=>PB a₀ pd st'/\c.1=none/\1<=c.2/\c.2<=nrem) ?_ ?_ ⟨hP6,rfl,by dsimp only;omega,by dsimp only;omega,.inl rfl⟩) ?_)
     .rintro x ⟨o,n3⟩ st7 hx hx' ⟨hP7,eo,l1,l2,l3⟩;dsimp only at eo l1 l2 l3 ⊢;subst eo;refine wpS_bind (dg hP7 h0 (by omega) (by omega) fun b=>?_);cases b
      .exact wpS_pure ⟨hP7,rfl,by dsimp only;omega,by dsimp only;omega,by dsimp only;omega⟩
      .exact wpS_pure ⟨hP7,rfl,l1,l2⟩
     .rintro⟨o,n3⟩ st7 ⟨hP7,eo,l1,l2,l3⟩;exact⟨hP7,eo,l1,l2⟩
     .rintro⟨o,n3⟩ st7 ⟨hP7,eo,l1,l2⟩;dsimp only at eo l1 l2 ⊢;subst eo;exact wpS_pure (h _ _ hP7 l1 l2)
    .have hP5:=hP4;refine wpS_bind (gf hP5 fun st6 hP6=>?_);refine wpS_bind (wpS_mono (wpS_forRange (I:=fun x c st'=>PB a₀ pd st'/\c.1=none/\1<=c.2/\c.2<=nrem/\(c.2=x\/nrem<=x)) (Q:=fun c st'=>PB a₀ pd st'/\c.1=none/\1<=c.2/\c.2<=nrem) ?_ ?_ ⟨hP6,rfl,by dsimp only;omega,by dsimp only;omega,.inl rfl⟩) ?_)
     .rintro x ⟨o,n3⟩ st7 hx hx' ⟨hP7,eo,l1,l2,l3⟩;dsimp only at eo l1 l2 l3 ⊢;subst eo;refine wpS_bind (dg hP7 h0 (by omega) (by omega) fun b=>?_);cases b
      .exact wpS_pure ⟨hP7,rfl,by dsimp only;omega,by dsimp only;omega,by dsimp only;omega⟩
      .exact wpS_pure ⟨hP7,rfl,l1,l2⟩
     .rintro⟨o,n3⟩ st7 ⟨hP7,eo,l1,l2,l3⟩;exact⟨hP7,eo,l1,l2⟩
     .rintro⟨o,n3⟩ st7 ⟨hP7,eo,l1,l2⟩;dsimp only at eo l1 l2 ⊢;subst eo;exact wpS_pure (h _ _ hP7 l1 l2)
end
end L2.Srt
namespace L2.Srt
open PySem PyProof.Rows
section
variable{w:World}{prog:Program}{s:Shared}{E:Value->Shared->Prop}{A:Around}{a₀:Array Keyed}{pd:Array (Nat×Nat×Nat)}
theorem C1{xs:Array Keyed}(sa:Nat):∀(m:List Keyed) (j:Nat) (xs:Array Keyed),sa+j+m.length<=xs.size->((m.zipIdx j).foldl (fun a p=>a.setIfInBounds (sa+p.2) p.1) xs).toList=xs.toList.take (sa+j)++(m++xs.toList.drop (sa+j+m.length))
 |[],j,xs,_=>by
  show xs.toList=_;rw[List.nil_append];exact(List.take_append_drop _ _).symm
 |p::m,j,xs,h=>by
  rw[List.length_cons] at h;rw[List.zipIdx_cons,List.foldl_cons];have ih:=C1 (xs:=xs) sa m (j+1) (xs.setIfInBounds (sa+j) p) (by rw[Array.size_setIfInBounds];omega);rw[ih,Array.toList_setIfInBounds];have hl:sa+j<xs.toList.length:=by rw[Array.length_toList];omega
  rw[show sa+(j+1)=sa+j+1 by omega,List.take_add_one,List.take_set_of_le (Nat.le_refl _),List.getElem?_set_self hl,List.drop_set_of_lt (by omega),List.length_cons,List.append_assoc];rw[show sa+j+1+m.length=sa+j+(m.length+1) by omega];rfl
theorem E1{st st1:SortSt}{Q:PUnit->SortSt->Prop}(h:Q ⟨⟩ st1):wpS (model prog w) A E s (set st1:StateT SortSt Sem PUnit) Q st:=wpAny_pure ⟨rfl,h⟩
set_option maxHeartbeats 1000000 in
theorem Ff{st:SortSt}{i sa na pw sb nb q:Nat}{Q:Bool->SortSt->Prop}(hP:PB a₀ pd st)(h0:∀x∈a₀,kO x)(p1:pd[i]?=some (sa,na,pw))(p2:pd[i+1]?=some (sb,nb,q))(e:sb=sa+na)(hn:sb+nb<=a₀.size)(n1:1<=na)(n2:1<=nb)(h:∀st',PB a₀ ((pd.setIfInBounds i (sa,na+nb,pw)).eraseIdxIfInBounds (i+1)) st'->Q true st'):wpS (model prog w) A E s (mergeAt' i) Q st:=by
 unfold mergeAt';refine wpS_bind (wpS_get ?_);have hs:=hP.size;have hK:=hP.JF h0;obtain⟨kd,ar,pn,mg,fl⟩:=st;have e1:kd=oneType':=hP.kind;have e2:fl=none:=hP.failed;have e3:pn=pd:=hP.pend;have e4:ar.Perm a₀:=hP.perm;subst e1 e2 e3;have hs':ar.size=a₀.size:=hs;have hK':∀x∈ar,kO x:=hK;dsimp only;rw[p1,p2];dsimp only;refine wpS_bind (E1 ?_);refine wpS_bind (aI (show sb<ar.size by omega) ?_);refine wpS_bind (iA rfl hK' (hK' _ (Array.getElem_mem _)) (by omega) (by omega) fun k hk=>?_);dsimp only;have hP1:PB a₀ ((pn.setIfInBounds i (sa,na+nb,pw)).eraseIdxIfInBounds (i+1)) (SortSt.mk' oneType' ar ((pn.setIfInBounds i (sa,na+nb,pw)).eraseIdxIfInBounds (i+1)) mg none):=⟨e4,rfl,rfl,rfl⟩;refine ax (fun _=>wpS_pure (h _ hP1)) (fun z=>?_);have z':k<na:=by simp at z;omega
 refine wpS_bind (aI (show sa+k+(na-k)-1<ar.size by omega) ?_);refine wpS_bind (iA rfl hK' (hK' _ (Array.getElem_mem _)) (by omega) (by omega) fun m hm=>?_);dsimp only;refine ax (fun _=>wpS_pure (h _ hP1)) (fun z2=>?_);have z2':1<=m:=by simp at z2;omega
 have sx:(ar.extract (sa+k) sb).size=na-k:=by rw[Array.size_extract];omega
 have sy:(ar.extract sb (sb+m)).size=m:=by rw[Array.size_extract];omega
 have kx:∀x∈ar.extract (sa+k) sb,kO x:=fun x hx=>hK' x (by
  have:=Array.mem_def.mp hx;rw[iJ] at this
  exact Array.mem_def.mpr (List.mem_of_mem_drop (List.mem_of_mem_take this)))
 have ky:∀x∈ar.extract sb (sb+m),kO x:=fun x hx=>hK' x (by
  have:=Array.mem_def.mp hx;rw[iJ] at this
  exact Array.mem_def.mpr (List.mem_of_mem_drop (List.mem_of_mem_take this)))
 have wb:∀merged:Array Keyed,Al (ar.extract (sa+k) sb) (ar.extract sb (sb+m)) merged->(merged.toList.zipIdx.foldl (fun a x=>match x with|(p,j)=>a.setIfInBounds (sa+k+j) p) ar).Perm a₀:=fun merged al=>by
  refine(Array.perm_iff_toList_perm.mpr ?_).trans e4;have al':merged.toList.Perm ((ar.extract (sa+k) sb).toList++(ar.extract sb (sb+m)).toList):=al;have ml:merged.toList.length=na-k+m:=by rw[al'.length_eq,List.length_append,Array.length_toList,Array.length_toList,sx,sy]
  have ew:=C1 (xs:=ar) (sa+k) merged.toList 0 ar (by rw[ml];omega);have ew':(merged.toList.zipIdx.foldl (fun a x=>match x with|(p,j)=>a.setIfInBounds (sa+k+j) p) ar).toList=_:=ew;rw[ew',Nat.add_zero,ml]
  have e5:(ar.extract (sa+k) sb).toList++(ar.extract sb (sb+m)).toList=(ar.toList.drop (sa+k)).take (na-k+m):=by
   rw[iJ,iJ,List.take_add,List.drop_drop];rw[show sb-(sa+k)=na-k by omega,show sb+m-sb=m by omega,show sa+k+(na-k)=sb by omega]
  rw[e5] at al';refine(List.Perm.append_left _ (List.Perm.append_right _ al')).trans ?_;have e7:ar.toList.drop (sa+k+(na-k+m))=(ar.toList.drop (sa+k)).drop (na-k+m):=by rw[List.drop_drop]
  rw[e7,List.take_append_drop,List.take_append_drop]
 refine ax (fun _=>?_) (fun _=>?_)
 .refine wpS_bind (E_ rfl kx ky (by omega) (by omega) fun merged st2 sg al=>?_);obtain⟨k2,a2,p2',g2,f2⟩:=st2;have e1:k2=oneType':=sg.1;have e2:a2=ar:=sg.2.1;have e3:p2'=_:=sg.2.2.1;have e6:f2=none:=sg.2.2.2;subst e1 e2 e3 e6;refine wpS_bind (wpS_modify ?_);refine wpS_bind (wpS_get ?_);exact wpS_pure (h _ ⟨wb merged al,rfl,rfl,rfl⟩)
 .refine wpS_bind (DE rfl kx ky (by omega) (by omega) fun merged st2 sg al=>?_);obtain⟨k2,a2,p2',g2,f2⟩:=st2;have e1:k2=oneType':=sg.1;have e2:a2=ar:=sg.2.1;have e3:p2'=_:=sg.2.2.1;have e6:f2=none:=sg.2.2.2;subst e1 e2 e3 e6;refine wpS_bind (wpS_modify ?_);refine wpS_bind (wpS_get ?_);exact wpS_pure (h _ ⟨wb merged al,rfl,rfl,rfl⟩)
def Cg:List (Nat×Nat×Nat)->Nat->Nat->Prop
 |[],b,e=>b=e
 |u::l,b,e=>u.1=b/\1<=u.2.1/\Cg l (b+u.2.1) e
theorem C6:∀{l:List (Nat×Nat×Nat)} {b e:Nat},Cg l b e->b<=e
 |[],_,_,h=>Nat.le_of_eq h
 |_::_,_,_,⟨_,_,h⟩=>Nat.le_trans (Nat.le_add_right _ _) (C6 h)
theorem Ao:∀{l:List (Nat×Nat×Nat)} {b e i:Nat} {u v:Nat×Nat×Nat},Cg l b e->l[i]?=some u->l[i+1]?=some v->(v.1=u.1+u.2.1/\1<=u.2.1/\1<=v.2.1/\v.1+v.2.1<=e)/\Cg ((l.set i (u.1,u.2.1+v.2.1,u.2.2)).eraseIdx (i+1)) b e
 |[],_,_,_,_,_,_,h,_=>by cases h
 |[_],_,_,0,_,_,_,_,h=>by cases h
 |x::y::l,b,e,0,u,v,⟨h1,h2,h3,h4,h5⟩,hu,hv=>by
  cases hu;cases hv;have:=C6 h5;refine⟨⟨by rw[h3,h1],h2,h4,by rw[h3];exact this⟩,h1,by dsimp only;omega,?_⟩;show Cg l (b+(x.2.1+y.2.1)) e;rw[<-Nat.add_assoc];exact h5
 |x::l,b,e,i+1,u,v,⟨h1,h2,h3⟩,hu,hv=>by
  obtain⟨a,c⟩:=Ao (i:=i) h3 hu hv;exact⟨a,h1,h2,c⟩
theorem y9:∀{l:List (Nat×Nat×Nat)} {b e n q:Nat},Cg l b e->1<=n->Cg (l++[(e,n,q)]) b (e+n)
 |[],_,_,_,_,h,h1=>by cases h;exact⟨rfl,h1,rfl⟩
 |_::_,_,_,_,_,⟨a,c,d⟩,h1=>⟨a,c,y9 d h1⟩
theorem lA{pd:Array (Nat×Nat×Nat)}{e n q:Nat}(h:Cg pd.toList 0 e)(h1:1<=n):Cg (pd.push (e,n,q)).toList 0 (e+n):=by
 rw[Array.toList_push];exact y9 h h1
theorem zZ{f:Nat×Nat×Nat->Nat×Nat×Nat}(hf:∀u,(f u).1=u.1/\(f u).2.1=u.2.1):∀{l:List (Nat×Nat×Nat)} {b e:Nat} (i:Nat),Cg l b e->Cg (l.modify i f) b e
 |[],_,_,i,h=>by rw[List.modify_nil];exact h
 |u::l,b,e,0,⟨h1,h2,h3⟩=>by
  rw[List.modify_zero_cons];refine⟨(hf u).1.trans h1,by rw[(hf u).2];exact h2,by rw[(hf u).2];exact h3⟩
 |u::l,b,e,i+1,⟨h1,h2,h3⟩=>by
  rw[List.modify_succ_cons];exact⟨h1,h2,zZ hf i h3⟩
theorem uN{pd:Array (Nat×Nat×Nat)}{e i:Nat}{f:Nat×Nat×Nat->Nat×Nat×Nat}(h:Cg pd.toList 0 e)(hf:∀u,(f u).1=u.1/\(f u).2.1=u.2.1:=by intro u;exact⟨rfl,rfl⟩):Cg (pd.modify i f).toList 0 e:=by
 rw[Array.toList_modify];exact zZ hf i h
theorem yC{st:SortSt}{i lo:Nat}{Q:Bool->SortSt->Prop}(hP:PB a₀ pd st)(h0:∀x∈a₀,kO x)(hc:Cg pd.toList 0 lo)(hlo:lo<=a₀.size)(hi:i+1<pd.size)(h:∀pd' st',PB a₀ pd' st'->Cg pd'.toList 0 lo->Q true st'):wpS (model prog w) A E s (mergeAt' i) Q st:=by
 obtain⟨⟨sa,na,pw⟩,p1⟩:∃u,pd[i]?=some u:=⟨_,getElem?_pos pd i (by omega)⟩;obtain⟨⟨sb,nb,q⟩,p2⟩:∃u,pd[i+1]?=some u:=⟨_,getElem?_pos pd (i+1) hi⟩;have q1:pd.toList[i]?=some (sa,na,pw):=by rw[Array.getElem?_toList];exact p1
 have q2:pd.toList[i+1]?=some (sb,nb,q):=by rw[Array.getElem?_toList];exact p2
 obtain⟨⟨a1,a2,a3,a4⟩,c⟩:=Ao hc q1 q2;refine Ff hP h0 p1 p2 a1 (by dsimp only at a4;omega) a2 a3 fun st' hP'=>h _ st' hP' ?_;rw[Array.eraseIdxIfInBounds,dif_pos (by rw[Array.size_setIfInBounds];exact hi),Array.toList_eraseIdx,Array.toList_setIfInBounds];exact c
theorem PB.vV{st:SortSt}{u:Nat×Nat×Nat}(h:PB a₀ pd st):PB a₀ (pd.push u) (SortSt.mk' (kindOf st) (arrOf st) ((pendingOf st).push u) (gallopOf st) (failedOf st)):=⟨h.perm,h.kind,h.failed,by show(pendingOf st).push u=_;rw[h.pend]⟩
theorem PB.G0{st:SortSt}{f:Nat×Nat×Nat->Nat×Nat×Nat}(h:PB a₀ pd st):PB a₀ (pd.modify (pd.size-1) f) (SortSt.mk' (kindOf st) (arrOf st) ((pendingOf st).modify ((pendingOf st).size-1) f) (gallopOf st) (failedOf st)):=⟨h.perm,h.kind,h.failed,by show(pendingOf st).modify ((pendingOf st).size-1) f=_;rw[h.pend]⟩
set_option maxHeartbeats 2000000 in
theorem Ds{st:SortSt}{Q:Unit->SortSt->Prop}(hP:PB a₀ #[] st)(h0:∀x∈a₀,kO x)(h:∀st' pd,PB a₀ pd st'->Q () st'):wpS (model prog w) A E s sortRuns' Q st:=by
 unfold sortRuns';refine wpS_bind (wpS_get ?_);have hs:=hP.size;dsimp only[arrOf] at hs;dsimp only;rw[hs];refine wpS_bind (wpS_mono (wpS_forRange (I:=fun _ c st'=>∃pd',PB a₀ pd' st'/\c.1=none/\Cg pd'.toList 0 c.2/\c.2<=a₀.size) (Q:=fun c st'=>∃pd',PB a₀ pd' st'/\c.1=none/\Cg pd'.toList 0 c.2/\c.2<=a₀.size) ?_ (fun c st' q=>q) ⟨#[],hP,rfl,(show Cg [] 0 0 from rfl),Nat.zero_le _⟩) ?_)
 .rintro x ⟨o,lo⟩ st1 _ hx ⟨pd1,hP1,eo,hc,hlo⟩;dsimp only at eo hc hlo ⊢;subst eo;refine ax (fun _=>wpS_pure ⟨pd1,hP1,rfl,hc,hlo⟩) (fun zl=>?_);refine wpS_bind (E3 hP1 h0 (by omega) (by omega) fun m st2 hP2 m1 m2=>?_);dsimp only;refine ax (fun zm=>?_) (fun zm=>?_)
  .refine wpS_bind (wp_rule ?_);refine wpS_bind (Ey hP2 h0 (by omega) fun st2 hP2=>?_);refine ax (fun q=>absurd q (by decide)) (fun _=>?_)
   have hn1:1<=min (a₀.size-lo) (minRun' a₀.size a₀.size 0):=by
    have:m<minRun' a₀.size a₀.size 0:=zm;omega
   refine wpS_bind (wpS_get ?_);cases hb:(pendingOf st2).back? with
   |none =>
    dsimp only;refine wpS_bind (wpS_modify ?_);exact wpS_pure ⟨_,(hP2.vV),rfl,lA hc hn1,by dsimp only;omega⟩
   |some u =>
    obtain⟨s1,n1,q1⟩:=u;dsimp only;refine wpS_bind (wpS_mono (wpS_forRange (I:=fun _ c st'=>c.1=none/\∃pd',PB a₀ pd' st'/\Cg pd'.toList 0 lo) (Q:=fun c st'=>c.1=none/\∃pd',PB a₀ pd' st'/\Cg pd'.toList 0 lo) ?_ (fun c st' q=>q) ⟨rfl,pd1,hP2,hc⟩) ?_)
    .rintro x2 ⟨o2,u2⟩ st3 _ _ ⟨eo2,pd3,hP3,hc3⟩;dsimp only at eo2 ⊢;subst eo2;refine wpS_bind (wpS_get ?_);obtain⟨k3,a3,p3,g3,f3⟩:=st3;dsimp only;have ep:p3=pd3:=hP3.pend;subst ep;by_cases z3:p3.size>1
     .rw[if_pos z3];rw[getElem?_pos p3 (p3.size-2) (by omega)];dsimp only;refine ax (fun _=>wpS_pure ⟨rfl,p3,hP3,hc3⟩) (fun _=>?_);refine wpS_bind (yC hP3 h0 hc3 (by omega) (by omega) fun pd4 st4 hP4 hc4=>?_);exact wpS_pure ⟨rfl,pd4,hP4,hc4⟩
     .rw[if_neg z3];exact wpS_pure ⟨rfl,p3,hP3,hc3⟩
    .rintro⟨o2,u2⟩ st3 ⟨eo2,pd3,hP3,hc3⟩;dsimp only at eo2 ⊢;subst eo2;refine wpS_bind (wpS_modify ?_);refine wpS_bind (wpS_modify ?_);exact wpS_pure ⟨_,hP3.G0.vV,rfl,lA (uN hc3) hn1,by dsimp only;omega⟩
  .have hn1:=m1;refine wpS_bind (wpS_get ?_);cases hb:(pendingOf st2).back? with
   |none =>
    dsimp only;refine wpS_bind (wpS_modify ?_);exact wpS_pure ⟨_,(hP2.vV),rfl,lA hc hn1,by dsimp only;omega⟩
   |some u =>
    obtain⟨s1,n1,q1⟩:=u;dsimp only;refine wpS_bind (wpS_mono (wpS_forRange (I:=fun _ c st'=>c.1=none/\∃pd',PB a₀ pd' st'/\Cg pd'.toList 0 lo) (Q:=fun c st'=>c.1=none/\∃pd',PB a₀ pd' st'/\Cg pd'.toList 0 lo) ?_ (fun c st' q=>q) ⟨rfl,pd1,hP2,hc⟩) ?_)
    .rintro x2 ⟨o2,u2⟩ st3 _ _ ⟨eo2,pd3,hP3,hc3⟩;dsimp only at eo2 ⊢;subst eo2;refine wpS_bind (wpS_get ?_);obtain⟨k3,a3,p3,g3,f3⟩:=st3;dsimp only;have ep:p3=pd3:=hP3.pend;subst ep;by_cases z3:p3.size>1
     .rw[if_pos z3];rw[getElem?_pos p3 (p3.size-2) (by omega)];dsimp only;refine ax (fun _=>wpS_pure ⟨rfl,p3,hP3,hc3⟩) (fun _=>?_);refine wpS_bind (yC hP3 h0 hc3 (by omega) (by omega) fun pd4 st4 hP4 hc4=>?_);exact wpS_pure ⟨rfl,pd4,hP4,hc4⟩
     .rw[if_neg z3];exact wpS_pure ⟨rfl,p3,hP3,hc3⟩
    .rintro⟨o2,u2⟩ st3 ⟨eo2,pd3,hP3,hc3⟩;dsimp only at eo2 ⊢;subst eo2;refine wpS_bind (wpS_modify ?_);refine wpS_bind (wpS_modify ?_);exact wpS_pure ⟨_,hP3.G0.vV,rfl,lA (uN hc3) hn1,by dsimp only;omega⟩
 .rintro⟨o,lo⟩ st1 ⟨pd1,hP1,eo,hc,hlo⟩;dsimp only at eo hc hlo ⊢;subst eo;refine wpS_bind (wpS_mono (wpS_forRange (I:=fun _ c st'=>c.1=none/\∃pd',PB a₀ pd' st'/\Cg pd'.toList 0 lo) (Q:=fun c st'=>c.1=none/\∃pd',PB a₀ pd' st'/\Cg pd'.toList 0 lo) ?_ (fun c st' q=>q) ⟨rfl,pd1,hP1,hc⟩) ?_)
  .rintro x2 ⟨o2,u2⟩ st3 _ _ ⟨eo2,pd3,hP3,hc3⟩;dsimp only at eo2 ⊢;subst eo2;refine wpS_bind (wpS_get ?_);obtain⟨k3,a3,p3,g3,f3⟩:=st3;dsimp only;have ep:p3=pd3:=hP3.pend;subst ep;refine ax (fun _=>wpS_pure ⟨rfl,p3,hP3,hc3⟩) (fun z=>?_);have key:∀(c:Prop) [Decidable c],(if c then p3.size-2-1 else p3.size-2)+1<p3.size:=fun c _=>by split<;>omega
   refine wpS_bind (yC hP3 h0 hc3 (by omega) (key _) fun pd4 st4 hP4 hc4=>?_);exact wpS_pure ⟨rfl,pd4,hP4,hc4⟩
  .rintro⟨o2,u2⟩ st3 ⟨eo2,pd3,hP3,hc3⟩;dsimp only at eo2 ⊢;subst eo2;exact wpS_pure (h _ _ hP3)
end
end L2.Srt
namespace L2.Srt
open PySem PyProof.Rows
section
variable{w:World}{prog:Program}{s:Shared}{E:Value->Shared->Prop}{A:Around}{vs:List Value}{ns:List Int}{a kS:Addr}{keys:Array Value}{e e1:Nat}{P:PySem.Fin->Shared->Prop}
theorem qN:∀{vs:List Value},(∀v∈vs,∃n t,v=Value.int n t)->IntsAre vs (vs.map numOf)
 |[],_=>.nil
 |v::vs,h=>by
  obtain⟨n,t,rfl⟩:=h v (List.mem_cons_self ..);exact .cons n t (qN fun u hu=>h u (List.mem_cons_of_mem _ hu))
theorem w_{us vs:List Value}{ns:List Int}(h:us.Perm vs)(hI:IntsAre vs ns):∃ms,IntsAre us ms/\ms.Perm ns:=by
 refine⟨us.map numOf,qN fun v hv=>hI.all v (h.mem_iff.mp hv),?_⟩;rw[<-hI.nums];exact h.map _
def Kp(a kS:Addr)(h h':Heap):Prop:=∀b o,b≠a->b≠kS->h.get? b=some o->h'.get? b=some o
set_option maxHeartbeats 4000000 in
theorem Eb{st:SortSt}(nk:s.heap.get? kS=some (seqObj "list" keys e))(na:s.heap.get? a=some (seqObj "list" #[] e1))(hka:kS≠a)(hz:keys.size<=1000)(hz2:(arrOf st).size<=1000)(hfl:failedOf st=none)
  (h:∀h' tk c,Kp a kS s.heap h'->h'.get? a=some (seqObj "list" ((arrOf st).map (·.2)) c)->P (.done (.ret .none)) {s with heap:=h',toks:=tk}):wpAny (model prog w) A (ksk_tail a false e1 (.ref kS) st) P E s:=by
 have s1:=Heap.SameBut.update s.heap kS (Obj.mapSeq fun _=>(#[]:Array Value));have na1:(s.heap.update kS (Obj.mapSeq fun _=>(#[]:Array Value))).get? a=some (seqObj "list" #[] e1):=(s1.2 a hka.symm).trans na;have s2:=Heap.SameBut.update (s.heap.update kS (Obj.mapSeq fun _=>(#[]:Array Value))) a (Obj.mapSeq fun _=>(arrOf st).map (·.2));obtain⟨c2,hc2⟩:∃c2,((s.heap.update kS (Obj.mapSeq fun _=>(#[]:Array Value))).update a (Obj.mapSeq fun _=>(arrOf st).map (·.2))).get? a=some (seqObj "list" ((arrOf st).map (·.2)) c2):=⟨_,get?_update_seq na1 fun _=>(arrOf st).map (·.2)⟩;have so:((arrOf st).map (·.2)).size<=1000:=by rw[Array.size_map];exact hz2
 unfold ksk_tail;dsimp only;refine wpAny_bind (listUpdate_at nk rfl ?_ (by rw[sizeLine_eq];omega) (Nat.zero_le _));refine wpAny_bind (wpAny_letGo (wpAny_bind (seqEpoch_at na1 rfl ?_)));refine wpAny_bind (listUpdate_at na1 rfl ?_ (Nat.zero_le _) (by show((arrOf st).map (·.2)).size<=_;rw[sizeLine_eq];omega));rw[hfl];simp only[if_false,Bool.false_eq_true,bne_self_eq_false];refine wpAny_pure (h _ _ c2 (fun b o b1 b2 hb=>?_) hc2);exact(s2.2 b b1).trans ((s1.2 b b2).trans hb)
set_option maxHeartbeats 4000000 in
theorem s_end(nk:s.heap.get? kS=some (seqObj "list" keys e))(na:s.heap.get? a=some (seqObj "list" #[] e1))(hka:kS≠a){kz:List Int}(hk:IntsAre keys.toList kz)(hlen:kz.length=vs.length)(h2:2<=vs.length)(hn:vs.length<=1000)
  (h:∀h' tk out c,Kp a kS s.heap h'->h'.get? a=some (seqObj "list" out c)->out.toList.Perm vs->P (.done (.ret .none)) {s with heap:=h',toks:=tk}):wpAny (model prog w) A (ksk_end a false vs.toArray e1 (.ref kS) keys) P E s:=by
 have hsz:keys.size=vs.length:=by
  have h1:=hk.length;rw[Array.length_toList] at h1;omega
 have hzs:(keys.zip vs.toArray).size=vs.length:=by rw[Array.size_zip,hsz,List.size_toArray,Nat.min_self]
 unfold ksk_end;dsimp only;rw[if_neg (by decide),if_neg (by rw[List.size_toArray];omega),if_neg (by rw[List.size_toArray];omega),ksk_kind hk (by omega)];refine wpAny_bind (wpAny_pure ?_);have h0:∀x∈keys.zip vs.toArray,kO x:=fun x hx=>ksk_intKeys (vs:=vs) hk x (Array.mem_def.mp hx);refine wpAny_bind (wpAny_mono (Ds (a₀:=keys.zip vs.toArray) (st:=SortSt.mk' oneType' (keys.zip vs.toArray) #[] 7 none) (Q:=fun _ st'=>∃pd,PB (keys.zip vs.toArray) pd st') ⟨Array.Perm.refl _,rfl,rfl,rfl⟩ h0 fun st' pd hp=>⟨pd,hp⟩) ?_ fun _ _ z=>z);rintro⟨⟨⟩,st'⟩ s' ⟨rfl,pd,hp⟩;dsimp only;refine Eb nk na hka (by omega) (by rw[hp.size,hzs];exact hn) hp.failed fun h' tk c kp hc=>h h' tk _ c kp hc ?_;have q:=(Array.perm_iff_toList_perm.mp hp.perm).map Prod.snd;rw[Array.toList_map];rw[ksk_zip] at q;have e2:(keys.toList.zip vs).map Prod.snd=vs:=List.map_snd_zip (Nat.le_of_eq (hsz.symm.trans (Array.length_toList (xs:=keys)).symm));rw[e2] at q;exact q
end
end L2.Srt
namespace L2.Srt
open PySem PyProof.Rows
section
variable{w:World}{prog:Program}{s:Shared}{E:Value->Shared->Prop}{A:Around}{vs:List Value}{ns:List Int}{a kS l:Addr}{e e1:Nat}{P:PySem.Fin->Shared->Prop}{Q:Value->Shared->Prop}
def sG(n:Int):Int:=if n<0 then -n else n
theorem Az{us:List Value}{ms:List Int}(h:IntsAre us ms):us.length=ms.length:=h.length
theorem A0{us:List Value}{ms:List Int}{j:Nat}{x:Value}(h:IntsAre us ms)(hx:us[j]?=some x):∃n t,x=Value.int n t/\ms[j]?=some n:=by
 induction h generalizing j with
 |nil=>cases hx
 |cons n t _ ih =>
  cases j with
  |zero=>cases hx;exact⟨n,t,rfl,rfl⟩
  |succ j=>exact ih hx
set_option maxHeartbeats 4000000 in
theorem DZ(nk:s.heap.get? kS=some (seqObj "list" #[] 0))(na:s.heap.get? a=some (seqObj "list" #[] e1))(hka:kS≠a)(hI:IntsAre vs ns)(h2:2<=vs.length)(hn:vs.length<=1000)
  (h:∀h' tk out c,Kp a kS s.heap h'->h'.get? a=some (seqObj "list" out c)->out.toList.Perm vs->P (.done (.ret .none)) {s with heap:=h',toks:=tk}):wpAny (model prog w) A (ksk_rest a (.builtin "abs") false vs.toArray e1 (.ref kS)) P E s:=by
 have hln:=Az hI;unfold ksk_rest;refine wpAny_bind (wpAny_rule ?_);rw[List.forIn_toArray];refine wpAny_bind (ksk_fold (fun i s'=>∃h' tk kA e,s'={s with heap:=h',toks:=tk}/\Kp a kS s.heap h'/\h'.get? kS=some (seqObj "list" kA e)/\h'.get? a=some (seqObj "list" #[] e1)/\IntsAre kA.toList ((ns.map sG).take i)) vs 0 s ⟨s.heap,s.toks,#[],0,rfl,fun _ _ _ _ z=>z,nk,na,IntsAre.nil⟩ ?_ ?_)
 .rintro j x s' hx ⟨h',tk,kA,e,rfl,kp,nk',na',hk⟩;simp only[Nat.zero_add] at hk ⊢;obtain⟨n,t,rfl,hnj⟩:=A0 hI hx;have hj:j<vs.length:=(List.getElem?_eq_some_iff.mp hx).1;have hkj:(ns.map sG)[j]?=some (sG n):=by rw[List.getElem?_map,hnj];rfl
  have hz:kA.size<=1000:=by
   have h1:=hk.length;rw[Array.length_toList,List.length_take] at h1;omega
  refine wpAny_bind (wpAny_attempt (call_abs_int fun u tk'=>?_));dsimp only;have s1:=Heap.SameBut.update h' kS (Obj.mapSeq (·.push (.int (sG n) u)));obtain⟨c2,hc2⟩:∃c2,(h'.update kS (Obj.mapSeq (·.push (.int (sG n) u)))).get? kS=some (seqObj "list" (kA.push (.int (sG n) u)) c2):=⟨_,get?_update_seq nk' (·.push (.int (sG n) u))⟩;have ek:(ns.map sG).take (j+1)=(ns.map sG).take j++[sG n]:=by rw[List.take_add_one,hkj];rfl
  have ea:(kA.push (Value.int (sG n) u)).toList=kA.toList++[Value.int (sG n) u]:=Array.toList_push ..;refine wpAny_bind (listUpdate_at nk' rfl ?_ (by rw[sizeLine_eq];omega) (Nat.le_trans (Nat.le_of_eq (Array.size_push ..)) (by rw[sizeLine_eq];omega)));refine wpAny_pure ⟨rfl,_,_,kA.push (.int (sG n) u),c2,rfl,fun b o b1 b2 hb=>(s1.2 b b2).trans (kp b o b1 b2 hb),hc2,(s1.2 a hka.symm).trans na',by rw[ea,ek];exact ksk_snoc hk⟩
 .rintro s' ⟨h',tk,kA,e,rfl,kp,nk',na',hk⟩
  have hk':IntsAre kA.toList (ns.map sG):=by
   rw[List.take_of_length_le (by rw[List.length_map];omega)] at hk;exact hk
  refine wpAny_bind (listItems_at nk' rfl ?_);exact s_end nk' na' hka hk' (by rw[List.length_map];omega) h2 hn fun h3 tk3 out c kp3 hc3 pm=>h h3 tk3 out c (fun b o b1 b2 hb=>kp3 b o b1 b2 (kp b o b1 b2 hb)) hc3 pm
set_option maxHeartbeats 4000000 in
theorem DB{n:Nat}(ho:s.heap.get? a=some (seqObj "list" vs.toArray n))(hI:IntsAre vs ns)(h2:2<=vs.length)(hn:vs.length<=1000)
  (h:∀h' tk out c,(∀b o,b≠a->s.heap.get? b=some o->h'.get? b=some o)->h'.get? a=some (seqObj "list" out c)->out.toList.Perm vs->P (.done (.ret .none)) {s with heap:=h',toks:=tk}):wpAny (model prog w) A (ksk_tree a (.builtin "abs") false) P E s:=by
 have ha:a<s.heap.objs.size:=Heap.lt_size ho;have s1:=Heap.SameBut.update s.heap a (Obj.mapSeq fun _=>(#[]:Array Value));obtain⟨e1,ho1⟩:∃e1,(s.heap.update a (Obj.mapSeq fun _=>(#[]:Array Value))).get? a=some (seqObj "list" #[] e1):=⟨_,get?_update_seq ho fun _=>#[]⟩;have hkS:((s.heap.update a (Obj.mapSeq fun _=>(#[]:Array Value))).push (seqObj "tuple" vs.toArray 0)).objs.size=s.heap.objs.size+1:=by rw[size_push',Heap.size_update]
 unfold ksk_tree;refine wpAny_bind (listItems_at ho rfl ?_);refine wpAny_bind (listUpdate_at ho rfl ?_ (by rw[List.size_toArray,sizeLine_eq];omega) (Nat.zero_le _));refine wpAny_bind (seqEpoch_at ho1 rfl (wpAny_bind (wpAny_newTuple ?_ (by show vs.length<=_;rw[sizeLine_eq];omega))));refine wpAny_bind (wpAny_newList ?_ (Nat.zero_le _));refine wpAny_holding ?_;refine DZ (s:={s with heap:=((s.heap.update a (Obj.mapSeq fun _=>(#[]:Array Value))).push (seqObj "tuple" vs.toArray 0)).push (seqObj "list" #[] 0)}) (kS:=((s.heap.update a (Obj.mapSeq fun _=>(#[]:Array Value))).push (seqObj "tuple" vs.toArray 0)).objs.size) (Heap.get?_push_size _ rfl) (Heap.get?_push_of_some _ (Heap.get?_push_of_some _ ho1)) (by rw[hkS];exact Nat.ne_of_gt (Nat.lt_succ_of_lt ha)) hI h2 hn ?_;intro h' tk out c kp hc pm;refine h h' tk out c (fun b o b1 hb=>?_) hc pm;have hlt:b<s.heap.objs.size:=Heap.lt_size hb;exact kp b o b1 (by rw[hkS];exact Nat.ne_of_lt (Nat.lt_succ_of_lt hlt)) (Heap.get?_push_of_some _ (Heap.get?_push_of_some _ ((s1.2 b b1).trans hb)))
set_option maxHeartbeats 4000000 in
theorem zb(hl:s.heap.IsList l vs.toArray)(hI:IntsAre vs ns)(h2:2<=vs.length)(hn:vs.length<=1000)
  (h:∀h' tk out c,(∀b o,s.heap.get? b=some o->h'.get? b=some o)->h'.get? (s.heap.objs.size+1)=some (seqObj "list" out c)->out.toList.Perm vs->Q (.ref (s.heap.objs.size+1)) {s with heap:=h',toks:=tk}):wpAny (model prog w) A (call (.builtin "sorted") [.ref l] [(Str.ofString "key",.builtin "abs")]) Q E s:=by
 refine call_function_entry_kw kind_sorted plain_sorted entry_sorted (ksk_s1 _ _) ?_;unfold Builtin.«sorted»;refine wpAny_bind (m:=checkCount "sorted" 1 1 _) (wpAny_pure (wpAny_bind (collect_list hl ?_ (by rw[sizeLine_eq];omega))));refine wpAny_bind (wpAny_newList ?_ (by rw[sizeLine_eq];omega));have hsz:((s.heap.push (seqObj "list" #[] 0)).update s.heap.objs.size (Obj.mapSeq (·++vs.toArray))).objs.size=s.heap.objs.size+1:=by rw[Heap.size_update,size_push']
 have hoL:(((s.heap.push (seqObj "list" #[] 0)).update s.heap.objs.size (Obj.mapSeq (·++vs.toArray))).push (seqObj "list" vs.toArray 0)).get? (s.heap.objs.size+1)=some (seqObj "list" vs.toArray 0):=by rw[<-hsz];exact Heap.get?_push_size _ rfl
 have keep:∀b o,s.heap.get? b=some o->(((s.heap.push (seqObj "list" #[] 0)).update s.heap.objs.size (Obj.mapSeq (·++vs.toArray))).push (seqObj "list" vs.toArray 0)).get? b=some o:=fun b o q=>by
  have hlt:b<s.heap.objs.size:=Heap.lt_size q;rw[Heap.get?_push_ne _ _ _ (by rw[hsz];exact Nat.ne_of_lt (Nat.lt_succ_of_lt hlt)),Heap.get?_update_ne _ _ _ _ (Nat.ne_of_lt hlt),Heap.get?_push_ne _ _ _ (Nat.ne_of_lt hlt)];exact q
 show wpAny _ _ _ _ _ {s with heap:=((s.heap.push (seqObj "list" #[] 0)).update s.heap.objs.size (Obj.mapSeq (·++vs.toArray))).push (seqObj "list" vs.toArray 0)};rw[hsz];refine wpAny_bind (wpAny_holding (wpAny_call_entry_kw slot_list_sort ⟨_,hoL,rfl⟩ entry_list_sort ?_ (ksk_l1 _ _)));rw[ksk_t4];refine DB hoL hI h2 hn fun h' tk out c kp hc pm=>⟨_,rfl,?_⟩;refine wpAny_pure ⟨_,rfl,h h' tk out c (fun b o hb=>kp b o (fun z=>?_) (keep b o hb)) hc pm⟩;have hlt:b<s.heap.objs.size:=Heap.lt_size hb;rw[z] at hlt;exact absurd hlt (Nat.not_lt.mpr (Nat.le_succ _))
end
end L2.Srt
namespace L2.EP
open PySem PySem.Spec PyProof.Rows
section
variable{X:Cx}{Γ:aE}{e:Expr}{b:Bool}{p q kp pos:Pos}{t:TA}
def JP(K:PySem.W.Frag)(xs:List V)(H:Hp)(Q:VK):Prop:=∃p,∃ns:List Int,xs=[.ref p]/\cW K H p (ns.map V.int)/\2<=ns.length/\ns.length<=1000/\∀l (ms:List Int),H l=none->ms.Perm ns->Q (.ref l) (upd H l (.lst (ms.map V.int)))
theorem tf{pins:List (Addr×Obj)}{s:Shared}{σ:St}{H:Hp}{xs:List V}{us:List Value}{Q:VK}(I:Inv X pins σ H s)(r:Vals xs us)(h:JP X.K xs H Q):wpAny (model X.prog X.w) X.A (call (.builtin "sorted") us [(Str.ofString "key",.builtin "abs")]) (EP X pins σ Q) X.xe s:=by
 obtain⟨p,ns,rfl,sq,h2,hn,q⟩:=h;obtain⟨u,rfl,rx⟩:=vals1 r;cases rx;obtain⟨its,rr,pl,_⟩:=I.list sq;have hi:=intsAre_of rr;have hl:its.length=ns.length:=by rw[<-rr.length,List.length_map]
 refine L2.Srt.zb pl.isList hi (by omega) (by omega) fun h' tk out c kp hc pm=>?_;obtain⟨ms,a1,a2⟩:=L2.Srt.w_ pm hi
 have lo:(ms.map V.int).length<=sizeLine:=by
  rw[List.length_map,a2.length_eq];exact Nat.le_trans hn (by decide)
 exact⟨.ref (s.heap.objs.size+1),_,I.laid (t':=tk) (o:=.lst (ms.map V.int)) kp (Nat.le_succ _) ⟨lo,out.toList,c,lh a1,hc⟩,rfl,q _ ms (I.hok.fresh (Nat.le_succ _)) a2⟩
theorem yK(hg:Gl X "sorted")(hm:X.mg "sorted"=none)(hg2:Gl X "abs")(hm2:X.mg "abs"=none)(ha:PA X [e] t)(he:starEach [e] X.env=(false,eval e X.env)::starEach [] X.env:=by rfl):
  PE X (.Call (.Name "sorted" p) [e] [⟨some (Str.ofString "key"),.Name "abs" q,kp⟩] pos) (fun σ H Q=>t σ H fun vs H1=>JP X.K vs H1 Q):=by
 intro pins s σ H Q I h;refine wpAny_Call_Name_kw (dX I hg hm boot_sorted ?_);refine callWith_kw (bV (ha pos pins s σ H _ I h) fun us s1 ⟨vs,H1,I1,r1,q1⟩=>?_) (by rw[he];rfl) (by rw[he];rfl);refine kws_cons (dX I1 hg2 hm2 boot_abs (kws_nil ?_));exact tf I1 r1 q1
theorem Af{ns:List Int}(hg:Gl X "sorted")(hm:X.mg "sorted"=none)(hg2:Gl X "abs")(hm2:X.mg "abs"=none)(ha:E X Γ e b ns)(h2:2<=ns.length)(hn:ns.length<=1000)(hs:starEach [e] X.env=(false,eval e X.env)::starEach [] X.env:=by rfl):
  EX X Γ (.Call (.Name "sorted" p) [e] [⟨some (Str.ofString "key"),.Name "abs" q,kp⟩] pos) true (fun ms:List Int=>ms.Perm ns):=by
 with_unfolding_all
  exact aG (yK hg hm hg2 hm2 (aB ha aV hs) hs) fun σ H Q ⟨H0,F,O,S,q⟩=>⟨H0,F,O,S,fun v H1 s1 r1=>by
    obtain⟨p,vs,e,sq,n,r⟩:=r1;rw[pH r] at sq;refine⟨p,ns,by rw[e],(ao _ _).seq sq,h2,hn,fun l ms hl' pm=>?_⟩;obtain⟨z1,z2⟩:=cI (xs:=ms.map V.int) (S.go s1) hl';refine q ms _ _ pm (s1.trans z1) ⟨l,_,rfl,cW.of z2,Nf.wk (b:=true) ((S.go s1).gW hl') z2,?_⟩;generalize ms=m
    induction m with
    |nil=>exact .nil
    |cons x m ih=>exact .cons rfl ih⟩
end
section
variable{X:Cx}
def IC(K:PySem.W.Frag)(neg:Bool):R2:=fun x y H Q=>∃p xs d ds,y=.ref p/\cW K H p xs/\DR K H x d/\xc K H xs ds/\d.canLay0=true/\PyData.canLayAll0 ds=true/\d.depth<=50/\Q (.bl (if neg then !(ds.any fun e=>PyData.eqv e d) else ds.any fun e=>PyData.eqv e d)) H
theorem r_{h:Heap}:∀{us:List Value} {ds:List PyData} {as:List Addr},ReadsAll h us ds as->PyData.canLayAll0 ds=true->∀u∈us,∃c cs,Reads h u c cs/\c.canLay0=true/\c∈ds
 |_,_,_,.nil,_,u,hu=>by cases hu
 |_,_,_,.cons r rs,hl,u,hu=>by
  rw[PyData.canLayAll0,Bool.and_eq_true] at hl;rcases List.mem_cons.mp hu with rfl|hu
  .exact⟨_,_,r,hl.1,List.mem_cons_self ..⟩
  .obtain⟨c,cs,a,b,m⟩:=r_ rs hl.2 u hu;exact⟨c,cs,a,b,List.mem_cons_of_mem _ m⟩
theorem oZ{h:Heap}{f:Value->Bool}{g:PyData->Bool}:∀{us:List Value} {ds:List PyData} {as:List Addr},ReadsAll h us ds as->PyData.canLayAll0 ds=true->(∀u c cs,Reads h u c cs->c.canLay0=true->f u=g c)->us.any f=ds.any g
 |_,_,_,.nil,_,_=>rfl
 |_,_,_,.cons r rs,hl,k=>by
  rw[PyData.canLayAll0,Bool.and_eq_true] at hl;rw[List.any_cons,List.any_cons,k _ _ _ r hl.1,oZ rs hl.2 k]
noncomputable def eD(h:Heap)(d:PyData)(w:Value):Bool:=open Classical in decide (∃c cs,Reads h w c cs/\c.canLay0=true/\PyData.eqv c d=true)
theorem GN{h:Heap}{d c:PyData}{w:Value}{cs:List Addr}(r:Reads h w c cs)(lc:c.canLay0=true):eD h d w=PyData.eqv c d:=by
 unfold eD;cases z:PyData.eqv c d with
 |true=>exact @decide_eq_true _ (Classical.propDecidable _) ⟨c,cs,r,lc,z⟩
 |false =>
  refine @decide_eq_false _ (Classical.propDecidable _) ?_;rintro⟨c',cs',r',l',z'⟩;have:=SeqAt.Reads.unique c c' w cs cs' lc r r';rw[<-this,z] at z';cases z'
theorem xH(hu:X.A.units+60<cLine){neg:Bool}{op:CmpOp}(ho:op=if neg then .NotIn else .In):iR X (compareOp op) (IC X.K neg):=by
 intro pins s σ H x y v u Q I rx ry h;obtain⟨p,xs,d,ds,rfl,hq,hd,hs,c1,c2,dp,q⟩:=h;cases ry;obtain⟨its,r,pl,hz⟩:=I.list hq;obtain⟨as,ra⟩:=hd.reads I rx;obtain⟨bs,rb⟩:=hs.reads I r;have key:∀w c cs,Reads s.heap w c cs->c.canLay0=true->eD s.heap d w=PyData.eqv c d:=fun w c cs r' lc=>GN r' lc
 have he:∀w,w∈its.toArray->SeqAt.EqAt X.A.in1 s w v (eD s.heap d w):=fun w hw=>by
  obtain⟨c,cs,rc,lc,_⟩:=r_ rb c2 w (by simpa using hw);rw[key w c cs rc lc];refine SeqAt.eqAt_reads c d X.A.in1 s w v cs as rc ra lc c1 ?_;have h1:=Nat.min_le_right c.depth d.depth;have h2:X.A.in1.units=X.A.units+1:=rfl;omega
 have ea:its.toArray.any (eD s.heap d)=ds.any fun e=>PyData.eqv e d:=by
  rw[show its.toArray.any (eD s.heap d)=its.any (eD s.heap d) by simp];exact oZ rb c2 key
 subst ho;cases neg
 .exact SeqAt.in_listAt _ pl.isList he ⟨.bl _,H,I,rfl,by rw[ea];exact q⟩
 .exact SeqAt.notIn_listAt _ pl.isList he ⟨.bl _,H,I,rfl,by rw[ea];exact q⟩
theorem A4{α:Type}[PyD α]{a:α}{as:List α}{c:Bool}(h:c=true↔a∈as):((as.map PyD.dat).any fun e=>PyData.eqv e (PyD.dat a))=c:=by
 rw[Bool.eq_iff_iff,h,List.any_eq_true];constructor
 .rintro⟨x,hx,e⟩;obtain⟨b,hb,rfl⟩:=List.mem_map.mp hx;rw[<-(PyD.eqv b a).mp e];exact hb
 .intro m;exact⟨_,List.mem_map_of_mem m,(PyD.eqv a a).mpr rfl⟩
theorem BC{α:Type}[PyD α]{a:α}{as:List α}{c:Bool}(hu:X.A.units+60<cLine)(hd:PyD.dep α<=50)(h:c=true↔a∈as):CV X .NotIn a as (!c):=⟨_,xH hu (neg:=true) rfl,fun N N' H u v Q h1 h2 q=>by
 obtain⟨p,vs,e,sq,n,r⟩:=h2
 exact⟨p,vs,_,_,e,sq,PyD.dr h1,mG r,PyD.lay a,mU as,Nat.le_trans (PyD.depth a) hd,by rw[A4 h];exact q⟩⟩
end
def Ba{β:Type}[Py β](K:PySem.W.Frag)(b:Bool)(post:β->Prop):Sp:=fun vs H Q _=>∃O,kY H O/\vs=[]/\∀z r H',post z->aD H H'->Py.rp K (Nf H b) (off H' O) r z->Q r H'
section
variable{X:Cx}{Γ:aE}{β:Type}[Py β]{b:Bool}{p pos:Pos}{k:Nat}{name:Str}{ps:List Str}
theorem zK{post:β->Prop}(C:aJ X.prog X.w X.K X.mg X.base k name ps (Ba X.K b post))(hr:cZ k X.A)(hg:Gl X name)(hdb:(name==("__debug__":Str))=false:=by decide):
  EX X Γ (.Call (.Name name p) [] [] pos) b post:=by
 with_unfolding_all
  obtain⟨fa,fd,F,B,kp,m⟩:=C.ex;exact aG (yU F hr hg m kp B .nil kG hdb) fun σ H Q ⟨H0,F,O,S,q⟩=>⟨O,S.own,rfl,fun z r H' hz s' rz=>q z r H' hz s' (S.back rz)⟩
end
section
variable{P:Program}{w:World}{K:PySem.W.Frag}{mg:Str->Option Value}{base:Heap}{N:List Str}{x qual:Str}{st:Stmt}{f:Addr}{fd:FuncData}{k:Nat}{ps:List Str}
theorem Jc{β:Type}[Py β]{b:Bool}{post:β->Prop}(F:sJ K x qual st f fd)(sc:ai N ps (af st))(hl:ps.length=0)(B:Body P w K mg base N qual st f k [] (AH b post)):fj P w K mg base nM (k+1) f fd ps (Ba K b post):=by
 with_unfolding_all
  refine F.ok sc (fun vs H Q E h=>?_) fun cdv A outer s H vs Q E hr h=>?_
  .obtain⟨O,_,rfl,_⟩:=h;rw[hl];rfl
  .obtain⟨O,ho,rfl,q⟩:=h;exact iF B hr ho .nil q
end
def wR{α β γ δ ε:Type}[Py α][Py β][Py γ][Py δ][Py ε](K:PySem.W.Frag)(pre:α->β->γ->δ->Prop)(b:Bool)(post:α->β->γ->δ->ε->Prop):Sp:=fun vs H Q _=>∃O v w x y a c d g,kY H O/\vs=[v,w,x,y]/\Py.rp K .any (off H O) v a/\Py.rp K .any (off H O) w c/\Py.rp K .any (off H O) x d/\Py.rp K .any (off H O) y g/\pre a c d g/\∀z r H',post a c d g z->aD H H'->Py.rp K (Nf H b) (off H' O) r z->Q r H'
section
variable{X:Cx}{Γ:aE}{D:GD}{α β γ δ ε:Type}[Py α][Py β][Py γ][Py δ][Py ε]{e e1 e2 e3 e4:Expr}{b b1 b2 b3 b4:Bool}{p pos:Pos}{rest:List Stmt}{k:Nat}{name:Str}{ps:List Str}
theorem qG{pre:α->β->γ->δ->Prop}{post:α->β->γ->δ->ε->Prop}{a:α}{c:β}{d:γ}{g:δ}(C:aJ X.prog X.w X.K X.mg X.base k name ps (wR X.K pre b post))(hr:cZ k X.A)(hg:Gl X name)(h1:E X Γ e1 b1 a)(h2:E X Γ e2 b2 c)(h3:E X Γ e3 b3 d)(h4:E X Γ e4 b4 g)(hp:pre a c d g)
  (hs1:starEach [e1,e2,e3,e4] X.env=(false,eval e1 X.env)::starEach [e2,e3,e4] X.env:=by rfl) (hs2:starEach [e2,e3,e4] X.env=(false,eval e2 X.env)::starEach [e3,e4] X.env:=by rfl) (hs3:starEach [e3,e4] X.env=(false,eval e3 X.env)::starEach [e4] X.env:=by rfl) (hs4:starEach [e4] X.env=(false,eval e4 X.env)::starEach [] X.env:=by rfl)
  (hdb:(name==("__debug__":Str))=false:=by decide) (hpl:(backTo pos (starEach [e2,e3,e4] X.env)).any (·.1)=false:=by rfl):
  EX X Γ (.Call (.Name name p) [e1,e2,e3,e4] [] pos) b (post a c d g):=by
 with_unfolding_all
  obtain⟨fa,fd,F,B,kp,m⟩:=C.ex
  exact aG (gj F hr hg m kp B .nil kG (aB h1 (aB h2 (aB h3 (aB h4 aV hs4) hs3) hs2) hs1) hdb hs1 hpl) fun σ H Q ⟨H0,F,O,S,q⟩=>⟨H0,F,O,S,fun v1 H1 s1 r1=>⟨H0,F,O,S.go s1,fun v2 H2 s2 r2=>⟨H0,F,O,S.go (s1.trans s2),fun v3 H3 s3 r3=>⟨H0,F,O,S.go (s1.trans (s2.trans s3)),fun v4 H4 s4 r4 =>
   ⟨O,v1,v2,v3,v4,a,c,d,g,(S.go (s1.trans (s2.trans (s3.trans s4)))).own,rfl,bE bQ (ay ((ag s2).trans ((ag s3).trans (ag s4))) r1),bE bQ (ay ((ag s3).trans (ag s4)) r2),bE bQ (ay (ag s4) r3),bE bQ r4,hp,fun z r H' hz s' rz=>q z r H' hz (s1.trans (s2.trans (s3.trans (s4.trans s')))) ((S.go (s1.trans (s2.trans (s3.trans s4)))).back rz)⟩⟩⟩⟩⟩
theorem AX{post:α->Prop}{post':Option α->Prop}(h:EX X Γ e b post)(hp:∀a,post a->post' (some a)):EX X Γ e b post':=by
 with_unfolding_all
  exact aG h fun σ H Q ⟨H0,F,O,S,q⟩=>⟨H0,F,O,S,fun a v H' hz s' r=>q (some a) v H' (hp a hz) s' r⟩
theorem D1{post:Option α->Prop}{post':α->Prop}(h:EX X Γ e b post)(hp:∀o,post o->∃a,o=some a/\post' a):EX X Γ e b post':=by
 with_unfolding_all
  exact aG h fun σ H Q ⟨H0,F,O,S,q⟩=>⟨H0,F,O,S,fun o v H' hz s' r=>by
   obtain⟨a,rfl,ha⟩:=hp o hz
   exact q a v H' ha s' r⟩
theorem pK[PyT α]{xs:List α}{p:Pos}(hg:Gl X "list")(hm:X.mg "list"=none)(ha:E X Γ e b (rN.mk xs))(hs:starEach [e] X.env=(false,eval e X.env)::starEach [] X.env:=by rfl):E X Γ (.Call (.Name "list" p) [e] [] pos) true xs:=by
 with_unfolding_all
  exact aG (oE o6 hg hm PyProof.Rows.boot_list (aB ha aV hs) (he:=hs)) fun σ H Q ⟨H0,F,O,S,q⟩=>⟨H0,F,O,S,fun v H1 s1 r1=>by
    obtain⟨p,vs,e,sq,r⟩:=r1;refine⟨p,vs,by rw[e],.inr (bU (ao _ _) sq).t,fun l hl=>?_⟩;obtain⟨z1,z2⟩:=cI (xs:=vs) (S.go s1) hl
    exact q _ _ (s1.trans z1) ⟨l,vs,rfl,cW.of z2,Nf.wk ((S.go s1).gW hl) z2,bL (fun _ _ z=>PyT.free (fun _ _ t=>aD.rt (ag z1) t) z) r⟩⟩
end
section
variable{P:Program}{w:World}{K:PySem.W.Frag}{mg:Str->Option Value}{base:Heap}{N:List Str}{x qual:Str}{st:Stmt}{f:Addr}{fd:FuncData}{k:Nat}{ps:List Str}
theorem Hn{α β γ δ ε:Type}[Py α][Py β][Py γ][Py δ][Py ε]{pre:α->β->γ->δ->Prop}{b:Bool}{post:α->β->γ->δ->ε->Prop}(F:sJ K x qual st f fd)(sc:ai N ps (af st))(hl:ps.length=4)(B:∀a c d g,pre a c d g->Body P w K mg base N qual st f k [.val false a,.val false c,.val false d,.val false g] (AH b (post a c d g))):
  fj P w K mg base nM (k+1) f fd ps (wR K pre b post):=by
 with_unfolding_all
  refine F.ok sc (fun vs H Q E h=>?_) fun cdv A outer s H vs Q E hr h=>?_
  .obtain⟨O,v,v2,v3,v4,a,c,d,g,_,rfl,_⟩:=h;rw[hl];rfl
  .obtain⟨O,v,v2,v3,v4,a,c,d,g,ho,rfl,r,r2,r3,r4,hp,q⟩:=h;exact iF (B a c d g hp) hr ho (.cons r (.cons r2 (.cons r3 (.cons r4 .nil)))) q
end
section
variable{X:Cx}{Γ:aE}{D:GD}{α β γ δ ε:Type}[Py α][Py β][Py γ][Py δ][Py ε]{e e1 e2 e3 e4:Expr}{b b1 b2 b3 b4:Bool}{p pos:Pos}{rest:List Stmt}{k:Nat}{name:Str}{ps:List Str}
theorem AS{pre:α->β->Prop}{f:α->β->γ}{a:α}{post:β->Prop}(C:aJ X.prog X.w X.K X.mg X.base k name ps (cF X.K pre b f))(hr:cZ k X.A)(hg:Gl X name)(h1:E X Γ e1 b1 a)(h2:EX X Γ e2 b2 post)(hp:∀c,post c->pre a c)
  (hs1:starEach [e1,e2] X.env=(false,eval e1 X.env)::starEach [e2] X.env:=by rfl) (hs2:starEach [e2] X.env=(false,eval e2 X.env)::starEach [] X.env:=by rfl) (hdb:(name==("__debug__":Str))=false:=by decide) (hpl:(backTo pos (starEach [e2] X.env)).any (·.1)=false:=by rfl):
  EX X Γ (.Call (.Name name p) [e1,e2] [] pos) b (fun r=>∃c,post c/\r=f a c):=by
 with_unfolding_all
  obtain⟨fa,fd,F,B,kp,m⟩:=C.ex
  exact aG (gj F hr hg m kp B .nil kG (aB h1 (aB h2 aV hs2) hs1) hdb hs1 hpl) fun σ H Q ⟨H0,F,O,S,q⟩=>⟨H0,F,O,S,fun v1 H1 s1 r1=>⟨H0,F,O,S.go s1,fun c v2 H2 hc s2 r2 =>
   ⟨O,v1,v2,a,c,(S.go (s1.trans s2)).own,rfl,bE bQ (ay (ag s2) r1),bE bQ r2,hp c hc,fun r H' s' rz=>q _ r H' ⟨c,hc,rfl⟩ (s1.trans (s2.trans s')) ((S.go (s1.trans s2)).back rz)⟩⟩⟩
end
end L2.EP
namespace L2.EP.K
open PySem PySem.Spec PyProof.Rows
open Q (fr fd)
def top(i:Nat):Stmt:=PySem.Challenge.pw_everyplace_k64_whole_every_row_can_be.main.body.getD i (.Pass ⟨0,0,0,0⟩)
abbrev gN:Stmt:=top 5
abbrev lW:List Str:=["k"]
theorem rg:ai lW ["k"] (af gN):=⟨rfl,rfl,rfl,by decide +kernel,rfl,by decide +kernel,by decide +kernel⟩
abbrev lG:Stmt:=top 6
abbrev uY:List Str:=["base","exponent","answer","step"]
theorem jm:ai uY ["base","exponent"] (af lG):=⟨rfl,rfl,rfl,by decide +kernel,rfl,by decide +kernel,by decide +kernel⟩
abbrev gO:Stmt:=top 7
abbrev lT:List Str:=["base","exponent","m","answer","square"]
theorem bM:ai lT ["base","exponent","m"] (af gO):=⟨rfl,rfl,rfl,by decide +kernel,rfl,by decide +kernel,by decide +kernel⟩
abbrev fF:Stmt:=top 8
abbrev kC:List Str:=["k","divisor","often","left"]
theorem c9:ai kC ["k","divisor"] (af fF):=⟨rfl,rfl,rfl,by decide +kernel,rfl,by decide +kernel,by decide +kernel⟩
abbrev dM:Stmt:=top 9
abbrev iV:List Str:=["k","root"]
theorem eX:ai iV ["k"] (af dM):=⟨rfl,rfl,rfl,by decide +kernel,rfl,by decide +kernel,by decide +kernel⟩
abbrev bt:Stmt:=top 10
abbrev dz:List Str:=["k","root"]
theorem c7:ai dz ["k"] (af bt):=⟨rfl,rfl,rfl,by decide +kernel,rfl,by decide +kernel,by decide +kernel⟩
abbrev cE:Stmt:=top 12
abbrev fV:List Str:=["a","b","rest"]
theorem bY:ai fV ["a","b"] (af cE):=⟨rfl,rfl,rfl,by decide +kernel,rfl,by decide +kernel,by decide +kernel⟩
abbrev dE:Stmt:=top 13
abbrev i5:List Str:=["top","bottom","divisor"]
theorem ij:ai i5 ["top","bottom"] (af dE):=⟨rfl,rfl,rfl,by decide +kernel,rfl,by decide +kernel,by decide +kernel⟩
abbrev dq:Stmt:=top 17
abbrev g_:List Str:=["k","begin","end","divisor"]
theorem gS:ai g_ ["k","begin","end"] (af dq):=⟨rfl,rfl,rfl,by decide +kernel,rfl,by decide +kernel,by decide +kernel⟩
abbrev gm:Stmt:=top 18
abbrev mN:List Str:=["k"]
theorem qA:ai mN ["k"] (af gm):=⟨rfl,rfl,rfl,by decide +kernel,rfl,by decide +kernel,by decide +kernel⟩
abbrev d8:Stmt:=top 19
abbrev jg:List Str:=["k","answer"]
theorem fL:ai jg ["k"] (af d8):=⟨rfl,rfl,rfl,by decide +kernel,rfl,by decide +kernel,by decide +kernel⟩
abbrev iK:Stmt:=top 20
abbrev oW:List Str:=["k","end","out","found","left","divisor"]
theorem ck:ai oW ["k","end"] (af iK):=⟨rfl,rfl,rfl,by decide +kernel,rfl,by decide +kernel,by decide +kernel⟩
abbrev lD:Stmt:=top 21
abbrev uZ:List Str:=["k","known","last"]
theorem nh:ai uZ ["k"] (af lD):=⟨rfl,rfl,rfl,by decide +kernel,rfl,by decide +kernel,by decide +kernel⟩
abbrev ef:Stmt:=top 22
abbrev jM:List Str:=["k","known","root"]
theorem fO:ai jM ["k"] (af ef):=⟨rfl,rfl,rfl,by decide +kernel,rfl,by decide +kernel,by decide +kernel⟩
abbrev lO:Stmt:=top 23
abbrev vW:List Str:=["u","known","number","root","part"]
theorem ff:ai vW ["u"] (af lO):=⟨rfl,rfl,rfl,by decide +kernel,rfl,by decide +kernel,by decide +kernel⟩
abbrev iG:Stmt:=top 24
abbrev oN:List Str:=["k"]
theorem tR:ai oN ["k"] (af iG):=⟨rfl,rfl,rfl,by decide +kernel,rfl,by decide +kernel,by decide +kernel⟩
abbrev fA:Stmt:=top 26
abbrev ku:List Str:=["k","p","rest"]
theorem jB:ai ku ["k","p"] (af fA):=⟨rfl,rfl,rfl,by decide +kernel,rfl,by decide +kernel,by decide +kernel⟩
abbrev bW:Stmt:=top 27
abbrev fH:List Str:=["p","k"]
theorem cR:ai fH ["p"] (af bW):=⟨rfl,rfl,rfl,by decide +kernel,rfl,by decide +kernel,by decide +kernel⟩
abbrev eO:Stmt:=top 29
abbrev ja:List Str:=["k","p","out","rest"]
theorem cX:ai ja ["k","p"] (af eO):=⟨rfl,rfl,rfl,by decide +kernel,rfl,by decide +kernel,by decide +kernel⟩
abbrev dk:Stmt:=top 30
abbrev g8:List Str:=["k","p"]
theorem k6:ai g8 ["k","p"] (af dk):=⟨rfl,rfl,rfl,by decide +kernel,rfl,by decide +kernel,by decide +kernel⟩
abbrev gb:Stmt:=top 31
abbrev mF:List Str:=["one","other","reasons"]
theorem dN:ai mF ["one","other"] (af gb):=⟨rfl,rfl,rfl,by decide +kernel,rfl,by decide +kernel,by decide +kernel⟩
abbrev gu:Stmt:=top 32
abbrev l4:List Str:=["one","other","p","said"]
theorem dO:ai l4 ["one","other","p"] (af gu):=⟨rfl,rfl,rfl,by decide +kernel,rfl,by decide +kernel,by decide +kernel⟩
abbrev pM:Stmt:=top 33
abbrev y_:List Str:=["a","b","p","one","other"]
theorem pA:ai y_ ["a","b","p"] (af pM):=⟨rfl,rfl,rfl,by decide +kernel,rfl,by decide +kernel,by decide +kernel⟩
abbrev fq:Stmt:=top 34
abbrev kD:List Str:=["numbers","found","k","part"]
theorem eA:ai kD ["numbers"] (af fq):=⟨rfl,rfl,rfl,by decide +kernel,rfl,by decide +kernel,by decide +kernel⟩
abbrev eZ:Stmt:=top 35
abbrev iZ:List Str:=["a","b","one","other"]
theorem h_:ai iZ ["a","b"] (af eZ):=⟨rfl,rfl,rfl,by decide +kernel,rfl,by decide +kernel,by decide +kernel⟩
abbrev cQ:Stmt:=top 38
abbrev gX:List Str:=["k"]
theorem j9:ai gX ["k"] (af cQ):=⟨rfl,rfl,rfl,by decide +kernel,rfl,by decide +kernel,by decide +kernel⟩
abbrev il:Stmt:=top 39
abbrev mE:List Str:=["row"]
theorem xC:ai mE ["row"] (af il):=⟨rfl,rfl,rfl,by decide +kernel,rfl,by decide +kernel,by decide +kernel⟩
abbrev cM:Stmt:=top 40
abbrev gQ:List Str:=["row"]
theorem j5:ai gQ ["row"] (af cM):=⟨rfl,rfl,rfl,by decide +kernel,rfl,by decide +kernel,by decide +kernel⟩
abbrev jq:Stmt:=top 41
abbrev rf:List Str:=["a","b","divisor"]
theorem oP:ai rf ["a","b"] (af jq):=⟨rfl,rfl,rfl,by decide +kernel,rfl,by decide +kernel,by decide +kernel⟩
abbrev c_:Stmt:=top 42
abbrev ik:List Str:=["row","number","k"]
theorem cO:ai ik ["row"] (af c_):=⟨rfl,rfl,rfl,by decide +kernel,rfl,by decide +kernel,by decide +kernel⟩
abbrev eV:Stmt:=top 43
abbrev i_:List Str:=["row"]
theorem rQ:ai i_ ["row"] (af eV):=⟨rfl,rfl,rfl,by decide +kernel,rfl,by decide +kernel,by decide +kernel⟩
abbrev jF:Stmt:=top 44
abbrev p4:List Str:=["row","p","noes","i","a"]
theorem jJ:ai p4 ["row","p"] (af jF):=⟨rfl,rfl,rfl,by decide +kernel,rfl,by decide +kernel,by decide +kernel⟩
abbrev fY:Stmt:=top 45
abbrev jY:List Str:=["row"]
theorem tq:ai jY ["row"] (af fY):=⟨rfl,rfl,rfl,by decide +kernel,rfl,by decide +kernel,by decide +kernel⟩
abbrev d9:Stmt:=top 50
abbrev jP:List Str:=["p","no_square"]
theorem iW:ai jP ["p"] (af d9):=⟨rfl,rfl,rfl,by decide +kernel,rfl,by decide +kernel,by decide +kernel⟩
abbrev bO:Stmt:=top 51
abbrev e8:List Str:=["one","other","p","rest"]
theorem d7:ai e8 ["one","other","p"] (af bO):=⟨rfl,rfl,rfl,by decide +kernel,rfl,by decide +kernel,by decide +kernel⟩
abbrev a8:Stmt:=top 52
abbrev cu:List Str:=["found","p"]
theorem bx:ai cu [] (af a8):=⟨rfl,rfl,rfl,by decide +kernel,rfl,by decide +kernel,by decide +kernel⟩
abbrev dm:Stmt:=top 53
abbrev gA:List Str:=["k","places"]
theorem nU:ai gA ["k","places"] (af dm):=⟨rfl,rfl,rfl,by decide +kernel,rfl,by decide +kernel,by decide +kernel⟩
abbrev bJ:Stmt:=top 54
abbrev dA:List Str:=["k","places","wishes","answer","p","classes","own"]
theorem bX:ai dA ["k","places","wishes"] (af bJ):=⟨rfl,rfl,rfl,by decide +kernel,rfl,by decide +kernel,by decide +kernel⟩
abbrev fI:Stmt:=top 55
abbrev kJ:List Str:=["classes","wishes","own","wish"]
theorem jo:ai kJ ["classes","wishes"] (af fI):=⟨rfl,rfl,rfl,by decide +kernel,rfl,by decide +kernel,by decide +kernel⟩
abbrev cg:Stmt:=top 56
abbrev fc:List Str:=["places","wishes","starts","k","known","further","left","classes"]
theorem bf:ai fc ["places","wishes"] (af cg):=⟨rfl,rfl,rfl,by decide +kernel,rfl,by decide +kernel,by decide +kernel⟩
abbrev iv:Stmt:=top 59
abbrev mQ:List Str:=["wish","below","number","noes"]
theorem iH:ai mQ ["wish"] (af iv):=⟨rfl,rfl,rfl,by decide +kernel,rfl,by decide +kernel,by decide +kernel⟩
abbrev cJ:Stmt:=top 60
abbrev fJ:List Str:=["number","noes","p"]
theorem mH:ai fJ ["number","noes","p"] (af cJ):=⟨rfl,rfl,rfl,by decide +kernel,rfl,by decide +kernel,by decide +kernel⟩
abbrev eN:Stmt:=top 61
abbrev jb:List Str:=["number","noes","wishes","first"]
theorem ic:ai jb ["number","noes"] (af eN):=⟨rfl,rfl,rfl,by decide +kernel,rfl,by decide +kernel,by decide +kernel⟩
abbrev gJ:Stmt:=top 62
abbrev mI:List Str:=["size","signs","number","answer"]
theorem kL:ai mI ["size","signs","number"] (af gJ):=⟨rfl,rfl,rfl,by decide +kernel,rfl,by decide +kernel,by decide +kernel⟩
abbrev b8:Stmt:=top 63
abbrev eW:List Str:=["one","other"]
theorem k8:ai eW ["one","other"] (af b8):=⟨rfl,rfl,rfl,by decide +kernel,rfl,by decide +kernel,by decide +kernel⟩
abbrev fe:Stmt:=top 64
abbrev mO:List Str:=["size","signs","number","noes","first","left","others"]
theorem dS:ai mO ["size","signs","number","noes"] (af fe):=⟨rfl,rfl,rfl,by decide +kernel,rfl,by decide +kernel,by decide +kernel⟩
abbrev ly:Stmt:=top 65
abbrev wj:List Str:=["wish"]
theorem yg:ai wj ["wish"] (af ly):=⟨rfl,rfl,rfl,by decide +kernel,rfl,by decide +kernel,by decide +kernel⟩
abbrev bD:Stmt:=top 67
abbrev dQ:List Str:=["one","other","p"]
theorem dv:ai dQ ["one","other"] (af bD):=⟨rfl,rfl,rfl,by decide +kernel,rfl,by decide +kernel,by decide +kernel⟩
abbrev iB:Stmt:=top 68
abbrev n9:List Str:=["one","other","p"]
theorem l6:ai n9 ["one","other"] (af iB):=⟨rfl,rfl,rfl,by decide +kernel,rfl,by decide +kernel,by decide +kernel⟩
abbrev dF:Stmt:=top 70
abbrev iT:List Str:=["_law_script","_law_k"]
theorem mY:ai iT ["_law_script","_law_k"] (af dF):=⟨rfl,rfl,rfl,by decide +kernel,rfl,by decide +kernel,by decide +kernel⟩
abbrev iI:Stmt:=top 71
abbrev oo:List Str:=["_law_cell","_law_k","_law_number","_law_j","_law_part"]
theorem dC:ai oo ["_law_cell","_law_k"] (af iI):=⟨rfl,rfl,rfl,by decide +kernel,rfl,by decide +kernel,by decide +kernel⟩
abbrev fk:Stmt:=top 72
abbrev km:List Str:=["_law_cell","_law_number","_law_bits","_law_p"]
theorem cz:ai km ["_law_cell"] (af fk):=⟨rfl,rfl,rfl,by decide +kernel,rfl,by decide +kernel,by decide +kernel⟩
abbrev iN:Stmt:=top 73
abbrev oD:List Str:=["_law_cell","_law_size","_law_row_here","_law_rest","_law_k","_law_root_here"]
theorem cT:ai oD ["_law_cell","_law_size"] (af iN):=⟨rfl,rfl,rfl,by decide +kernel,rfl,by decide +kernel,by decide +kernel⟩
abbrev eE:Stmt:=top 74
abbrev jG:List Str:=["_law_a","_law_b","_law_rest"]
theorem dH:ai jG ["_law_a","_law_b"] (af eE):=⟨rfl,rfl,rfl,by decide +kernel,rfl,by decide +kernel,by decide +kernel⟩
abbrev gB:Stmt:=top 75
abbrev nG:List Str:=["_law_k","_law_root_here"]
theorem ie:ai nG ["_law_k"] (af gB):=⟨rfl,rfl,rfl,by decide +kernel,rfl,by decide +kernel,by decide +kernel⟩
abbrev gK:Stmt:=top 76
abbrev l8:List Str:=["_law_number","_law_left","_law_free_here","_law_d","_law_often"]
theorem bh:ai l8 ["_law_number"] (af gK):=⟨rfl,rfl,rfl,by decide +kernel,rfl,by decide +kernel,by decide +kernel⟩
abbrev cw:Stmt:=top 77
abbrev fU:List Str:=["_law_one","_law_other","_law_part"]
theorem fB:ai fU ["_law_one","_law_other"] (af cw):=⟨rfl,rfl,rfl,by decide +kernel,rfl,by decide +kernel,by decide +kernel⟩
abbrev fv:Stmt:=top 78
abbrev kE:List Str:=["_law_k","_law_often","_law_p","_law_found"]
theorem bz:ai kE ["_law_k","_law_often","_law_p"] (af fv):=⟨rfl,rfl,rfl,by decide +kernel,rfl,by decide +kernel,by decide +kernel⟩
abbrev fD:Stmt:=top 79
abbrev kP:List Str:=["_law_k","_law_p","_law_often"]
theorem ez:ai kP ["_law_k","_law_p"] (af fD):=⟨rfl,rfl,rfl,by decide +kernel,rfl,by decide +kernel,by decide +kernel⟩
abbrev gI:Stmt:=top 80
abbrev nq:List Str:=["_law_a","_law_b","_law_p","_law_alpha","_law_u","_law_beta","_law_v","_law_turns"]
theorem bB:ai nq ["_law_a","_law_b","_law_p"] (af gI):=⟨rfl,rfl,rfl,by decide +kernel,rfl,by decide +kernel,by decide +kernel⟩
abbrev gH:Stmt:=top 81
abbrev lX:List Str:=["_law_row_here","_law_places","_law_noes_here","_law_p","_law_many","_law_i","_law_j"]
theorem cf:ai lX ["_law_row_here","_law_places"] (af gH):=⟨rfl,rfl,rfl,by decide +kernel,rfl,by decide +kernel,by decide +kernel⟩
abbrev ou:Stmt:=top 82
abbrev vB:List Str:=["_law_script","_law_k","_law_other","_law_row_here","_law_number","_law_part","_law_signs","_law_noes_here","_law_wish","_law_p","_law_wrong"]
theorem dZ:ai vB ["_law_script"] (af ou):=⟨rfl,rfl,rfl,by decide +kernel,rfl,by decide +kernel,by decide +kernel⟩
section
variable{P:Program}{w:World}{K:PySem.W.Frag}{mg:Str->Option Value}{base:Heap}{f:Addr}{k:Nat}(B:Bu mg)
include B in
theorem t6(x:Int):Body P w K mg base lW "is_whole" gN f kk [.val false x] (RT true true):=by
 intro cdv A outer s H E hr;exact av (zP (EO rfl B.isinstance rfl B.int (aa 0)) fun _=>(qz (CT (D5 rfl B.isinstance rfl B.bool (aa 0))))) rfl
def ya(b e m:Int):Int:=b^e.toNat%m
theorem bq{a m:Int}(h:1<=m):a.fmod m=a%m:=Int.fmod_eq_emod_of_nonneg a (by omega)
theorem vf{A S m:Int}{n:Nat}(h:n%2=1):(A*S%m)*(S*S%m)^(n/2)%m=A*S^n%m:=by
 rw[Int.mul_emod,Int.emod_emod_of_dvd _ (Int.dvd_refl m),Q.fX,<-Int.mul_emod,Int.mul_pow,<-Int.pow_add,Int.mul_assoc];congr 2;have e:S^n=S^(1+(n/2+n/2)):=by congr 1;omega
 rw[e,Int.pow_add S 1,Int.pow_succ,Int.pow_zero,Int.one_mul,Int.pow_add]
theorem qO{A S m:Int}{n:Nat}(h:n%2=0):A*(S*S%m)^(n/2)%m=A*S^n%m:=by
 rw[Int.mul_emod,Q.fX,<-Int.mul_emod,Int.mul_pow,<-Int.pow_add];congr 3;omega
theorem mX{e:Int}(h:0<=e):(e.fdiv 2).toNat=e.toNat/2/\0<=e.fdiv 2:=by
 rw[Int.fdiv_eq_ediv_of_nonneg _ (by decide)];omega
theorem ug(x e m:Int)(he:0<=e)(hm:1<=m)(hm2:m<2^62):Body P w K mg base lT "power_by" gO f kk [.val false x,.val false e,.val false m] (RT true (ya x e m)):=by
 intro cdv A outer s H E hr;refine ah 3 bM.nd (aL ae (aa 2) (by omega)) ?_;refine ah 4 bM.nd (aL (aa 0) (aa 2) (by omega)) ?_;rw[bq hm,bq hm]
 refine b7 (ι:=Bool×Int×Int×Int) (fun i Γ=>Γ=[some (.val false x),some (.val i.1 i.2.1),some (.val false m),some (.val true i.2.2.1),some (.val true i.2.2.2)]/\0<=i.2.1/\i.2.2.1*i.2.2.2^i.2.1.toNat%m=x^e.toNat%m/\0<=i.2.2.1/\i.2.2.1<m/\0<=i.2.2.2/\i.2.2.2<m) (fun i=>i.2.1.toNat) (false,e,1%m,x%m)
  ⟨rfl,he,by dsimp only;rw[Int.mul_emod,Int.emod_emod_of_dvd _ (Int.dvd_refl m),Q.fX,<-Int.mul_emod,Int.one_mul],Int.emod_nonneg _ (by omega),Int.emod_lt_of_pos _ (by omega),Int.emod_nonneg _ (by omega),Int.emod_lt_of_pos _ (by omega)⟩ ?_
 rintro⟨bb,n,a,q⟩ Γ' ⟨rfl,hn,hi,a0,a1,q0,q1⟩;dsimp only at *;refine⟨_,aw dt (aa 1) ae,fun hc=>?_,fun hc=>?_⟩
 .have hpos:0<n:=by simpa using hc
  have hh:=mX hn;have z1:=Int.emod_nonneg (q*q) (show m≠0 by omega);have z2:=Int.emod_lt_of_pos (q*q) (show 0<m by omega);refine aT (aw aA (aL (aa 1) ae (by decide)) ae) (fun hc=>?_) (fun hc=>?_)
  .have ho:n.toNat%2=1:=by
    have:n.fmod 2=1:=by simpa using hc
    rw[bq (by decide)] at this;omega
   refine ah 3 bM.nd (aL (aO (aa 3) (aa 4) (mulL (by omega) (by omega))) (aa 2) (by omega)) (az ?_);refine ah 4 bM.nd (aL (aO (aa 4) (aa 4) (mulL (by omega) (by omega))) (aa 2) (by omega)) ?_;refine ah 1 bM.nd (aP (aa 1) ae lU) ?_;rw[bq hm,bq hm];refine az ⟨(true,n.fdiv 2,a*q%m,q*q%m),⟨rfl,hh.2,?_,Int.emod_nonneg _ (by omega),Int.emod_lt_of_pos _ (by omega),z1,z2⟩,?_⟩
   .dsimp only;rw[hh.1,vf ho,hi]
   .dsimp only;omega
  .have ho:n.toNat%2=0:=by
    have:¬n.fmod 2=1:=by simpa using hc
    rw[bq (by decide)] at this;omega
   refine ah 4 bM.nd (aL (aO (aa 4) (aa 4) (mulL (by omega) (by omega))) (aa 2) (by omega)) ?_;refine ah 1 bM.nd (aP (aa 1) ae lU) ?_;rw[bq hm];refine az ⟨(true,n.fdiv 2,a,q*q%m),⟨rfl,hh.2,?_,a0,a1,z1,z2⟩,?_⟩
   .dsimp only;rw[hh.1,qO ho,hi]
   .dsimp only;omega
 .have hz:n.toNat=0:=by
   have:¬0<n:=by simpa using hc
   omega
  rw[hz,Int.pow_zero,Int.mul_one,Int.emod_eq_of_lt a0 a1] at hi;refine av (aa 3) ?_;show Bd.val _ _=Bd.val _ _;unfold ya;rw[<-hi]
theorem uf{k d l n:Int}(h0:0<=n)(he:k=l*d^n.toNat)(hd:2<=d)(hl:l.fmod d=0)(hz:l≠0):0<=n+1/\k=l.fdiv d*d^(n+1).toNat/\l.fdiv d≠0/\(l.fdiv d).natAbs<l.natAbs:=by
 obtain⟨a,b,c⟩:=Q.rk hd (Q.e9.mp hl) hz;refine⟨by omega,?_,b,c⟩;rw[show(n+1).toNat=n.toNat+1 by omega,Int.pow_succ,he];generalize d^n.toNat=t;generalize l.fdiv d=q at *;rw[<-a];grind
theorem sH(x d:Int)(h0:x≠0)(hd:2<=d)(hs:Sm 9000 d):Body P w K mg base kC "taken_out" fF f kk [.val false x,.val false d] (RT true (Q.a9 x d)):=by
 intro cdv A outer s H E hr;refine ah 2 c9.nd ae ?_;refine ah 3 c9.nd (aa 0) ?_;refine b7 (ι:=Bool×Int×Int) (fun i Γ=>Γ=[some (.val false x),some (.val false d),some (.val true i.2.1),some (.val i.1 i.2.2)]/\0<=i.2.1/\x=i.2.2*d^i.2.1.toNat/\i.2.2≠0) (fun i=>i.2.2.natAbs) (false,0,x) ⟨rfl,Int.le_refl 0,by dsimp only;rw[show(0:Int).toNat=0 from rfl,Int.pow_zero,Int.mul_one],h0⟩ ?_;rintro⟨bb,n,l⟩ Γ' ⟨rfl,hn,he,hl⟩;dsimp only at *;refine⟨_,aw aA (aL (aa 3) (aa 1) (by omega)) ae,fun hc=>?_,fun hc=>?_⟩
 .have hc':l.fmod d=0:=by simpa using hc
  refine ah 3 c9.nd (aP (aa 3) (aa 1) (hs.div (by omega))) ?_;refine ah 2 c9.nd (aX (aa 2) ae) ?_;obtain⟨a1,a2,a3,a4⟩:=uf hn he hd hc' hl;exact az ⟨(true,n+1,l.fdiv d),⟨rfl,a1,a2,a3⟩,a4⟩
 .have hc':¬l.fmod d=0:=by simpa using hc
  refine av (bN (aa 2) (gE (b':=true) (aa 3))) ?_;show Bd.val _ _=Bd.val _ _;rw[Q.hW hd (r:=(n,l)) ⟨hn,he,fun z=>hc' (Q.e9.mpr z)⟩];rfl
theorem Bm{k:Int}(h0:0<=k):k<(2:Int)^((Builtin.Int.intBits k+1)/2)*2^((Builtin.Int.intBits k+1)/2):=by
 have hb:k.natAbs<2^Builtin.Int.intBits k:=by
  unfold Builtin.Int.intBits;by_cases hz:k=0
  .subst hz;decide
  .rw[if_neg (by simpa using hz)];exact Nat.lt_log2_self
 have h2:Builtin.Int.intBits k<=(Builtin.Int.intBits k+1)/2+(Builtin.Int.intBits k+1)/2:=by omega
 have h3:(2:Nat)^Builtin.Int.intBits k<=2^((Builtin.Int.intBits k+1)/2+(Builtin.Int.intBits k+1)/2):=Nat.pow_le_pow_right (by decide) h2;rw[<-Int.pow_add];have h4:((2^((Builtin.Int.intBits k+1)/2+(Builtin.Int.intBits k+1)/2):Nat):Int)=(2:Int)^((Builtin.Int.intBits k+1)/2+(Builtin.Int.intBits k+1)/2):=by rw[Int.natCast_pow];rfl
 rw[<-h4];omega
theorem nZ(x:Int)(h0:0<=x)(hs:Sm 8000 x):Body P w K mg base iV "square_root" dM f k [.val false x] (RT true (Q.rt x)):=by
 intro cdv A outer s H E hr;have hb:Builtin.Int.intBits x<=8000:=hs.bits
 have hj:((Builtin.Int.intBits x:Int)+1).fdiv 2=(((Builtin.Int.intBits x+1)/2:Nat):Int):=by
  rw[Int.fdiv_eq_ediv_of_nonneg _ (by decide)];omega
 refine ah 1 eX.nd (GX ae (aP (aX (EF (aa 0)) ae) ae lU) ⟨by rw[hj];omega,by rw[hj];omega,by decide⟩) ?_;rw[hj,Int.one_mul,Int.toNat_natCast];have hR:=Bm h0
 have hS:Sm 8001 ((2:Int)^((Builtin.Int.intBits x+1)/2)):=by
  unfold Sm;rw[Int.natAbs_pow];exact Nat.pow_lt_pow_right (by decide) (by omega)
 have hp:(0:Int)<2^((Builtin.Int.intBits x+1)/2):=Int.pow_pos (by decide);generalize (2:Int)^((Builtin.Int.intBits x+1)/2)=R at *
 refine b7 (ι:=Int) (fun r Γ=>Γ=[some (.val false x),some (.val true r)]/\0<=r/\r<=R/\x<(r+1)*(r+1)) (fun r=>r.toNat) R ⟨rfl,by omega,by omega,by
  have:R*R<=(R+1)*(R+1):=Q.xW (by omega) (by omega)
  omega⟩ ?_
 rintro r Γ' ⟨rfl,r0,r1,r2⟩;have hSr:Sm 8001 r:=Sm.of_le (by omega) hS;refine⟨_,aw dt (aO (aa 1) (aa 1) (hSr.ok hSr)) (aa 0),fun hc=>?_,fun hc=>?_⟩
 .have hc':x<r*r:=by simpa using hc
  have hpos:0<r:=by
   rcases Int.lt_or_eq_of_le r0 with z|z
   .exact z
   .rw[<-z] at hc';simp at hc';omega
  refine ah 1 eX.nd (aP (aX (aa 1) (aP (aa 0) (aa 1) (hSr.div (by omega)))) ae lU) ?_;obtain⟨n0,n1,n2⟩:=Q.Ah h0 hpos hc';exact az ⟨_,⟨rfl,n0,by omega,n2⟩,by omega⟩
 .have hc':r*r<=x:=by simpa using hc
  refine av (aa 1) ?_;show Bd.val _ _=Bd.val _ _;rw[Q.fZ r0 hc' r2]
def Bn(k:Int):Option Int:=if k<0 then none else if Q.rt k*Q.rt k=k then some (Q.rt k) else none
theorem F8{k:Int}{n:Nat}(h0:0<=k)(hs:Sm n k):Sm n (Q.rt k):=by
 have h1:=Q.ve h0;have h2:=Q.eJ k;refine Sm.of_le ?_ hs
 have:Q.rt k<=k:=by
  rcases Int.lt_or_le (Q.rt k) 1 with z|z
  .omega
  .have:Q.rt k*1<=Q.rt k*Q.rt k:=Int.mul_le_mul_of_nonneg_left z h2;omega
 omega
theorem gY(c_square_root:aJ P w K mg base 1 "square_root" ["k"] (dG K (fun k=>0<=k/\Sm 8000 k) true Q.rt))(x:Int)(hs:Sm 8000 x):Body P w K mg base dz "square_root_or_none" bt f 1 [.val false x] (RT true (Bn x)):=by
 intro cdv A outer s H E hr;refine aT (aw jx (aa 0) ae) (fun hc=>?_) (fun hc=>?_)
 .have e:Bn x=none:=if_pos (by simpa using hc);rw[e];exact av (l_ (α:=Int)) rfl
 have h0:¬x<0:=by simpa using hc
 refine ah 1 c7.nd (aH c_square_root (hr.mono (by decide)) rfl (aa 0) ⟨by omega,hs⟩) ?_;have hS:=F8 (by omega) hs;refine av (g5 (aw aA (aO (aa 1) (aa 1) (hS.ok hS)) (aa 0)) (fun _=>(aa 1).some) fun _=>l_ (α:=Int)) ?_;show Bd.val _ _=Bd.val _ _;congr 1;unfold Bn;rw[if_neg h0];by_cases z:Q.rt x*Q.rt x=x
 .rw[if_pos z,if_pos (by simpa using z)]
 .rw[if_neg z,if_neg (by simpa using z)]
include B in
theorem j8(a b:Int):Body P w K mg base fV "common_divisor" cE f k [.val false a,.val false b] (RT true ((Int.gcd a b:Nat):Int)):=by
 intro cdv A outer s H E hr;refine b7 (ι:=Bool×Bool×Int×Int) (fun i Γ=>∃r,Γ=[some (.val i.1 i.2.2.1),some (.val i.2.1 i.2.2.2),r]/\Int.gcd i.2.2.1 i.2.2.2=Int.gcd a b) (fun i=>i.2.2.2.natAbs) (false,false,a,b) ⟨none,rfl,rfl⟩ ?_;rintro⟨b1,b2,x,y⟩ Γ' ⟨r,rfl,hg⟩;refine⟨_,aw eT (aa 1) ae,fun hc=>?_,fun hc=>?_⟩
 .have hy:y≠0:=by simpa using hc
  refine ah 2 bY.nd (aL (aa 0) (aa 1) hy) ?_;refine ah 0 bY.nd (aa 1) ?_;refine ah 1 bY.nd (aa 2) ?_;exact az ⟨(b2,true,y,x.fmod y),⟨_,rfl,(Q.rG x y).trans hg⟩,Q.vt x y hy⟩
 .have hy:y=0:=by simpa using hc
  refine av (jh rfl B.abs (aa 0)) ?_;dsimp only at hg ⊢;rw[hy,Int.gcd_zero_right] at hg;rw[<-hg];show Bd.val _ _=Bd.val _ _;congr 1;split<;>omega
def JM(_ b:Int):Prop:=b≠0/\Sm 9000 b
theorem ue(c_common_divisor:aJ P w K mg base 1 "common_divisor" ["a","b"] (cF K (fun _ _=>True) true fun a b=>((Int.gcd a b:Nat):Int)))(t b:Int)(hb:b≠0)(hs:Sm 9000 b):
  Body P w K mg base i5 "fraction" dE f 1 [.val false t,.val false b] (RT true (fr t b)):=by
 intro cdv A outer s H E hr;have hn:=Q.Gw (t:=t) hb;have hz:Sm 9000 (fd t b):=Sm.of_le (Q.Gm hb) hs;refine ah 2 ij.nd (aC c_common_divisor hr rfl (aa 0) (aa 1) True.intro) ?_
 have last:∀d:Int,d=fd t b->S (cx P w K mg base i5 "fraction" dE f cdv A outer s H E) [some (.val false t),some (.val false b),some (.val true d)] [(cD dE).getD 2 (.Pass ⟨0,0,0,0⟩)] (RT true (fr t b)):=by
  rintro d rfl;exact av (bN (aP (aa 0) (aa 2) (hz.div hn)) (aP (aa 1) (aa 2) (hz.div hn))) rfl
 refine aT (aw jx (aa 1) ae) (fun hc=>?_) (fun hc=>?_)
 .refine ah 2 ij.nd (iU (aa 2)) (az ?_);exact last _ (by unfold fd;rw[if_pos (by simpa using hc)])
 .exact last _ (by unfold fd;rw[if_neg (by simpa using hc)])
theorem GY{b m:Int}{i:Nat}:i<(Builtin.Range.rangeSize b m 2).toNat↔b+(i:Int)*2<m:=by
 unfold Builtin.Range.rangeSize;simp;split<;>omega
include B in
theorem mL(c_square_root:aJ P w K mg base 1 "square_root" ["k"] (dG K (fun k=>0<=k/\Sm 8000 k) true Q.rt))(x b e:Int)(hp:1<=x/\Sm 8000 x/\1<=b/\b<2^62/\-(2^62)<=e/\e<2^62):
  Body P w K mg base g_ "next_divisor" dq f 1 [.val false x,.val false b,.val false e] (RT true (Q.kq x b e)):=by
 intro cdv A outer s H E hr;obtain⟨h1,h2,h3,h4,h5,h6⟩:=hp;have hrt:=Q.eJ x;have hm:-(2^62)<=(if Q.rt x+1<e then Q.rt x+1 else e)/\(if Q.rt x+1<e then Q.rt x+1 else e)<2^62:=by split<;>omega
 have hv:Q.kq x b e=Q.G8 x b (if Q.rt x+1<e then Q.rt x+1 else e):=rfl;refine ko (fun i Γ=>∃r,Γ=[some (.val false x),some (.val false b),some (.val false e),r]/\∀j:Nat,j<i->¬(b+(j:Int)*2)∣x) rfl B.range (cG 3 gS.nd) (aa 1) (CC rfl rfl B.min (aa 2) (aX (aH c_square_root (hr.mono (by decide)) rfl (aa 0) ⟨by omega,h2⟩) ae)) ae ⟨by omega,h4,hm.1,hm.2⟩ (by decide) ⟨none,rfl,fun j hj=>absurd hj (Nat.not_lt_zero _)⟩ ?_ ?_
 .rintro i Γ' hi ⟨r,rfl,hj⟩;have hi':=GY.mp hi;refine aT (aw aA (aL (aa 0) (aa 3) (by omega)) ae) (fun hc=>?_) (fun hc=>?_)
  .have hd:(b+(i:Int)*2)∣x:=Q.e9.mp (by simpa using hc);refine av (aa 3).some ?_;show Bd.val _ _=Bd.val _ _;rw[hv,<-Q.qr (r:=some (b+(i:Int)*2)) ⟨by omega,hi',by omega,hd,fun d' q1 q2 q3=>?_⟩];have:=hj ((d'-b)/2).toNat (by omega)
   rwa [show b+((((d'-b)/2).toNat:Nat):Int)*2=d' by omega] at this
  .have hd:¬(b+(i:Int)*2)∣x:=fun z=>by
    have:=Q.e9.mpr z;simp[this] at hc
   refine az ⟨_,rfl,fun j hji=>?_⟩;rcases Nat.lt_succ_iff_lt_or_eq.mp hji with z|z
   .exact hj j z
   .rw[z];exact hd
 .rintro Γ' ⟨r,rfl,hj⟩;refine av (l_ (α:=Int)) ?_;show Bd.val _ _=Bd.val _ _;rw[hv,<-Q.qr (r:=none) fun d' q1 q2 q3=>?_];have:=hj ((d'-b)/2).toNat (GY.mpr (by omega))
  rwa [show b+((((d'-b)/2).toNat:Nat):Int)*2=d' by omega] at this
theorem C7(k:Int):k.fmod 2=k%2:=Int.fmod_eq_emod_of_nonneg k (by decide)
theorem uM(c_next_divisor:aJ P w K mg base 2 "next_divisor" ["k","begin","end"] (kH K (fun k b e=>1<=k/\Sm 8000 k/\1<=b/\b<2^62/\-(2^62)<=e/\e<2^62) true Q.kq))(x:Int)(hx:x<2^62):
  Body P w K mg base mN "is_prime" gm f 2 [.val false x] (RT true (Q.aM x)):=by
 intro cdv A outer s H E hr;refine aT (TW.t (mB (aw jx (aa 0) ae) fun _=>(i8 (aw aA (aL (aa 0) ae (by decide)) ae)))) (fun hc=>?_) (fun hc=>?_)
 .have hc':x<3\/x%2=0:=by simpa [C7] using hc
  refine av (cj aA (aa 0) ae) ?_;show Bd.val _ _=Bd.val _ _;congr 1;rw[Bool.eq_iff_iff,Q.bA,decide_eq_true_iff];constructor
  .exact .inl
  .rintro(z|z)<;>omega
 .have hc':3<=x/\x%2=1:=by
   have:¬(x<3\/x%2=0):=by simpa [C7] using hc
   omega
  refine av (HI (bR c_next_divisor (hr.mono (by decide)) rfl (aa 0) ae (aa 0) ⟨by omega,Sm.le (m:=62) (by unfold Sm;omega) (by decide),by decide,by decide,by omega,hx⟩) fun _ _ _ _ h=>nomatch h) ?_;show Bd.val _ _=Bd.val _ _;rw[Q.B4 hc'.1 hc'.2]
def HR(k e:Int):Prop:=1<=k/\Sm 900 k/\0<=e/\e<2^61
theorem Ax:∀{us:List (Int×Int)} {a b:Int},1<=a->Q.fg a us b->(2:Int)^us.length<=Q.pp us
 |[],_,_,_,_=>by show(2:Int)^0<=1;decide
 |u::us,a,b,ha,h=>by
  have h1:=Ax (show 1<=u.1 by have:=h.1;omega) h.2.2.2
  have hu:(2:Int)<=u.1^u.2.toNat:=by
   have e:u.2.toNat=(u.2.toNat-1)+1:=by have:=h.2.2.1;omega
   rw[e,Int.pow_succ];have:(0:Int)<u.1^(u.2.toNat-1):=Int.pow_pos (by have:=h.1;omega);have:=h.1;have:1*2<=u.1^(u.2.toNat-1)*u.1:=Int.mul_le_mul (by omega) (by omega) (by decide) (by omega);omega
  show(2:Int)^(us.length+1)<=u.1^u.2.toNat*Q.pp us;rw[Int.pow_succ,Int.mul_comm];have h0:(0:Int)<2^us.length:=Int.pow_pos (by decide);exact Int.mul_le_mul hu h1 (by omega) (by omega)
theorem ym{k:Int}{fs:List (Int×Int)}{l b:Int}(I:Q.tu k fs l b):l<=k/\(2:Int)^fs.length<=k:=by
 have h1:=I.prod;have h2:=Q.gM (by decide) I.rise;have h3:=I.pos;have h4:=Ax (Int.le_refl 1) I.rise;have h5:1*l<=Q.pp fs*l:=Int.mul_le_mul_of_nonneg_right (by omega) (by omega);have h6:Q.pp fs*1<=Q.pp fs*l:=Int.mul_le_mul_of_nonneg_left (by omega) (by omega);omega
theorem ub{m:Nat}{k:Int}(h:(2:Int)^m<=k)(hs:Sm 900 k):m<=900:=by
 apply Classical.byContradiction;intro hn;unfold Sm at hs;have h1:(2:Nat)^900<=2^m:=Nat.pow_le_pow_right (by decide) (by omega);have h2:((2^m:Nat):Int)=(2:Int)^m:=by rw[Int.natCast_pow];rfl
 omega
set_option maxHeartbeats 0 in
theorem wZ(c_taken_out:aJ P w K mg base 1 "taken_out" ["k","divisor"] (cF K (fun k d=>k≠0/\2<=d/\Sm 9000 d) true Q.a9))(c_next_divisor:aJ P w K mg base 2 "next_divisor" ["k","begin","end"] (kH K (fun k b e=>1<=k/\Sm 8000 k/\1<=b/\b<2^62/\-(2^62)<=e/\e<2^62) true Q.kq))(x e:Int)(hp:HR x e):
  Body P w K mg base oW "divided" iK f 2 [.val false x,.val false e] (RT true (Q.aW x e)):=by
 intro cdv A outer s H E hr;obtain⟨h1,h2,h3,h4⟩:=hp;obtain⟨I0,hle0⟩:=Q.kf h1;have two:Sm 9000 (2:Int):=Sm.le (m:=2) (by unfold Sm;decide) (by decide);refine ah 2 ck.nd (aC c_taken_out (hr.mono (by decide)) rfl (aa 0) ae ⟨by omega,by decide,two⟩) ?_;refine An 3 ck.nd (Hf (aw dt (bT (aa 2)) ae) (fun _=>uE (α:=Int×Int) (aq (bN ae (bT (aa 2))) a7) (Nat.le_of_ble_eq_true rfl)) fun _=>uE (α:=Int×Int) (b:=true) a7 (Nat.le_of_ble_eq_true rfl)) ?_
 have e0:(if decide (0<(Q.a9 x 2).1)=true then [((2:Int),(Q.a9 x 2).1)] else [])=Q.rq x:=by
  unfold Q.rq;by_cases z:0<(Q.a9 x 2).1
  .rw[if_pos z,if_pos (by simpa using z)]
  .rw[if_neg z,if_neg (by simpa using z)]
 rw[e0];refine Cw (α:=Int×Int) 3 true rfl ?_;refine ah 4 ck.nd (bZ (aa 2)) ?_;have sm8:∀l:Int,0<l->l<=x->Sm 8000 l:=fun l a b=>Sm.le (Sm.of_le (by omega) h2) (by decide);have hp0:=I0.pos;refine ah 5 ck.nd (bR c_next_divisor (hr.mono (by decide)) rfl (aa 4) ae (aa 1) ⟨by omega,sm8 _ hp0 hle0,by decide,by decide,by omega,by omega⟩) ?_;refine b7 (ι:=Nat×List (Int×Int)×Int×Int) (fun i Γ=>∃r,Γ=[some (.val false x),some (.val false e),r,some (.own true i.2.1),some (.val true i.2.2.1),some (.val true (Q.kq i.2.2.1 i.2.2.2 e))]/\Q.tu x i.2.1 i.2.2.1 i.2.2.2/\i.2.2.1<=(i.1:Int)/\Q.xa e i.1 i.2.1 i.2.2.1 i.2.2.2=Q.aW x e) (fun i=>i.1) (x.toNat,Q.rq x,(Q.a9 x 2).2,3) ⟨_,rfl,I0,by dsimp only;omega,rfl⟩ ?_;rintro⟨n,fs,l,b⟩ Γ' ⟨r,rfl,I,hn,hd⟩;dsimp only at *;have hl0:=I.pos;have hb3:=I.b3;obtain⟨hlx,hlen⟩:=ym I;cases n with
 |zero=>omega
 |succ n =>
 refine⟨_,Bt (α:=Int) (aa 5) pL,fun hc=>?_,fun hc=>?_⟩
 .cases hnd:Q.kq l b e with
  |none=>rw[hnd] at hc;cases hc
  |some d =>
   obtain⟨d1,d2,d3,d4,d5,d6⟩:=Q.ig (by omega) (by omega) hnd;obtain⟨t1,t2,t3,t4⟩:=Q.s_ (show 2<=d by omega) hl0 d5;refine ah 2 ck.nd (aC c_taken_out (hr.mono (by decide)) rfl (aa 4) (ni (α:=Int) (a:=d) (aa 5)) ⟨by omega,by omega,Sm.le (m:=62) (by unfold Sm;omega) (by decide)⟩) ?_;refine iw 3 rfl (gE (b':=true) (bN (ni (α:=Int) (a:=d) (aa 5)) (bT (aa 2)))) (by have:=ub hlen h2;omega) ?_;refine ah 4 ck.nd (bZ (aa 2)) ?_;refine ah 5 ck.nd (bR c_next_divisor (hr.mono (by decide)) rfl (aa 4) (aX (ni (α:=Int) (a:=d) (aa 5)) ae) (aa 1) ⟨by omega,sm8 _ t1 (by omega),by omega,by omega,by omega,by omega⟩) ?_;refine az ⟨(n,fs++[(d,(Q.a9 l d).1)],(Q.a9 l d).2,d+2),⟨_,rfl,I.step hnd,by dsimp only;omega,?_⟩,by dsimp only;omega⟩;rw[<-hd];show _=Q.xa e (n+1) fs l b;rw[Q.xa,hnd]
 .have hnd:Q.kq l b e=none:=by
   cases hz:Q.kq l b e with
   |none=>rfl
   |some d=>rw[hz] at hc;cases hc
  refine g9 3 rfl ?_;have e2:Q.xa e (n+1) fs l b=(fs,l):=by rw[Q.xa,hnd]
  rw[<-hd,e2];refine av (bN (aa 3) (aa 4)) ?_;rfl
theorem A2(c_divided:aJ P w K mg base 3 "divided" ["k","end"] (cF K HR true Q.aW))(x:Int)(hp:1<=x/\x<2^60):Body P w K mg base uZ "parts" lD f 3 [.val false x] (RT true (Q.kR x)):=by
 intro cdv A outer s H E hr;have hs:Sm 900 x:=Sm.le (m:=60) (by unfold Sm;omega) (by decide);refine ah 1 nh.nd (aC c_divided (hr.mono (by decide)) rfl (aa 0) (aX (aa 0) ae) ⟨hp.1,hs,by omega,by omega⟩) ?_;refine ah 2 nh.nd (g5 (aw dt (bZ (aa 1)) ae) (fun _=>(eR (α:=Int×Int) (aq (bN (bZ (aa 1)) ae) a7) (Nat.le_of_ble_eq_true rfl))) fun _=>(eR (α:=Int×Int) a7 (Nat.le_of_ble_eq_true rfl))) ?_;obtain⟨b,I,_⟩:=Q.iE (e:=x+1) hp.1;obtain⟨_,hlen⟩:=ym I;have hl:=ub hlen hs;refine av (lY (bT (aa 1)) (aa 2) ?_) ?_
 .split
  .show _+1<=1000;omega
  .show _+0<=1000;omega
 .show Bd.val _ _=Bd.val _ _;unfold Q.kR;congr 2;by_cases z:1<(Q.aW x (x+1)).2
  .rw[if_pos z,if_pos (by simpa using z)]
  .rw[if_neg z,if_neg (by simpa using z)]
noncomputable def EE(k:Int):Option (List (Int×Int)×Int) :=
 if 1<(Q.aW k 32768).2/\(Q.aW k 32768).2<1073741824 then some ((Q.aW k 32768).1++[((Q.aW k 32768).2,1)],1) else (Bn (Q.aW k 32768).2).map fun q=>((Q.aW k 32768).1,q)
theorem ph(g_GREAT_PRIMES_FROM:oe mg "GREAT_PRIMES_FROM" 32768)(g_GREAT_FROM:oe mg "GREAT_FROM" 1073741824)(c_divided:aJ P w K mg base 3 "divided" ["k","end"] (cF K HR true Q.aW))(c_square_root_or_none:aJ P w K mg base 2 "square_root_or_none" ["k"] (dG K (fun k=>Sm 8000 k) true Bn))(x:Int)(hp:1<=x/\Sm 900 x):
  Body P w K mg base jM "tame_parts" ef f 3 [.val false x] (RT true (EE x)):=by
 intro cdv A outer s H E hr;refine ah 1 fO.nd (aC c_divided (hr.mono (by decide)) rfl (aa 0) (rP rfl g_GREAT_PRIMES_FROM) ⟨hp.1,hp.2,by decide,by decide⟩) ?_;obtain⟨b,I,_⟩:=Q.iE (e:=32768) hp.1;obtain⟨hle,hlen⟩:=ym I;have hl:=ub hlen hp.2;have hpos:=I.pos;refine aT (vP jx jx ae (bZ (aa 1)) (rP rfl g_GREAT_FROM)) (fun hc=>?_) (fun hc=>?_)
 .have e:EE x=some ((Q.aW x 32768).1++[((Q.aW x 32768).2,1)],1):=if_pos (by simpa using hc);rw[e];exact av (Ac (bN (lY (bT (aa 1)) (eR (α:=Int×Int) (b:=true) (aq (gE (b':=true) (bN (bZ (aa 1)) ae)) a7) (Nat.le_of_ble_eq_true rfl)) (by show _+1<=1000;omega)) ae)) rfl
 have e:EE x=(Bn (Q.aW x 32768).2).map fun q=>((Q.aW x 32768).1,q):=if_neg (by simpa using hc);rw[e];refine ah 2 fO.nd (aH c_square_root_or_none (hr.mono (by decide)) rfl (bZ (aa 1)) (Sm.le (Sm.of_le (by omega) hp.2) (by decide))) ?_;cases ho:Bn (Q.aW x 32768).2 with
 |none=>exact av (g5 (α:=Option (List (Int×Int)×Int)) (x:=none) (y:=none) (q_ (α:=Int) (x:=none) (aa 2) pL) (fun _=>l_ (α:=List (Int×Int)×Int)) fun h=>absurd h (by decide)) rfl
 |some r =>
  refine av (g5 (α:=Option (List (Int×Int)×Int)) (x:=none) (y:=some ((Q.aW x 32768).1,r)) (q_ (α:=Int) (x:=some r) (aa 2) pL) (fun h=>absurd h Bool.false_ne_true) fun _=>Ac (bN (bT (aa 1)) (ni (α:=Int) (a:=r) (aa 2)))) ?_;rfl
def HX(b e:Int):Int:=b^e.toNat
def Jr(b e:Int):Prop:=1<=b/\0<=e/\e<2^62/\Sm 1000 (b^e.toNat)/\Sm 1000 b
theorem sh{b:Int}(hb:1<=b){m n:Nat}(h:m<=n):b^m<=b^n:=by
 obtain⟨d,rfl⟩:∃d,n=m+d:=⟨n-m,by omega⟩;rw[Int.pow_add];exact Q.gG (Int.pow_pos (by omega)) (by have:=Int.pow_pos (n:=b) (m:=d) (by omega);omega)
include B in
theorem By(b e:Int)(hp:Jr b e):Body P w K mg base uY "power" lG f kk [.val false b,.val false e] (RT true (HX b e)):=by
 intro cdv A outer s H E hr;obtain⟨h1,h2,h3,h4,h5⟩:=hp;refine ah 2 jm.nd ae ?_;refine gF (n:=e) (fun i Γ=>∃r,Γ=[some (.val false b),some (.val false e),some (.val true (b^i)),r]) rfl B.range (cG 3 jm.nd) (aa 1) (by omega) h3 ⟨none,by rw[Int.pow_zero];rfl⟩ ?_ ?_
 .rintro i Γ' hi ⟨r,rfl⟩
  have hm:Sm 1000 (b^i):=by
   have:=sh h1 (Nat.le_of_lt hi);have:=Int.pow_pos (n:=b) (m:=i) (by omega);exact Sm.of_le (by omega) h4
  refine ah 2 jm.nd (aO (aa 2) (aa 0) (hm.ok h5)) ?_;exact az ⟨_,by rw[Int.pow_succ];rfl⟩
 .rintro Γ' ⟨r,rfl⟩;exact av (aa 2) rfl
theorem A3{α β:Type}[Py α][Py β](K:PySem.W.Frag)(N:Nn)(H:Hp)(a:α×β):¬Py.rp K N H .non a:=fun⟨_,_,_,e,_⟩=>nomatch e
theorem sG(i:Int):(if i<0 then -i else i)=(i.natAbs:Int):=by split<;>omega
def Ij(u:Int×Int):Prop:=u.1≠0/\1<=u.2/\Sm 400 u.1/\Sm 400 u.2/\Q.Tame (u.1.natAbs*u.2)
theorem yx{k:Int}(hk:1<=k)(ht:Q.Tame k):EE k=some (Q.k5 k):=by
 obtain⟨h1,_,_,_⟩:=Q.uA hk ht;obtain⟨b,I,_⟩:=Q.iE (k:=k) (e:=32768) hk;have hp:=I.pos;unfold EE Q.k5;by_cases z:1<(Q.aW k 32768).2/\(Q.aW k 32768).2<1073741824
 .rw[if_pos z,if_pos z]
 .rw[if_neg z,if_neg z]
  have h2:Q.rt (Q.aW k 32768).2*Q.rt (Q.aW k 32768).2=(Q.aW k 32768).2:=by
   rcases h1 with h1|h1
   .exact absurd h1 z
   .exact h1
  unfold Bn;rw[if_neg (by omega),if_pos h2];rfl
set_option maxHeartbeats 1000000 in
include B in
theorem B5(c_power:aJ P w K mg base 1 "power" ["base","exponent"] (cF K Jr true HX))(c_fraction:aJ P w K mg base 2 "fraction" ["top","bottom"] (cF K JM true fr))(c_tame_parts:aJ P w K mg base 4 "tame_parts" ["k"] (dG K (fun k=>1<=k/\Sm 900 k) true EE))(u:Int×Int)(hp:Ij u):
  Body P w K mg base vW "freed" lO f 4 [.val false u] (RT true (Q.Hu u)):=by
 intro cdv A outer s H E hr;obtain⟨h0,h1,s0,s1,ht⟩:=hp;have s0':Sm 400 (u.1.natAbs:Int):=Sm.of_le (by omega) s0
 have hk:1<=(u.1.natAbs:Int)*u.2:=by
  have:0<(u.1.natAbs:Int)*u.2:=Int.mul_pos (by omega) (by omega);omega
 have sk:Sm 800 ((u.1.natAbs:Int)*u.2):=s0'.mul s1;refine ah 1 ff.nd (aH c_tame_parts (hr.mono (by decide)) rfl (mn (aO (jh rfl B.abs (bT (aa 0))) (bZ (aa 0)) (by rw[sG];exact s0'.ok s1)) (by rw[sG])) ⟨hk,Sm.le sk (by decide)⟩) ?_;rw[yx hk ht];obtain⟨_,⟨b,hri⟩,hR,hprod⟩:=Q.uA hk ht;have hfr:Q.Hu u=(((Q.k5 (u.1.natAbs*u.2)).1.foldl Q.jy (if 0<u.1 then 1 else -1,(Q.k5 (u.1.natAbs*u.2)).2)).1,fr ((Q.k5 (u.1.natAbs*u.2)).1.foldl Q.jy (if 0<u.1 then 1 else -1,(Q.k5 (u.1.natAbs*u.2)).2)).2 u.2):=rfl;rw[hfr];generalize (u.1.natAbs:Int)*u.2=k at *;generalize hT:Q.k5 k=T at *;refine aT (q_ (α:=List (Int×Int)×Int) (x:=some T) (aa 1) A3) (fun hc=>absurd hc (by simp)) (fun hc=>?_);refine ah 2 ff.nd (g5 (aw dt (bT (aa 0)) ae) (fun _=>ae) fun _=>(iU ae)) ?_
 have hsg:(if decide (0<u.1)=true then (1:Int) else -1)=(if 0<u.1 then 1 else -1):=by
  by_cases z:0<u.1
  .rw[if_pos (by simpa using z),if_pos z]
  .rw[if_neg (by simpa using z),if_neg z]
 rw[hsg];have hsg':(if 0<u.1 then (1:Int) else -1)=1\/(if 0<u.1 then (1:Int) else -1)=-1:=by split<;>simp
 generalize (if 0<u.1 then (1:Int) else -1)=sg at *;refine ah 3 ff.nd (bZ (ni (α:=List (Int×Int)×Int) (a:=T) (aa 1))) ?_;have bd:=fun i=>Q.Bw hri hR hsg' i;rw[hprod] at bd
 have hTk:Q.pp T.1<=k:=by
  rw[<-hprod];exact Q.gG (Q.gM (by decide) hri) (by have:=Int.mul_pos hR hR;omega)
 refine kN (fun i Γ=>∃r,Γ=[some (.val false u),some (.val true (some T)),some (.val true ((T.1.take i).foldl Q.jy (sg,T.2)).1),some (.val true ((T.1.take i).foldl Q.jy (sg,T.2)).2),r]) (cG 4 ff.nd) (bG (bT (ni (α:=List (Int×Int)×Int) (a:=T) (aa 1)))) ⟨none,rfl⟩ ?_ ?_
 .rintro i v Γ' hv ⟨r,rfl⟩;obtain⟨b1,b2,b3⟩:=bd i;obtain⟨v1,v2,v3,v4,v5⟩:=Q.BL hri hv;have et:(T.1.take (i+1)).foldl Q.jy (sg,T.2)=Q.jy ((T.1.take i).foldl Q.jy (sg,T.2)) v:=iP hv;rw[et];generalize (T.1.take i).foldl Q.jy (sg,T.2)=c at *;have sn:Sm 800 c.1:=Sm.of_le b1 sk;have sr:Sm 800 c.2:=Sm.of_le (by omega) sk;have sv:Sm 800 v.1:=Sm.of_le (by omega) sk;have sp:Sm 800 (v.1^(v.2/2).toNat):=Sm.of_le (by have:=Int.pow_pos (n:=v.1) (m:=(v.2/2).toNat) (by omega);omega) sk;have ed:v.2.fdiv 2=v.2/2:=Int.fdiv_eq_ediv_of_nonneg _ (by decide)
  have v2b:v.2<2^62:=by
   apply Classical.byContradiction;intro hn
   have g1:(2:Int)^900<=v.1^(v.2/2).toNat:=by
    have a1:(2:Int)^900<=2^(v.2/2).toNat:=sh (by decide) (by omega)
    have a2:∀n:Nat,(2:Int)^n<=v.1^n:=fun n=>by
     induction n with
     |zero=>rw[Int.pow_zero,Int.pow_zero];decide
     |succ n ih =>
      rw[Int.pow_succ,Int.pow_succ];exact Int.mul_le_mul ih v1 (by decide) (Int.le_of_lt (Int.pow_pos (by omega)))
    have:=a2 (v.2/2).toNat;omega
   have g2:(v.1^(v.2/2).toNat).natAbs<2^800:=sp;have g3:((2:Int)^800)<2^900:=by decide +kernel
   have g4:((2^800:Nat):Int)=(2:Int)^800:=by decide +kernel
   omega
  refine fR (fun Γ=>Γ=[some (.val false u),some (.val true (some T)),some (.val true (if v.2%2=1 then c.1*v.1 else c.1)),some (.val true c.2),some (.val true v)]) (aw aA (aL (bZ (aa 4)) ae (by decide)) ae) (fun hc=>?_) (fun hc=>?_) ?_
  .have hc':v.2%2=1:=by simpa [bq] using hc
   rw[if_pos hc'];exact ah 2 ff.nd (aO (aa 2) (bT (aa 4)) (sn.ok sv)) (az rfl)
  .have hc':¬v.2%2=1:=by simpa [bq] using hc
   rw[if_neg hc'];exact az rfl
  rintro Γ' rfl;refine ah 3 ff.nd (aO (aa 3) (aC c_power (hr.mono (by decide)) rfl (bT (aa 4)) (aP (bZ (aa 4)) ae lU) ⟨by omega,by rw[ed];omega,by rw[ed];omega,by rw[ed];exact Sm.le sp (by decide),Sm.le sv (by decide)⟩) (by show IntMulOk c.2 (v.1^(v.2.fdiv 2).toNat);rw[ed];exact sr.ok sp)) ?_;refine az ⟨some (.val true v),?_⟩;unfold Q.jy HX;rw[ed];rfl
 .rintro Γ' ⟨r,rfl⟩;rw[List.take_length];refine av (bN (aa 2) (aC c_fraction (hr.mono (by decide)) rfl (aa 3) (bZ (aa 0)) ⟨by omega,Sm.le s1 (by decide)⟩)) ?_;rfl
noncomputable def dW(k:Int):Int:=(Q.Hu (k,1)).1
def Fh(k:Int):Prop:=k≠0/\Sm 400 k/\Q.Tame k.natAbs
theorem xJ(c_freed:aJ P w K mg base 5 "freed" ["u"] (dG K Ij true Q.Hu))(k:Int)(hp:Fh k):Body P w K mg base oN "free_of" iG f 5 [.val false k] (RT true (dW k)):=by
 intro cdv A outer s H E hr;exact av (bT (aH c_freed (hr.mono (by decide)) rfl (gE (b':=true) (bN (aa 0) ae)) ⟨hp.1,(by show(1:Int)<=1;decide),hp.2.1,Sm.le (m:=2) (by show(1:Int).natAbs<2^2;decide) (by decide),by rw[show((k,(1:Int)).1.natAbs:Int)*(k,(1:Int)).2=(k.natAbs:Int) from Int.mul_one _];exact hp.2.2⟩)) rfl
open Q (gp aM)
theorem o9{k f s:Int}(hk:k≠0)(hl:k.natAbs<1073741824)(hf:gp f)(hs:0<s)(e:k=f*(s*s)):dW k=f:=by
 have t:Q.Tame (k.natAbs*1):=by rw[Int.mul_one];exact Q.vi (by omega) (by omega)
 show(Q.EW k 1).1=f;rw[Q.DM hk (by decide) t hf hs (by rw[Int.mul_one];exact e)]
theorem yo{k:Int}(hk:k≠0)(hl:k.natAbs<1073741824):∃s,gp (dW k)/\0<s/\k=dW k*(s*s):=by
 obtain⟨f,s,h1,h2,h3⟩:=Q.vK _ k hk (Nat.le_refl _);have e:=o9 hk hl h1 h2 h3;rw[e];exact⟨s,h1,h2,h3⟩
theorem tF{k:Int}(hk:k≠0)(hl:k.natAbs<1073741824):dW k≠0/\(dW k).natAbs<=k.natAbs:=by
 obtain⟨s,h1,h2,h3⟩:=yo hk hl;exact⟨h1.1,Q.A7 h2 h3⟩
theorem iX{n:Int}(h0:n≠0)(h:∀q,aM q=true->¬q*q∣n):gp n:=⟨h0,fun d hd z=>by
 obtain⟨q,h1,h2⟩:=Q.eK hd
 exact h q h1 (Int.dvd_trans (Int.mul_dvd_mul h2 h2) z)⟩
def fQ(a b:Int):Int:=a.fdiv ((Int.gcd a b:Nat):Int)*b.fdiv ((Int.gcd a b:Nat):Int)
def AG(a b:Int):Prop:=a≠0/\b≠0/\Sm 400 a/\Sm 400 b
theorem As{a g:Int}(h:g∣a)(ha:a≠0):g≠0/\a.fdiv g≠0/\(a.fdiv g).natAbs<=a.natAbs:=by
 obtain⟨c,rfl⟩:=h;have hg:g≠0:=fun z=>ha (by rw[z,Int.zero_mul]);have hc:c≠0:=fun z=>ha (by rw[z,Int.mul_zero]);rw[Int.mul_fdiv_cancel_left c hg];refine⟨hg,hc,?_⟩;rw[Int.natAbs_mul];exact Nat.le_mul_of_pos_left _ (by omega)
theorem jd{a b:Int}(ha:a≠0)(hb:b≠0):((Int.gcd a b:Nat):Int)≠0/\a.fdiv ((Int.gcd a b:Nat):Int)≠0/\(a.fdiv ((Int.gcd a b:Nat):Int)).natAbs<=a.natAbs/\b.fdiv ((Int.gcd a b:Nat):Int)≠0/\(b.fdiv ((Int.gcd a b:Nat):Int)).natAbs<=b.natAbs:=by
 obtain⟨x1,x2,x3⟩:=As (Int.gcd_dvd_left a b) ha;obtain⟨_,y2,y3⟩:=As (Int.gcd_dvd_right a b) hb;exact⟨x1,x2,x3,y2,y3⟩
theorem F4{m n:Nat}{a b:Int}(ha:a≠0)(hb:b≠0)(sa:Sm m a)(sb:Sm n b):fQ a b≠0/\Sm (m+n) (fQ a b):=by
 obtain⟨_,x2,x3,y2,y3⟩:=jd ha hb;exact⟨Int.mul_ne_zero x2 y2,(Sm.of_le x3 sa).mul (Sm.of_le y3 sb)⟩
theorem zp{n:Nat}{a b:Int}(ha:a≠0)(sa:Sm n a):Sm n ((Int.gcd a b:Nat):Int):=by
 have:Int.gcd a b<=a.natAbs:=Nat.le_of_dvd (by omega) (Int.natAbs_dvd_natAbs.mpr (Int.gcd_dvd_left a b));unfold Sm at *;omega
theorem ye(c_common_divisor:aJ P w K mg base 1 "common_divisor" ["a","b"] (cF K (fun _ _=>True) true fun a b=>((Int.gcd a b:Nat):Int)))(a b:Int)(hp:AG a b):Body P w K mg base rf "joined" jq f 1 [.val false a,.val false b] (RT true (fQ a b)):=by
 intro cdv A outer s H E hr;obtain⟨ha,hb,sa,sb⟩:=hp;obtain⟨g0,x2,x3,y2,y3⟩:=jd ha hb;have sg:=zp (b:=b) ha sa;refine ah 2 oP.nd (aC c_common_divisor (hr.mono (by decide)) rfl (aa 0) (aa 1) True.intro) ?_;exact av (aO (aP (aa 0) (aa 2) (sg.div g0)) (aP (aa 1) (aa 2) (sg.div g0)) ((Sm.of_le x3 sa).ok (Sm.of_le y3 sb))) rfl
noncomputable def kK(row:List Int):Int:=row.foldl (fun n k=>fQ n (dW k)) 1
def FK(row:List Int):Prop:=row.length<=8/\∀k∈row,k≠0/\k.natAbs<1073741824
theorem yp{row:List Int}(h:FK row):∀i,i<=row.length->(row.take i).foldl (fun n k=>fQ n (dW k)) 1≠0/\Sm (1+30*i) ((row.take i).foldl (fun n k=>fQ n (dW k)) 1)
 |0,_=>⟨by show(1:Int)≠0;decide,by show(1:Int).natAbs<2^1;decide⟩
 |i+1,hi=>by
  obtain⟨a,b⟩:=yp h i (by omega);have hg:row[i]?=some row[i]:=List.getElem?_eq_getElem (by omega);have e:(row.take (i+1)).foldl (fun n k=>fQ n (dW k)) 1=fQ ((row.take i).foldl (fun n k=>fQ n (dW k)) 1) (dW row[i]):=iP hg;have hk:=h.2 _ (List.mem_of_getElem? hg);obtain⟨f1,f2⟩:=tF hk.1 hk.2;obtain⟨j1,j2⟩:=F4 a f1 b (show Sm 30 (dW row[i]) by unfold Sm;omega);rw[e];exact⟨j1,j2.le (by omega)⟩
theorem t_{k:Int}(h1:k≠0)(h2:k.natAbs<1073741824):Fh k:=⟨h1,(show Sm 30 k by unfold Sm;omega).le (by decide),Q.vi (by omega) (by omega)⟩
theorem mx(c_joined:aJ P w K mg base 2 "joined" ["a","b"] (cF K AG true fQ))(c_free_of:aJ P w K mg base 6 "free_of" ["k"] (dG K Fh true dW))(row:List Int)(h:FK row):Body P w K mg base ik "free_product" c_ f 6 [.val false row] (RT true (kK row)):=by
 intro cdv A outer s H E hr;have h8:=h.1;refine ah 1 cO.nd ae ?_;refine mJ (b:=false) (fun i Γ=>i<=row.length/\∃r,Γ=[some (.val false row),some (.val true ((row.take i).foldl (fun n k=>fQ n (dW k)) 1)),r]) (cG 2 cO.nd) (aa 0) ⟨Nat.zero_le _,none,rfl⟩ ?_ ?_
 .rintro i k Γ' hk ⟨hi,r,rfl⟩;have hi':i<row.length:=(List.getElem?_eq_some_iff.mp hk).1;obtain⟨a,b⟩:=yp h i hi;have hk':=h.2 _ (List.mem_of_getElem? hk);obtain⟨f1,f2⟩:=tF hk'.1 hk'.2;have e:(row.take (i+1)).foldl (fun n k=>fQ n (dW k)) 1=fQ ((row.take i).foldl (fun n k=>fQ n (dW k)) 1) (dW k):=iP hk;refine ah 1 cO.nd (aC c_joined (hr.mono (by decide)) rfl (aa 1) (aH c_free_of (hr.mono (by decide)) rfl (aa 2) (t_ hk'.1 hk'.2)) ⟨a,f1,b.le (by omega),(show Sm 30 (dW k) by unfold Sm;omega).le (by decide)⟩) ?_;rw[e];exact az ⟨hi',_,rfl⟩
 .rintro Γ' ⟨hi,r,rfl⟩;rw[List.take_length];exact av (aa 1) rfl
theorem qM(c_power_by:aJ P w K mg base 1 "power_by" ["base","exponent","m"] (kH K (fun _ e m=>0<=e/\1<=m/\m<2^62) true ya))(x p:Int)(hp:2<=p)(hp2:p<2^62):Body P w K mg base ku "square_by" fA f 1 [.val false x,.val false p] (RT true (Q.bu x p)):=by
 intro cdv A outer s H E hr;have hh:(p-1).fdiv 2=(p-1)/2:=Int.fdiv_eq_ediv_of_nonneg _ (by decide);refine ah 2 jB.nd (aL (aa 0) (aa 1) (by omega)) ?_;rw[bq (show 1<=p by omega)];refine aT (TW.t (mB (aw aA (aa 2) ae) fun _=>(i8 (aw aA (aa 1) ae)))) (fun hc=>?_) (fun hc=>?_)
 .have hc':x%p=0\/p=2:=by simpa using hc
  have e:Q.bu x p=x%p:=by
   unfold Q.bu;by_cases z:x%p=0
   .rw[if_pos z,z]
   .rcases hc' with w|w
    .exact absurd w z
    .rw[if_neg z,if_pos w];subst w;omega
  rw[e];exact av (aa 2) rfl
 .have hc':¬(x%p=0\/p=2):=by simpa using hc
  refine av (g5 (aw aA (bR c_power_by (hr.mono (by decide)) rfl (aa 2) (aP (eL (aa 1) ae) ae lU) (aa 1) ⟨by rw[hh];omega,by omega,hp2⟩) ae) (fun _=>ae) fun _=>(iU ae)) ?_;show Bd.val _ _=Bd.val _ _;unfold Q.bu ya;rw[if_neg (fun z=>hc' (.inl z)),if_neg (fun z=>hc' (.inr z)),hh];congr 1;by_cases z:(x%p)^((p-1)/2).toNat%p=1
  .rw[if_pos z,if_pos (by simpa using z)]
  .rw[if_neg z,if_neg (by simpa using z)]
theorem jl(c_square_by:aJ P w K mg base 2 "square_by" ["k","p"] (cF K (fun _ p=>2<=p/\p<2^62) true Q.bu))(p:Int)(hn:Q.NR p)(hp:2<=p/\p<2^62):Body P w K mg base fH "least_no_square" bW f 2 [.val false p] (RT true (Q.qu p)):=by
 intro cdv A outer s H E hr;obtain⟨n1,n2,n3⟩:=Q.pO hn;refine ah 1 cR.nd ae ?_;refine b7 (ι:=Int) (fun k Γ=>Γ=[some (.val false p),some (.val true k)]/\2<=k/\k<=Q.qu p) (fun k=>(Q.qu p-k).toNat) 2 ⟨rfl,by decide,n1⟩ ?_;rintro k Γ' ⟨rfl,k2,kn⟩;refine⟨_,aw eT (aC c_square_by (hr.mono (by decide)) rfl (aa 1) (aa 0) hp) (iU ae),fun hc=>?_,fun hc=>?_⟩
 .have hc':Q.bu k p≠-1:=by simpa using hc
  have hne:k≠Q.qu p:=by rintro rfl;exact hc' n2
  exact ah 1 cR.nd (aX (aa 1) ae) (az ⟨k+1,⟨rfl,by omega,by omega⟩,by omega⟩)
 .have hc':Q.bu k p=-1:=by simpa using hc
  have hk:k=Q.qu p:=by
   rcases Int.lt_or_eq_of_le kn with z|z
   .exact absurd hc' (n3 k k2 z)
   .exact z
  rw[<-hk];exact av (aa 1) rfl
theorem uT(c_taken_out:aJ P w K mg base 1 "taken_out" ["k","divisor"] (cF K (fun k d=>k≠0/\2<=d/\Sm 9000 d) true Q.a9))(c_square_by:aJ P w K mg base 2 "square_by" ["k","p"] (cF K (fun _ p=>2<=p/\p<2^62) true Q.bu))(x p:Int)(h0:x≠0)(hp:2<=p)(hp2:p<2^62):Body P w K mg base ja "class_at" eO f 2 [.val false x,.val false p] (RT true (Q.cls x p)):=by
 intro cdv A outer s H E hr;refine aT (aw aA (aa 1) ae) (fun hc=>?_) (fun hc=>?_)
 .exact absurd (show p=0 by simpa using hc) (by omega)
 refine ah 2 cX.nd (aC c_taken_out (hr.mono (by decide)) rfl (aa 0) (aa 1) ⟨h0,hp,Sm.le (m:=62) (by unfold Sm;omega) (by decide)⟩) ?_;refine ah 3 cX.nd (g5 (aw aA (aa 1) ae) (fun _=>(aL (bZ (aa 2)) ae (by decide))) fun _=>(aC c_square_by (hr.mono (by decide)) rfl (bZ (aa 2)) (aa 1) ⟨hp,hp2⟩)) ?_;refine av (bN (aL (bT (aa 2)) ae (by decide)) (aa 3)) ?_;show Bd.val _ _=Bd.val _ _;unfold Q.cls;rw[bq (by decide),bq (by decide)];congr 2;by_cases z:p=2
 .rw[if_pos z,if_pos (by simpa using z)]
 .rw[if_neg z,if_neg (by simpa using z)]
noncomputable def jN(k p:Int):Int⊕(Int×Int):=if p=0 then .inl (if 0<k then 1 else -1) else .inr (Q.cls k p)
theorem qI(c_taken_out:aJ P w K mg base 1 "taken_out" ["k","divisor"] (cF K (fun k d=>k≠0/\2<=d/\Sm 9000 d) true Q.a9))(c_square_by:aJ P w K mg base 2 "square_by" ["k","p"] (cF K (fun _ p=>2<=p/\p<2^62) true Q.bu))(x p:Int)(h0:x≠0)(hp:p=0\/(2<=p/\p<2^62)):Body P w K mg base ja "class_at" eO f 2 [.val false x,.val false p] (RT true (jN x p)):=by
 intro cdv A outer s H E hr;refine aT (aw aA (aa 1) ae) (fun hc=>?_) (fun hc=>?_)
 .have e:jN x p=.inl (if decide (0<x)=true then 1 else -1):=by
   unfold jN;rw[if_pos (by simpa using hc)];congr 1;by_cases z:0<x
   .rw[if_pos z,if_pos (by simpa using z)]
   .rw[if_neg z,if_neg (by simpa using z)]
  rw[e];exact av (xY (β:=Int×Int) (g5 (aw dt (aa 0) ae) (fun _=>ae) fun _=>(iU ae))) rfl
 have hp0:¬p=0:=by simpa using hc
 have hp':2<=p/\p<2^62:=by omega
 refine ah 2 cX.nd (aC c_taken_out (hr.mono (by decide)) rfl (aa 0) (aa 1) ⟨h0,hp'.1,Sm.le (m:=62) (by unfold Sm;omega) (by decide)⟩) ?_;refine ah 3 cX.nd (g5 (aw aA (aa 1) ae) (fun _=>(aL (bZ (aa 2)) ae (by decide))) fun _=>(aC c_square_by (hr.mono (by decide)) rfl (bZ (aa 2)) (aa 1) hp')) ?_;refine av (vM (α:=Int) (bN (aL (bT (aa 2)) ae (by decide)) (aa 3))) ?_;show Bd.val _ _=Bd.val _ _;unfold jN Q.cls;rw[bq (by decide),bq (by decide),if_neg hp0];congr 3;by_cases z:p=2
 .rw[if_pos z,if_pos (by simpa using z)]
 .rw[if_neg z,if_neg (by simpa using z)]
theorem tY(x y:Int×Int):Body P w K mg base mF "two_says" gb f kk [.val false x,.val false y] (RT true (Q.fh x y)):=by
 intro cdv A outer s H E hr;refine ah 2 dN.nd ae ?_;refine fR (fun Γ=>Γ=[some (.val false x),some (.val false y),some (.val true (0+Q.b1 (decide (x.2.fmod 4=3)&&decide (y.2.fmod 4=3))))]) (TW.t (ka (aw aA (aL (bZ (aa 0)) ae (by decide)) ae) fun _=>(jj (aw aA (aL (bZ (aa 1)) ae (by decide)) ae)))) (fun hc=>?_) (fun hc=>?_) ?_
 .exact ah 2 dN.nd (aX (aa 2) ae) (az (by rw[hc];rfl))
 .exact az (by rw[hc];rfl)
 rintro Γ' rfl;refine fR (fun Γ=>Γ=[some (.val false x),some (.val false y),some (.val true (0+Q.b1 (decide (x.2.fmod 4=3)&&decide (y.2.fmod 4=3))+Q.b1 (decide (x.1=1)&&(decide ((3:Int)=y.2) || decide ((5:Int)=y.2)))))]) (TW.t (ka (aw aA (bT (aa 0)) ae) fun _=>(jj (aw yG (bZ (aa 1)) (bN ae ae))))) (fun hc=>?_) (fun hc=>?_) ?_
 .exact ah 2 dN.nd (aX (aa 2) ae) (az (by rw[hc];rfl))
 .exact az (by rw[hc];show [_,_,_]=[_,_,_];simp[Q.b1])
 rintro Γ' rfl;refine fR (fun Γ=>Γ=[some (.val false x),some (.val false y),some (.val true (0+Q.b1 (decide (x.2.fmod 4=3)&&decide (y.2.fmod 4=3))+Q.b1 (decide (x.1=1)&&(decide ((3:Int)=y.2) || decide ((5:Int)=y.2)))+Q.b1 (decide (y.1=1)&&(decide ((3:Int)=x.2) || decide ((5:Int)=x.2)))))]) (TW.t (ka (aw aA (bT (aa 1)) ae) fun _=>(jj (aw yG (bZ (aa 0)) (bN ae ae))))) (fun hc=>?_) (fun hc=>?_) ?_
 .exact ah 2 dN.nd (aX (aa 2) ae) (az (by rw[hc];rfl))
 .exact az (by rw[hc];show [_,_,_]=[_,_,_];simp[Q.b1])
 rintro Γ' rfl;refine av (cj aA (aL (aa 2) ae (by decide)) ae) ?_;show Bd.val _ _=Bd.val _ _;unfold Q.fh;congr 1;rw[bq (by decide),bq (by decide),bq (by decide),Int.zero_add];simp only[eq_comm (a:=(3:Int)),eq_comm (a:=(5:Int))]
theorem oO(x p:Int):-2<=Q.bu x p/\Q.bu x p<=2:=by
 unfold Q.bu
 repeat' split
 all_goals decide
theorem tS(c_square_by:aJ P w K mg base 2 "square_by" ["k","p"] (cF K (fun _ p=>2<=p/\p<2^62) true Q.bu))(x y:Int×Int)(p:Int)(hp:(-2<=x.2/\x.2<=2)/\(-2<=y.2/\y.2<=2)/\2<=p/\p<2^62):Body P w K mg base l4 "odd_says" gu f 2 [.val false x,.val false y,.val false p] (RT true (Q.xj x y p)):=by
 intro cdv A outer s H E hr;obtain⟨hx,hy,hp1,hp2⟩:=hp;have hq:=oO (-1) p;refine ah 3 dO.nd ae ?_;refine fR (fun Γ=>Γ=[some (.val false x),some (.val false y),some (.val false p),some (.val true (1*(if x.1=1 then y.2 else 1)))]) (aw aA (bT (aa 0)) ae) (fun hc=>?_) (fun hc=>?_) ?_
 .exact ah 3 dO.nd (aO (aa 3) (bZ (aa 1)) (mulL (by decide) (by decide))) (az (by rw[if_pos (by simpa using hc)];rfl))
 .exact az (by rw[if_neg (by simpa using hc)];rfl)
 rintro Γ' rfl;refine fR (fun Γ=>Γ=[some (.val false x),some (.val false y),some (.val false p),some (.val true (1*(if x.1=1 then y.2 else 1)*(if y.1=1 then x.2 else 1)))]) (aw aA (bT (aa 1)) ae) (fun hc=>?_) (fun hc=>?_) ?_
 .exact ah 3 dO.nd (aO (aa 3) (bZ (aa 0)) (mulR (by omega) (by omega))) (az (by rw[if_pos (show y.1=1 by simpa using hc)];rfl))
 .exact az (by rw[if_neg (show ¬y.1=1 by simpa using hc),Int.mul_one])
 rintro Γ' rfl;refine fR (fun Γ=>Γ=[some (.val false x),some (.val false y),some (.val false p),some (.val true (1*(if x.1=1 then y.2 else 1)*(if y.1=1 then x.2 else 1)*(if x.1=1/\y.1=1 then Q.bu (-1) p else 1)))]) (TW.t (ka (aw aA (bT (aa 0)) ae) fun _=>(jj (aw aA (bT (aa 1)) ae)))) (fun hc=>?_) (fun hc=>?_) ?_
 .exact ah 3 dO.nd (aO (aa 3) (aC c_square_by (hr.mono (by decide)) rfl (iU ae) (aa 2) ⟨hp1,hp2⟩) (mulR (by omega) (by omega))) (az (by rw[if_pos (show x.1=1/\y.1=1 by simpa using hc)];rfl))
 .exact az (by rw[if_neg (show ¬(x.1=1/\y.1=1) by simpa using hc),Int.mul_one])
 rintro Γ' rfl;refine av (cj aA (aa 3) ae) ?_;show Bd.val _ _=Bd.val _ _;unfold Q.xj;rw[Int.one_mul]
theorem oK(x:Int){p:Int}(h2:p≠2):-2<=(Q.cls x p).2/\(Q.cls x p).2<=2:=by
 unfold Q.cls;dsimp only;rw[if_neg h2];exact oO _ _
theorem DV(c_class_at:aJ P w K mg base 3 "class_at" ["k","p"] (cF K (fun k p=>k≠0/\2<=p/\p<2^62) true Q.cls))(c_two_says:aJ P w K mg base 1 "two_says" ["one","other"] (cF K (fun _ _=>True) true Q.fh))
  (c_odd_says:aJ P w K mg base 3 "odd_says" ["one","other","p"] (kH K (fun x y p=>(-2<=x.2/\x.2<=2)/\(-2<=y.2/\y.2<=2)/\2<=p/\p<2^62) true Q.xj)) (a b p:Int) (ha:a≠0) (hb:b≠0) (hp:p=0\/(2<=p/\p<2^62)):Body P w K mg base y_ "says" pM f 3 [.val false a,.val false b,.val false p] (RT true (Q.aj a b p)):=by
 intro cdv A outer s H E hr;refine aT (aw aA (aa 2) ae) (fun hc=>?_) (fun hc=>?_)
 .have h0:p=0:=by simpa using hc
  have e:Q.aj a b p=(decide (0<a) || decide (0<b)):=if_pos h0;rw[e];exact av (EY (cj dt (aa 0) ae) fun _=>(qz (cj dt (aa 1) ae))) rfl
 have h0:¬p=0:=by simpa using hc
 have hp':2<=p/\p<2^62:=by omega
 refine ah 3 pA.nd (aC c_class_at (hr.mono (by decide)) rfl (aa 0) (aa 2) ⟨ha,hp'⟩) ?_;refine ah 4 pA.nd (aC c_class_at (hr.mono (by decide)) rfl (aa 1) (aa 2) ⟨hb,hp'⟩) ?_;refine av (g5 (aw aA (aa 2) ae) (fun _=>(aC c_two_says (hr.mono (by decide)) rfl (aa 3) (aa 4) True.intro)) fun h2=>(bR c_odd_says (hr.mono (by decide)) rfl (aa 3) (aa 4) (aa 2) ⟨oK a (by simpa using h2),oK b (by simpa using h2),hp'⟩)) ?_;show Bd.val _ _=Bd.val _ _;congr 1;unfold Q.aj;rw[if_neg h0];by_cases z:p=2
 .rw[if_pos z,if_pos (by simpa using z)]
 .rw[if_neg z,if_neg (by simpa using z)]
noncomputable def sj(ns:List Int):List Int:=2::ns.flatMap fun k=>(Q.kR (k.natAbs:Int)).map (·.1)
noncomputable def o_(ns:List Int):List Int:=sset (sj ns)
structure EZ(ns:List Int):Prop where
 len:ns.length<=100
 FJ:∀k∈ns,1<=(k.natAbs:Int)/\(k.natAbs:Int)<2^60
 few:(sj ns).length<64
theorem wm{ns:List Int}{i:Nat}{k:Int}(h:ns[i]?=some k):sj (ns.take (i+1))=sj (ns.take i)++(Q.kR (k.natAbs:Int)).map (·.1):=by
 unfold sj;rw[List.take_succ,h];simp[List.flatMap_append]
theorem Ec{ns:List Int}(i:Nat):(sj (ns.take i)).length<=(sj ns).length:=by
 unfold sj
 have:ns.flatMap (fun k=>(Q.kR (k.natAbs:Int)).map (·.1))=(ns.take i).flatMap (fun k=>(Q.kR (k.natAbs:Int)).map (·.1))++(ns.drop i).flatMap (fun k=>(Q.kR (k.natAbs:Int)).map (·.1)):=by
  rw[<-List.flatMap_append,List.take_append_drop]
 rw[this];simp
theorem uR(x:Int):(if x<0 then -x else x)=(x.natAbs:Int):=by split<;>omega
include B in
theorem rT(c_parts:aJ P w K mg base 4 "parts" ["k"] (dG K (fun k=>1<=k/\k<2^60) true Q.kR))(ns:List Int)(h:EZ ns):Body P w K mg base kD "primes_of" fq f 4 [.val false ns] (RT true (o_ ns)):=by
 intro cdv A outer s H E hr;have few:=h.few;refine An 1 eA.nd (uE (aq ae a7) (by simp)) ?_;refine Cw 1 true rfl ?_;refine mJ (fun i Γ=>∃r2 r3,Γ=[some (.val false ns),some (.own true (sj (ns.take i))),r2,r3]) (cG 2 eA.nd) (aa 0) ⟨none,none,rfl⟩ ?_ ?_
 .rintro i k Γ' hk ⟨r2,r3,rfl⟩;obtain⟨k1,k2⟩:=h.FJ k (List.mem_of_getElem? hk);rw[wm hk];have le1:=Ec (ns:=ns) (i+1);rw[wm hk,List.length_append,List.length_map] at le1;generalize hp:Q.kR (k.natAbs:Int)=pr at *;refine kN (as:=pr) (b:=true) (fun j Γ=>∃r3,Γ=[some (.val false ns),some (.own true (sj (ns.take i)++(pr.take j).map (·.1))),some (.val false k),r3]) (cG 3 eA.nd) (bG (mn (aH c_parts (hr.mono (by decide)) rfl (jh rfl B.abs (aa 2)) (by rw[uR];exact⟨k1,k2⟩)) (by rw[uR];exact hp))) ⟨r3,by simp⟩ ?_ ?_
  .rintro j u Γ' hu ⟨r3,rfl⟩;refine iw 1 rfl (gE (b':=true) (bT (aa 3))) ?_ (az ⟨some (.val true u),?_⟩)
   .have:(pr.take j).length<=pr.length:=by rw[List.length_take];omega
    rw[List.length_append,List.length_map];omega
   .rw[List.take_succ,hu];simp
  .rintro Γ' ⟨r3,rfl⟩;rw[List.take_length];exact az ⟨_,_,rfl⟩
 .rintro Γ' ⟨r2,r3,rfl⟩;rw[List.take_length];refine g9 1 rfl ?_;exact av (xk rfl rfl B.sorted rfl B.set (aa 1) few) rfl
noncomputable def JH(x y:Int):List Int:=((0:Int)::o_ [x,y]).filter fun p=>!(Q.aj x y p)
noncomputable def D2(a b:Int):List Int:=JH (dW a) (dW b)
structure HF(a b:Int):Prop where
 fa:Fh a
 fb:Fh b
 po:EZ [dW a,dW b]
 na:dW a≠0
 nb:dW b≠0
 pl:∀p∈o_ [dW a,dW b],2<=p/\p<2^62
theorem xV(ns:List Int):(sset ns).length<=ns.length:=by
 unfold sset
 induction ns with
 |nil=>exact Nat.le_refl _
 |cons x ns ih =>
  have:∀l:List Int,(fN x l).length<=l.length+1:=fun l=>by
   induction l with
   |nil=>simp[fN]
   |cons y l ih =>
    unfold fN;split
    .simp
    .split
     .simp
     .simp only[List.length_cons];omega
  have h2:=this (ns.foldr fN []);show(fN x (ns.foldr fN [])).length<=ns.length+1;omega
include B in
theorem tJ(c_free_of:aJ P w K mg base 6 "free_of" ["k"] (dG K Fh true dW))(c_says:aJ P w K mg base 4 "says" ["a","b","p"] (kH K (fun a b p=>a≠0/\b≠0/\(p=0\/(2<=p/\p<2^62))) true Q.aj))(c_primes_of:aJ P w K mg base 5 "primes_of" ["numbers"] (dG K EZ true o_))(a b:Int)(h:HF a b):
  Body P w K mg base iZ "all_noes" eZ f 6 [.val false a,.val false b] (RT true (D2 a b)):=by
 intro cdv A outer s H E hr;obtain⟨fa,fb,po,na,nb,pl⟩:=h;refine ah 2 h_.nd (aH c_free_of (hr.mono (by decide)) rfl (aa 0) fa) ?_;refine ah 3 h_.nd (aH c_free_of (hr.mono (by decide)) rfl (aa 1) fb) ?_;unfold D2;generalize dW a=x at *;generalize dW b=y at *;have lp:(o_ [x,y]).length<64:=Nat.lt_of_le_of_lt (xV _) po.few
 have hq:∀q∈[(0:Int)]++o_ [x,y],q=0\/(2<=q/\q<2^62):=fun q hq=>by
  rcases List.mem_append.mp hq with z|z
  .exact .inl (List.mem_singleton.mp z)
  .exact .inr (pl q z)
 refine av (d_ (f:=fun q:Int=>q) (p:=fun q=>!(Q.aj x y q)) (b':=true) ["p"] [2,3] (cS (af eZ) iZ rfl rfl (by decide +kernel)) (bG (lY (eR (aq ae a7) (by simp)) (aH c_primes_of (hr.mono (by decide)) rfl (eR (aq (aa 2) (aq (aa 3) a7)) (by simp)) po) (by simp;omega))) (bH 0) (fun C s H fp=>eU 0 ["p","one","other"]) bp (fun i q hi C s H fp=>hV (kI (gR (bR c_says (hr.mono (by decide)) rfl (aa 1) (aa 2) (aa 0) ⟨na,nb,hq q (List.mem_of_getElem? hi)⟩)))) (fun i q hi _ C s H fp=>gE (b':=true) (aa 0)) (by simp;omega)) ?_;show Bd.val _ _=Bd.val _ _;congr 1;rw[List.map_id'];rfl
def Dd(k:Int):Bool:=decide (k≠0/\k.natAbs<1073741824)
include B in
theorem kZ(g_GREAT_FROM:oe mg "GREAT_FROM" 1073741824)(c_is_whole:aJ P w K mg base 1 "is_whole" ["k"] (dG K (fun(_:Int)=>True) true (fun _=>true)))(x:Int):Body P w K mg base gX "is_row_number" cQ f 1 [.val false x] (RT true (Dd x)):=by
 intro cdv A outer s H E hr;refine av (zP (aH c_is_whole (hr.mono (by decide)) rfl (aa 0) True.intro) fun _=>(zP (cj eT (aa 0) ae) fun _=>(qz (cj jx (jh rfl B.abs (aa 0)) (rP rfl g_GREAT_FROM))))) ?_;show Bd.val _ _=Bd.val _ _;congr 1;unfold Dd;rw[Bool.eq_iff_iff,decide_eq_true_iff];simp;intro _;split<;>omega
def cK(xs:List Int):Bool:=decide (1<=xs.length/\xs.length<=8)&&xs.all Dd
theorem jX{xs:List Int}(h:cK xs=true):1<=xs.length/\xs.length<=8:=by
 unfold cK at h;have:=(Bool.and_eq_true_iff.mp h).1;simpa using this
theorem xl{xs:List Int}(h:cK xs=true){x:Int}(hx:x∈xs):x≠0/\x.natAbs<1073741824:=by
 unfold cK at h;have:=List.all_eq_true.mp (Bool.and_eq_true_iff.mp h).2 x hx;unfold Dd at this;simpa using this
include B in
theorem yk(g_LONGEST:oe mg "LONGEST" 8)(c_is_row_number:aJ P w K mg base 2 "is_row_number" ["k"] (dG K (fun(_:Int)=>True) true Dd))(xs:List Int)(hl:xs.length<=1000):Body P w K mg base mE "is_row" il f 2 [.val false xs] (RT true (cK xs)):=by
 intro cdv A outer s H E hr;refine aT (TW.t (mB (kI (gR (Eg rfl B.isinstance rfl B.list (aa 0)))) fun _=>(i8 (kI (vP yu yu ae (cH rfl B.len (aa 0)) (rP rfl g_LONGEST)))))) (fun hc=>?_) (fun hc=>?_)
 .have hc':¬(1<=xs.length/\xs.length<=8):=by
   simp at hc;omega
  have e:cK xs=false:=by unfold cK;rw[decide_eq_false hc'];rfl
  rw[e];exact av td rfl
 .have hc':1<=xs.length/\xs.length<=8:=by
   simp at hc;omega
  refine av (F_ rfl rfl B.all (lS (f:=Dd) ["k"] [] (cS (af il) mE rfl rfl (by decide +kernel)) (bG (aa 0)) (bH 0) (fun C s H fp=>eU 0 ["k"]) bp (fun i u hu C s H fp=>aH c_is_row_number (hr.mono (by decide)) rfl (aa 0) True.intro) hl)) ?_;show Bd.val _ _=Bd.val _ _;congr 1;unfold cK;rw[decide_eq_true hc',Bool.true_and,List.all_map];rfl
theorem k7(c_is_row:aJ P w K mg base 3 "is_row" ["row"] (dG K (fun(xs:List Int)=>xs.length<=1000) true cK))(xs:List Int)(hx:cK xs=true):Body P w K mg base gQ "refuse_no_row" cM f 3 [.val false xs] IY:=by
 intro cdv A outer s H E hr;have:=jX hx;refine aT (kI (gR (aH c_is_row (hr.mono (by decide)) rfl (aa 0) (by omega)))) (fun hc=>?_) (fun hc=>?_)
 .rw[hx] at hc;cases hc
 .exact az True.intro
def C9(r:List Int):Int:=((r.filter fun k=>decide (0<k)).length:Int)
include B in
theorem uI(c_refuse_no_row:aJ P w K mg base 4 "refuse_no_row" ["row"] (dG K (fun(xs:List Int)=>cK xs=true) true ri))(r:List Int)(hp:cK r=true):Body P w K mg base i_ "signs_of" eV f 4 [.val false r] (RT true (C9 r)):=by
 intro cdv A outer s H E hr;have hl:=jX hp;refine pj (aH c_refuse_no_row (hr.mono (by decide)) rfl (aa 0) hp) ?_;refine av (cH rfl B.len (d_ (f:=fun q:Int=>q) (p:=fun q=>decide (0<q)) (b':=true) ["k"] [] (cS (af eV) i_ rfl rfl (by decide +kernel)) (bG (aa 0)) (bH 0) (fun C s H fp=>eU 0 ["k"]) bp (fun i q hi C s H fp=>hV (aw dt (aa 0) ae)) (fun i q hi hp C s H fp=>gE (aa 0)) (by omega))) ?_;show Bd.val _ _=Bd.val _ _;congr 1;rw[List.length_map];rfl
noncomputable def qD(row:List Int)(p:Int):Bool:=!(Q.qv p row)
include B in
theorem Ce(c_says:aJ P w K mg base 4 "says" ["a","b","p"] (kH K (fun a b p=>a≠0/\b≠0/\(p=0\/(2<=p/\p<2^62))) true Q.aj))(row:List Int)(p:Int)(hl:row.length<=1000)(h0:∀n∈row,n≠0)(hp:p=0\/(2<=p/\p<2^62)):
  Body P w K mg base p4 "is_no" jF f 4 [.val false row,.val false p] (RT true (qD row p)):=by
 intro cdv A outer s H E hr;refine ah 2 jJ.nd ae ?_;refine kN (as:=Dx row) (fun i Γ=>∃(n:Int) (r3 r4:Option Bd),Γ=[some (.val false row),some (.val false p),some (.val true n),r3,r4]/\n+(Q.sf p (row.drop i):Int)=Q.sf p row) (vj 3 4 jJ.nd) (AN rfl B.enumerate (aa 0)) ⟨0,none,none,rfl,by rw[List.drop_zero];omega⟩ ?_ ?_
 .rintro i u Γ' hu ⟨n,r3,r4,rfl,hn⟩;obtain⟨hx,hi⟩:=wG hu;have ha:=h0 u.2 (List.mem_of_getElem? hx);rw[Q.rD hx,Q.sf] at hn;refine ah 2 jJ.nd (aX (aa 2) (cH rfl B.len (d_ (f:=fun q:Int=>q) (p:=fun q=>!(Q.aj u.2 q p)) (b':=true) ["b"] [1,4] (cS (af jF) p4 rfl rfl (by decide +kernel)) (bG (DG (aa 0) (aX (aa 3) ae) (by rw[hi];omega))) (bH 0) (fun C s H fp=>eU 0 ["b","p","a"]) bp (fun j q hj C s H fp=>hV (kI (gR (bR c_says (hr.mono (by decide)) rfl (aa 2) (aa 0) (aa 1) ⟨ha,h0 q (List.mem_of_mem_drop (List.mem_of_getElem? hj)),hp⟩)))) (fun j q hj _ C s H fp=>gE (b':=true) (aa 0)) (by rw[List.length_drop];omega)))) ?_;refine az ⟨_,_,_,rfl,?_⟩;rw[List.length_map,show(u.1+1).toNat=i+1 by rw[hi];omega];omega
 .rintro Γ' ⟨n,r3,r4,rfl,hn⟩;have e:row.drop (Dx row).length=[]:=by rw[vA];exact List.drop_length
  rw[e] at hn
  have hn':n=(Q.sf p row:Int):=by
   have:Q.sf p []=0:=rfl;omega
  refine av (cj aA (aL (aa 2) ae (by decide)) ae) ?_;show Bd.val _ _=Bd.val _ _;congr 1;unfold qD;rw[<-Q.qh,hn',bq (by decide)];by_cases z:Q.sf p row%2=0
  .have:¬((Q.sf p row:Nat):Int)%2=1:=by omega
   simp[z,this]
  .have:((Q.sf p row:Nat):Int)%2=1:=by omega
   simp[z,this]
noncomputable def sP(row:List Int):List Int:=((0:Int)::o_ row).filter fun p=>!(Q.qv p row)
structure HN(row:List Int):Prop where
 ro:cK row=true
 po:EZ row
 pl:∀p∈o_ row,2<=p/\p<2^62
theorem BN(ns:List Int):(o_ ns).length<=(sj ns).length:=by
 have:∀ns:List Int,(sset ns).length<=ns.length:=fun ns=>by
  unfold sset
  induction ns with
  |nil=>exact Nat.le_refl _
  |cons x ns ih =>
   have:∀l:List Int,(fN x l).length<=l.length+1:=fun l=>by
    induction l with
    |nil=>simp[fN]
    |cons y l ih =>
     unfold fN;split
     .simp
     .split
      .simp
      .simp only[List.length_cons];omega
   have h2:=this (ns.foldr fN []);show(fN x (ns.foldr fN [])).length<=ns.length+1;omega
 exact this _
theorem wM(c_primes_of:aJ P w K mg base 5 "primes_of" ["numbers"] (dG K EZ true o_))(c_refuse_no_row:aJ P w K mg base 4 "refuse_no_row" ["row"] (dG K (fun(xs:List Int)=>cK xs=true) true ri))(c_is_no:aJ P w K mg base 5 "is_no" ["row","p"] (cF K (fun(row:List Int) p=>row.length<=1000/\(∀n∈row,n≠0)/\(p=0\/(2<=p/\p<2^62))) true qD))(row:List Int)(h:HN row):
  Body P w K mg base jY "noes_of" fY f 5 [.val false row] (RT true (sP row)):=by
 intro cdv A outer s H E hr;have hlen:=jX h.ro;have few:=h.po.few;have lp:=BN row;refine pj (aH c_refuse_no_row (hr.mono (by decide)) rfl (aa 0) h.ro) ?_
 have hq:∀q∈[(0:Int)]++o_ row,q=0\/(2<=q/\q<2^62):=fun q hq=>by
  rcases List.mem_append.mp hq with z|z
  .exact .inl (List.mem_singleton.mp z)
  .exact .inr (h.pl q z)
 refine av (d_ (f:=fun q:Int=>q) (p:=fun q=>qD row q) (b':=true) ["p"] [0] (cS (af fY) jY rfl rfl (by decide +kernel)) (bG (lY (eR (aq ae a7) (by simp)) (aH c_primes_of (hr.mono (by decide)) rfl (aa 0) h.po) (by simp;omega))) (bH 0) (fun C s H fp=>eU 0 ["p","row"]) bp (fun i q hi C s H fp=>hV (gR (aC c_is_no (hr.mono (by decide)) rfl (aa 1) (aa 0) ⟨by omega,fun n hn=>(xl h.ro hn).1,hq q (List.mem_of_getElem? hi)⟩))) (fun i q hi _ C s H fp=>gE (b':=true) (aa 0)) (by simp;omega)) ?_;show Bd.val _ _=Bd.val _ _;congr 1;rw[List.map_id'];rfl
open Q (aM qv kR Pl)
def Be(a b:List Int)(p:Int):Bool:=!decide (p∈a) || !decide (p∈b)
def CS(a b:List Int):Option Int:=(iQ (a++b)).find? (Be a b)
theorem v_{f:Int->Bool}:∀{l:List Int} {i:Nat} {a:Int},l[i]?=some a->(∀x∈l.take i,f x=false)->f a=true->l.find? f=some a
 |[],_,_,h,_,_=>by simp at h
 |b::l,0,a,h,_,hf=>by cases h;exact List.find?_cons_of_pos hf
 |b::l,i+1,a,h,hn,hf=>by
  rw[List.find?_cons_of_neg (by rw[hn b (by simp)];exact Bool.false_ne_true)];exact v_ (i:=i) (by simpa using h) (fun x hx=>hn x (by simp[hx])) hf
theorem wo{f:Int->Bool}{l:List Int}(h:∀x∈l,f x=false):l.find? f=none:=List.find?_eq_none.mpr fun x hx=>by rw[h x hx];exact Bool.false_ne_true
theorem take_all{f:Int->Bool}{l:List Int}{i:Nat}{a:Int}(h:l[i]?=some a)(hn:∀x∈l.take i,f x=false)(hf:f a=false):∀x∈l.take (i+1),f x=false:=fun x hx=>by
 rw[List.take_add_one,h] at hx;rcases List.mem_append.mp hx with z|z
 .exact hn x z
 .rw[List.mem_singleton.mp z];exact hf
include B in
theorem g6(a b:List Int)(h:a.length+b.length<64):Body P w K mg base dQ "first_in_one_alone" bD f kk [.val false a,.val false b] (RT true (CS a b)):=by
 intro cdv A outer s H E hr;refine kN (α:=Int) (as:=iQ (a++b)) (b:=true) (fun i Γ=>∃r,Γ=[some (.val false a),some (.val false b),r]/\∀x∈(iQ (a++b)).take i,Be a b x=false) (cG 2 dv.nd) (bG (u3 rfl B.sorted (Fc (aa 0) (aa 1) (by omega)) (by rw[List.length_append];exact h))) ⟨none,rfl,fun x hx=>by simp at hx⟩ ?_ ?_
 .rintro i p Γ' hp ⟨r,rfl,hn⟩;refine aT (c:=Be a b p) (TW.t (mB (aw qg (aa 2) (aa 0)) fun _=>(i8 (aw qg (aa 2) (aa 1))))) (fun hc=>?_) (fun hc=>?_)
  .have e:CS a b=some p:=v_ hp hn hc;rw[e];exact av ((aa 2).some) rfl
  .exact az ⟨_,rfl,take_all hp hn hc⟩
 .rintro Γ' ⟨r,rfl,hn⟩;rw[List.take_length] at hn;have e:CS a b=none:=wo hn;rw[e];exact av (l_ (α:=Int)) rfl
inductive Pt where
 |no
 |w (s:Str)
 |pl (p:Int)
def J_:Pt->PyData
 |.no=>.none
 |.w s=>.tuple [.str s]
 |.pl p=>.tuple [.str "place",.int p]
noncomputable def Ic(a b:List Int):Pt:=if a.length≠b.length then .w "size" else if C9 a≠C9 b then .w "signs" else if kK a≠kK b then .w "number" else match CS (sP a) (sP b) with
 |none=>.no
 |some p=>.pl p
noncomputable def FQ(a b:List Int):Dt:=Dt.mk (J_ (Ic a b))
noncomputable def E4(row:List Int):Nat:=(row.map fun x:Int=>(kR (x.natAbs:Int)).length).sum
structure GR(c m:Nat)(row:List Int):Prop where
 len:1<=row.length/\row.length<=8
 nz:∀x∈row,x≠0/\x.natAbs<1073741824
 np:E4 row<=c
 pr:∃M:List Int,M.length<=m/\∀x∈row,∀q,aM q=true->q∣x->q∈M
theorem GR.row{c m:Nat}{row:List Int}(h:GR c m row):cK row=true:=by
 unfold cK;rw[decide_eq_true h.len,Bool.true_and];exact List.all_eq_true.mpr fun x hx=>by unfold Dd;exact decide_eq_true (h.nz x hx)
theorem ET(row:List Int):(sj row).length=E4 row+1:=by
 unfold sj E4;rw[List.length_cons,List.length_flatMap];congr 3;funext x;exact List.length_map ..
theorem GR.wk{c m c' m':Nat}{row:List Int}(h:GR c m row)(hc:c<=c')(hm:m<=m'):GR c' m' row:=⟨h.len,h.nz,Nat.le_trans h.np hc,h.pr.imp fun M ⟨a,b⟩=>⟨Nat.le_trans a hm,b⟩⟩
theorem GR.po{m:Nat}{row:List Int}(h:GR 61 m row):EZ row:=⟨by have:=h.len;omega,fun k hk=>by have:=h.nz k hk;omega,by rw[ET];have:=h.np;omega⟩
theorem uh{row:List Int}(nz:∀x∈row,x≠0){q:Int}:q∈o_ row↔q=2\/(aM q=true/\∃a∈row,q∣a):=by
 unfold o_;rw[hZ];unfold sj;rw[List.mem_cons,List.mem_flatMap];refine or_congr_right ?_;constructor
 .rintro⟨a,ha,hq⟩;have h1:1<=(a.natAbs:Int):=by have:=nz a ha;omega
  obtain⟨h4,h5⟩:=(Q.iC h1).mp hq;exact⟨h4,a,ha,Int.dvd_natAbs.mp h5⟩
 .rintro⟨h4,a,ha,h5⟩;have h1:1<=(a.natAbs:Int):=by have:=nz a ha;omega
  exact⟨a,ha,(Q.iC h1).mpr ⟨h4,Int.dvd_natAbs.mpr h5⟩⟩
theorem CF{c m:Nat}{row:List Int}(h:GR c m row):∀p∈o_ row,2<=p/\p<2^31:=fun p hp=>by
 rcases(uh fun x hx=>(h.nz x hx).1).mp hp with rfl|⟨h1,a,ha,hd⟩
 .decide
 .have:=h.nz a ha;have:=Int.le_of_dvd (b:=(a.natAbs:Int)) (by omega) (Int.dvd_natAbs.mpr hd);exact⟨Q.au h1,by omega⟩
theorem GR.no{m:Nat}{row:List Int}(h:GR 61 m row):HN row:=⟨h.row,h.po,fun p hp=>by have:=CF h p hp;omega⟩
theorem xZ{row:List Int}(nz:∀x∈row,x≠0){p:Int}:p∈sP row↔Pl p/\qv p row=false:=by
 unfold sP;rw[List.mem_filter,List.mem_cons,uh nz];constructor
 .rintro⟨h1,h2⟩;refine⟨?_,by simpa using h2⟩;rcases h1 with h|h|h
  .exact .inl h
  .exact .inr (by rw[h];exact Q.cv)
  .exact .inr h.1
 .rintro⟨h1,h2⟩;refine⟨?_,by simpa using h2⟩;rcases h1 with h|h
  .exact .inl h
  .by_cases h3:p=2
   .exact .inr (.inl h3)
   .refine .inr (.inr ⟨h,?_⟩);apply Classical.byContradiction;intro hn;rw[Q.qf h h3 fun n hn' hd=>hn ⟨n,hn',hd⟩] at h2;cases h2
theorem yb{c m:Nat}{row:List Int}(h:GR c m row):(sP row).length<=m+2:=by
 obtain⟨M,hM,hq⟩:=h.pr;have nz:∀x∈row,x≠0:=fun x hx=>(h.nz x hx).1
 have h1:((0:Int)::o_ row).length<=(0::2::M).length:=by
  refine Q.uG ?_ fun x hx=>?_
  .refine List.nodup_cons.mpr ⟨fun z=>?_,(nv _).imp fun h=>by omega⟩;have:=CF h 0 z;omega
  .rcases List.mem_cons.mp hx with e|e
   .rw[e];simp
   .rcases(uh nz).mp e with e|⟨e,a,ha,hd⟩
    .rw[e];simp
    .have:=hq a ha x e hd;simp[this]
 have h2:(sP row).length<=((0:Int)::o_ row).length:=List.length_filter_le _ _;simp only[List.length_cons] at h1 h2;omega
def HZ(a b:List Int):Prop:=∃m1 m2,GR 61 m1 a/\GR 61 m2 b/\m1+m2<=55
theorem GR.fp{c m:Nat}{row:List Int}(h:GR c m row):FK row:=⟨h.len.2,h.nz⟩
set_option maxHeartbeats 1000000 in
include B in
theorem xG(c_refuse_no_row:aJ P w K mg base 4 "refuse_no_row" ["row"] (dG K (fun(xs:List Int)=>cK xs=true) true ri))(c_signs_of:aJ P w K mg base 5 "signs_of" ["row"] (dG K (fun(r:List Int)=>cK r=true) true C9))(c_free_product:aJ P w K mg base 7 "free_product" ["row"] (dG K FK true kK))(c_noes_of:aJ P w K mg base 6 "noes_of" ["row"] (dG K HN true sP))(c_first_in_one_alone:aJ P w K mg base 1 "first_in_one_alone" ["one","other"] (cF K (fun(a b:List Int)=>a.length+b.length<64) true CS))(a b:List Int)(hp:HZ a b):Body P w K mg base n9 "parting" iB f 7 [.val false a,.val false b] (RT true (FQ a b)):=by
 intro cdv A outer s H E hr;obtain⟨m1,m2,ha,hb,hm⟩:=hp;have l1:=yb ha;have l2:=yb hb;unfold FQ Ic;refine pj (aH c_refuse_no_row (hr.mono (by decide)) rfl (aa 0) ha.row) ?_;refine pj (aH c_refuse_no_row (hr.mono (by decide)) rfl (aa 1) hb.row) ?_;refine aT (aw eT (cH rfl B.len (aa 0)) (cH rfl B.len (aa 1))) (fun hc=>?_) (fun hc=>?_)
 .rw[if_pos (by simp at hc;omega)];exact av (mR (ds:=[Dt.mk (.str "size")]) (b:=true) (aq (Bg uV) a7) (by show 1<=1000;decide)) rfl
 rw[if_neg (by simp at hc;omega)];refine aT (aw eT (aH c_signs_of (hr.mono (by decide)) rfl (aa 0) ha.row) (aH c_signs_of (hr.mono (by decide)) rfl (aa 1) hb.row)) (fun hc=>?_) (fun hc=>?_)
 .rw[if_pos (by simpa using hc)];exact av (mR (ds:=[Dt.mk (.str "signs")]) (b:=true) (aq (Bg uV) a7) (by show 1<=1000;decide)) rfl
 rw[if_neg (by simpa using hc)];refine aT (aw eT (aH c_free_product (hr.mono (by decide)) rfl (aa 0) ha.fp) (aH c_free_product (hr.mono (by decide)) rfl (aa 1) hb.fp)) (fun hc=>?_) (fun hc=>?_)
 .rw[if_pos (by simpa using hc)];exact av (mR (ds:=[Dt.mk (.str "number")]) (b:=true) (aq (Bg uV) a7) (by show 1<=1000;decide)) rfl
 rw[if_neg (by simpa using hc)];refine ah 2 l6.nd (aC c_first_in_one_alone (hr.mono (by decide)) rfl (aH c_noes_of (hr.mono (by decide)) rfl (aa 0) ha.no) (aH c_noes_of (hr.mono (by decide)) rfl (aa 1) hb.no) (by omega)) ?_;cases CS (sP a) (sP b) with
 |none =>
  refine av (g5 (α:=Dt) (x:=Dt.mk .none) (y:=Dt.mk .none) (b:=true) (c:=true) (q_ (α:=Int) (x:=none) (aa 2) fun _ _ _ _ h=>nomatch h) (fun _=>Iu (l_ (α:=Int))) fun h=>nomatch h) ?_;rfl
 |some p =>
  refine av (g5 (α:=Dt) (x:=Dt.mk .none) (y:=Dt.mk (.tuple [.str "place",.int p])) (b:=true) (c:=false) (q_ (α:=Int) (x:=some p) (aa 2) fun _ _ _ _ h=>nomatch h) (fun h=>nomatch h) fun _=>mR (ds:=[Dt.mk (.str "place"),Dt.mk (.int p)]) (aq (Bg uV) (aq (j6 (ni (a:=p) (aa 2))) a7)) (by show 2<=1000;decide)) ?_;rfl
abbrev jT:=List (Int⊕(Int×Int))
instance:DecidableEq (Int⊕(Int×Int)):=fun a b=>match a,b with
 |.inl x,.inl y=>decidable_of_iff (x=y) ⟨fun h=>by rw[h],fun h=>Sum.inl.inj h⟩
 |.inr x,.inr y=>decidable_of_iff (x=y) ⟨fun h=>by rw[h],fun h=>Sum.inr.inj h⟩
 |.inl _,.inr _=>isFalse fun h=>by cases h
 |.inr _,.inl _=>isFalse fun h=>by cases h
def HK(c:Int⊕(Int×Int))(cs:jT):Bool:=cs.any fun d=>decide (d=c)
theorem jr{c:Int⊕(Int×Int)}{cs:jT}:HK c cs=true↔c∈cs:=by
 unfold HK;rw[List.any_eq_true];constructor
 .rintro⟨d,hd,e⟩;rw[<-of_decide_eq_true e];exact hd
 .intro h;exact⟨c,h,decide_eq_true rfl⟩
noncomputable def xN(k:Int)(ps:List Int):jT:=ps.map (Q.eB k)
instance{α β:Type}[Py α][Py β][PyT α][PyT β]:PyT (α⊕β) where
 free {K N N' H H' v b} t h:=by
  cases b with
  |inl x=>exact PyT.free (β:=α) (N:=N) (N':=N') t h
  |inr y=>exact PyT.free (β:=β) (N:=N) (N':=N') t h
 nl {K N H q b xs} h e:=by
  cases b with
  |inl x=>exact PyT.nl (β:=α) (N:=N) h e
  |inr y=>exact PyT.nl (β:=β) (N:=N) h e
theorem qp(c_is_prime:aJ P w K mg base 3 "is_prime" ["k"] (dG K (fun k=>k<2^62) true Q.aM))(x:Int)(h2:2<=x)(hx:x<=10000):Body P w K mg base jg "next_prime" d8 f 3 [.val false x] (RT true (Q.pf (x+1))):=by
 intro cdv A outer s H E hr;have hPB:Q.PB=1070000011:=rfl;have hb:x+1<=Q.PB:=by omega
 have hpp:=Q.nD hb;have hle:=Q.GC hb;have hod:=Q.ud hb (by omega);refine ah 1 fL.nd (aX (aa 0) ae) ?_;refine b7 (ι:=Int) (fun d Γ=>Γ=[some (.val false x),some (.val true d)]/\x+1<=d/\d<=Q.pf (x+1)) (fun d=>(Q.pf (x+1)-d).toNat) (x+1) ⟨rfl,Int.le_refl _,hod.2⟩ ?_;rintro d Γ' ⟨rfl,h1,h3⟩;refine⟨_,kI (gR (aH c_is_prime (hr.mono (by decide)) rfl (aa 1) (by omega))),fun hc=>?_,fun hc=>?_⟩
 .have hd:d≠Q.pf (x+1):=fun z=>by rw[z,hpp] at hc;cases hc
  refine ah 1 fL.nd (aX (aa 1) ae) ?_;exact az ⟨d+1,⟨rfl,by omega,by omega⟩,by omega⟩
 .have hp:Q.aM d=true:=by simpa using hc
  have e:Q.pf (x+1)=d:=by
   have hdo:d%2=1:=by
    rcases Q.bA.mp hp with z|z
    .omega
    .exact z.2.1
   have:=Q.nH hp h1 hdo (by omega) (by omega);omega
  rw[e];exact av (aa 1) rfl
def IS(a b:Int⊕(Int×Int))(p:Int):Prop:=p∈Q.P7/\∃m n:Int,m≠0/\n≠0/\a=Q.eB m p/\b=Q.eB n p
theorem CI{n p:Int}(hp:Q.aM p=true)(hn:n≠0):Sm 4 (Q.cls n p).2:=by
 obtain⟨_,h2,h3⟩:=Q.gh hp hn;by_cases z:p=2
 .have:=h2 z;simp only[List.mem_cons,List.not_mem_nil,or_false] at this;unfold Sm;omega
 .have:=h3 z;unfold Sm;omega
set_option maxHeartbeats 1000000 in
theorem i4(a b:Int⊕(Int×Int))(p:Int)(hp:IS a b p):Body P w K mg base e8 "class_of_product" bO f kk [.val false a,.val false b,.val false p] (RT true (Q.kU a b p)):=by
 intro cdv A outer s H E hr;obtain⟨hp,m,n,m0,n0,rfl,rfl⟩:=hp;rcases Q.cm hp with rfl|⟨p0,pp,_⟩
 .have ea:Q.eB m 0=Sum.inl (if 0<m then 1 else -1):=if_pos rfl;have eb:Q.eB n 0=Sum.inl (if 0<n then 1 else -1):=if_pos rfl;rw[ea,eb];have s1:Sm 1 (if 0<m then (1:Int) else -1):=by unfold Sm;split<;>decide
  have s2:Sm 1 (if 0<n then (1:Int) else -1):=by unfold Sm;split<;>decide
  generalize (if 0<m then (1:Int) else -1)=x at *;generalize (if 0<n then (1:Int) else -1)=y at *;refine aT (aw aA (aa 2) ae) (fun _=>?_) (fun hc=>absurd hc (by decide));exact av (xY (β:=Int×Int) (aO (CJ (β:=Int×Int) (a:=x) (aa 0)) (CJ (β:=Int×Int) (a:=y) (aa 1)) (s1.ok s2))) rfl
 .have ea:Q.eB m p=Sum.inr (Q.cls m p):=if_neg p0;have eb:Q.eB n p=Sum.inr (Q.cls n p):=if_neg p0;have s1:=CI pp m0;have s2:=CI pp n0;rw[ea,eb];generalize Q.cls m p=u at *;generalize Q.cls n p=v at *;refine aT (aw aA (aa 2) ae) (fun hc=>absurd (by simpa using hc) p0) (fun _=>?_);refine ah 3 d7.nd (aO (bZ (o4 (α:=Int) (a:=u) (aa 0))) (bZ (o4 (α:=Int) (a:=v) (aa 1))) (s1.ok s2)) ?_;by_cases z:p=2
  .refine av (vM (α:=Int) (bN (aL (aX (bT (o4 (α:=Int) (a:=u) (aa 0))) (bT (o4 (α:=Int) (a:=v) (aa 1)))) ae (by decide)) (g5 (aw aA (aa 2) ae) (fun _=>aL (aa 3) ae (by decide)) (fun _=>aa 3)))) ?_;show Bd.val _ _=Bd.val _ (Sum.inr (Q.fS u v p));unfold Q.fS;rw[if_pos z,if_pos (decide_eq_true z),Int.fmod_eq_emod_of_nonneg _ (by decide),Int.fmod_eq_emod_of_nonneg _ (by decide)];rfl
  .refine av (vM (α:=Int) (bN (aL (aX (bT (o4 (α:=Int) (a:=u) (aa 0))) (bT (o4 (α:=Int) (a:=v) (aa 1)))) ae (by decide)) (g5 (aw aA (aa 2) ae) (fun _=>aL (aa 3) ae (by decide)) (fun _=>aa 3)))) ?_;show Bd.val _ _=Bd.val _ (Sum.inr (Q.fS u v p));unfold Q.fS;rw[if_neg z,if_neg (by rw[decide_eq_false z];decide),Int.fmod_eq_emod_of_nonneg _ (by decide)];rfl
theorem Ga{i:Nat}{p:Int}(h:Q.Q6[i]?=some p):p=Q.Q6.getD i 1/\i<6/\0<=p/\p<=13:=by
 have hi:i<6:=(List.getElem?_eq_some_iff.mp h).1;have e:p=Q.Q6.getD i 1:=by rw[List.getD_eq_getElem?_getD,h];rfl
 have m:p∈Q.Q6:=List.mem_of_getElem? h;simp only[Q.Q6,List.mem_cons,List.not_mem_nil,or_false] at m;exact⟨e,hi,by omega,by omega⟩
set_option maxHeartbeats 1000000 in
include B in
theorem h9(g_SMALL_PLACES:qw K mg "SMALL_PLACES" [0,2,3,5,7,11,13]):Body P w K mg base cu "small_free_numbers" a8 f kk [] (AH true (fun(ms:List Int)=>ms.Perm (Q.dJ 6))):=by
 intro cdv A outer s H E hr;refine ah 0 bx.nd (eR (as:=[(1:Int),-1]) (b:=true) (aq ae (aq (iU ae) a7)) (Nat.le_of_ble_eq_true rfl)) ?_;refine kN (as:=Q.Q6) (fun i Γ=>∃r1,i<=6/\Γ=[some (.val true (Q.dJ i)),r1]) (cG 1 bx.nd) (uP (BI (ma rfl g_SMALL_PLACES) ae (by decide) (by decide))) ⟨none,by decide,rfl⟩ ?_ ?_
 .rintro i p Γ' hp ⟨r1,i6,rfl⟩;obtain⟨ep,hi,p0,p13⟩:=Ga hp;have hl:=Q.BX i i6;have hle:=Q.Ef i i6
  refine ah 0 bx.nd (mn (a':=Q.dJ (i+1)) (lY (aa 0) (lS (b':=true) (f:=fun k:Int=>k*p) ["k"] [1] (cS (af a8) cu rfl rfl (by decide +kernel)) (bG (aa 0)) (bH 0) (fun C s H fp=>eU 0 ["k","p"]) bp (fun j k hk C s H fp=>by
   have:=hle k (List.mem_of_getElem? hk)
   exact aO (aa 0) (aa 1) ((show Sm 15 k by unfold Sm;omega).ok (show Sm 4 p by unfold Sm;omega))) (by omega)) (by rw[List.length_map];omega)) (by rw[ep];rfl)) ?_
  exact az ⟨_,by omega,rfl⟩
 .rintro Γ' ⟨r1,_,rfl⟩;have e6:=Q.oX.1;exact uU (Af rfl B.sorted rfl B.abs (aa 0) (by show 2<=(Q.dJ 6).length;omega) (by show(Q.dJ 6).length<=1000;omega)) fun a h=>⟨a,h,rfl⟩
theorem oF{p:Int}(h:p∈Q.P7):p=0\/(2<=p/\p<2^62):=by
 simp only[Q.P7,List.mem_cons,List.not_mem_nil,or_false] at h;omega
theorem pU(c_class_at:aJ P w K mg base 3 "class_at" ["k","p"] (cF K (fun k p=>k≠0/\(p=0\/(2<=p/\p<2^62))) true jN))(k:Int)(ps:List Int)(hk:k≠0)(e:ps=Q.P7):Body P w K mg base gA "classes_of" dm f 3 [.val false k,.val false ps] (RT true (xN k ps)):=by
 intro cdv A outer s H E hr;subst e;exact av (lS (b':=true) (f:=Q.eB k) ["p"] [0] (cS (af dm) gA rfl rfl (by decide +kernel)) (bG (aa 1)) (bH 0) (fun C s H fp=>eU 0 ["p","k"]) bp (fun j p hp C s H fp=>aC c_class_at (hr.mono (by decide)) rfl (aa 1) (aa 0) ⟨hk,oF (List.mem_of_getElem? hp)⟩) (by decide)) rfl
def A8(ws:List jT):Prop:=ws.length=7/\(∀cs∈ws,cs.length<=100)/\∀j,j<7->∀c∈ws.getD j [],∃n:Int,n≠0/\c=Q.eB n (Q.P7.getD j 0)
noncomputable def sM(k:Int)(ps:List Int)(ws:List jT):List jT:=(ps.zip ws).map fun u=>u.2.map fun c=>Q.kU (Q.eB k u.1) c u.1
theorem DI{ws:List jT}{i:Nat}{u:Int×jT}(hl:ws.length=7)(h:(Q.P7.zip ws)[i]?=some u):i<7/\u.1=Q.P7.getD i 0/\u.2=ws.getD i []/\u.1∈Q.P7/\u.2∈ws:=by
 have hi:i<(Q.P7.zip ws).length:=(List.getElem?_eq_some_iff.mp h).1;rw[List.length_zip,hl] at hi;have hi':i<7:=by have:Q.P7.length=7:=rfl;omega
 have h1:Q.P7[i]?=some u.1:=by have:=congrArg (Option.map Prod.fst) h;rw[<-List.getElem?_map,List.map_fst_zip (by rw[hl];decide)] at this;exact this
 have h2:ws[i]?=some u.2:=by have:=congrArg (Option.map Prod.snd) h;rw[<-List.getElem?_map,List.map_snd_zip (by rw[hl];decide)] at this;exact this
 exact⟨hi',by rw[List.getD_eq_getElem?_getD,h1];rfl,by rw[List.getD_eq_getElem?_getD,h2];rfl,List.mem_of_getElem? h1,List.mem_of_getElem? h2⟩
set_option maxHeartbeats 1000000 in
include B in
theorem j_(c_class_at:aJ P w K mg base 3 "class_at" ["k","p"] (cF K (fun k p=>k≠0/\(p=0\/(2<=p/\p<2^62))) true jN))(c_class_of_product:aJ P w K mg base 1 "class_of_product" ["one","other","p"] (kH K IS true Q.kU))(k:Int)(ps:List Int)(ws:List jT)(hk:k≠0)(e:ps=Q.P7)(hw:A8 ws):Body P w K mg base dA "wishes_without" bJ f 3 [.val false k,.val false ps,.val false ws] (RT true (sM k ps ws)):=by
 intro cdv A outer s H E hr;subst e;obtain⟨hl,h100,hc⟩:=hw;refine yT 3 jT bX.nd ?_;refine kN (as:=Q.P7.zip ws) (fun i Γ=>∃r4 r5 r6,Γ=[some (.val false k),some (.val false Q.P7),some (.val false ws),some (.own true (((Q.P7.zip ws).take i).map fun u=>u.2.map fun c=>Q.kU (Q.eB k u.1) c u.1)),r4,r5,r6]) (vj 4 5 bX.nd) (tW rfl B.zip (aa 1) (aa 2)) ⟨none,none,none,rfl⟩ ?_ ?_
 .rintro i u Γ' hu ⟨r4,r5,r6,rfl⟩;obtain⟨hi,e1,e2,m1,m2⟩:=DI hl hu;refine ah 6 bX.nd (aC c_class_at (hr.mono (by decide)) rfl (aa 0) (aa (a:=u.1) 4) ⟨hk,oF m1⟩) ?_;have l100:=h100 _ m2;refine iw 3 (a:=u.2.map fun c=>Q.kU (Q.eB k u.1) c u.1) rfl (lS (b':=true) (f:=fun c=>Q.kU (Q.eB k u.1) c u.1) ["wish"] [6,4] (cS (af bJ) dA rfl rfl (by decide +kernel)) (bG (aa (a:=u.2) 5)) (bH 0) (fun C s H fp=>eU 0 ["wish","own","p"]) bp (fun j c hcj C s H fp=>?_) (by omega)) ?_ ?_
  .have mc:c∈u.2:=List.mem_of_getElem? hcj;rw[e2] at mc;obtain⟨n,n0,en⟩:=hc i hi c mc;rw[<-e1] at en;exact bR c_class_of_product (hr.mono (by decide)) rfl (aa 1) (aa 0) (aa 2) ⟨m1,k,n,hk,n0,rfl,en⟩
  .rw[List.length_map,List.length_take];omega
  .refine az ⟨some (.val false u.1),some (.val false u.2),some (.val true (jN k u.1)),?_⟩;rw[List.take_add_one,hu,Option.toList_some,List.map_append];rfl
 .rintro Γ' ⟨r4,r5,r6,rfl⟩;refine g9 3 rfl ?_;rw[List.take_length];exact av (aa 3) rfl
def AE(cl:jT)(ws:List jT):Bool:=(cl.zip ws).all fun u=>HK u.1 u.2
set_option maxHeartbeats 1000000 in
include B in
theorem rh(cl:jT)(ws:List jT):Body P w K mg base kJ "are_among" fI f kk [.val false cl,.val false ws] (RT true (AE cl ws)):=by
 intro cdv A outer s H E hr;refine kN (as:=cl.zip ws) (fun i Γ=>(∀u∈(cl.zip ws).take i,u.1∈u.2)/\∃r2 r3,Γ=[some (.val false cl),some (.val false ws),r2,r3]) (vj 2 3 jo.nd) (tW rfl B.zip (aa 0) (aa 1)) ⟨(fun u hu=>by rw[List.take_zero] at hu;cases hu),none,none,rfl⟩ ?_ ?_
 .rintro i u Γ' hu ⟨ih,r2,r3,rfl⟩;refine aT (aw (BC (a:=u.1) (as:=u.2) (c:=HK u.1 u.2) (xE hr) (by decide) jr) (aa 2) (aa 3)) (fun hc=>?_) (fun hc=>?_)
  .have hn:HK u.1 u.2=false:=by simpa using hc
   have e:AE cl ws=false:=by
    unfold AE;rw[List.all_eq_false];exact⟨u,List.mem_of_getElem? hu,by rw[hn];decide⟩
   rw[e];exact av td rfl
  .have hm:u.1∈u.2:=jr.mp (by simpa using hc);refine az ⟨fun x hx=>?_,_,_,rfl⟩;rw[List.take_add_one,hu] at hx;rcases List.mem_append.mp hx with w|w
   .exact ih x w
   .rw[List.mem_singleton.mp w];exact hm
 .rintro Γ' ⟨ih,r2,r3,rfl⟩
  have e:AE cl ws=true:=by
   unfold AE;rw[List.all_eq_true];intro u hu;rw[List.take_length] at ih;exact jr.mpr (ih u hu)
  rw[e];exact av td rfl
def Io(ws:List jT)(n:Int):Prop:=∃k q:Int,n=k*q/\k∈Q.dJ 6/\(q=1\/(Q.aM q=true/\17<=q/\q<=8089))/\∀j,j<7->Q.eB n (Q.P7.getD j 0)∈ws.getD j []
theorem Gj{f:Int}{ws:List jT}(hl:ws.length=7){j:Nat}(hj:j<7):(sM f Q.P7 ws).getD j []=(ws.getD j []).map fun c=>Q.kU (Q.eB f (Q.P7.getD j 0)) c (Q.P7.getD j 0):=by
 have h1:Q.P7[j]?=some (Q.P7.getD j 0):=by rw[List.getD_eq_getElem?_getD,List.getElem?_eq_getElem (show j<Q.P7.length from hj)];rfl
 have h2:ws[j]?=some (ws.getD j []):=by rw[List.getD_eq_getElem?_getD,List.getElem?_eq_getElem (show j<ws.length by omega)];rfl
 unfold sM;rw[List.getD_eq_getElem?_getD,List.getElem?_map,(List.getElem?_zip_eq_some (z:=(Q.P7.getD j 0,ws.getD j []))).mpr ⟨h1,h2⟩];rfl
theorem zN{f k:Int}{ws:List jT}(hl:ws.length=7)(hw:A8 ws)(hf:f≠0)(hk:k≠0):AE (xN k Q.P7) (sM f Q.P7 ws)=true↔∀j,j<7->Q.eB (k*f) (Q.P7.getD j 0)∈ws.getD j []:=by
 have lw:(sM f Q.P7 ws).length=7:=by unfold sM;rw[List.length_map,List.length_zip,hl];rfl
 have p7:∀{j:Nat},j<7->Q.P7.getD j 0∈Q.P7:=fun {j} hj=>by rw[List.getD_eq_getElem?_getD,List.getElem?_eq_getElem (show j<Q.P7.length from hj)];exact List.getElem_mem _
 have key:∀j,j<7->(Q.eB k (Q.P7.getD j 0)∈(sM f Q.P7 ws).getD j []↔Q.eB (k*f) (Q.P7.getD j 0)∈ws.getD j []):=fun j hj=>by
  rw[Gj hl hj,List.mem_map];constructor
  .rintro⟨c,hc,e⟩;obtain⟨n,n0,rfl⟩:=hw.2.2 j hj c hc;rw[(Q.rZ (p7 hj) hf hk n0).mp e.symm];exact hc
  .intro hm;refine⟨_,hm,?_⟩;exact((Q.rZ (p7 hj) hf hk (Int.mul_ne_zero hk hf)).mpr rfl).symm
 unfold AE xN;rw[List.all_eq_true];constructor
 .intro h j hj;rw[<-key j hj]
  have h1:(Q.P7.map (Q.eB k))[j]?=some (Q.eB k (Q.P7.getD j 0)):=by
   rw[List.getElem?_map,List.getElem?_eq_getElem (show j<Q.P7.length from hj),List.getD_eq_getElem?_getD,List.getElem?_eq_getElem (show j<Q.P7.length from hj)];rfl
  have h2:(sM f Q.P7 ws)[j]?=some ((sM f Q.P7 ws).getD j []):=by rw[List.getD_eq_getElem?_getD,List.getElem?_eq_getElem (by omega)];rfl
  have:=h (Q.eB k (Q.P7.getD j 0),(sM f Q.P7 ws).getD j []) (List.mem_of_getElem? ((List.getElem?_zip_eq_some (z:=(Q.eB k (Q.P7.getD j 0),(sM f Q.P7 ws).getD j []))).mpr ⟨h1,h2⟩));exact jr.mp this
 .intro h u hu;obtain⟨j,hj⟩:=List.mem_iff_getElem?.mp hu;have hz:=(List.getElem?_zip_eq_some (z:=u)).mp hj;have j7:j<7:=by have:=(List.getElem?_eq_some_iff.mp hz.2).1;omega
  have e1:u.1=Q.eB k (Q.P7.getD j 0):=by
   have:=hz.1;rw[List.getElem?_map,List.getElem?_eq_getElem (show j<Q.P7.length from j7)] at this;rw[List.getD_eq_getElem?_getD,List.getElem?_eq_getElem (show j<Q.P7.length from j7)];exact(Option.some.inj this).symm
  have e2:u.2=(sM f Q.P7 ws).getD j []:=by rw[List.getD_eq_getElem?_getD,hz.2];rfl
  refine jr.mpr ?_;rw[e1,e2,key j j7];exact h j j7
theorem F3{ws:List jT}(hw:A8 ws)(hne:∀j,j<7->ws.getD j []≠[]):∃k q,k∈Q.dJ 6/\Q.aM q=true/\17<=q/\q<=8089/\∀j,j<7->Q.eB (k*q) (Q.P7.getD j 0)∈ws.getD j []:=by
 have ch:∀j,j<7->∃n:Int,n≠0/\Q.eB n (Q.P7.getD j 0)∈ws.getD j []:=fun j hj=>by
  obtain⟨c,hc⟩:=List.exists_mem_of_ne_nil _ (hne j hj);obtain⟨n,n0,rfl⟩:=hw.2.2 j hj c hc;exact⟨n,n0,hc⟩
 obtain⟨n0,a0,b0⟩:=ch 0 (by decide);obtain⟨n1,a1,b1⟩:=ch 1 (by decide);obtain⟨n2,a2,b2⟩:=ch 2 (by decide);obtain⟨n3,a3,b3⟩:=ch 3 (by decide);obtain⟨n4,a4,b4⟩:=ch 4 (by decide);obtain⟨n5,a5,b5⟩:=ch 5 (by decide);obtain⟨n6,a6,b6⟩:=ch 6 (by decide)
 obtain⟨k,q,k1,q1,q2,q3,hq⟩:=Q.y8 (ns:=[n0,n1,n2,n3,n4,n5,n6]) rfl (fun n hn=>by
  simp only[List.mem_cons,List.not_mem_nil,or_false] at hn
  rcases hn with rfl|rfl|rfl|rfl|rfl|rfl|rfl<;>assumption)
 refine⟨k,q,k1,q1,q2,q3,fun j hj=>?_⟩;rw[hq j hj];have:j=0\/j=1\/j=2\/j=3\/j=4\/j=5\/j=6:=by omega
 rcases this with rfl|rfl|rfl|rfl|rfl|rfl|rfl<;>assumption
set_option maxHeartbeats 2000000 in
include B in
theorem mf(g_SMALL_PLACES:qw K mg "SMALL_PLACES" [0,2,3,5,7,11,13])(c_next_prime:aJ P w K mg base 4 "next_prime" ["k"] (dG K (fun k=>2<=k/\k<=10000) true (fun k=>Q.pf (k+1))))(c_small_free_numbers:aJ P w K mg base 1 "small_free_numbers" [] (Ba K true (fun(ms:List Int)=>ms.Perm (Q.dJ 6))))(c_classes_of:aJ P w K mg base 4 "classes_of" ["k","places"] (cF K (fun(k:Int) (ps:List Int)=>k≠0/\ps=Q.P7) true xN))(c_wishes_without:aJ P w K mg base 4 "wishes_without" ["k","places","wishes"] (kH K (fun(k:Int) (ps:List Int) (ws:List jT)=>k≠0/\ps=Q.P7/\A8 ws) true sM))(c_are_among:aJ P w K mg base 1 "are_among" ["classes","wishes"] (cF K (fun(_:jT) (_:List jT)=>True) true AE))
  (ps:List Int) (ws:List jT) (e:ps=Q.P7) (hw:A8 ws) (hne:∀j,j<7->ws.getD j []≠[]):Body P w K mg base fc "number_among" cg f 4 [.val false ps,.val false ws] (AH true (Io ws)):=by
 intro cdv A outer s H E hr;subst e;have hl:=hw.1;obtain⟨k0,q0,hk0,p1,p2,p3,hq0⟩:=F3 hw hne;have f6:=Q.oX;refine uc 2 bf.nd (zK c_small_free_numbers (hr.mono (by decide)) rfl) ?_;intro ms hp;have ml:ms.length=128:=by rw[hp.length_eq];exact f6.1
 have mm:∀k∈ms,k≠0/\-30030<=k/\k<=30030:=fun k hk=>by
  have:=f6.2 k (hp.mem_iff.mp hk);exact⟨this.1,this.2.1,this.2.2.1⟩
 refine Aa 4 bf.nd (b':=true) (f:=fun k=>xN k Q.P7) ["k"] [0] (cS (af cg) fc rfl rfl (by decide +kernel)) (bG (aa 2)) (bH 0) (fun C s H fp=>eU 0 ["k","places"]) bp (fun j k hk C s H fp=>aC c_classes_of (hr.mono (by decide)) rfl (aa 0) (aa 1) ⟨(mm k (List.mem_of_getElem? hk)).1,rfl⟩) (by omega) ?_;refine ah 5 bf.nd ae ?_
 have e17:Q.pf (13+1)=17:=by
  have h1:=Q.nH (k:=14) (p:=17) (Q.ny 17 (by decide)) (by decide) (by decide) (by decide) (by decide);have h2:=Q.ud (k:=14) (by decide) (by decide);have h3:=Q.nD (k:=14) (by decide)
  have:Q.pf 14≠15:=fun z=>by
   rw[z] at h3;have:=(Q.eC h3 (d:=3) (by decide) (by decide));omega
  show Q.pf 14=17;omega
 have hPB:Q.PB=1070000011:=rfl
 have ho:q0%2=1:=by
  rcases Q.bA.mp p1 with z|z
  .omega
  .exact z.2.1
 refine b7 (ι:=Int) (fun q Γ=>∃r3 r6 r7,Γ=[some (.val false Q.P7),some (.val false ws),some (.val true ms),r3,some (.val true (ms.map fun k=>xN k Q.P7)),some (.val true q),r6,r7]/\(q=1\/(Q.aM q=true/\17<=q))/\q<=q0) (fun q=>(q0-q).toNat) 1 ⟨none,none,none,rfl,.inl rfl,by omega⟩ ?_;rintro q Γ' ⟨r3,r6,r7,rfl,hq,hle⟩;have q1:1<=q:=by omega
 refine⟨true,gR td,fun _=>?_,fun z=>nomatch z⟩;refine ah 6 bf.nd (bR c_wishes_without (hr.mono (by decide)) rfl (aa 5) (aa 0) (aa 1) ⟨by omega,rfl,hw⟩) ?_;refine kN (as:=ms.zip (ms.map fun k=>xN k Q.P7)) (fun i Γ=>(∀k∈ms.take i,AE (xN k Q.P7) (sM q Q.P7 ws)=false)/\∃r3 r7,Γ=[some (.val false Q.P7),some (.val false ws),some (.val true ms),r3,some (.val true (ms.map fun k=>xN k Q.P7)),some (.val true q),some (.val true (sM q Q.P7 ws)),r7]) (vj 3 7 bf.nd) (tW rfl B.zip (aa 2) (aa 4)) ⟨(fun k hk=>by rw[List.take_zero] at hk;cases hk),r3,r7,rfl⟩ ?_ ?_
 .rintro i u Γ' hu ⟨ih,r3,r7,rfl⟩;have hz:=(List.getElem?_zip_eq_some (z:=u)).mp hu;have mk:=List.mem_of_getElem? hz.1;obtain⟨k1,k2,k3⟩:=mm _ mk
  have e2:u.2=xN u.1 Q.P7:=by
   have:=hz.2;rw[List.getElem?_map,hz.1] at this;exact(Option.some.inj this).symm
  refine aT (gR (aC c_are_among (hr.mono (by decide)) rfl (aa (a:=u.2) 7) (aa 6) True.intro)) (fun hc=>?_) (fun hc=>?_)
  .rw[e2] at hc;have hj:=(zN hl hw (show q≠0 by omega) k1).mp hc;refine av (aO (aa (a:=u.1) 3) (aa 5) ((show Sm 15 u.1 by unfold Sm;omega).ok (show Sm 13 q by unfold Sm;omega))) ⟨u.1*q,⟨u.1,q,rfl,hp.mem_iff.mp mk,?_,hj⟩,rfl⟩;rcases hq with z|z
   .exact .inl z
   .exact .inr ⟨z.1,z.2,by omega⟩
  .refine az ⟨fun k hk=>?_,_,_,rfl⟩;rw[List.take_add_one,hz.1] at hk;rcases List.mem_append.mp hk with w|w
   .exact ih k w
   .rw[List.mem_singleton.mp w,<-e2];exact hc
 .rintro Γ' ⟨ih,r3,r7,rfl⟩;have lz:(ms.zip (ms.map fun k=>xN k Q.P7)).length=ms.length:=by rw[List.length_zip,List.length_map,Nat.min_self]
  rw[lz,List.take_length] at ih
  have hne':q≠q0:=fun z=>by
   have:=ih k0 (hp.mem_iff.mpr hk0);rw[z,(zN hl hw (show q0≠0 by omega) (f6.2 k0 hk0).1).mpr hq0] at this;cases this
  refine ah 5 bf.nd (aH c_next_prime (hr.mono (by decide)) rfl (CH rfl rfl B.max (aa 5) (nK (a:=13) (ma rfl g_SMALL_PLACES) ae rfl)) ⟨by split<;>omega,by split<;>omega⟩) ?_;rcases hq with z|⟨z1,z2⟩
  .have e:(if (13:Int)>q then (13:Int) else q)=13:=if_pos (by omega);rw[e,e17];exact az ⟨17,⟨_,_,_,rfl,.inr ⟨Q.ny 17 (by decide),by decide⟩,p2⟩,by omega⟩
  .have e:(if (13:Int)>q then (13:Int) else q)=q:=if_neg (by omega);rw[e];have h1:=Q.nH (k:=q+1) p1 (by omega) ho (by omega) (by omega);have h2:=Q.ud (k:=q+1) (by omega) (by omega);exact az ⟨_,⟨_,_,_,rfl,.inr ⟨Q.nD (by omega),by omega⟩,h1⟩,by omega⟩
open Q (Due Res FW dJ P7 aj pW uk eB Q6 aM)
theorem m_(c_class_at:aJ P w K mg base 3 "class_at" ["k","p"] (cF K (fun k p=>k≠0/\(p=0\/(2<=p/\p<2^62))) true jN))(k p:Int)(hk:k≠0)(hp:p∈P7):Body P w K mg base g8 "is_square_at" dk f 3 [.val false k,.val false p] (RT true (pW k p)):=by
 intro cdv A outer s H E hr;refine av (cj (GS (α:=Int⊕(Int×Int)) (xE hr)) (aC c_class_at (hr.mono (by decide)) rfl (aa 0) (aa 1) ⟨hk,oF hp⟩) (g5 (aw aA (aa 1) ae) (fun _=>xY (β:=Int×Int) (a:=(1:Int)) ae) (fun _=>vM (α:=Int) (a:=((0:Int),(1:Int))) (bN ae ae)))) ?_;show Bd.val _ _=Bd.val _ _;congr 1;unfold pW jN;by_cases h:p=0
 .rw[if_pos h,if_pos h,if_pos (decide_eq_true h)];by_cases z:0<k
  .rw[if_pos z,decide_eq_true z];exact decide_eq_true rfl
  .rw[if_neg z,decide_eq_false z];exact decide_eq_false fun e=>by cases e
 .rw[if_neg h,if_neg h,if_neg (by rw[decide_eq_false h];decide)];by_cases z:Q.cls k p=(0,1)
  .rw[decide_eq_true z];exact decide_eq_true (by rw[z])
  .rw[decide_eq_false z];exact decide_eq_false fun e=>z (Sum.inr.inj e)
theorem Ea{p:Int}(hp:p∈P7)(h0:p≠0)(h2:p≠2):Q.NR p/\Sm 4 p/\Sm 4 (Q.qu p):=by
 obtain⟨_,pp,_⟩:=(Q.cm hp).resolve_left h0;have hn:=Q.uC pp h2;obtain⟨g,g1,g2,g3⟩:=Q.C0 pp h2;obtain⟨n1,n2,n3⟩:=Q.pO hn;have:¬g<Q.qu p:=fun z=>n3 g g1 z g3;simp only[P7,List.mem_cons,List.not_mem_nil,or_false] at hp;refine⟨hn,?_,?_⟩
 .unfold Sm;omega
 .unfold Sm;omega
include B in
theorem qi(g_AT_NOUGHT:qw K mg "AT_NOUGHT" [1,-1])(g_AT_TWO:qw K mg "AT_TWO" [1,3,5,7,2,6,10,14])(c_least_no_square:aJ P w K mg base 3 "least_no_square" ["p"] (dG K (fun p=>Q.NR p/\2<=p/\p<2^62) true Q.qu))(p:Int)(hp:p∈P7):Body P w K mg base jP "samples_at" d9 f 3 [.val false p] (RT true (uk p)):=by
 intro cdv A outer s H E hr;unfold uk;refine aT (aw aA (aa 0) ae) (fun hc=>?_) (fun hc=>?_)
 .rw[if_pos (of_decide_eq_true hc)];exact av (pK rfl B.list (ma rfl g_AT_NOUGHT)) rfl
 have h0:p≠0:=of_decide_eq_false hc;rw[if_neg h0];refine aT (aw aA (aa 0) ae) (fun hc=>?_) (fun hc=>?_)
 .rw[if_pos (of_decide_eq_true hc)];exact av (pK rfl B.list (ma rfl g_AT_TWO)) rfl
 have h2:p≠2:=of_decide_eq_false hc;rw[if_neg h2];obtain⟨n1,n2,n3⟩:=Ea hp h0 h2;have:=(oF hp).resolve_left h0;refine ah 1 iW.nd (aH c_least_no_square (hr.mono (by decide)) rfl (aa 0) ⟨n1,this⟩) ?_;exact av (eR (as:=[1,Q.qu p,p,p*Q.qu p]) (b:=true) (aq ae (aq (aa 1) (aq (gE (b':=true) (aa 0)) (aq (aO (aa 0) (aa 1) (n2.ok n3)) a7)))) (by show 4<=1000;decide)) rfl
noncomputable def zo(n:Int)(ns:List Int)(p:Int):jT:=((uk p).filter fun k=>!decide (aj k (-n) p=decide (p∈ns))).map fun k=>jN k p
theorem nX(c_class_at:aJ P w K mg base 3 "class_at" ["k","p"] (cF K (fun k p=>k≠0/\(p=0\/(2<=p/\p<2^62))) true jN))(c_samples_at:aJ P w K mg base 4 "samples_at" ["p"] (dG K (fun(p:Int)=>p∈P7) true uk))(c_says:aJ P w K mg base 4 "says" ["a","b","p"] (kH K (fun a b p=>a≠0/\b≠0/\(p=0\/(2<=p/\p<2^62))) true Q.aj))(n:Int)(ns:List Int)(p:Int)(hn:n≠0)(hp:p∈P7):Body P w K mg base fJ "classes_for" cJ f 4 [.val false n,.val false ns,.val false p] (RT true (zo n ns p)):=by
 intro cdv A outer s H E hr;refine av (d_ (f:=fun k:Int=>jN k p) (p:=fun k=>!decide (aj k (-n) p=decide (p∈ns))) (b':=true) ["k"] [0,1,2] (cS (af cJ) fJ rfl rfl (by decide +kernel)) (bG (aH c_samples_at (hr.mono (by decide)) rfl (aa 2) hp)) (bH 0) (fun C s H fp=>eU 0 ["k","number","noes","p"]) bp (fun i k hi C s H fp=>hV (aw (vF (α:=Bool) (xE hr)) (bR c_says (hr.mono (by decide)) rfl (aa 0) (iU (aa 1)) (aa 3) ⟨Q.z_ hp k (List.mem_of_getElem? hi),by omega,oF hp⟩) (cj qa (aa 3) (aa 2)))) (fun i k hi _ C s H fp=>aC c_class_at (hr.mono (by decide)) rfl (aa 0) (aa 3) ⟨Q.z_ hp k (List.mem_of_getElem? hi),oF hp⟩) (by have:=Q.zy p;omega)) rfl
theorem vZ{j:Nat}(hj:j<7):P7.getD j 0∈P7:=by
 rw[List.getD_eq_getElem?_getD,List.getElem?_eq_getElem (show j<P7.length from hj)];exact List.getElem_mem _
theorem F7{p:Int}(hp:p∈P7):∃j,j<7/\P7.getD j 0=p:=by
 obtain⟨j,hj,e⟩:=List.mem_iff_getElem.mp hp;exact⟨j,hj,by rw[List.getD_eq_getElem?_getD,List.getElem?_eq_getElem hj,e];rfl⟩
theorem zt{n:Int}{ns:List Int}{j:Nat}(hj:j<7):(P7.map (zo n ns)).getD j []=zo n ns (P7.getD j 0):=by
 rw[List.getD_eq_getElem?_getD,List.getElem?_map,List.getD_eq_getElem?_getD,List.getElem?_eq_getElem (show j<P7.length from hj)];rfl
theorem HG{n:Int}{ns:List Int}:A8 (P7.map (zo n ns)):=by
 refine⟨rfl,fun cs hc=>?_,fun j hj c hc=>?_⟩
 .obtain⟨p,hp,rfl⟩:=List.mem_map.mp hc;unfold zo;rw[List.length_map];have:=Q.zy p;have:=List.length_filter_le (fun k=>!decide (aj k (-n) p=decide (p∈ns))) (uk p);omega
 .rw[zt hj] at hc;obtain⟨k,hk,rfl⟩:=List.mem_map.mp hc;exact⟨k,Q.z_ (vZ hj) k (List.mem_filter.mp hk).1,rfl⟩
theorem GJ{g n:Int}{ns:List Int}(h:Due 2 g n ns):∀j,j<7->(P7.map (zo n ns)).getD j []≠[]:=fun j hj=>by
 rw[zt hj];have hp:=vZ hj;generalize P7.getD j 0=p at *;have n0:=Q.ba h.nm;obtain⟨k,hk,e⟩:=Q.Es hp (show -n≠0 by omega) (!decide (p∈ns)) (fun z=>h.two rfl p (by simpa using z));refine List.ne_nil_of_mem (a:=jN k p) (List.mem_map.mpr ⟨k,List.mem_filter.mpr ⟨hk,?_⟩,rfl⟩);rw[e];cases decide (p∈ns)<;>rfl
theorem DC{n m:Int}{ns:List Int}(h:∀j,j<7->eB m (P7.getD j 0)∈(P7.map (zo n ns)).getD j []):∀p∈P7,aj m (-n) p=!decide (p∈ns):=fun p hp=>by
 obtain⟨j,hj,e⟩:=F7 hp;have:=h j hj;rw[zt hj,e] at this;obtain⟨k,hk,ek⟩:=List.mem_map.mp this;rw[Q.yj (show eB m p=eB k p from ek.symm)];have:=(List.mem_filter.mp hk).2;revert this;cases aj k (-n) p<;>cases decide (p∈ns)<;>decide
set_option maxHeartbeats 1000000 in
include B in
theorem tE(g_SMALL_PLACES:qw K mg "SMALL_PLACES" [0,2,3,5,7,11,13])(c_classes_for:aJ P w K mg base 5 "classes_for" ["number","noes","p"] (kH K (fun(n:Int) (_:List Int) (p:Int)=>n≠0/\p∈P7) true zo))(c_number_among:aJ P w K mg base 5 "number_among" ["places","wishes"] (sV K (fun(ps:List Int) (ws:List jT)=>ps=P7/\A8 ws/\∀j,j<7->ws.getD j []≠[]) true (fun _ ws (n:Int)=>Io ws n)))(c_joined:aJ P w K mg base 2 "joined" ["a","b"] (cF K AG true fQ))(n:Int)(ns:List Int)(h:∃g,Due 2 g n ns):Body P w K mg base jb "two_with" eN f 5 [.val false n,.val false ns] (AH true (fun row=>∀g,Due 2 g n ns->Res 2 g n ns row)):=by
 intro cdv A outer s H E hr;obtain⟨g0,hd⟩:=h;have n0:=Q.ba hd.nm;have nl:=Q.fP hd.nm;refine Aa 2 ic.nd (b':=true) (f:=zo n ns) ["p"] [0,1] (cS (af eN) jb rfl rfl (by decide +kernel)) (uP (ma rfl g_SMALL_PLACES)) (bH 0) (fun C s H fp=>eU 0 ["p","number","noes"]) bp (fun j p hp C s H fp=>bR c_classes_for (hr.mono (by decide)) rfl (aa 1) (aa 2) (aa 0) ⟨n0,List.mem_of_getElem? hp⟩) (by decide) ?_;refine uc 3 ic.nd (qL c_number_among (hr.mono (by decide)) rfl (pK rfl B.list (ma rfl g_SMALL_PLACES)) (aa (a:=P7.map (zo n ns)) 2) ⟨rfl,HG,GJ hd⟩) ?_;rintro m ⟨k,q,rfl,hk,hq,hj⟩;have k0:=Q.ba hk;have kl:=Q.fP hk;have a0:k*q≠0:=Int.mul_ne_zero k0 (by omega);have sa:Sm 30 (k*q):=(Sm.mul (m:=15) (n:=15) (by unfold Sm;omega) (by unfold Sm;omega));refine av (eR (as:=[k*q,fQ (k*q) n]) (b:=true) (aq (aa 3) (aq (aC c_joined (hr.mono (by decide)) rfl (aa 3) (aa 0) ⟨a0,n0,sa.le (by decide),(show Sm 15 n by unfold Sm;omega).le (by decide)⟩) a7)) (by show 2<=1000;decide)) ⟨_,fun g hg=>?_,rfl⟩;exact Q.AW hg hk hq (DC hj)
noncomputable def CU(s g n:Int):Int:=(if 0<g then (1:Int) else -1)*(if s=3 then ((Q.jn n 30030).natAbs:Int) else 1)
include B in
theorem tH(g_ALL_SMALL_PRIMES:oe mg "ALL_SMALL_PRIMES" 30030)(c_joined:aJ P w K mg base 2 "joined" ["a","b"] (cF K AG true fQ))(s0 g n:Int)(hn:n∈dJ 6):Body P w K mg base mI "first_of" gJ f 2 [.val false s0,.val false g,.val false n] (RT true (CU s0 g n)):=by
 intro cdv A outer s H E hr;have n0:=Q.ba hn;have nl:=Q.fP hn;refine ah 3 kL.nd (g5 (aw aA (aa 0) ae) (fun _=>jh rfl B.abs (aC c_joined (hr.mono (by decide)) rfl (aa 2) (rP rfl g_ALL_SMALL_PRIMES) ⟨n0,by decide,(show Sm 15 n by unfold Sm;omega).le (by decide),(show Sm 15 30030 by unfold Sm;decide).le (by decide)⟩)) (fun _=>ae)) ?_;refine av (g5 (aw dt (aa 1) ae) (fun _=>aa 3) (fun _=>iU (aa 3))) ?_;show Bd.val _ _=Bd.val _ _;congr 1;unfold CU;rw[uR]
 have e:(if decide (s0=3)=true then ((fQ n 30030).natAbs:Int) else 1)=(if s0=3 then ((Q.jn n 30030).natAbs:Int) else 1):=by
  by_cases z:s0=3
  .rw[if_pos z,if_pos (decide_eq_true z)];rfl
  .rw[if_neg z,if_neg (by rw[decide_eq_false z];decide)]
 rw[e];by_cases z:0<g
 .rw[if_pos z,if_pos (decide_eq_true z),Int.one_mul]
 .rw[if_neg z,if_neg (by rw[decide_eq_false z];decide),Int.neg_one_mul]
def HP(a b:List Int):List Int:=P7.filter fun p=>decide (p∈a) != decide (p∈b)
theorem m9(g_SMALL_PLACES:qw K mg "SMALL_PLACES" [0,2,3,5,7,11,13])(a b:List Int):Body P w K mg base eW "in_one_alone" b8 f kk [.val false a,.val false b] (RT true (HP a b)):=by
 intro cdv A outer s H E hr;refine av (d_ (as:=P7) (f:=fun p:Int=>p) (p:=fun p=>decide (p∈a) != decide (p∈b)) (b':=true) ["p"] [0,1] (cS (af b8) eW rfl rfl (by decide +kernel)) (uP (ma rfl g_SMALL_PLACES)) (bH 0) (fun C s H fp=>eU 0 ["p","one","other"]) bp (fun i p hi C s H fp=>hV (aw (vF (α:=Bool) (xE hr)) (cj qa (aa 0) (aa 1)) (cj qa (aa 0) (aa 2)))) (fun i p hi _ C s H fp=>gE (b':=true) (aa 0)) (by decide)) ?_;show Bd.val _ _=Bd.val _ _;congr 1;rw[List.map_id'];rfl
theorem lR{k:Int}(h:k∈dJ 6):dW k=k:=o9 (s:=1) (Q.ba h) (by have:=Q.fP h;omega) (Q.lL h) (by decide) (by omega)
theorem FE{a b:Int}(ha:a∈dJ 6)(hb:b∈dJ 6):HF a b:=by
 have a0:=Q.ba ha;have b0:=Q.ba hb;have al:=Q.fP ha;have bl:=Q.fP hb;have ea:=lR ha;have eb:=lR hb;refine⟨t_ a0 (by omega),t_ b0 (by omega),?_,by rw[ea];exact a0,by rw[eb];exact b0,fun p hp=>?_⟩
 .rw[ea,eb];refine⟨by show 2<=100;decide,fun k hk=>?_,?_⟩
  .simp only[List.mem_cons,List.not_mem_nil,or_false] at hk;rcases hk with rfl|rfl<;>omega
  .have l1:=Q.vD (k:=(a.natAbs:Int)) (by omega) (by omega);have l2:=Q.vD (k:=(b.natAbs:Int)) (by omega) (by omega);unfold sj;simp only[List.flatMap_cons,List.flatMap_nil,List.length_cons,List.length_append,List.length_map,List.length_nil];omega
 .rw[ea,eb] at hp;unfold o_ sj at hp;rw[hZ,List.mem_cons,List.mem_flatMap] at hp;rcases hp with rfl|⟨x,hx,hp⟩
  .exact⟨by decide,by decide⟩
  .have hx':1<=(x.natAbs:Int)/\(x.natAbs:Int)<=30030:=by
    simp only[List.mem_cons,List.not_mem_nil,or_false] at hx;rcases hx with rfl|rfl<;>omega
   obtain⟨p1,p2⟩:=(Q.iC hx'.1).mp hp;have:=Int.le_of_dvd (by omega) p2;exact⟨Q.au p1,by omega⟩
theorem Ep{a b p:Int}(ha:a∈dJ 6)(hb:b∈dJ 6)(hp:p∈P7):p∈D2 a b↔aj a b p=false:=by
 have a0:=Q.ba ha;have b0:=Q.ba hb;unfold D2 JH;rw[lR ha,lR hb,List.mem_filter];constructor
 .rintro⟨_,h⟩;simpa using h
 .intro h;refine⟨?_,by simpa using h⟩;rcases Q.cm hp with rfl|⟨p0,pp,_⟩
  .exact List.mem_cons_self
  .refine List.mem_cons_of_mem _ ?_;unfold o_ sj;rw[hZ,List.mem_cons,List.mem_flatMap];by_cases p2:p=2
   .exact .inl p2
   .have key:p∣a\/p∣b:=by
     apply Classical.byContradiction;intro hn;rw[Q.eI pp p2 (fun z=>hn (.inl z)) fun z=>hn (.inr z)] at h;cases h
    rcases key with z|z
    .exact .inr ⟨a,by simp,(Q.iC (by omega)).mpr ⟨pp,Int.dvd_natAbs.mpr z⟩⟩
    .exact .inr ⟨b,by simp,(Q.iC (by omega)).mpr ⟨pp,Int.dvd_natAbs.mpr z⟩⟩
set_option maxHeartbeats 1000000 in
include B in
theorem uy(c_all_noes:aJ P w K mg base 7 "all_noes" ["a","b"] (cF K HF true D2))(c_joined:aJ P w K mg base 2 "joined" ["a","b"] (cF K AG true fQ))(c_two_with:aJ P w K mg base 6 "two_with" ["number","noes"] (sV K (fun(n:Int) (ns:List Int)=>∃g,Due 2 g n ns) true (fun n ns row=>∀g,Due 2 g n ns->Res 2 g n ns row)))(c_first_of:aJ P w K mg base 3 "first_of" ["size","signs","number"] (kH K (fun(_ _:Int) (n:Int)=>n∈dJ 6) true CU))(c_in_one_alone:aJ P w K mg base 1 "in_one_alone" ["one","other"] (cF K (fun(_ _:List Int)=>True) true HP))(m:Nat)(c_row_with:aJ P w K mg base (8+m) "row_with" ["size","signs","number","noes"] (wR K (fun s g n ns=>Due s g n ns/\s<=(m:Nat)) true Res))(s0 g n:Int)(ns:List Int)(h:Due s0 g n ns)(hm:s0<=(m+1:Nat)):Body P w K mg base mO "row_with" fe f (8+m) [.val false s0,.val false g,.val false n,.val false ns] (AH true (Res s0 g n ns)):=by
 intro cdv A outer s H E hr;have hs1:=h.s1;have hs8:=h.s8;refine aT (aw aA (aa 0) ae) (fun hc=>?_) (fun hc=>?_)
 .have e:s0=1:=of_decide_eq_true hc;subst e;exact av (eR (as:=[n]) (b:=true) (aq (gE (b':=true) (aa 2)) a7) (by show 1<=1000;decide)) ⟨_,Q.A6 h,rfl⟩
 have h1:s0≠1:=of_decide_eq_false hc;refine aT (aw aA (aa 0) ae) (fun hc=>?_) (fun hc=>?_)
 .have e:s0=2:=of_decide_eq_true hc;subst e;exact uU (qL c_two_with (hr.mono (by omega)) rfl (aa 2) (aa 3) ⟨g,h⟩) fun row hrow=>⟨row,hrow g h,rfl⟩
 have h2:s0≠2:=of_decide_eq_false hc;have hn:=h.nm;have n0:=Q.ba hn;have nl:=Q.fP hn;have F:=Q.Dy (s:=s0) (g:=g) hn (f:=CU s0 g n) rfl;have f0:=Q.ba F.fm;have fl:=Q.fP F.fm;refine ah 4 dS.nd (bR c_first_of (hr.mono (by omega)) rfl (aa 0) (aa 1) (aa 2) hn) ?_;refine ah 5 dS.nd (aC c_joined (hr.mono (by omega)) rfl (aa 2) (aa 4) ⟨n0,f0,(show Sm 15 n by unfold Sm;omega).le (by decide),(show Sm 15 (CU s0 g n) by unfold Sm;omega).le (by decide)⟩) ?_;generalize CU s0 g n=a at *;have F:FW s0 g n a (fQ n a):=F;have lm:=F.lm;have han:=fun p hp=>Ep (p:=p) F.fm F.lm hp;generalize fQ n a=l at *;have D:=Q.yd h (by omega) F han;refine uc 6 dS.nd (qG c_row_with (hr.mono (Nat.le_refl _)) rfl (eL (aa 0) ae) (CH rfl rfl B.max (eL (aa 1) ae) ae) (aa 5) (aC c_in_one_alone (hr.mono (by omega)) rfl (aa 3) (aC c_all_noes (hr.mono (by omega)) rfl (aa 4) (aa 5) (FE F.fm lm)) True.intro) ⟨?_,by omega⟩) ?_
 .have e:(if (0:Int)>g-1 then (0:Int) else g-1)=(if g-1>0 then g-1 else 0):=by split<;>split<;>omega
  rw[e];exact D
 intro row hR;have e:(if (0:Int)>g-1 then (0:Int) else g-1)=(if g-1>0 then g-1 else 0):=by split<;>split<;>omega
 rw[e] at hR;have hl:=hR.len;exact av (lY (eR (as:=[a]) (b:=true) (aq (aa 4) a7) (by show 1<=1000;decide)) (aa 6) (by show 1+row.length<=1000;omega)) ⟨_,Q.yV h (by omega) F han hR,rfl⟩
section
include B
variable(c_all_noes:aJ P w K mg base 7 "all_noes" ["a","b"] (cF K HF true D2))(c_joined:aJ P w K mg base 2 "joined" ["a","b"] (cF K AG true fQ))(c_two_with:aJ P w K mg base 6 "two_with" ["number","noes"] (sV K (fun(n:Int) (ns:List Int)=>∃g,Due 2 g n ns) true (fun n ns row=>∀g,Due 2 g n ns->Res 2 g n ns row)))(c_first_of:aJ P w K mg base 3 "first_of" ["size","signs","number"] (kH K (fun(_ _:Int) (n:Int)=>n∈dJ 6) true CU))(c_in_one_alone:aJ P w K mg base 1 "in_one_alone" ["one","other"] (cF K (fun(_ _:List Int)=>True) true HP))
include c_all_noes c_joined c_two_with c_first_of c_in_one_alone
theorem jK{h:Heap}(D:Df K "row_with" fe)(X:K.In h)(G:h.Ns mainGlobals mg):∀m:Nat,aJ P w K mg base (8+m) "row_with" ["size","signs","number","noes"] (wR K (fun s g n ns=>Due s g n ns/\s<=(m:Nat)) true Res)
 |0=>D.cU X G (fun _ _ _ _ _ _ us hl=>match us,hl with|[_,_,_,_],_=>rfl) fun f fd F=>Hn F dS rfl fun a c d e hp=>absurd hp.1.s1 (by have:=hp.2;omega)
 |m+1=>D.cU X G (fun _ _ _ _ _ _ us hl=>match us,hl with|[_,_,_,_],_=>rfl) fun f fd F=>Hn F dS rfl fun a c d e hp=>uy B c_all_noes c_joined c_two_with c_first_of c_in_one_alone m (jK D X G m) a c d e hp.1 hp.2
end
structure nR where
 s:Int
 g:Int
 n:Int
 ns:List Int
def Ia(w:nR):PyData:=.tuple [.int w.s,.int w.g,.int w.n,.list (w.ns.map .int)]
instance:Py nR where
 rp K N H v a:=Py.rp K N H v (Dt.mk (Ia a))
 tr l t h:=Py.tr (α:=Dt) l t h
theorem AY{X:Cx}{Γ:aE}{e:Expr}{b:Bool}{w:nR}(h:E X Γ e b w):E X Γ e b (Dt.mk (Ia w)):=nP h fun N H v r=>r
theorem Dp{X:Cx}{Γ:aE}{e:Expr}{b:Bool}{w:nR}(h:E X Γ e b (Dt.mk (Ia w))):E X Γ e b w:=nP h fun N H v r=>r
theorem vm{X:Cx}{Γ:aE}{e:Expr}{b:Bool}{w:nR}{pos p:Pos}{j:Nat}(h:E X Γ e b w):E X Γ (.Subscript e (.Constant (.int 0) j p) pos) b w.s:=tT (nK (pP (AY h)) ae rfl)
theorem Cz{X:Cx}{Γ:aE}{e:Expr}{b:Bool}{w:nR}{pos p:Pos}{j:Nat}(h:E X Γ e b w):E X Γ (.Subscript e (.Constant (.int 1) j p) pos) b w.g:=tT (nK (pP (AY h)) ae rfl)
theorem Dg{X:Cx}{Γ:aE}{e:Expr}{b:Bool}{w:nR}{pos p:Pos}{j:Nat}(h:E X Γ e b w):E X Γ (.Subscript e (.Constant (.int 2) j p) pos) b w.n:=tT (nK (pP (AY h)) ae rfl)
theorem CK{X:Cx}{Γ:aE}{e:Expr}{b:Bool}{w:nR}{pos p:Pos}{j:Nat}(h:E X Γ e b w):E X Γ (.Subscript e (.Constant (.int 3) j p) pos) b w.ns:=Bc (nK (pP (AY h)) ae rfl)
structure sQ(w:nR):Prop where
 s1:1<=w.s
 s8:w.s<=8
 g0:0<=w.g
 gs:w.g<=w.s
 nm:w.n∈dJ 6
 su:w.ns=P7.filter fun p=>decide (p∈w.ns)
theorem sQ.sub{w:nR}(h:sQ w):∀p∈w.ns,p∈P7:=fun p hp=>by
 rw[h.su] at hp;exact(List.mem_filter.mp hp).1
theorem sQ.len{w:nR}(h:sQ w):w.ns.length<=7:=by
 rw[h.su];exact Nat.le_trans (List.length_filter_le _ _) (by decide)
noncomputable def sO(s g n:Int)(ns:List Int):Bool :=
 if ((!decide (decide (n<0)=decide ((s-g)%2=1))) || decide ((ns.length:Int)%2=1))=true then false
 else if (!decide (decide ((0:Int)∈ns)=decide ((s-g)*(s-g-1)/2%2=1)))=true then false
 else if s=1 then decide ((ns.length:Int)=0) else decide (2<s) || !(ns.map (pW (-n))).any id
theorem DH{w:nR}(h:sQ w)(hd:sO w.s w.g w.n w.ns=true):Due w.s w.g w.n w.ns:=by
 unfold sO at hd;split at hd
 .cases hd
 rename_i h1;split at hd
 .cases hd
 rename_i h2;rw[Bool.or_eq_true,not_or] at h1;have e1:decide (w.n<0)=decide ((w.s-w.g)%2=1):=by simpa using h1.1
 have e2:¬(w.ns.length:Int)%2=1:=by simpa using h1.2
 have e3:decide ((0:Int)∈w.ns)=decide ((w.s-w.g)*(w.s-w.g-1)/2%2=1):=by simpa using h2
 refine⟨h.s1,h.s8,h.g0,h.gs,h.nm,h.sub,h.len,decide_eq_decide.mp e1,?_,decide_eq_decide.mp e3,fun e=>?_,fun e p hp=>?_⟩
 .have:P7.filter (fun p=>!(!decide (p∈w.ns)))=w.ns:=by
   conv=>rhs;rw[h.su]
   congr 1;funext p;rw[Bool.not_not]
  show decide ((P7.filter (fun p=>!(!decide (p∈w.ns)))).length%2=0)=true;rw[this];exact decide_eq_true (by omega)
 .rw[if_pos e] at hd;have:=of_decide_eq_true hd;exact List.length_eq_zero_iff.mp (by omega)
 .rw[if_neg (by omega),decide_eq_false (by omega),Bool.false_or,Bool.not_eq_true'] at hd;cases e4:pW (-w.n) p with
  |false=>rfl
  |true =>
   rw[List.any_eq_false] at hd;exact absurd (show id (pW (-w.n) p)=true from e4) (hd _ (List.mem_map.mpr ⟨p,hp,rfl⟩))
set_option maxHeartbeats 1000000 in
include B in
theorem zA(c_is_square_at:aJ P w K mg base 4 "is_square_at" ["k","p"] (cF K (fun(k p:Int)=>k≠0/\p∈P7) true pW))(wi:nR)(h:sQ wi):Body P w K mg base mQ "can_be" iv f 4 [.val false wi] (RT true (sO wi.s wi.g wi.n wi.ns)):=by
 intro cdv A outer s H E hr;have s1:=h.s1;have s8:=h.s8;have g0:=h.g0;have gs:=h.gs;have hsub:=h.sub;have hlen:=h.len;have n0:=Q.ba h.nm;refine ah 1 iH.nd (eL (vm (aa 0)) (Cz (aa 0))) ?_;refine ah 2 iH.nd (Dg (aa 0)) ?_;refine ah 3 iH.nd (CK (aa 0)) ?_;unfold sO;refine aT (TW.t (mB (aw (vF (α:=Bool) (xE hr)) (cj jx (aa 2) ae) (cj aA (mn (aL (aa 1) ae (by decide)) (bq (by decide))) ae)) fun _=>(i8 (aw aA (mn (aL (cH rfl B.len (aa 3)) ae (by decide)) (bq (by decide))) ae)))) (fun hc=>?_) (fun hc=>?_)
 .rw[if_pos hc];exact av td rfl
 rw[if_neg (by rw[hc];decide)];refine aT (aw (vF (α:=Bool) (xE hr)) (cj qa ae (aa 3)) (cj aA (mn (a':=(wi.s-wi.g)*(wi.s-wi.g-1)/2%2) (aL (aP (aO (aa 1) (eL (aa 1) ae) ((show Sm 4 (wi.s-wi.g) by unfold Sm;omega).ok (show Sm 4 (wi.s-wi.g-1) by unfold Sm;omega))) ae lU) ae (by decide)) (by rw[bq (by decide),Int.fdiv_eq_ediv_of_nonneg _ (by decide)])) ae)) (fun hc=>?_) (fun hc=>?_)
 .rw[if_pos hc];exact av td rfl
 rw[if_neg (by rw[hc];decide)];refine aT (aw aA (vm (aa 0)) ae) (fun hc=>?_) (fun hc=>?_)
 .rw[if_pos (of_decide_eq_true hc)];exact av (cj aA (cH rfl B.len (aa 3)) ae) rfl
 rw[if_neg (of_decide_eq_false hc)];exact av (EY (cj dt (vm (aa 0)) ae) fun _=>(qz (CT (HH rfl rfl B.any (lS (b':=true) (f:=pW (-wi.n)) ["p"] [2] (cS (af iv) mQ rfl rfl (by decide +kernel)) (bG (aa 3)) (bH 0) (fun C s H fp=>eU 0 ["p","number"]) bp (fun j p hp C s H fp=>aC c_is_square_at (hr.mono (by decide)) rfl (iU (aa 1)) (aa 0) ⟨by omega,hsub p (List.mem_of_getElem? hp)⟩) (by omega)))))) rfl
def HS(w:nR)(o:Option (List Int)):Prop:=(sO w.s w.g w.n w.ns=true->∃row,o=some row/\Res w.s w.g w.n w.ns row)/\(sO w.s w.g w.n w.ns=false->o=none)
theorem Co(c_can_be:aJ P w K mg base 5 "can_be" ["wish"] (dG K sQ true (fun w=>sO w.s w.g w.n w.ns)))(c_row_with:aJ P w K mg base 16 "row_with" ["size","signs","number","noes"] (wR K (fun s g n ns=>Due s g n ns/\s<=(8:Nat)) true Res))(wi:nR)(h:sQ wi):Body P w K mg base wj "built" ly f 16 [.val false wi] (AH true (HS wi)):=by
 intro cdv A outer s H E hr;have s8:=h.s8;refine uU (Gq (post:=HS wi) (gR (aH c_can_be (hr.mono (by decide)) rfl (aa 0) h)) (fun hc=>?_) (fun hc=>?_)) fun o ho=>⟨o,ho,rfl⟩
 .have D:=DH h hc;exact AX (qG c_row_with (hr.mono (by decide)) rfl (vm (aa 0)) (Cz (aa 0)) (Dg (aa 0)) (CK (aa 0)) ⟨D,by omega⟩) fun row hR=>⟨fun _=>⟨row,rfl,hR⟩,fun z=>by rw[hc] at z;cases z⟩
 .exact GK (l_ (α:=List Int)) ⟨fun z=>(by rw[hc] at z;cases z),fun _=>rfl⟩
def kF(xs:List Int)(k:Int):Int:=if k<(xs.length:Int) then xs.getD k.toNat 0 else 0
include B in
theorem nV(xs:List Int)(k:Int)(h0:0<=k):Body P w K mg base iT "_law_cell_at" dF f kk [.val false xs,.val false k] (RT true (kF xs k)):=by
 intro cdv A outer s H E hr;refine aT (aw jx (aa 1) (cH rfl B.len (aa 0))) (fun hc=>?_) (fun hc=>?_)
 .have hc':k<(xs.length:Int):=by simpa using hc
  have e:kF xs k=xs.getD k.toNat 0:=if_pos hc';rw[e];exact av (gE (vY (aa 0) (aa 1) (zq (d:=0) h0 hc'))) rfl
 .have hc':¬k<(xs.length:Int):=by simpa using hc
  have e:kF xs k=0:=if_neg hc';rw[e];exact av ae rfl
def J3(c k j:Int):Int:=(((c.natAbs:Int).fmod 2147483647+97*k+131*j+13)*(16807+j*j+k)).fmod 2147483647
def HU(c k:Int):Nat->Int
 |0=>0
 |i+1=>HU c k i*2147483659+(J3 c k i*48271).fmod 2147483647
def CW(c k:Int):Int:=if 10^18<=(c.natAbs:Int) then c else HU c k 9
include B in
theorem xI(c k:Int)(h0:0<=k)(h1:k<=100):Body P w K mg base oo "_law_big" iI f kk [.val false c,.val false k] (RT true (CW c k)):=by
 intro cdv A outer s H E hr;have ab:∀i:Int,(if i<0 then -i else i)=(i.natAbs:Int):=fun i=>by split<;>omega
 refine aT (aw F0 (jh rfl B.abs (aa 0)) (Gr ae ae J9)) (fun hc=>?_) (fun hc=>?_)
 .rw[ab] at hc;have e:CW c k=c:=if_pos (by simpa using hc);rw[e];exact av (gE (aa 0)) rfl
 rw[ab] at hc;have e:CW c k=HU c k 9:=if_neg (by simpa using hc);rw[e];refine ah 2 dC.nd ae ?_;refine gF (fun i Γ=>∃r r',Γ=[some (.val false c),some (.val false k),some (.val true (HU c k i)),r,r']) rfl B.range (cG 3 dC.nd) ae (by decide) (by decide) ⟨none,none,rfl⟩ ?_ ?_
 .rintro i Γ' hi ⟨r,r',rfl⟩;have hi':i<9:=hi;have z0:=e_ (a:=(c.natAbs:Int)) (b:=2147483647) (by decide);have hjj:(i:Int)*(i:Int)<=9*9:=Int.mul_le_mul (by omega) (by omega) (by omega) (by decide);have hj0:(0:Int)<=(i:Int)*(i:Int):=Int.mul_nonneg (by omega) (by omega);refine ah 4 dC.nd (aX (aX (aX (aL (jh rfl B.abs (aa 0)) ae (by decide)) (aO ae (aa 1) (mulL (by decide) (by decide)))) (aO ae (aa 3) (mulL (by decide) (by decide)))) ae) ?_;rw[ab];refine ah 4 dC.nd (aL (aO (aa 4) (aX (aX ae (aO (aa 3) (aa 3) (mulL (by omega) (by omega)))) (aa 1)) (mulL (by omega) (by omega))) ae (by decide)) ?_;have z1:=e_ (a:=((c.natAbs:Int).fmod 2147483647+97*k+131*(i:Int)+13)*(16807+(i:Int)*(i:Int)+k)) (b:=2147483647) (by decide);refine ah 2 dC.nd (aX (aO (aa 2) ae (mulR (by decide) (by decide))) (aL (aO (aa 4) ae (mulR (by decide) (by decide))) ae (by decide))) ?_;exact az ⟨_,_,rfl⟩
 .rintro Γ' ⟨r,r',rfl⟩;exact av (aa 2) rfl
def SP:List Int:=[2,3,5,7,11,13]
theorem Ht:∀p,p∈SP->2<=p:=by decide
theorem Hg:∀p,p∈SP->2<=p/\p<100:=by decide
def jR(c:Int):Nat->Int×Int
 |0=>(1-2*c.fmod 2,c.fdiv 2)
 |i+1=>((if (jR c i).2.fmod 2=1 then (jR c i).1*SP.getD i 1 else (jR c i).1),(jR c i).2.fdiv 2)
def Fm(c:Int):Int:=(jR c 6).1
def Pf(x:Int):Prop:=x≠0/\x.natAbs<=30030/\∀q:Int,(q=17\/q=19\/q=23\/q=97)->¬q∣x
theorem qP{q:Int}(h:q=17\/q=19\/q=23\/q=97):Q.aM q=true:=by
 rcases h with rfl|rfl|rfl|rfl
 .exact Q.c8 (n:=17) (m:=5) (by decide) (by decide) (by decide) (by decide)
 .exact Q.c8 (n:=19) (m:=5) (by decide) (by decide) (by decide) (by decide)
 .exact Q.c8 (n:=23) (m:=5) (by decide) (by decide) (by decide) (by decide)
 .exact Q.c8 (n:=97) (m:=5) (by decide) (by decide) (by decide) (by decide)
theorem JY{q:Int}(h:q=17\/q=19\/q=23\/q=97):∀p∈SP,¬q∣p:=by
 rcases h with rfl|rfl|rfl|rfl<;>decide
theorem JK{q r:Int}(h:q=17\/q=19\/q=23\/q=97)(h1:1<=r)(h2:r<=12):¬q∣r:=fun z=>by
 have:=Int.le_of_dvd (by omega) z;omega
def FR:Nat->Int
 |0=>1
 |i+1=>FR i*SP.getD i 1
theorem Ae(c:Int):∀i,i<=6->(jR c i).1≠0/\((jR c i).1.natAbs:Int)<=FR i/\∀q:Int,(q=17\/q=19\/q=23\/q=97)->¬q∣(jR c i).1
 |0,_=>by
  have z:=e_ (a:=c) (b:=2) (by decide);have:c.fmod 2=0\/c.fmod 2=1:=by omega
  show(1-2*c.fmod 2)≠0/\((1-2*c.fmod 2).natAbs:Int)<=1/\∀q:Int,_->¬q∣(1-2*c.fmod 2);rcases this with e|e<;>rw[e]
  .refine⟨by decide,by decide,fun q hq=>?_⟩;rcases hq with rfl|rfl|rfl|rfl<;>decide
  .refine⟨by decide,by decide,fun q hq=>?_⟩;rcases hq with rfl|rfl|rfl|rfl<;>decide
 |i+1,hi=>by
  obtain⟨h1,h2,h3⟩:=Ae c i (by omega);have hm:SP.getD i 1∈SP:=Q.getD_mem (by show i<6;omega);have hg:=Ht _ hm;have e:(jR c (i+1)).1=if (jR c i).2.fmod 2=1 then (jR c i).1*SP.getD i 1 else (jR c i).1:=rfl
  have ep:FR (i+1)=FR i*SP.getD i 1:=rfl;rw[e,ep];split
  .refine⟨Int.mul_ne_zero h1 (by omega),?_,fun q hq z=>?_⟩
   .rw[Int.natAbs_mul,Int.natCast_mul,show((SP.getD i 1).natAbs:Int)=SP.getD i 1 by omega];exact Int.mul_le_mul_of_nonneg_right h2 (by omega)
   .rcases Q.euclid (qP hq) z with z|z
    .exact h3 q hq z
    .exact JY hq _ hm z
  .refine⟨h1,?_,h3⟩;have p0:0<=FR i:=by omega
   have:=Int.mul_le_mul_of_nonneg_left (show(1:Int)<=SP.getD i 1 by omega) p0;omega
theorem DS(c:Int):Pf (Fm c):=by
 obtain⟨h1,h2,h3⟩:=Ae c 6 (Nat.le_refl _);have:FR 6=30030:=by decide
 rw[this] at h2;exact⟨h1,by unfold Fm;omega,h3⟩
set_option maxHeartbeats 1000000 in
include B in
theorem qB(c:Int):Body P w K mg base km "_law_small" fk f kk [.val false c] (RT true (Fm c)):=by
 intro cdv A outer s H E hr;refine ah 1 cz.nd (eL ae (aO ae (aL (aa 0) ae (by decide)) (mulL (by decide) (by decide)))) ?_;refine ah 2 cz.nd (aP (aa 0) ae lU) ?_;refine mJ (xs:=SP) (b:=true) (fun i Γ=>∃r3,Γ=[some (.val false c),some (.val true (jR c i).1),some (.val true (jR c i).2),r3]) (cG 3 cz.nd) (eR (aq ae (aq ae (aq ae (aq ae (aq ae (aq ae a7)))))) (Nat.le_of_ble_eq_true rfl)) ⟨none,rfl⟩ ?_ ?_
 .rintro i a Γ' ha ⟨r3,rfl⟩;have hi:i<6:=(List.getElem?_eq_some_iff.mp ha).1;have eg:SP.getD i 1=a:=by rw[List.getD_eq_getElem?_getD,ha];rfl
  have hm:=Hg a (List.mem_of_getElem? ha);have e:jR c (i+1)=((if (jR c i).2.fmod 2=1 then (jR c i).1*a else (jR c i).1),(jR c i).2.fdiv 2):=by rw[<-eg];rfl
  rw[e];refine fR (fun Γ=>Γ=[some (.val false c),some (.val true (if (jR c i).2.fmod 2=1 then (jR c i).1*a else (jR c i).1)),some (.val true (jR c i).2),some (.val true a)]) (aw aA (aL (aa 2) ae (by decide)) ae) (fun hc=>?_) (fun hc=>?_) ?_
  .rw[if_pos (by simpa using hc)];refine ah 1 cz.nd (aO (aa 1) (aa 3) (mulR (by omega) (by omega))) ?_;exact az rfl
  .rw[if_neg (by simpa using hc)];exact az rfl
  .rintro Γ' rfl;refine ah 2 cz.nd (aP (aa 2) ae lU) ?_;exact az ⟨_,rfl⟩
 .rintro Γ' ⟨r3,rfl⟩;exact av (aa 1) rfl
def AJ(c:Int):Int:=if (c.fdiv 128).fmod 4=0 then 1+(c.fdiv 512).fmod 12 else 1
def lE(c:Int):Nat->List Int×Int
 |0=>([],c)
 |i+1=>((lE c i).1++[Fm (lE c i).2*AJ (lE c i).2*AJ (lE c i).2],(lE c i).2.fdiv 6144)
def DP(c n:Int):List Int:=(lE c n.toNat).1
theorem uO(c:Int):1<=AJ c/\AJ c<=12:=by
 have z:=e_ (a:=c.fdiv 512) (b:=12) (by decide);unfold AJ;split<;>omega
def Rn(x:Int):Prop:=x≠0/\x.natAbs<=4324320/\∀q:Int,(q=17\/q=19\/q=23\/q=97)->¬q∣x
theorem FX{s r:Int}(h:Pf s)(h1:1<=r)(h2:r<=12):Rn (s*r*r):=by
 obtain⟨a,b,c⟩:=h;refine⟨Int.mul_ne_zero (Int.mul_ne_zero a (by omega)) (by omega),?_,fun q hq z=>?_⟩
 .rw[Int.natAbs_mul,Int.natAbs_mul];have k:r.natAbs<=12:=by omega
  have:=Nat.mul_le_mul (Nat.mul_le_mul b k) k;omega
 .rcases Q.euclid (qP hq) z with z|z
  .rcases Q.euclid (qP hq) z with z|z
   .exact c q hq z
   .exact JK hq h1 h2 z
  .exact JK hq h1 h2 z
theorem t8(c:Int):∀i:Nat,(lE c i).1.length=i/\∀x∈(lE c i).1,Rn x
 |0=>⟨rfl,fun x h=>by cases h⟩
 |i+1=>by
  obtain⟨a,b⟩:=t8 c i;refine⟨by simp[lE,a],fun x hx=>?_⟩;rcases List.mem_append.mp hx with hx|hx
  .exact b x hx
  .rw[List.mem_singleton.mp hx];obtain⟨r1,r2⟩:=uO (lE c i).2;exact FX (DS _) r1 r2
set_option maxHeartbeats 1000000 in
include B in
theorem xK(c_law_small:aJ P w K mg base 1 "_law_small" ["_law_cell"] (dG K (fun(_:Int)=>True) true Fm))(c n:Int)(h0:0<=n)(h8:n<=8):Body P w K mg base oD "_law_row" iN f 1 [.val false c,.val false n] (RT true (DP c n)):=by
 intro cdv A outer s H E hr;refine yT 2 Int cT.nd ?_;refine ah 3 cT.nd (aa 0) ?_;refine gF (n:=n) (fun i Γ=>∃b r4 r5,Γ=[some (.val false c),some (.val false n),some (.own true (lE c i).1),some (.val b (lE c i).2),r4,r5]) rfl B.range (cG 4 cT.nd) (aa 1) (by omega) (by omega) ⟨_,none,none,rfl⟩ ?_ ?_
 .rintro i Γ' hi ⟨b,r4,r5,rfl⟩;obtain⟨l1,_⟩:=t8 c i;obtain⟨r1,r2⟩:=uO (lE c i).2;refine ah 5 cT.nd ae ?_;refine fR (fun Γ=>Γ=[some (.val false c),some (.val false n),some (.own true (lE c i).1),some (.val b (lE c i).2),some (.val true (i:Int)),some (.val true (AJ (lE c i).2))]) (aw aA (aL (aP (aa 3) ae lU) ae (by decide)) ae) (fun hc=>?_) (fun hc=>?_) ?_
  .have e:AJ (lE c i).2=1+((lE c i).2.fdiv 512).fmod 12:=if_pos (by simpa using hc);rw[e];refine ah 5 cT.nd (aX ae (aL (aP (aa 3) ae lU) ae (by decide))) ?_;exact az rfl
  .have e:AJ (lE c i).2=1:=if_neg (by simpa using hc);rw[e];exact az rfl
  .rintro Γ' rfl;refine iw 2 (a:=Fm (lE c i).2*AJ (lE c i).2*AJ (lE c i).2) rfl (aO (aO (aH c_law_small (hr.mono (by decide)) rfl (aa 3) True.intro) (aa 5) (mulR (by omega) (by omega))) (aa 5) (mulR (by omega) (by omega))) (by omega) ?_;refine ah 3 cT.nd (aP (aa 3) ae lU) ?_;exact az ⟨_,_,_,rfl⟩
 .rintro Γ' ⟨b,r4,r5,rfl⟩;refine g9 2 rfl ?_;exact av (aa 2) rfl
def FL(a b:Int):Int:=((Int.gcd a b:Nat):Int)
include B in
theorem qt(a b:Int):Body P w K mg base jG "_law_common" eE f k [.val false a,.val false b] (RT true (FL a b)):=by
 intro cdv A outer s H E hr;refine b7 (ι:=Bool×Bool×Int×Int) (fun i Γ=>∃r,Γ=[some (.val i.1 i.2.2.1),some (.val i.2.1 i.2.2.2),r]/\Int.gcd i.2.2.1 i.2.2.2=Int.gcd a b) (fun i=>i.2.2.2.natAbs) (false,false,a,b) ⟨none,rfl,rfl⟩ ?_;rintro⟨b1,b2,x,y⟩ Γ' ⟨r,rfl,hg⟩;refine⟨_,aw eT (aa 1) ae,fun hc=>?_,fun hc=>?_⟩
 .have hy:y≠0:=by simpa using hc
  refine ah 2 dH.nd (aL (aa 0) (aa 1) hy) ?_;refine ah 0 dH.nd (aa 1) ?_;refine ah 1 dH.nd (aa 2) ?_;exact az ⟨(b2,true,y,x.fmod y),⟨_,rfl,(Q.rG x y).trans hg⟩,Q.vt x y hy⟩
 .have hy:y=0:=by simpa using hc
  refine av (jh rfl B.abs (aa 0)) ?_;dsimp only at hg ⊢;rw[hy,Int.gcd_zero_right] at hg;unfold FL;rw[<-hg];show Bd.val _ _=Bd.val _ _;congr 1;split<;>omega
theorem sR(x:Int)(h0:0<=x)(hs:Sm 8000 x):Body P w K mg base nG "_law_root" gB f k [.val false x] (RT true (Q.rt x)):=by
 intro cdv A outer s H E hr;refine ah 1 ie.nd (aa 0) ?_
 refine b7 (ι:=Bool×Int) (fun i Γ=>Γ=[some (.val false x),some (.val i.1 i.2)]/\0<=i.2/\i.2<=x/\x<(i.2+1)*(i.2+1)) (fun i=>i.2.toNat) (false,x) ⟨rfl,h0,Int.le_refl x,by
  dsimp only;have:(x+1)*1<=(x+1)*(x+1):=Int.mul_le_mul_of_nonneg_left (by omega) (by omega)
  omega⟩ ?_
 rintro⟨bb,r⟩ Γ' ⟨rfl,r0,r1,r2⟩;dsimp only at *;have hSr:Sm 8000 r:=Sm.of_le (by omega) hs;refine⟨_,aw dt (aO (aa 1) (aa 1) (hSr.ok hSr)) (aa 0),fun hc=>?_,fun hc=>?_⟩
 .have hc':x<r*r:=by simpa using hc
  have hpos:0<r:=by
   rcases Int.lt_or_eq_of_le r0 with z|z
   .exact z
   .rw[<-z] at hc';simp at hc';omega
  refine ah 1 ie.nd (aP (aX (aa 1) (aP (aa 0) (aa 1) (hSr.div (by omega)))) ae lU) ?_;obtain⟨n0,n1,n2⟩:=Q.Ah h0 hpos hc';exact az ⟨(true,(r+x.fdiv r).fdiv 2),⟨rfl,n0,by dsimp only;omega,n2⟩,by dsimp only;omega⟩
 .have hc':r*r<=x:=by simpa using hc
  rw[<-Q.fZ r0 hc' r2];exact av (gE (aa 1)) rfl
open Q (gp aM)
structure xf(n fr l d:Int):Prop where
 d2:2<=d
 l0:0<l
 f0:0<fr
 sq:gp fr
 lo:∀q,aM q=true->q<d->¬q∣l
 hi:∀q,aM q=true->d<=q->¬q∣fr
 ex:∃s,0<s/\n=fr*l*(s*s)
theorem xf.le{n fr l d:Int}(h:xf n fr l d):fr*l<=n/\l<=n/\fr<=n:=by
 obtain⟨s,s0,e⟩:=h.ex;have l0:=h.l0;have f0:=h.f0;have p:0<fr*l:=Int.mul_pos f0 l0;have q:1<=s*s:=Int.mul_pos s0 s0;have a:=Int.mul_le_mul_of_nonneg_left q (show 0<=fr*l by omega);have b:=Int.mul_le_mul_of_nonneg_right (show 1<=fr by omega) (show 0<=l by omega);have c:=Int.mul_le_mul_of_nonneg_left (show 1<=l by omega) (show 0<=fr by omega);rw[e];omega
theorem xf.start{n:Int}(h:0<n):xf n 1 n 2:=⟨by decide,h,by decide,Q.gP,fun q hq hl=>by have:=Q.au hq;omega,fun q hq _ z=>by
 have:=Int.le_of_dvd (by decide) z;have:=Q.au hq
 omega,1,by decide,by rw[Int.one_mul,Int.mul_one,Int.mul_one]⟩
theorem xf.prime{n fr l0 l d:Int}{v:Nat}(h:xf n fr l0 d)(e:l0=l*d^(v+1)):aM d=true:=by
 have hd:d∣l0:=⟨l*d^v,by rw[e,Int.pow_succ];grind⟩;obtain⟨q,h1,h2⟩:=Q.eK h.d2;have h3:=Int.le_of_dvd (by have:=h.d2;omega) h2;by_cases z:q<d
 .exact absurd (Int.dvd_trans h2 hd) (h.lo q h1 z)
 .rw[show d=q by omega];exact h1
theorem xf.step{n fr l0 l d:Int}{v:Nat}(h:xf n fr l0 d)(e:l0=l*d^v)(hn:¬d∣l)(hl:0<l):xf n (if v%2=1 then fr*d else fr) l (d+1):=by
 have d2:=h.d2;have dl:l∣l0:=⟨_,e⟩;obtain⟨s,s0,ex⟩:=h.ex
 have lo':∀q,aM q=true->q<d+1->¬q∣l:=fun q hq hlt z=>by
  by_cases w:q<d
  .exact h.lo q hq w (Int.dvd_trans z dl)
  .rw[show q=d by omega] at z;exact hn z
 have pw:∀m:Nat,0<d^m:=fun m=>Int.pow_pos (by omega);by_cases o:v%2=1
 .rw[if_pos o];obtain⟨m,hm⟩:∃m,v=2*m+1:=⟨v/2,by omega⟩;have hp:aM d=true:=h.prime (v:=2*m) (by rw[e,hm]);refine⟨by omega,hl,Int.mul_pos h.f0 (by omega),Q.fK h.sq hp (h.hi d hp (Int.le_refl d)),lo',fun q hq hge z=>?_,s*d^m,Int.mul_pos s0 (pw m),?_⟩
  .rcases Q.euclid hq z with z|z
   .exact h.hi q hq (by omega) z
   .have:=Int.le_of_dvd (by omega) z;omega
  .rw[ex,e,hm,Int.pow_succ,show 2*m=m+m by omega,Int.pow_add];grind
 .rw[if_neg o];obtain⟨m,hm⟩:∃m,v=2*m:=⟨v/2,by omega⟩;refine⟨by omega,hl,h.f0,h.sq,lo',fun q hq hge z=>h.hi q hq (by omega) z,s*d^m,Int.mul_pos s0 (pw m),?_⟩;rw[ex,e,hm,show 2*m=m+m by omega,Int.pow_add];grind
theorem xf.done{n fr l d:Int}(h:xf n fr l d)(hd:l<d*d*d):∃s,0<s/\gp (if Q.rt l*Q.rt l=l then fr else fr*l)/\n=(if Q.rt l*Q.rt l=l then fr else fr*l)*(s*s):=by
 obtain⟨s,s0,ex⟩:=h.ex;have l0:=h.l0;have f0:=h.f0;have d2:=h.d2;by_cases r:Q.rt l*Q.rt l=l
 .rw[if_pos r];have r0:Q.rt l≠0:=fun z=>by rw[z] at r;omega
  have ra:0<((Q.rt l).natAbs:Int):=by omega
  refine⟨s*(Q.rt l).natAbs,Int.mul_pos s0 ra,h.sq,?_⟩;have e2:((Q.rt l).natAbs:Int)*((Q.rt l).natAbs:Int)=l:=by rw[<-Int.natCast_mul,Int.natAbs_mul_self,r]
  rw[ex];grind
 .rw[if_neg r]
  have sl:∀q,aM q=true->¬q*q∣l:=fun q hq z=>by
   obtain⟨m,em⟩:=z;have q2:=Q.au hq
   have hqd:d<=q:=by
    by_cases w:q<d
    .exact absurd ⟨q*m,by rw[em];grind⟩ (h.lo q hq w)
    .omega
   have m0:0<m:=by
    by_cases w:0<m
    .exact w
    .have:q*q*m<=0:=Int.mul_nonpos_of_nonneg_of_nonpos (by have:=Int.mul_pos (show 0<q by omega) (show 0<q by omega);omega) (by omega);omega
   by_cases m1:m=1
   .refine r ?_
    have:Q.rt l=q:=by
     rw[em,m1,Int.mul_one];exact(Q.fZ (by omega) (Int.le_refl _) (by grind)).symm
    rw[this,em,m1,Int.mul_one]
   .obtain⟨p,hp,pm⟩:=Q.eK (show 2<=m by omega)
    have hpd:d<=p:=by
     by_cases w:p<d
     .exact absurd (Int.dvd_trans pm ⟨q*q,by rw[em];grind⟩) (h.lo p hp w)
     .omega
    have hpm:=Int.le_of_dvd m0 pm;have a1:d*d<=q*q:=Int.mul_le_mul hqd hqd (by omega) (by omega);have a2:d*d*d<=q*q*m:=Int.mul_le_mul a1 (by omega) (by omega) (by have:=Int.mul_pos (show 0<q by omega) (show 0<q by omega);omega);omega
  refine⟨s,s0,iX (Int.mul_ne_zero (by omega) (by omega)) fun q hq z=>?_,ex⟩;by_cases w:q∣l
  .have hqd:d<=q:=by
    by_cases w':q<d
    .exact absurd w (h.lo q hq w')
    .omega
   have hnf:=h.hi q hq hqd
   have g:Int.gcd (q*q) fr=1:=by
    have g1:Int.gcd fr q=1:=Q.iD hq hnf
    exact Q.jZ (fun r hr h1 h2=>by
     have:r∣q:=by rcases Q.euclid hr h1 with z|z<;>exact z
     rw[Q.aN hr hq this] at h2
     exact hnf h2) (by have:=Q.au hq;exact Int.mul_ne_zero (by omega) (by omega))
   rw[Int.mul_comm fr l] at z;exact sl q hq (Q.eF z g)
  .have g:Int.gcd (q*q) l=1:=Q.jZ (fun r hr h1 h2=>by
     have:r∣q:=by rcases Q.euclid hr h1 with z|z<;>exact z
     rw[Q.aN hr hq this] at h2
     exact w h2) (by have:=Q.au hq;exact Int.mul_ne_zero (by omega) (by omega))
   have z':=Q.eF z g;exact h.sq.2 q (by have:=Q.au hq;omega) z'
set_option maxHeartbeats 2000000 in
include B in
theorem uv(c_law_root:aJ P w K mg base 1 "_law_root" ["_law_k"] (dG K (fun k=>0<=k/\Sm 8000 k) true Q.rt))(n:Int)(h0:n≠0)(hl:n.natAbs<1073741824):Body P w K mg base l8 "_law_free" gK f 1 [.val false n] (RT true (dW n)):=by
 intro cdv A outer s H E hr;have ab:∀i:Int,(if i<0 then -i else i)=(i.natAbs:Int):=fun i=>by split<;>omega
 refine ah 1 bh.nd (jh rfl B.abs (aa 0)) ?_;rw[ab];refine ah 2 bh.nd ae ?_;refine ah 3 bh.nd ae ?_;refine b7 (ι:=Int×Int×Int) (fun i Γ=>∃r4,Γ=[some (.val false n),some (.val true i.1),some (.val true i.2.1),some (.val true i.2.2),r4]/\xf n.natAbs i.2.1 i.1 i.2.2/\i.2.2<=n.natAbs+2) (fun i=>(i.1-i.2.2+5).toNat) ((n.natAbs:Int),1,2) ⟨none,rfl,xf.start (by omega),by dsimp only;omega⟩ ?_;rintro⟨l0,fr0,d⟩ Γ' ⟨r4,rfl,hI,hdn⟩;dsimp only at *;have d2:=hI.d2;have p0:=hI.l0;have pf0:=hI.f0;obtain⟨_,le2,le3⟩:=hI.le;have sd:Sm 31 d:=by unfold Sm;omega
 refine⟨_,aw yu (aO (aO (aa 3) (aa 3) (sd.ok sd)) (aa 3) ((sd.mul sd).ok sd)) (aa 1),fun hc=>?_,fun hc=>?_⟩
 .have hc':d*d*d<=l0:=by simpa using hc
  have hdl:d<l0:=by
   have a1:2*d<=d*d:=Int.mul_le_mul_of_nonneg_right d2 (by omega);have a2:d*d*1<=d*d*d:=Int.mul_le_mul_of_nonneg_left (by omega) (by omega);omega
  refine ah 4 bh.nd ae ?_;refine b7 (ι:=Int×Int) (fun i Γ=>Γ=[some (.val false n),some (.val true i.1),some (.val true fr0),some (.val true d),some (.val true i.2)]/\0<=i.2/\l0=i.1*d^i.2.toNat/\0<i.1) (fun i=>i.1.natAbs) (l0,0) ⟨rfl,Int.le_refl 0,by dsimp only;rw[show(0:Int).toNat=0 from rfl,Int.pow_zero,Int.mul_one],p0⟩ ?_;rintro⟨l,v⟩ Γ' ⟨rfl,hv,he,hl0⟩;dsimp only at *;refine⟨_,aw aA (aL (aa 1) (aa 3) (by omega)) ae,fun hc=>?_,fun hc=>?_⟩
  .have hc2:l.fmod d=0:=by simpa using hc
   refine ah 1 bh.nd (aP (aa 1) (aa 3) (sd.div (by omega))) ?_;refine ah 4 bh.nd (aX (aa 4) ae) ?_;obtain⟨a1,a2,a3,a4⟩:=uf hv he d2 hc2 (by omega);obtain⟨b1,_,_⟩:=Q.rk d2 (Q.e9.mp hc2) (show l≠0 by omega)
   have pos:0<l.fdiv d:=by
    by_cases w:0<l.fdiv d
    .exact w
    .have:=Int.mul_nonpos_of_nonneg_of_nonpos (show 0<=d by omega) (show l.fdiv d<=0 by omega);have:=Int.mul_nonpos_of_nonpos_of_nonneg (show l.fdiv d<=0 by omega) (show 0<=d by omega);omega
   exact az ⟨(l.fdiv d,v+1),⟨rfl,a1,a2,pos⟩,a4⟩
  .have hc2:¬d∣l:=fun z=>by
    have:=Q.e9.mpr z;rw[decide_eq_true this] at hc;cases hc
   have hS:=hI.step (v:=v.toNat) he hc2 hl0
   have ll:l<=l0:=by
    have:=Int.le_of_dvd p0 (show l∣l0 from ⟨_,he⟩);exact this
   have mv:v.fmod 2=1↔v.toNat%2=1:=by
    rw[Int.fmod_eq_emod_of_nonneg _ (by decide)];omega
   refine fR (fun Γ=>Γ=[some (.val false n),some (.val true l),some (.val true (if v.toNat%2=1 then fr0*d else fr0)),some (.val true d),some (.val true v)]) (aw aA (aL (aa 4) ae (by decide)) ae) (fun hc=>?_) (fun hc=>?_) ?_
   .have hv1:v.toNat%2=1:=mv.mp (by simpa using hc);rw[if_pos hv1];refine ah 2 bh.nd (aO (aa 2) (aa 3) ((show Sm 31 fr0 by unfold Sm;omega).ok sd)) ?_;exact az rfl
   .have hv1:¬v.toNat%2=1:=fun w=>by
     have:=mv.mpr w;rw[decide_eq_true this] at hc;cases hc
    rw[if_neg hv1];exact az rfl
   rintro Γ' rfl;refine ah 3 bh.nd (aX (aa 3) ae) ?_;exact az ⟨(l,(if v.toNat%2=1 then fr0*d else fr0),d+1),⟨_,rfl,hS,by dsimp only;omega⟩,by dsimp only;omega⟩
 .have hc':l0<d*d*d:=by
   have:¬d*d*d<=l0:=by simpa using hc
   omega
  obtain⟨s',s0,q1,q2⟩:=hI.done hc';have sl:Sm 8000 l0:=(show Sm 31 l0 by unfold Sm;omega).le (by decide)
  have sr:Sm 31 (Q.rt l0):=by
   have w1:=Q.ve (show 0<=l0 by omega);have w2:=Q.eJ l0
   have w3:Q.rt l0<=l0:=by
    by_cases w:Q.rt l0=0
    .omega
    .have:=Int.mul_le_mul_of_nonneg_left (show 1<=Q.rt l0 by omega) w2;omega
   unfold Sm;omega
  refine fR (fun Γ=>Γ=[some (.val false n),some (.val true l0),some (.val true (if Q.rt l0*Q.rt l0=l0 then fr0 else fr0*l0)),some (.val true d),r4]) (aw eT (aO (aH c_law_root (hr.mono (by decide)) rfl (aa 1) ⟨by omega,sl⟩) (aH c_law_root (hr.mono (by decide)) rfl (aa 1) ⟨by omega,sl⟩) (sr.ok sr)) (aa 1)) (fun hc=>?_) (fun hc=>?_) ?_
  .have hc2:¬Q.rt l0*Q.rt l0=l0:=by simpa using hc
   rw[if_neg hc2];refine ah 2 bh.nd (aO (aa 2) (aa 1) ((show Sm 31 fr0 by unfold Sm;omega).ok (show Sm 31 l0 by unfold Sm;omega))) ?_;exact az rfl
  .have hc2:Q.rt l0*Q.rt l0=l0:=by simpa using hc
   rw[if_pos hc2];exact az rfl
  rintro Γ' rfl;generalize (if Q.rt l0*Q.rt l0=l0 then fr0 else fr0*l0)=g at *;refine aT (aw jx (aa 0) ae) (fun hc=>?_) (fun hc=>?_)
  .have hn:n<0:=by simpa using hc
   have e:dW n=-g:=o9 h0 hl (Q.k_ q1) s0 (by
    have:n=-(n.natAbs:Int):=by omega
    rw[this,q2]
    grind)
   rw[e,show -g=0-g by omega];exact av (eL ae (aa 2)) rfl
  .have hn:¬n<0:=by simpa using hc
   have e:dW n=g:=o9 h0 hl q1 s0 (by
    have:n=(n.natAbs:Int):=by omega
    rw[this]
    exact q2)
   rw[e];exact av (aa 2) rfl
theorem kc(c_law_common:aJ P w K mg base 1 "_law_common" ["_law_a","_law_b"] (cF K (fun _ _=>True) true FL))(a b:Int)(hp:AG a b):Body P w K mg base fU "_law_free_times" cw f 1 [.val false a,.val false b] (RT true (fQ a b)):=by
 intro cdv A outer s H E hr;obtain⟨ha,hb,sa,sb⟩:=hp;obtain⟨g0,x2,x3,y2,y3⟩:=jd ha hb;have sg:=zp (b:=b) ha sa;refine ah 2 fB.nd (aC c_law_common (hr.mono (by decide)) rfl (aa 0) (aa 1) True.intro) ?_;exact av (aO (aP (aa 0) (aa 2) (Sm.div (j:=FL a b) sg g0)) (aP (aa 1) (aa 2) (Sm.div (j:=FL a b) sg g0)) ((Sm.of_le x3 sa).ok (Sm.of_le y3 sb))) rfl
theorem qV(x e m:Int)(he:0<=e)(hm1:2<=m)(hm2:m<2^62):Body P w K mg base kE "_law_power" fv f kk [.val false x,.val false e,.val false m] (RT true (ya x e m)):=by
 intro cdv A outer s H E hr;have hm:1<=m:=by omega
 refine ah 3 bz.nd (mn ae (show(1:Int)=1%m from (Int.emod_eq_of_lt (by decide) (by omega)).symm)) ?_;refine ah 0 bz.nd (aL (aa 0) (aa 2) (by omega)) ?_;rw[bq hm]
 refine b7 (ι:=Bool×Int×Int×Int) (fun i Γ=>Γ=[some (.val true i.2.2.2),some (.val i.1 i.2.1),some (.val false m),some (.val true i.2.2.1)]/\0<=i.2.1/\i.2.2.1*i.2.2.2^i.2.1.toNat%m=x^e.toNat%m/\0<=i.2.2.1/\i.2.2.1<m/\0<=i.2.2.2/\i.2.2.2<m) (fun i=>i.2.1.toNat) (false,e,1%m,x%m)
  ⟨rfl,he,by dsimp only;rw[Int.mul_emod,Int.emod_emod_of_dvd _ (Int.dvd_refl m),Q.fX,<-Int.mul_emod,Int.one_mul],Int.emod_nonneg _ (by omega),Int.emod_lt_of_pos _ (by omega),Int.emod_nonneg _ (by omega),Int.emod_lt_of_pos _ (by omega)⟩ ?_
 rintro⟨bb,n,a,q⟩ Γ' ⟨rfl,hn,hi,a0,a1,q0,q1⟩;dsimp only at *;refine⟨_,aw dt (aa 1) ae,fun hc=>?_,fun hc=>?_⟩
 .have hpos:0<n:=by simpa using hc
  have hh:=mX hn;have z1:=Int.emod_nonneg (q*q) (show m≠0 by omega);have z2:=Int.emod_lt_of_pos (q*q) (show 0<m by omega);refine aT (aw aA (aL (aa 1) ae (by decide)) ae) (fun hc=>?_) (fun hc=>?_)
  .have ho:n.toNat%2=1:=by
    have:n.fmod 2=1:=by simpa using hc
    rw[bq (by decide)] at this;omega
   refine ah 3 bz.nd (aL (aO (aa 3) (aa 0) (mulL (by omega) (by omega))) (aa 2) (by omega)) (az ?_);refine ah 0 bz.nd (aL (aO (aa 0) (aa 0) (mulL (by omega) (by omega))) (aa 2) (by omega)) ?_;refine ah 1 bz.nd (aP (aa 1) ae lU) ?_;rw[bq hm,bq hm];refine az ⟨(true,n.fdiv 2,a*q%m,q*q%m),⟨rfl,hh.2,?_,Int.emod_nonneg _ (by omega),Int.emod_lt_of_pos _ (by omega),z1,z2⟩,?_⟩
   .dsimp only;rw[hh.1,vf ho,hi]
   .dsimp only;omega
  .have ho:n.toNat%2=0:=by
    have:¬n.fmod 2=1:=by simpa using hc
    rw[bq (by decide)] at this;omega
   refine ah 0 bz.nd (aL (aO (aa 0) (aa 0) (mulL (by omega) (by omega))) (aa 2) (by omega)) ?_;refine ah 1 bz.nd (aP (aa 1) ae lU) ?_;rw[bq hm];refine az ⟨(true,n.fdiv 2,a,q*q%m),⟨rfl,hh.2,?_,a0,a1,z1,z2⟩,?_⟩
   .dsimp only;rw[hh.1,qO ho,hi]
   .dsimp only;omega
 .have hz:n.toNat=0:=by
   have:¬0<n:=by simpa using hc
   omega
  rw[hz,Int.pow_zero,Int.mul_one,Int.emod_eq_of_lt a0 a1] at hi;refine av (aa 3) ?_;show Bd.val _ _=Bd.val _ _;unfold ya;rw[<-hi]
theorem qy(x d:Int)(h0:x≠0)(hd:2<=d)(hs:Sm 9000 d):Body P w K mg base kP "_law_split" fD f kk [.val false x,.val false d] (RT true (Q.a9 x d)):=by
 intro cdv A outer s H E hr;refine ah 2 ez.nd ae ?_;refine b7 (ι:=Bool×Int×Int) (fun i Γ=>Γ=[some (.val i.1 i.2.2),some (.val false d),some (.val true i.2.1)]/\0<=i.2.1/\x=i.2.2*d^i.2.1.toNat/\i.2.2≠0) (fun i=>i.2.2.natAbs) (false,0,x) ⟨rfl,Int.le_refl 0,by dsimp only;rw[show(0:Int).toNat=0 from rfl,Int.pow_zero,Int.mul_one],h0⟩ ?_;rintro⟨bb,n,l⟩ Γ' ⟨rfl,hn,he,hl⟩;dsimp only at *;refine⟨_,aw aA (aL (aa 0) (aa 1) (by omega)) ae,fun hc=>?_,fun hc=>?_⟩
 .have hc':l.fmod d=0:=by simpa using hc
  refine ah 0 ez.nd (aP (aa 0) (aa 1) (hs.div (by omega))) ?_;refine ah 2 ez.nd (aX (aa 2) ae) ?_;obtain⟨a1,a2,a3,a4⟩:=uf hn he hd hc' hl;exact az ⟨(true,n+1,l.fdiv d),⟨rfl,a1,a2,a3⟩,a4⟩
 .have hc':¬l.fmod d=0:=by simpa using hc
  refine av (bN (aa 2) (gE (b':=true) (aa 0))) ?_;show Bd.val _ _=Bd.val _ _;rw[Q.hW hd (r:=(n,l)) ⟨hn,he,fun z=>hc' (Q.e9.mpr z)⟩];rfl
open Q (aM qv kR Pl)
def Je(a b p:Int):Prop:=(a≠0/\a.natAbs<1073741824)/\(b≠0/\b.natAbs<1073741824)/\(p=0\/(aM p=true/\p<2^31))
theorem Dh{a p:Int}(ha:a≠0)(hl:a.natAbs<1073741824)(hp:2<=p):(0<=(Q.a9 a p).1/\(Q.a9 a p).1<2^30)/\(Q.a9 a p).2.natAbs<1073741824/\¬p∣(Q.a9 a p).2:=by
 obtain⟨h1,h2,h3⟩:=Q.gL hp ha;generalize Q.a9 a p=r at *;obtain⟨v,u⟩:=r;have h1:0<=v:=h1;have h2:a=u*p^v.toNat:=h2;have h3:¬p∣u:=h3;have u0:u≠0:=fun z=>h3 (by rw[z];exact Int.dvd_zero p);have e:a.natAbs=u.natAbs*(p^v.toNat).natAbs:=by rw[h2,Int.natAbs_mul]
 have pp:1<=(p^v.toNat).natAbs:=by have:=Int.pow_pos (n:=p) (m:=v.toNat) (by omega);omega
 have k1:u.natAbs<=a.natAbs:=by rw[e];exact Nat.le_mul_of_pos_right _ pp
 have k2:(p^v.toNat).natAbs<=a.natAbs:=by rw[e];exact Nat.le_mul_of_pos_left _ (by omega)
 have k3:v.toNat<(p^v.toNat).natAbs:=by
  rw[Int.natAbs_pow];exact Nat.lt_pow_self (by omega)
 exact⟨⟨h1,by show v<_;omega⟩,by show u.natAbs<_;omega,h3⟩
theorem AB{u p:Int}(hp:aM p=true)(h2:p≠2)(hu:¬p∣u):(ya u ((p-1)/2) p=1)↔Q.bu u p=1:=by
 have p2:=Q.au hp;rw[Q.de hp h2 hu];unfold ya;generalize u^((p-1)/2).toNat=q;constructor
 .intro z;refine Int.dvd_of_emod_eq_zero ?_;rw[Int.sub_emod,z,show(1:Int)%p=1 from Int.emod_eq_of_lt (by decide) (by omega)];rfl
 .rintro⟨c,hc⟩;rw[show q=1+p*c by omega,Int.add_mul_emod_self_left];exact Int.emod_eq_of_lt (by decide) (by omega)
set_option maxHeartbeats 1000000 in
theorem tX(c_law_power:aJ P w K mg base 1 "_law_power" ["_law_k","_law_often","_law_p"] (kH K (fun _ e m=>0<=e/\2<=m/\m<2^62) true ya))(c_law_split:aJ P w K mg base 1 "_law_split" ["_law_k","_law_p"] (cF K (fun k d=>k≠0/\2<=d/\Sm 9000 d) true Q.a9))(a b p:Int)(hp:Je a b p):Body P w K mg base nq "_law_says" gI f 1 [.val false a,.val false b,.val false p] (RT true (Q.aj a b p)):=by
 intro cdv A outer s H E hr;obtain⟨⟨a0,al⟩,⟨b0,bl⟩,hpp⟩:=hp;refine aT (aw aA (aa 2) ae) (fun hc=>?_) (fun hc=>?_)
 .have hc':p=0:=of_decide_eq_true hc;subst hc';rw[Q.aF];exact av (EY (cj dt (aa 0) ae) fun _=>(qz (cj dt (aa 1) ae))) rfl
 have p0:p≠0:=of_decide_eq_false hc;obtain⟨hp,hlt⟩:=hpp.resolve_left p0;have p2:=Q.au hp;have s9:Sm 9000 p:=(show Sm 31 p by unfold Sm;omega).le (by decide);obtain⟨⟨v0,v1⟩,u1,un⟩:=Dh a0 al p2;obtain⟨⟨w0,w1⟩,t1,tn⟩:=Dh b0 bl p2;refine x9 3 4 bB.nd (aC c_law_split (hr.mono (by decide)) rfl (aa 0) (aa 2) ⟨a0,p2,s9⟩) ?_;refine x9 5 6 bB.nd (aC c_law_split (hr.mono (by decide)) rfl (aa 1) (aa 2) ⟨b0,p2,s9⟩) ?_;have ec:∀k:Int,Q.cls k p=((Q.a9 k p).1%2,if p=2 then (Q.a9 k p).2%8 else Q.bu (Q.a9 k p).2 p):=fun k=>rfl;by_cases h2:p=2
 .have e:Q.aj a b p=Q.fh (Q.cls a p) (Q.cls b p):=by subst h2;exact Q.aR
  rw[e,ec,ec,if_pos h2,if_pos h2];generalize Q.a9 a p=ta at *;generalize Q.a9 b p=tb at *;obtain⟨A1,u⟩:=ta;obtain⟨B1,v⟩:=tb;dsimp only at *;have uo:u%2=1:=by rw[h2] at un;omega
  have vo:v%2=1:=by rw[h2] at tn;omega
  refine aT (aw aA (aa 2) ae) (fun _=>?_) (fun hc=>absurd h2 (of_decide_eq_false hc));have su:Sm 30 u:=u1;have sv:Sm 30 v:=t1;have sA:Sm 30 A1:=by unfold Sm;omega
  have sB:Sm 30 B1:=by unfold Sm;omega
  have q8:∀{x:Int},Sm 30 x->Sm 64 ((x*x-1).fdiv 8):=fun {x} hx=>by
   rw[Int.fdiv_eq_ediv_of_nonneg _ (by decide)];have h:=hx.mul hx;unfold Sm at h ⊢;omega
  refine ah 7 bB.nd (aO (aP (eL (aa 4) ae) ae lU) (aP (eL (aa 6) ae) ae lU) (Sm.ok (m:=40) (n:=40) (by rw[Int.fdiv_eq_ediv_of_nonneg _ (by decide)];unfold Sm;omega) (by rw[Int.fdiv_eq_ediv_of_nonneg _ (by decide)];unfold Sm;omega))) ?_;refine ah 7 bB.nd (aX (aa 7) (aO (aa 3) (aP (eL (aO (aa 6) (aa 6) (sv.ok sv)) ae) ae lU) (sA.ok (q8 sv)))) ?_;refine ah 7 bB.nd (aX (aa 7) (aO (aa 5) (aP (eL (aO (aa 4) (aa 4) (su.ok su)) ae) ae lU) (sB.ok (q8 su)))) ?_;refine av (cj aA (aL (aa 7) ae (by decide)) ae) ?_;show Bd.val _ _=Bd.val _ _;congr 1;rw[<-Q.BE uo vo,bq (by decide),Int.fdiv_eq_ediv_of_nonneg _ (by decide),Int.fdiv_eq_ediv_of_nonneg _ (by decide),Int.fdiv_eq_ediv_of_nonneg _ (by decide),Int.fdiv_eq_ediv_of_nonneg _ (by decide)]
 .have e:Q.aj a b p=Q.i7 (Q.cls a p) (Q.cls b p) (Q.bu (-1) p):=Q.aZ p0 h2;rw[e,ec,ec,if_neg h2,if_neg h2];generalize Q.a9 a p=ta at *;generalize Q.a9 b p=tb at *;obtain⟨A1,u⟩:=ta;obtain⟨B1,v⟩:=tb;dsimp only at *;rw[<-Q.Ca hp h2 un tn];refine aT (aw aA (aa 2) ae) (fun hc=>absurd (of_decide_eq_true hc) h2) (fun _=>?_);have sA:Sm 30 A1:=by unfold Sm;omega
  have sB:Sm 30 B1:=by unfold Sm;omega
  have eh:(p-1).fdiv 2=(p-1)/2:=Int.fdiv_eq_ediv_of_nonneg _ (by decide);refine ah 7 bB.nd (aO (aO (aa 3) (aa 5) (sA.ok sB)) (aP (eL (aa 2) ae) ae lU) (Sm.ok (m:=60) (n:=40) (sA.mul sB) (by rw[eh];unfold Sm;omega))) ?_;have pu:=AB hp h2 un;have pv:=AB hp h2 tn;refine fR (fun Γ=>Γ=[some (.val false a),some (.val false b),some (.val false p),some (.val true A1),some (.val true u),some (.val true B1),some (.val true v),some (.val true (A1*B1*((p-1)/2)+if Q.bu u p≠1 then B1 else 0))]) (aw eT (bR c_law_power (hr.mono (by decide)) rfl (aa 4) (aP (eL (aa 2) ae) ae lU) (aa 2) ⟨by rw[eh];omega,p2,by omega⟩) ae) (fun hc=>?_) (fun hc=>?_) ?_
  .rw[eh] at hc ⊢;rw[if_pos (fun z=>by rw[decide_eq_true (pu.mpr z)] at hc;exact nomatch hc)];refine ah 7 bB.nd (aX (aa 7) (aa 5)) ?_;exact az rfl
  .rw[eh] at hc ⊢;rw[if_neg (fun z=>z (pu.mp (by simpa using hc))),Int.add_zero];exact az rfl
  rintro Γ' rfl;refine fR (fun Γ=>Γ=[some (.val false a),some (.val false b),some (.val false p),some (.val true A1),some (.val true u),some (.val true B1),some (.val true v),some (.val true ((A1*B1*((p-1)/2)+if Q.bu u p≠1 then B1 else 0)+if Q.bu v p≠1 then A1 else 0))]) (aw eT (bR c_law_power (hr.mono (by decide)) rfl (aa 6) (aP (eL (aa 2) ae) ae lU) (aa 2) ⟨by rw[eh];omega,p2,by omega⟩) ae) (fun hc=>?_) (fun hc=>?_) ?_
  .rw[eh] at hc;rw[if_pos (c:=Q.bu v p≠1) (fun z=>by rw[decide_eq_true (pv.mpr z)] at hc;exact nomatch hc)];refine ah 7 bB.nd (aX (aa 7) (aa 3)) ?_;exact az rfl
  .rw[eh] at hc;rw[if_neg (c:=Q.bu v p≠1) (fun z=>z (pv.mp (by simpa using hc))),Int.add_zero];exact az rfl
  rintro Γ' rfl;refine av (cj aA (aL (aa 7) ae (by decide)) ae) ?_;show Bd.val _ _=Bd.val _ _;rw[bq (by decide)]
noncomputable def Jb(row places:List Int):List Int:=places.filter fun p=>!qv p row
structure Ji(row places:List Int):Prop where
 len:row.length<=8
 nz:∀x∈row,x≠0/\x.natAbs<1073741824
 pl:∀p∈places,p=0\/(aM p=true/\p<2^31)
 few:places.length<=900
theorem Gp{row:List Int}{i:Nat}(h:i<row.length):vd row (i:Int)=some (row.getD i 0):=by
 exact zq (d:=0) (by omega) (by omega)
set_option maxHeartbeats 2000000 in
include B in
theorem uF(c_law_says:aJ P w K mg base 2 "_law_says" ["_law_a","_law_b","_law_p"] (kH K Je true Q.aj))(row places:List Int)(hp:Ji row places):Body P w K mg base lX "_law_noes" gH f 2 [.val false row,.val false places] (RT true (Jb row places)):=by
 intro cdv A outer s H E hr;obtain⟨hl,nz,pl,few⟩:=hp;refine yT 2 Int cf.nd ?_;refine mJ (b:=false) (fun i Γ=>∃r3 r4 r5 r6,Γ=[some (.val false row),some (.val false places),some (.own true ((places.take i).filter fun p=>!qv p row)),r3,r4,r5,r6]) (cG 3 cf.nd) (aa 1) ⟨none,none,none,none,rfl⟩ ?_ ?_
 .rintro i p Γ' hpi ⟨r3,r4,r5,r6,rfl⟩;have hpl:=pl p (List.mem_of_getElem? hpi);have hi:i<places.length:=(List.getElem?_eq_some_iff.mp hpi).1;refine ah 4 cf.nd ae ?_;refine gF (n:=(row.length:Int)) (fun j Γ=>∃(n:Int) (r5 r6:Option Bd),Γ=[some (.val false row),some (.val false places),some (.own true ((places.take i).filter fun p=>!qv p row)),some (.val false p),some (.val true n),r5,r6]/\n+(Q.sf p (row.drop j):Int)=Q.sf p row) rfl B.range (cG 5 cf.nd) (cH rfl B.len (aa 0)) (by omega) (by omega) ⟨0,r5,r6,rfl,by rw[List.drop_zero];omega⟩ ?_ ?_
  .rintro j Γ' hj ⟨n,r5,r6,rfl,hn⟩;have hj':j<row.length:=by omega
   have hx:row[j]?=some (row.getD j 0):=by rw[List.getD_eq_getElem?_getD,List.getElem?_eq_getElem hj'];rfl
   have hxm:=nz _ (List.mem_of_getElem? hx);rw[Q.rD hx,Q.sf] at hn;generalize hx0:row.getD j 0=x at *;refine sC (lo:=(j:Int)+1) (n:=(row.length:Int)) (fun k Γ=>∃(m:Int) (r6:Option Bd),Γ=[some (.val false row),some (.val false places),some (.own true ((places.take i).filter fun p=>!qv p row)),some (.val false p),some (.val true m),some (.val true (j:Int)),r6]/\m=n+((((row.drop (j+1)).take k).filter fun b=>!Q.aj x b p).length:Int)) rfl B.range (cG 6 cf.nd) (aX (aa 5) ae) (cH rfl B.len (aa 0)) ⟨by omega,by omega,by omega,by omega⟩ ⟨n,r6,rfl,by simp⟩ ?_ ?_
   .rintro k Γ' hk ⟨m,r6,rfl,hm⟩;have hk':j+1+k<row.length:=by omega
    have hy:(row.drop (j+1))[k]?=some (row.getD (j+1+k) 0):=by rw[List.getElem?_drop,List.getD_eq_getElem?_getD,List.getElem?_eq_getElem hk'];rfl
    have hym:=nz _ (List.mem_of_mem_drop (List.mem_of_getElem? hy));refine aT (kI (gR (bR c_law_says (hr.mono (by decide)) rfl (vY (a:=x) (aa 0) (aa 5) (by rw[<-hx0];exact Gp hj')) (vY (a:=row.getD (j+1+k) 0) (aa 0) (aa 6) (by have:=Gp (row:=row) hk';rw[show(((j+1+k:Nat)):Int)=(j:Int)+1+(k:Int) by omega] at this;exact this)) (aa 3) ⟨hxm,hym,hpl⟩))) (fun hc=>?_) (fun hc=>?_)
    .refine ah 4 cf.nd (aX (aa 4) ae) ?_;refine az (az ⟨_,_,rfl,?_⟩);rw[List.take_add_one,hy,List.filter_append,List.length_append];rw[show(some (row.getD (j+1+k) 0)).toList=[row.getD (j+1+k) 0] from rfl,List.filter_cons_of_pos (p:=fun b=>!Q.aj x b p) hc];rw[hm,List.filter_nil,List.length_singleton,Int.natCast_add];omega
    .refine az ⟨_,_,rfl,?_⟩;rw[List.take_add_one,hy,List.filter_append,List.length_append];rw[show(some (row.getD (j+1+k) 0)).toList=[row.getD (j+1+k) 0] from rfl,List.filter_cons_of_neg (p:=fun b=>!Q.aj x b p) (by rw[hc];exact Bool.false_ne_true)];rw[hm,List.filter_nil,List.length_nil];rfl
   .rintro Γ' ⟨m,r6,rfl,hm⟩;refine az ⟨m,_,_,rfl,?_⟩;rw[show((row.length:Int)-((j:Int)+1)).toNat=(row.drop (j+1)).length by rw[List.length_drop];omega,List.take_length] at hm;omega
  .rintro Γ' ⟨n,r5,r6,rfl,hn⟩;rw[show((row.length:Int)).toNat=row.length from Int.toNat_natCast _,List.drop_length] at hn
   have hn':n=(Q.sf p row:Int):=by
    have:Q.sf p []=0:=rfl;omega
   have hpar:=Q.qh p row
   have hnext:(places.take (i+1)).filter (fun p=>!qv p row)=(places.take i).filter (fun p=>!qv p row)++if qv p row then [] else [p]:=by
    rw[List.take_add_one,hpi,List.filter_append];congr 1;show List.filter _ [p]=_;cases hq:qv p row<;>simp[hq]
   refine aT (aw aA (aL (aa 4) ae (by decide)) ae) (fun hc=>?_) (fun hc=>?_)
   .have hc':n.fmod 2=1:=of_decide_eq_true hc;rw[bq (by decide)] at hc'
    have hq:qv p row=false:=by
     rw[<-hpar];exact decide_eq_false (by omega)
    rw[hq] at hnext;refine iw 2 rfl (gE (b':=true) (aa 3)) ?_ ?_
    .exact Nat.le_trans (List.length_filter_le _ _) (by rw[List.length_take];omega)
    refine az (az ⟨some (.val false p),some (.val true n),r5,r6,?_⟩);rw[hnext];rfl
   .have hc':¬n.fmod 2=1:=of_decide_eq_false hc;rw[bq (by decide)] at hc'
    have hq:qv p row=true:=by
     rw[<-hpar];exact decide_eq_true (by omega)
    rw[hq] at hnext;refine az ⟨some (.val false p),some (.val true n),r5,r6,?_⟩;rw[hnext,if_pos rfl,List.append_nil]
 .rintro Γ' ⟨r3,r4,r5,r6,rfl⟩;rw[List.take_length];refine g9 2 rfl ?_;exact av (aa 2) rfl
theorem BV{X:Cx}{Γ:aE}{e:Expr}{c c':Bool}(h:T X Γ e c)(z:c=c'):T X Γ e c':=z▸h
noncomputable def FN(x:Int):Nat:=(kR (x.natAbs:Int)).length
theorem Ct{x:Int}{M:List Int}(hx:x≠0)(h:∀q,aM q=true->q∣x->q∈M):FN x<=M.length:=Q.Bh (by omega) fun q h1 h2=>h q h1 (Int.dvd_natAbs.mp h2)
theorem Ak(x:Int)(row:List Int):E4 (x::row)=FN x+E4 row:=by unfold E4 FN;rw[List.map_cons,List.sum_cons]
theorem tD{k:Nat}:∀(row:List Int),(∀x∈row,FN x<=k)->E4 row<=k*row.length
 |[],_=>Nat.zero_le _
 |a::row,h=>by
  rw[Ak,List.length_cons,Nat.mul_add];have h1:=h a (List.mem_cons_self ..);have h2:=tD row fun x hx=>h x (List.mem_cons_of_mem _ hx);omega
theorem Aj:∀p∈SP,aM p=true:=fun p hp=>by
 refine Q.Ig ?_;have:∀p∈SP,p∈Q.PW:=by decide
 exact this p hp
def EG(r:List Int):Prop:=(1<=r.length/\r.length<=8)/\∀x∈r,(x≠0/\x.natAbs<10000000)/\∀q,aM q=true->q∣x->q∈SP
theorem EG.gr{r:List Int}(h:EG r):GR 48 6 r:=by
 have ex:∀x∈r,FN x<=6:=fun x hx=>Ct (M:=SP) (h.2 x hx).1.1 (h.2 x hx).2;have:=tD r ex;exact⟨h.1,fun x hx=>by have:=(h.2 x hx).1;exact⟨this.1,by omega⟩,by have:=h.1;omega,SP,Nat.le_refl 6,fun x hx=>(h.2 x hx).2⟩
theorem Jx{r q:Int}(h1:1<=r)(h2:r<=12)(hq:aM q=true)(hd:q∣r):q∈SP:=by
 have q2:=Q.au hq;have ql:=Int.le_of_dvd (by omega) hd
 have no:∀{d:Int},2<=d->d<q->¬d∣q:=fun {d} h1 h2 z=>by
  rcases Q.eC hq (by omega) z with e|e<;>omega
 have:q=2\/q=3\/q=4\/q=5\/q=6\/q=7\/q=8\/q=9\/q=10\/q=11\/q=12:=by omega
 rcases this with rfl|rfl|rfl|rfl|rfl|rfl|rfl|rfl|rfl|rfl|rfl
 .decide
 .decide
 .exact absurd (by decide) (no (d:=2) (by decide) (by decide))
 .decide
 .exact absurd (by decide) (no (d:=2) (by decide) (by decide))
 .decide
 .exact absurd (by decide) (no (d:=2) (by decide) (by decide))
 .exact absurd (by decide) (no (d:=3) (by decide) (by decide))
 .exact absurd (by decide) (no (d:=2) (by decide) (by decide))
 .decide
 .exact absurd (by decide) (no (d:=2) (by decide) (by decide))
theorem t9(c:Int):∀i,i<=6->∀q,aM q=true->q∣(jR c i).1->q∈SP
 |0,_,q,hq,hd=>by
  have z:=e_ (a:=c) (b:=2) (by decide);have hd:q∣1-2*c.fmod 2:=hd;have e:1-2*c.fmod 2=1\/1-2*c.fmod 2=-1:=by omega
  have:q∣1:=by rcases e with e|e<;>rw[e] at hd;exact hd;exact Int.dvd_neg.mp hd
  have:=Int.le_of_dvd (by decide) this;have:=Q.au hq;omega
 |i+1,hi,q,hq,hd=>by
  have hm:SP.getD i 1∈SP:=Q.getD_mem (by show i<6;omega);have e:(jR c (i+1)).1=if (jR c i).2.fmod 2=1 then (jR c i).1*SP.getD i 1 else (jR c i).1:=rfl
  rw[e] at hd;split at hd
  .rcases Q.euclid hq hd with z|z
   .exact t9 c i (by omega) q hq z
   .rw[Q.aN hq (Aj _ hm) z];exact hm
  .exact t9 c i (by omega) q hq hd
theorem zY(c:Int):∀i:Nat,∀x∈(lE c i).1,∀q,aM q=true->q∣x->q∈SP
 |0,x,h=>by cases h
 |i+1,x,hx=>fun q hq hd=>by
  rcases List.mem_append.mp hx with hx|hx
  .exact zY c i x hx q hq hd
  .rw[List.mem_singleton.mp hx] at hd;obtain⟨r1,r2⟩:=uO (lE c i).2;rcases Q.euclid hq hd with z|z
   .rcases Q.euclid hq z with z|z
    .exact t9 _ 6 (Nat.le_refl _) q hq z
    .exact Jx r1 r2 hq z
   .exact Jx r1 r2 hq z
theorem Fn{c n:Int}(h1:1<=n)(h8:n<=8):EG (DP c n)/\((DP c n).length:Int)=n:=by
 obtain⟨l,hx⟩:=t8 c n.toNat;have l:(DP c n).length=n.toNat:=l;exact⟨⟨by omega,fun x hx'=>⟨⟨(hx x hx').1,by have:=(hx x hx').2.1;omega⟩,zY c n.toNat x hx'⟩⟩,by omega⟩
theorem Fv{a b:Int}(ha:gp a)(hb:gp b):gp (fQ a b)/\∃g,0<g/\a*b=fQ a b*(g*g):=by
 obtain⟨g0,x2,_,y2,_⟩:=jd ha.1 hb.1;obtain⟨u,hu⟩:=Int.gcd_dvd_left a b;obtain⟨v,hv⟩:=Int.gcd_dvd_right a b
 have eu:a.fdiv ((Int.gcd a b:Nat):Int)=u:=by
  have:=Int.mul_fdiv_cancel_left u g0;rw[<-hu] at this;exact this
 have ev:b.fdiv ((Int.gcd a b:Nat):Int)=v:=by
  have:=Int.mul_fdiv_cancel_left v g0;rw[<-hv] at this;exact this
 have ej:fQ a b=u*v:=by unfold fQ;rw[eu,ev]
 rw[eu] at x2;rw[ev] at y2;have ua:u∣a:=⟨_,by rw[Int.mul_comm];exact hu⟩;have vb:v∣b:=⟨_,by rw[Int.mul_comm];exact hv⟩
 have no:∀q,aM q=true->q∣u->q∣v->False:=fun q hq ⟨s,hs⟩ ⟨t,ht⟩=>by
  have h1:((Int.gcd a b:Nat):Int)*q∣a:=⟨s,by rw[Int.mul_assoc,<-hs];exact hu⟩;have h2:((Int.gcd a b:Nat):Int)*q∣b:=⟨t,by rw[Int.mul_assoc,<-ht];exact hv⟩;have h3:=Int.dvd_coe_gcd h1 h2;have h4:=Int.le_of_dvd (by omega) h3;have:=Q.au hq;have:=Int.mul_le_mul_of_nonneg_left (show(2:Int)<=q by omega) (show(0:Int)<=((Int.gcd a b:Nat):Int) by omega);omega
 refine⟨?_,((Int.gcd a b:Nat):Int),by omega,?_⟩
 .rw[ej];refine iX (Int.mul_ne_zero x2 y2) fun q hq z=>?_;have q2:=Q.au hq;have qq:q*q≠0:=Int.mul_ne_zero (by omega) (by omega);by_cases w:q∣u
  .have w':¬q∣v:=fun t=>no q hq w t
   have g:Int.gcd (q*q) v=1:=Q.jZ (fun r hr h1 h2=>by
    have:r∣q:=by rcases Q.euclid hr h1 with z|z<;>exact z
    rw[Q.aN hr hq this] at h2
    exact w' h2) qq
   exact ha.2 q (by omega) (Int.dvd_trans (Q.eF z g) ua)
  .have g:Int.gcd (q*q) u=1:=Q.jZ (fun r hr h1 h2=>by
    have:r∣q:=by rcases Q.euclid hr h1 with z|z<;>exact z
    rw[Q.aN hr hq this] at h2
    exact w h2) qq
   rw[Int.mul_comm u v] at z;exact hb.2 q (by omega) (Int.dvd_trans (Q.eF z g) vb)
 .rw[ej,hu,hv];grind
theorem zR{row:List Int}(h:∀x∈row,x≠0/\x.natAbs<1073741824):∀(n:Int),gp n->gp (row.foldl (fun n k=>fQ n (dW k)) n)/\∃s,0<s/\n*Q.kj row=row.foldl (fun n k=>fQ n (dW k)) n*(s*s):=by
 induction row with
 |nil=>intro n hn;exact⟨hn,1,by decide,by show n*1=n*(1*1);rfl⟩
 |cons k row ih =>
  intro n hn;obtain⟨k1,k2⟩:=h k List.mem_cons_self;obtain⟨t,f1,f2,f3⟩:=yo k1 k2;obtain⟨j1,g,g0,j2⟩:=Fv hn f1;obtain⟨a,s,s0,b⟩:=ih (fun x hx=>h x (List.mem_cons_of_mem _ hx)) (fQ n (dW k)) j1;refine⟨a,g*t*s,Int.mul_pos (Int.mul_pos g0 f2) s0,?_⟩;show n*(k*Q.kj row)=(row.foldl (fun n k=>fQ n (dW k)) (fQ n (dW k)))*_;generalize row.foldl (fun n k=>fQ n (dW k)) (fQ n (dW k))=R at *;generalize fQ n (dW k)=J at *;generalize dW k=f at *;rw[f3];have:n*(f*(t*t)*Q.kj row)=(n*f)*(t*t)*Q.kj row:=by grind
  rw[this,j2];have:J*(g*g)*(t*t)*Q.kj row=(J*Q.kj row)*((g*t)*(g*t)):=by grind
  rw[this,b];grind
theorem u7{ns:List Int}{f:Int->Bool}(h:ns=P7.filter f):ns=P7.filter fun p=>decide (p∈ns):=by
 conv=>lhs;rw[h]
 refine List.filter_congr fun p hp=>?_;rw[Bool.eq_iff_iff,decide_eq_true_iff,h,List.mem_filter];exact⟨fun z=>⟨hp,z⟩,fun z=>z.2⟩
theorem Bb{l:List Int}(h:l.Nodup):(iQ l).Pairwise (·<·):=by
 obtain⟨p1,p2⟩:=mz l;have nd:(iQ l).Nodup:=p1.nodup_iff.mpr h;have:=List.Pairwise.and p2 nd;exact this.imp fun h=>by omega
theorem zX{f:Int->Bool}{p:Int}(hp:p∈P7):iQ ((P7.filter f).filter (fun q=>!decide (q=p))++List.replicate (if (!decide (p∈P7.filter f))=true then (1:Int) else 0).toNat p)=P7.filter fun q=>if q=p then !f p else f q:=by
 have mp:decide (p∈P7.filter f)=f p:=by
  rw[Bool.eq_iff_iff,decide_eq_true_iff,List.mem_filter];exact⟨fun z=>z.2,fun z=>⟨hp,z⟩⟩
 rw[mp];have p7:P7.Nodup:=by decide
 have pi:P7.Pairwise (·<·):=by decide
 refine ng (Bb ?_) (List.Pairwise.sublist List.filter_sublist pi) fun q=>?_
 .rw[List.nodup_append];refine⟨(p7.filter _).filter _,?_,fun a ha b hb e=>?_⟩
  .cases f p<;>simp
  .have h1:=(List.mem_filter.mp ha).2;have h2:=List.eq_of_mem_replicate hb;rw[e,h2] at h1;simp at h1
 .rw[(mz _).1.mem_iff,List.mem_append,List.mem_filter,List.mem_filter,List.mem_filter,List.mem_replicate];by_cases z:q=p
  .subst z;cases f q<;>simp[hp]
  .simp[z]
theorem Ho{X:Cx}{Γ:aE}{e:Expr}{b:Bool}(h:E X Γ e b (Dt.mk .none)):E X Γ e b (none:Option Int):=nP h fun N H v r=>by
 cases r;rfl
theorem qE{q:Int}(hq:aM q=true):∀{row:List Int},q∣Q.kj row->∃x∈row,q∣x
 |[],h=>by
  have:=Int.le_of_dvd (by decide) (show q∣1 from h);have:=Q.au hq;omega
 |x::xs,h=>by
  rcases Q.euclid hq (show q∣x*Q.kj xs from h) with z|z
  .exact⟨x,by simp,z⟩
  .obtain⟨y,hy,hd⟩:=qE hq z;exact⟨y,by simp[hy],hd⟩
theorem tm{row:List Int}(h:EG row):kK row∈dJ 6/\∃t,0<t/\Q.kj row=kK row*(t*t):=by
 have nz:∀x∈row,x≠0/\x.natAbs<1073741824:=fun x hx=>by have:=(h.2 x hx).1;exact⟨this.1,by omega⟩
 obtain⟨a,s,s0,e⟩:=zR nz 1 Q.gP;have a:gp (kK row):=a;have e:1*Q.kj row=kK row*(s*s):=e;rw[Int.one_mul] at e;refine⟨Q.Bz ?_,s,s0,e⟩
 have hsn:gp ((kK row).natAbs:Int):=by
  rcases Int.natAbs_eq (kK row) with z|z
  .rw[<-z];exact a
  .have:((kK row).natAbs:Int)=-kK row:=by omega
   rw[this];exact Q.k_ a
 have a0:=a.1;refine Int.natAbs_dvd.mp (Q.wg (n:=30030) _ ((kK row).natAbs:Int) (Nat.le_refl _) (by omega) hsn fun q hq hd=>?_);obtain⟨x,hx,hd⟩:=qE (row:=row) hq (Int.dvd_trans (Int.dvd_natAbs.mp hd) ⟨s*s,e⟩);have sp30:∀p∈SP,p∣(30030:Int):=by decide
 exact sp30 q ((h.2 x hx).2 q hq hd)
theorem Ay{row:List Int}(h:EG row):Due (row.length:Int) (Q.oM row:Int) (kK row) (P7.filter fun p=>!qv p row) :=
 Q.BJ h.1.1 h.1.2 (fun x hx=>⟨(h.2 x hx).1.1,fun q hq hd=>(h.2 x hx).2 q hq hd⟩) (tm h).1 (tm h).2
theorem Hd{w:nR}(h:sQ w)(D:Due w.s w.g w.n w.ns):sO w.s w.g w.n w.ns=true:=by
 unfold sO
 have e0:w.ns.length%2=0:=by
  have:=D.ev
  have e:P7.filter (fun p=>!(!decide (p∈w.ns)))=w.ns:=by
   conv=>rhs;rw[h.su]
   congr 1;funext p;rw[Bool.not_not]
  have h2:decide ((P7.filter (fun p=>!(!decide (p∈w.ns)))).length%2=0)=true:=this;rw[e] at h2;exact of_decide_eq_true h2
 have e1:decide (w.n<0)=decide ((w.s-w.g)%2=1):=decide_eq_decide.mpr D.sg;have e2:decide ((w.ns.length:Int)%2=1)=false:=decide_eq_false (by omega);have e3:decide ((0:Int)∈w.ns)=decide ((w.s-w.g)*(w.s-w.g-1)/2%2=1):=decide_eq_decide.mpr D.z;rw[e1,e2,e3,if_neg (by simp),if_neg (by simp)];by_cases z:w.s=1
 .rw[if_pos z,D.one z];rfl
 .rw[if_neg z];by_cases y:w.s=2
  .rw[decide_eq_false (by omega),Bool.false_or,Bool.not_eq_true',List.any_eq_false];intro b hb;obtain⟨p,hp,rfl⟩:=List.mem_map.mp hb;rw[D.two y p hp];decide
  .rw[decide_eq_true (by have:=D.s1;omega),Bool.true_or]
theorem Hm{row:List Int}(h:EG row):sQ (nR.mk (row.length:Int) (Q.oM row:Int) (kK row) (P7.filter fun p=>!qv p row)):=by
 have D:=Ay h;exact⟨D.s1,D.s8,D.g0,D.gs,D.nm,u7 (f:=fun p=>!qv p row) rfl⟩
theorem DD(row:List Int):C9 row=(Q.oM row:Int):=rfl
theorem BR{row res:List Int}(h:EG row)(R:Res (row.length:Int) (Q.oM row:Int) (kK row) (P7.filter fun p=>!qv p row) res):HZ row res/\FQ row res=Dt.mk .none:=by
 have nz:∀x∈row,x≠0:=fun x hx=>(h.2 x hx).1.1;have rz:∀x∈res,x≠0:=fun x hx=>(R.nz x hx).1.1;have rb:∀x∈res,x≠0/\x.natAbs<1073741824:=fun x hx=>⟨rz x hx,(R.nz x hx).2⟩;have rl:=R.len;have hl:=h.1;obtain⟨q,hq⟩:=R.fw
 have g2:GR 61 7 res:=by
  have ex:∀x∈res,FN x<=7:=fun x hx=>Ct (M:=q::Q6) (rz x hx) (hq x hx);have:=tD res ex;exact⟨by omega,rb,by omega,q::Q6,by show 7<=7;decide,hq⟩
 refine⟨⟨6,7,h.gr.wk (by decide) (by decide),g2,by decide⟩,?_⟩;have e1:row.length=res.length:=by omega
 have e2:C9 row=C9 res:=by rw[DD];exact R.sg.symm
 have e3:kK row=kK res:=by
  obtain⟨a,s,s0,e⟩:=zR rb 1 Q.gP;have e:1*Q.kj res=kK res*(s*s):=e;rw[Int.one_mul] at e;obtain⟨t,t0,et⟩:=R.pr;exact(Q.rK (Q.lL (tm h).1) a t0 s0 (by rw[<-et];exact e)).1
 have e4:∀p,p∈sP row↔p∈sP res:=fun p=>by
  rw[xZ nz,xZ rz];refine and_congr_right fun hp=>?_;rw[R.no p hp];by_cases m:p∈P7
  .have:decide (p∈P7.filter fun p=>!qv p row)=!qv p row:=by
    rw[Bool.eq_iff_iff,decide_eq_true_iff,List.mem_filter];exact⟨fun z=>z.2,fun z=>⟨m,z⟩⟩
   rw[this,Bool.not_not]
  .obtain⟨pp,p2,p6⟩:=Q.yy hp m;rw[decide_eq_false (fun z=>m (List.mem_filter.mp z).1),Q.qf pp p2 fun x hx hd=>p6 ((h.2 x hx).2 p pp hd)];simp
 unfold FQ Ic;rw[if_neg (fun z=>z e1),if_neg (fun z=>z e2),if_neg (fun z=>z e3)]
 have:CS (sP row) (sP res)=none:=wo fun p hp=>by
  have hp:=(mz _).1.mem_iff.mp hp;unfold Be
  have h1:p∈sP row:=by
   rcases List.mem_append.mp hp with z|z
   .exact z
   .exact(e4 p).mpr z
  rw[decide_eq_true h1,decide_eq_true ((e4 p).mp h1)];rfl
 rw[this];rfl
theorem yZ{f:Int->Bool}{p:Int}(hp:p∈P7)(h:(P7.filter f).length%2=0):(P7.filter fun q=>if q=p then !f p else f q).length%2=1:=by
 have e1:Q.dy P7 (fun q=>!f q)=true:=by
  show decide ((P7.filter fun q=>!(!f q)).length%2=0)=true;have:(fun q=>!(!f q))=f:=by funext q;rw[Bool.not_not]
  rw[this];exact decide_eq_true h
 have key:∀p∈P7,Q.dy P7 (fun q=>!decide (q=p))=false:=by decide
 have e2:=key p hp
 have e3:Q.dy P7 (fun q=>!(if q=p then !f p else f q))=false:=by
  have:Q.dy P7 (fun q=>!(if q=p then !f p else f q))=Q.dy P7 (fun q=>(!f q)==!decide (q=p)):=Q.dU fun q _=>by
   by_cases z:q=p
   .rw[if_pos z,decide_eq_true z,z];cases f p<;>rfl
   .rw[if_neg z,decide_eq_false z];cases f q<;>rfl
  rw[this,Q.iO,e1,e2];rfl
 have e4:decide ((P7.filter fun q=>!(!(if q=p then !f p else f q))).length%2=0)=false:=e3;have e5:(fun q=>!(!(if q=p then !f p else f q)))=fun q=>if q=p then !f p else f q:=by funext q;rw[Bool.not_not]
 rw[e5] at e4;have:=of_decide_eq_false e4;omega
theorem Dw{s g n:Int}{ns:List Int}(h:ns.length%2=1):sO s g n ns=false:=by
 unfold sO;rw[if_pos (by rw[decide_eq_true (show(ns.length:Int)%2=1 by omega),Bool.or_true])]
theorem BY{s g n:Int}{ns:List Int}(h:n<0↔(s-g)%2=1):sO s (g-1) n ns=false:=by
 unfold sO
 have:decide (decide (n<0)=decide ((s-(g-1))%2=1))=false:=decide_eq_false fun z=>by
  have:=decide_eq_decide.mp z;omega
 rw[this];rfl
theorem Cn{X:Cx}{Γ:aE}{es:List Expr}{pos:Pos}{k:Nat}{s g n:Int}{ns:List Int}(h:EA X Γ es true [Dt.mk (.int s),Dt.mk (.int g),Dt.mk (.int n),Dt.mk (.list (ns.map .int))]):E X Γ (.Tuple es k pos) true (nR.mk s g n ns):=Dp (w:=nR.mk s g n ns) (mR (ds:=[Dt.mk (.int s),Dt.mk (.int g),Dt.mk (.int n),Dt.mk (.list (ns.map .int))]) (b:=true) h (by show 4<=1000;decide))
theorem Hi{n:Int}{i:Nat}{m:Int}(hn:n<=m)(h:i<(Builtin.Range.rangeSize 0 n 2).toNat):(0:Int)+(i:Int)*2<m:=by
 unfold Builtin.Range.rangeSize at h;simp at h;split at h<;>omega
set_option maxHeartbeats 4000000 in
include B in
theorem Hk(c_can_be:aJ P w K mg base 5 "can_be" ["wish"] (dG K sQ true (fun w=>sO w.s w.g w.n w.ns)))(c_built:aJ P w K mg base 17 "built" ["wish"] (BQ K sQ true HS))(c_parting:aJ P w K mg base 8 "parting" ["one","other"] (cF K HZ true FQ))(c_law_cell_at:aJ P w K mg base 1 "_law_cell_at" ["_law_script","_law_k"] (cF K (fun _ k=>0<=k) true kF))(c_law_big:aJ P w K mg base 1 "_law_big" ["_law_cell","_law_k"] (cF K (fun _ k=>0<=k/\k<=100) true CW))(c_law_row:aJ P w K mg base 2 "_law_row" ["_law_cell","_law_size"] (cF K (fun(_ n:Int)=>0<=n/\n<=8) true DP))(c_law_free:aJ P w K mg base 2 "_law_free" ["_law_number"] (dG K (fun(n:Int)=>n≠0/\n.natAbs<1073741824) true dW))(c_law_free_times:aJ P w K mg base 2 "_law_free_times" ["_law_one","_law_other"] (cF K AG true fQ))(c_law_noes:aJ P w K mg base 3 "_law_noes" ["_law_row_here","_law_places"] (cF K Ji true Jb))(xs:List Int)(hl:xs.length<=63):
  Body P w K mg base vB "law" ou f 17 [.val false xs] (RT true true):=by
 intro cdv A outer s H E hr;have hl':(if (xs.length:Int)<8 then (xs.length:Int) else 8)<=8/\0<=(if (xs.length:Int)<8 then (xs.length:Int) else 8):=by split<;>omega
 refine ko (fun i Γ=>∃r1 r2 r3 r4 r5 r6 r7 r8 r9 r10,Γ=[some (.val false xs),r1,r2,r3,r4,r5,r6,r7,r8,r9,r10]) rfl B.range (cG 1 dZ.nd) ae (aX (CC rfl rfl B.min ae (cH rfl B.len (aa 0))) ae) ae ⟨by decide,by decide,by omega,by omega⟩ (by decide) ⟨none,none,none,none,none,none,none,none,none,none,rfl⟩ ?_ ?_
 .rintro i Γ' hi ⟨r1,r2,r3,r4,r5,r6,r7,r8,r9,r10,rfl⟩;have hi':=Hi (m:=10) (by omega) hi;generalize hk:(0:Int)+(i:Int)*2=k at *;have k0:0<=k:=by omega
  refine ah 2 dZ.nd (aC c_law_big (hr.mono (by decide)) rfl (aC c_law_cell_at (hr.mono (by decide)) rfl (aa 0) (aX (aa 1) ae) (by omega)) (aX (aa 1) ae) ⟨by omega,by omega⟩) ?_;generalize CW (kF xs (k+1)) (k+1)=ot;have z8:=e_ (a:=ot) (b:=8) (by decide);refine ah 3 dZ.nd (aC c_law_row (hr.mono (by decide)) rfl (aC c_law_big (hr.mono (by decide)) rfl (aC c_law_cell_at (hr.mono (by decide)) rfl (aa 0) (aa 1) k0) (aa 1) ⟨k0,by omega⟩) (aX ae (aL (aa 2) ae (by decide))) ⟨by omega,by omega⟩) ?_;obtain⟨hS,hlen⟩:=Fn (c:=CW (kF xs k) k) (n:=1+ot.fmod 8) (by omega) (by omega);generalize DP (CW (kF xs k) k) (1+ot.fmod 8)=row at *;have hL:=hS.1;have nz:∀x∈row,x≠0/\x.natAbs<1073741824:=fun x hx=>by have:=(hS.2 x hx).1;exact⟨this.1,by omega⟩
  have hfp:FK row:=⟨hL.2,nz⟩;refine ah 4 dZ.nd ae ?_;refine mJ (b:=true) (fun j Γ=>j<=row.length/\∃r5,Γ=[some (.val false xs),some (.val true k),some (.val true ot),some (.val true row),some (.val true ((row.take j).foldl (fun n k=>fQ n (dW k)) 1)),r5,r6,r7,r8,r9,r10]) (cG 5 dZ.nd) (aa 3) ⟨Nat.zero_le _,r5,rfl⟩ ?_ ?_
  .rintro j x Γ' hx ⟨hj,r5,rfl⟩;have hj':j<row.length:=(List.getElem?_eq_some_iff.mp hx).1;obtain⟨a,b⟩:=yp hfp j hj;have hx':=nz x (List.mem_of_getElem? hx);obtain⟨f1,f2⟩:=tF hx'.1 hx'.2;have e:(row.take (j+1)).foldl (fun n k=>fQ n (dW k)) 1=fQ ((row.take j).foldl (fun n k=>fQ n (dW k)) 1) (dW x):=iP hx;refine ah 4 dZ.nd (aC c_law_free_times (hr.mono (by decide)) rfl (aa 4) (aH c_law_free (hr.mono (by decide)) rfl (aa (a:=x) 5) hx') ⟨a,f1,b.le (by omega),(show Sm 30 (dW x) by unfold Sm;omega).le (by decide)⟩) ?_;rw[e];exact az ⟨hj',_,rfl⟩
  rintro Γ' ⟨_,r5,rfl⟩;rw[List.take_length];show S _ [some (.val false xs),some (.val true k),some (.val true ot),some (.val true row),some (.val true (kK row)),r5,r6,r7,r8,r9,r10] _ _;refine ah 6 dZ.nd (mn (a':=(Q.oM row:Int)) (cH rfl B.len (d_ (f:=fun q:Int=>q) (p:=fun q=>decide (0<q)) (b':=true) ["_law_part"] [] (cS (af ou) vB rfl rfl (by decide +kernel)) (bG (aa 3)) (bH 0) (fun C s H fp=>eU 0 ["_law_part"]) bp (fun i q hi C s H fp=>hV (aw dt (aa 0) ae)) (fun i q hi hp C s H fp=>gE (aa 0)) (by omega))) (by rw[List.length_map];rfl)) ?_
  have ppl:∀p∈P7,p=0\/(aM p=true/\p<2^31):=fun p hp=>by
   rcases Q.cm hp with z|⟨_,z,_⟩
   .exact .inl z
   .simp only[P7,List.mem_cons,List.not_mem_nil,or_false] at hp;exact .inr ⟨z,by omega⟩
  refine ah 7 dZ.nd (aC c_law_noes (hr.mono (by decide)) rfl (aa 3) (eR (as:=P7) (b:=true) (aq ae (aq ae (aq ae (aq ae (aq ae (aq ae (aq ae a7))))))) (Nat.le_of_ble_eq_true rfl)) ⟨hL.2,nz,ppl,by decide⟩) ?_;have D:=Ay hS;have W:=Hm hS;have hd:=Hd W D
  have hod:∀p∈P7,sO (row.length:Int) (Q.oM row:Int) (kK row) (P7.filter fun q=>if q=p then !(!qv p row) else !qv q row)=false:=fun p hp=>Dw (yZ hp (by
   have:=D.ev
   have e:P7.filter (fun p=>!(!decide (p∈P7.filter fun p=>!qv p row)))=P7.filter fun p=>!qv p row:=by
    conv=>rhs;rw[u7 (ns:=P7.filter fun p=>!qv p row) (f:=fun p=>!qv p row) rfl]
    congr 1;funext p;rw[Bool.not_not]
   have h2:decide ((P7.filter (fun p=>!(!decide (p∈P7.filter fun p=>!qv p row)))).length%2=0)=true:=this;rw[e] at h2
   exact of_decide_eq_true h2))
  have hsg:=BY (ns:=P7.filter fun p=>!qv p row) D.sg;have hpt:=fun res R=>BR (res:=res) hS R;have Wg:∀f:Int->Bool,sQ (nR.mk (row.length:Int) (Q.oM row:Int) (kK row) (P7.filter f)):=fun f=>⟨W.s1,W.s8,W.g0,W.gs,W.nm,u7 (f:=f) rfl⟩;have W2:0<(Q.oM row:Int)->sQ (nR.mk (row.length:Int) ((Q.oM row:Int)-1) (kK row) (P7.filter fun p=>!qv p row)):=fun z=>⟨W.s1,W.s8,by show 0<=(Q.oM row:Int)-1;omega,by have:(Q.oM row:Int)<=row.length:=W.gs;show(Q.oM row:Int)-1<=row.length;omega,W.nm,u7 (f:=fun p=>!qv p row) rfl⟩;show S _ [some (.val false xs),some (.val true k),some (.val true ot),some (.val true row),some (.val true (kK row)),r5,some (.val true (Q.oM row:Int)),some (.val true (P7.filter fun p=>!qv p row)),r8,r9,r10] _ _;have l7:(P7.filter fun p=>!qv p row).length<=7:=D.len;have hfl:∀p∈P7,iQ ((P7.filter fun p=>!qv p row).filter (fun q=>!decide (q=p))++List.replicate (if (!decide (p∈P7.filter fun p=>!qv p row))=true then (1:Int) else 0).toNat p)=P7.filter fun q=>if q=p then !(!qv p row) else !qv q row:=fun p hp=>zX (f:=fun p=>!qv p row) (p:=p) hp
  generalize hns:(P7.filter fun p=>!qv p row)=ns at *;generalize hgg:(Q.oM row:Int)=g at *;generalize kK row=n at *;refine ah 8 dZ.nd (Cn (s:=(row.length:Int)) (g:=g) (n:=n) (ns:=ns) (aq (j6 (cH rfl B.len (aa 3))) (aq (j6 (aa 6)) (aq (j6 (aa 4)) (aq (vL (aa 7)) a7))))) ?_;refine aT (c:=false) (BV (TW.t (mB (kI (gR (mn (aH c_can_be (hr.mono (by decide)) rfl (aa 8) W) hd))) fun _=>(i8 (Bt (α:=Int) (x:=none) (Ho (yc (a:=Dt.mk .none) (AS c_parting (hr.mono (by decide)) rfl (aa 3) (D1 (post':=fun res=>Res (row.length:Int) g n ns res) (l5 c_built (hr.mono (by decide)) rfl (aa 8) W) fun o ho=>ho.1 hd) fun res R=>(hpt res R).1) fun r ⟨res,R,e⟩=>e.trans (hpt res R).2)) fun _ _ _ _ h=>nomatch h)))) rfl) (fun hc=>nomatch hc) (fun _=>?_);have z7:=e_ (a:=ot.fdiv 8) (b:=7) (by decide)
  obtain⟨p,hp,hpm⟩:∃p,vd [(0:Int),2,3,5,7,11,13] ((ot.fdiv 8).fmod 7)=some p/\p∈P7:=by
   generalize (ot.fdiv 8).fmod 7=z at *;have:z=0\/z=1\/z=2\/z=3\/z=4\/z=5\/z=6:=by omega
   rcases this with rfl|rfl|rfl|rfl|rfl|rfl|rfl
   .exact⟨0,rfl,by decide⟩
   .exact⟨2,rfl,by decide⟩
   .exact⟨3,rfl,by decide⟩
   .exact⟨5,rfl,by decide⟩
   .exact⟨7,rfl,by decide⟩
   .exact⟨11,rfl,by decide⟩
   .exact⟨13,rfl,by decide⟩
  refine ah 9 dZ.nd (vY (xs:=[(0:Int),2,3,5,7,11,13]) (a:=p) (b:=true) (eR (aq ae (aq ae (aq ae (aq ae (aq ae (aq ae (aq ae a7))))))) (Nat.le_of_ble_eq_true rfl)) (aL (aP (aa 2) ae lU) ae (by decide)) hp) ?_;have lff:=List.length_filter_le (fun q=>!decide (q=p)) ns;have rl:(if (!decide (p∈ns))=true then (1:Int) else 0)=0\/(if (!decide (p∈ns))=true then (1:Int) else 0)=1:=by split<;>simp
  have key:=hfl p hpm;have hod:=hod p hpm;have Wp:=Wg fun q=>if q=p then !(!qv p row) else !qv q row
  generalize (P7.filter fun q=>if q=p then !(!qv p row) else !qv q row)=wr at *;generalize hk2:(if (!decide (p∈ns))=true then (1:Int) else 0)=k2 at *;refine ah 10 dZ.nd (u3 rfl B.sorted (lY (d_ (f:=fun q:Int=>q) (p:=fun q=>!decide (q=p)) (b':=true) ["_law_q"] [9] (cS (af ou) vB rfl rfl (by decide +kernel)) (bG (aa 7)) (bH 0) (fun C s H fp=>eU 0 ["_law_q","_law_p"]) bp (fun i q hi C s H fp=>hV (aw eT (aa 0) (aa 1))) (fun i q hi _ C s H fp=>gE (b':=true) (aa 0)) (by omega)) (D7 (a:=p) (k:=k2) (eR (aq (aa 9) a7) (by show 1<=1000;decide)) (mn (Fb rfl B.int (cj qg (aa 9) (aa 7))) hk2) (by omega) (by omega)) (by rw[List.length_map,List.length_replicate];omega)) (by rw[List.length_append,List.length_map,List.length_replicate];omega)) ?_;rw[List.map_id',key];refine aT (c:=false) (BV (TW.t (mB (gR (mn (aH c_can_be (hr.mono (by decide)) rfl (Cn (s:=(row.length:Int)) (g:=g) (n:=n) (ns:=wr) (aq (j6 (cH rfl B.len (aa 3))) (aq (j6 (aa 6)) (aq (j6 (aa 4)) (aq (vL (aa 10)) a7))))) Wp) hod)) fun _=>(i8 (Bt (α:=List Int) (x:=none) (yc (a:=none) (l5 c_built (hr.mono (by decide)) rfl (Cn (s:=(row.length:Int)) (g:=g) (n:=n) (ns:=wr) (aq (j6 (cH rfl B.len (aa 3))) (aq (j6 (aa 6)) (aq (j6 (aa 4)) (aq (vL (aa 10)) a7))))) Wp) fun o ho=>ho.2 hod) fun K N H a=>wt K N H a)))) rfl) (fun hc=>nomatch hc) (fun _=>?_);by_cases hg:0<g
  .have W2:=W2 hg;refine aT (c:=false) (BV (TW.t (ka (aw dt (aa 6) ae) fun _=>(jj (Bt (α:=List Int) (x:=none) (yc (a:=none) (l5 c_built (hr.mono (by decide)) rfl (Cn (s:=(row.length:Int)) (g:=g-1) (n:=n) (ns:=ns) (aq (j6 (cH rfl B.len (aa 3))) (aq (j6 (eL (aa 6) ae)) (aq (j6 (aa 4)) (aq (vL (aa 7)) a7))))) W2) fun o ho=>ho.2 hsg) fun K N H a=>wt K N H a)))) (by rw[decide_eq_true hg];rfl)) (fun hc=>nomatch hc) (fun _=>?_);exact az ⟨_,_,_,_,_,_,_,_,_,_,rfl⟩
  .refine aT (c:=false) (BV (TW.t (ka (c':=false) (aw dt (aa 6) ae) fun z=>absurd (of_decide_eq_true z) hg)) (by rw[decide_eq_false hg];rfl)) (fun hc=>nomatch hc) (fun _=>?_);exact az ⟨_,_,_,_,_,_,_,_,_,_,rfl⟩
 .rintro Γ' ⟨r1,r2,r3,r4,r5,r6,r7,r8,r9,r10,rfl⟩;exact av td rfl
end
open PySem PySem.Spec PyProof.Rows
open Q (fr fd)
open Q (gp aM)
open Q (aM qv kR Pl)
open Q (Due Res FW dJ P7 aj pW uk eB Q6 aM)
open Q (gp aM)
open Q (aM qv kR Pl)
set_option maxHeartbeats 0 in
theorem fin{lp:Program}{w:World}{K:PySem.W.Frag}{h:Heap}{mg:Str->Option Value}{fa:Addr}(X:K.In h)(G:h.Ns mainGlobals mg)(hfa:mg "law"=some (.ref fa))(B:Bu mg)
  (g_GREAT_PRIMES_FROM:oe mg "GREAT_PRIMES_FROM" 32768) (g_GREAT_FROM:oe mg "GREAT_FROM" 1073741824) (g_LONGEST:oe mg "LONGEST" 8) (g_SMALL_PLACES:qw K mg "SMALL_PLACES" [0,2,3,5,7,11,13]) (g_AT_NOUGHT:qw K mg "AT_NOUGHT" [1,-1]) (g_AT_TWO:qw K mg "AT_TWO" [1,3,5,7,2,6,10,14]) (g_ALL_SMALL_PRIMES:oe mg "ALL_SMALL_PRIMES" 30030) (d_is_whole:Df K "is_whole" gN) (d_power_by:Df K "power_by" gO) (d_taken_out:Df K "taken_out" fF) (d_square_root:Df K "square_root" dM) (d_square_root_or_none:Df K "square_root_or_none" bt) (d_common_divisor:Df K "common_divisor" cE) (d_fraction:Df K "fraction" dE) (d_next_divisor:Df K "next_divisor" dq) (d_is_prime:Df K "is_prime" gm) (d_divided:Df K "divided" iK) (d_parts:Df K "parts" lD) (d_tame_parts:Df K "tame_parts" ef) (d_power:Df K "power" lG) (d_freed:Df K "freed" lO) (d_free_of:Df K "free_of" iG) (d_joined:Df K "joined" jq) (d_free_product:Df K "free_product" c_) (d_square_by:Df K "square_by" fA) (d_least_no_square:Df K "least_no_square" bW) (d_class_at:Df K "class_at" eO) (d_two_says:Df K "two_says" gb) (d_odd_says:Df K "odd_says" gu) (d_says:Df K "says" pM) (d_primes_of:Df K "primes_of" fq) (d_all_noes:Df K "all_noes" eZ) (d_is_row_number:Df K "is_row_number" cQ) (d_is_row:Df K "is_row" il) (d_refuse_no_row:Df K "refuse_no_row" cM) (d_signs_of:Df K "signs_of" eV) (d_is_no:Df K "is_no" jF) (d_noes_of:Df K "noes_of" fY) (d_first_in_one_alone:Df K "first_in_one_alone" bD) (d_parting:Df K "parting" iB) (d_next_prime:Df K "next_prime" d8) (d_class_of_product:Df K "class_of_product" bO) (d_small_free_numbers:Df K "small_free_numbers" a8) (d_classes_of:Df K "classes_of" dm) (d_wishes_without:Df K "wishes_without" bJ) (d_are_among:Df K "are_among" fI) (d_number_among:Df K "number_among" cg) (d_is_square_at:Df K "is_square_at" dk) (d_samples_at:Df K "samples_at" d9) (d_classes_for:Df K "classes_for" cJ) (d_two_with:Df K "two_with" eN) (d_first_of:Df K "first_of" gJ) (d_in_one_alone:Df K "in_one_alone" b8) (d_row_with:Df K "row_with" fe) (d_can_be:Df K "can_be" iv) (d_built:Df K "built" ly) (d_law_cell_at:Df K "_law_cell_at" dF) (d_law_big:Df K "_law_big" iI) (d_law_small:Df K "_law_small" fk) (d_law_row:Df K "_law_row" iN) (d_law_common:Df K "_law_common" eE) (d_law_root:Df K "_law_root" gB) (d_law_free:Df K "_law_free" gK) (d_law_free_times:Df K "_law_free_times" cw) (d_law_power:Df K "_law_power" fv) (d_law_split:Df K "_law_split" fD) (d_law_says:Df K "_law_says" gI) (d_law_noes:Df K "_law_noes" gH) (d_law:Df K "law" ou):
  ∃fd:FuncData,(∀(s:Shared) (u:Value),BindsTo s fd ⟨[u],[]⟩ [("_law_script",u)])/\∀base:Heap,K.In base->base.Ns mainGlobals mg->fj lp w K mg base nM 18 fa fd ["_law_script"] (qQ K):=by
 refine AM d_law X G hfa (fun _ _ _ _ _ _ s u=>.of_eq rfl) fun base _ _ f fd F=>?_;have c_is_whole:aJ lp w K mg base 1 "is_whole" ["k"] (dG K (fun(_:Int)=>True) true (fun _=>true)):=d_is_whole.cU X G (fun _ _ _ _ _ _ us hl=>match us,hl with|[_],_=>rfl) fun f fd F=>nL F rg rfl fun a _=>t6 B a;have c_power_by:aJ lp w K mg base 1 "power_by" ["base","exponent","m"] (kH K (fun _ e m=>0<=e/\1<=m/\m<2^62) true ya):=d_power_by.cU X G (fun _ _ _ _ _ _ us hl=>match us,hl with|[_,_,_],_=>rfl) fun f fd F=>AF F bM rfl fun a b c hp=>ug a b c hp.1 hp.2.1 hp.2.2;have c_taken_out:aJ lp w K mg base 1 "taken_out" ["k","divisor"] (cF K (fun k d=>k≠0/\2<=d/\Sm 9000 d) true Q.a9):=d_taken_out.cU X G (fun _ _ _ _ _ _ us hl=>match us,hl with|[_,_],_=>rfl) fun f fd F=>kX F c9 rfl fun a b hp=>sH a b hp.1 hp.2.1 hp.2.2;have c_square_root:aJ lp w K mg base 1 "square_root" ["k"] (dG K (fun k=>0<=k/\Sm 8000 k) true Q.rt):=d_square_root.cU X G (fun _ _ _ _ _ _ us hl=>match us,hl with|[_],_=>rfl) fun f fd F=>nL F eX rfl fun a hp=>nZ a hp.1 hp.2;have c_square_root_or_none:aJ lp w K mg base 2 "square_root_or_none" ["k"] (dG K (fun k=>Sm 8000 k) true Bn):=d_square_root_or_none.cU X G (fun _ _ _ _ _ _ us hl=>match us,hl with|[_],_=>rfl) fun f fd F=>nL F c7 rfl fun a hp=>gY c_square_root a hp;have c_common_divisor:aJ lp w K mg base 1 "common_divisor" ["a","b"] (cF K (fun _ _=>True) true fun a b=>((Int.gcd a b:Nat):Int)):=d_common_divisor.cU X G (fun _ _ _ _ _ _ us hl=>match us,hl with|[_,_],_=>rfl) fun f fd F=>kX F bY rfl fun a c _=>j8 B a c;have c_fraction:aJ lp w K mg base 2 "fraction" ["top","bottom"] (cF K JM true fr):=d_fraction.cU X G (fun _ _ _ _ _ _ us hl=>match us,hl with|[_,_],_=>rfl) fun f fd F=>kX F ij rfl fun a c hp=>ue c_common_divisor a c hp.1 hp.2;have c_next_divisor:aJ lp w K mg base 2 "next_divisor" ["k","begin","end"] (kH K (fun k b e=>1<=k/\Sm 8000 k/\1<=b/\b<2^62/\-(2^62)<=e/\e<2^62) true Q.kq):=d_next_divisor.cU X G (fun _ _ _ _ _ _ us hl=>match us,hl with|[_,_,_],_=>rfl) fun f fd F=>AF F gS rfl fun a b c hp=>mL B c_square_root a b c hp;have c_is_prime:aJ lp w K mg base 3 "is_prime" ["k"] (dG K (fun k=>k<2^62) true Q.aM):=d_is_prime.cU X G (fun _ _ _ _ _ _ us hl=>match us,hl with|[_],_=>rfl) fun f fd F=>nL F qA rfl fun a hp=>uM c_next_divisor a hp;have c_divided:aJ lp w K mg base 3 "divided" ["k","end"] (cF K HR true Q.aW):=d_divided.cU X G (fun _ _ _ _ _ _ us hl=>match us,hl with|[_,_],_=>rfl) fun f fd F=>kX F ck rfl fun a c hp=>wZ c_taken_out c_next_divisor a c hp;have c_parts:aJ lp w K mg base 4 "parts" ["k"] (dG K (fun k=>1<=k/\k<2^60) true Q.kR):=d_parts.cU X G (fun _ _ _ _ _ _ us hl=>match us,hl with|[_],_=>rfl) fun f fd F=>nL F nh rfl fun a hp=>A2 c_divided a hp;have c_tame_parts:aJ lp w K mg base 4 "tame_parts" ["k"] (dG K (fun k=>1<=k/\Sm 900 k) true EE):=d_tame_parts.cU X G (fun _ _ _ _ _ _ us hl=>match us,hl with|[_],_=>rfl) fun f fd F=>nL F fO rfl fun a hp=>ph g_GREAT_PRIMES_FROM g_GREAT_FROM c_divided c_square_root_or_none a hp;have c_power:aJ lp w K mg base 1 "power" ["base","exponent"] (cF K Jr true HX):=d_power.cU X G (fun _ _ _ _ _ _ us hl=>match us,hl with|[_,_],_=>rfl) fun f fd F=>kX F jm rfl fun a c hp=>By B a c hp;have c_freed:aJ lp w K mg base 5 "freed" ["u"] (dG K Ij true Q.Hu):=d_freed.cU X G (fun _ _ _ _ _ _ us hl=>match us,hl with|[_],_=>rfl) fun f fd F=>nL F ff rfl fun a hp=>B5 B c_power c_fraction c_tame_parts a hp;have c_free_of:aJ lp w K mg base 6 "free_of" ["k"] (dG K Fh true dW):=d_free_of.cU X G (fun _ _ _ _ _ _ us hl=>match us,hl with|[_],_=>rfl) fun f fd F=>nL F tR rfl fun a hp=>xJ c_freed a hp;have c_joined:aJ lp w K mg base 2 "joined" ["a","b"] (cF K AG true fQ):=d_joined.cU X G (fun _ _ _ _ _ _ us hl=>match us,hl with|[_,_],_=>rfl) fun f fd F=>kX F oP rfl fun a c hp=>ye c_common_divisor a c hp;have c_free_product:aJ lp w K mg base 7 "free_product" ["row"] (dG K FK true kK):=d_free_product.cU X G (fun _ _ _ _ _ _ us hl=>match us,hl with|[_],_=>rfl) fun f fd F=>nL F cO rfl fun a hp=>mx c_joined c_free_of a hp;have c_square_by:aJ lp w K mg base 2 "square_by" ["k","p"] (cF K (fun _ p=>2<=p/\p<2^62) true Q.bu):=d_square_by.cU X G (fun _ _ _ _ _ _ us hl=>match us,hl with|[_,_],_=>rfl) fun f fd F=>kX F jB rfl fun a b hp=>qM c_power_by a b hp.1 hp.2;have c_least_no_square:aJ lp w K mg base 3 "least_no_square" ["p"] (dG K (fun p=>Q.NR p/\2<=p/\p<2^62) true Q.qu):=d_least_no_square.cU X G (fun _ _ _ _ _ _ us hl=>match us,hl with|[_],_=>rfl) fun f fd F=>nL F cR rfl fun a hp=>jl c_square_by a hp.1 hp.2;have c_class_at:aJ lp w K mg base 3 "class_at" ["k","p"] (cF K (fun k p=>k≠0/\2<=p/\p<2^62) true Q.cls):=d_class_at.cU X G (fun _ _ _ _ _ _ us hl=>match us,hl with|[_,_],_=>rfl) fun f fd F=>kX F cX rfl fun a b hp=>uT c_taken_out c_square_by a b hp.1 hp.2.1 hp.2.2;have c_class_atS:aJ lp w K mg base 3 "class_at" ["k","p"] (cF K (fun k p=>k≠0/\(p=0\/(2<=p/\p<2^62))) true jN):=d_class_at.cU X G (fun _ _ _ _ _ _ us hl=>match us,hl with|[_,_],_=>rfl) fun f fd F=>kX F cX rfl fun a b hp=>qI c_taken_out c_square_by a b hp.1 hp.2;have c_two_says:aJ lp w K mg base 1 "two_says" ["one","other"] (cF K (fun _ _=>True) true Q.fh):=d_two_says.cU X G (fun _ _ _ _ _ _ us hl=>match us,hl with|[_,_],_=>rfl) fun f fd F=>kX F dN rfl fun a b _=>tY a b;have c_odd_says:aJ lp w K mg base 3 "odd_says" ["one","other","p"] (kH K (fun x y p=>(-2<=x.2/\x.2<=2)/\(-2<=y.2/\y.2<=2)/\2<=p/\p<2^62) true Q.xj):=d_odd_says.cU X G (fun _ _ _ _ _ _ us hl=>match us,hl with|[_,_,_],_=>rfl) fun f fd F=>AF F dO rfl fun a b c hp=>tS c_square_by a b c hp;have c_says:aJ lp w K mg base 4 "says" ["a","b","p"] (kH K (fun a b p=>a≠0/\b≠0/\(p=0\/(2<=p/\p<2^62))) true Q.aj):=d_says.cU X G (fun _ _ _ _ _ _ us hl=>match us,hl with|[_,_,_],_=>rfl) fun f fd F=>AF F pA rfl fun a b c hp=>DV c_class_at c_two_says c_odd_says a b c hp.1 hp.2.1 hp.2.2;have c_primes_of:aJ lp w K mg base 5 "primes_of" ["numbers"] (dG K EZ true o_):=d_primes_of.cU X G (fun _ _ _ _ _ _ us hl=>match us,hl with|[_],_=>rfl) fun f fd F=>nL F eA rfl fun ns hp=>rT B c_parts ns hp;have c_all_noes:aJ lp w K mg base 7 "all_noes" ["a","b"] (cF K HF true D2):=d_all_noes.cU X G (fun _ _ _ _ _ _ us hl=>match us,hl with|[_,_],_=>rfl) fun f fd F=>kX F h_ rfl fun a b hp=>tJ B c_free_of c_says c_primes_of a b hp;have c_is_row_number:aJ lp w K mg base 2 "is_row_number" ["k"] (dG K (fun(_:Int)=>True) true Dd):=d_is_row_number.cU X G (fun _ _ _ _ _ _ us hl=>match us,hl with|[_],_=>rfl) fun f fd F=>nL F j9 rfl fun a _=>kZ B g_GREAT_FROM c_is_whole a;have c_is_row:aJ lp w K mg base 3 "is_row" ["row"] (dG K (fun(xs:List Int)=>xs.length<=1000) true cK):=d_is_row.cU X G (fun _ _ _ _ _ _ us hl=>match us,hl with|[_],_=>rfl) fun f fd F=>nL F xC rfl fun a hp=>yk B g_LONGEST c_is_row_number a hp;have c_refuse_no_row:aJ lp w K mg base 4 "refuse_no_row" ["row"] (dG K (fun(xs:List Int)=>cK xs=true) true ri):=d_refuse_no_row.cU X G (fun _ _ _ _ _ _ us hl=>match us,hl with|[_],_=>rfl) fun f fd F=>Ju F j5 rfl fun a hp=>k7 c_is_row a hp;have c_signs_of:aJ lp w K mg base 5 "signs_of" ["row"] (dG K (fun(r:List Int)=>cK r=true) true C9):=d_signs_of.cU X G (fun _ _ _ _ _ _ us hl=>match us,hl with|[_],_=>rfl) fun f fd F=>nL F rQ rfl fun a hp=>uI B c_refuse_no_row a hp;have c_is_no:aJ lp w K mg base 5 "is_no" ["row","p"] (cF K (fun(row:List Int) p=>row.length<=1000/\(∀n∈row,n≠0)/\(p=0\/(2<=p/\p<2^62))) true qD):=d_is_no.cU X G (fun _ _ _ _ _ _ us hl=>match us,hl with|[_,_],_=>rfl) fun f fd F=>kX F jJ rfl fun a c hp=>Ce B c_says a c hp.1 hp.2.1 hp.2.2;have c_noes_of:aJ lp w K mg base 6 "noes_of" ["row"] (dG K HN true sP):=d_noes_of.cU X G (fun _ _ _ _ _ _ us hl=>match us,hl with|[_],_=>rfl) fun f fd F=>nL F tq rfl fun a hp=>wM c_primes_of c_refuse_no_row c_is_no a hp;have c_first_in_one_alone:aJ lp w K mg base 1 "first_in_one_alone" ["one","other"] (cF K (fun(a b:List Int)=>a.length+b.length<64) true CS):=d_first_in_one_alone.cU X G (fun _ _ _ _ _ _ us hl=>match us,hl with|[_,_],_=>rfl) fun f fd F=>kX F dv rfl fun a c hp=>g6 B a c hp;have c_parting:aJ lp w K mg base 8 "parting" ["one","other"] (cF K HZ true FQ):=d_parting.cU X G (fun _ _ _ _ _ _ us hl=>match us,hl with|[_,_],_=>rfl) fun f fd F=>kX F l6 rfl fun a c hp=>xG B c_refuse_no_row c_signs_of c_free_product c_noes_of c_first_in_one_alone a c hp;have c_next_prime:aJ lp w K mg base 4 "next_prime" ["k"] (dG K (fun k=>2<=k/\k<=10000) true (fun k=>Q.pf (k+1))):=d_next_prime.cU X G (fun _ _ _ _ _ _ us hl=>match us,hl with|[_],_=>rfl) fun f fd F=>nL F fL rfl fun a hp=>qp c_is_prime a hp.1 hp.2;have c_class_of_product:aJ lp w K mg base 1 "class_of_product" ["one","other","p"] (kH K IS true Q.kU):=d_class_of_product.cU X G (fun _ _ _ _ _ _ us hl=>match us,hl with|[_,_,_],_=>rfl) fun f fd F=>AF F d7 rfl fun a c d hp=>i4 a c d hp;have c_small_free_numbers:aJ lp w K mg base 1 "small_free_numbers" [] (Ba K true (fun(ms:List Int)=>ms.Perm (Q.dJ 6))):=d_small_free_numbers.cU X G (fun _ _ _ _ _ _ us hl=>match us,hl with|[],_=>rfl) fun f fd F=>Jc F bx rfl (h9 B g_SMALL_PLACES);have c_classes_of:aJ lp w K mg base 4 "classes_of" ["k","places"] (cF K (fun(k:Int) (ps:List Int)=>k≠0/\ps=Q.P7) true xN):=d_classes_of.cU X G (fun _ _ _ _ _ _ us hl=>match us,hl with|[_,_],_=>rfl) fun f fd F=>kX F nU rfl fun a c hp=>pU c_class_atS a c hp.1 hp.2;have c_wishes_without:aJ lp w K mg base 4 "wishes_without" ["k","places","wishes"] (kH K (fun(k:Int) (ps:List Int) (ws:List jT)=>k≠0/\ps=Q.P7/\A8 ws) true sM):=d_wishes_without.cU X G (fun _ _ _ _ _ _ us hl=>match us,hl with|[_,_,_],_=>rfl) fun f fd F=>AF F bX rfl fun a c d hp=>j_ B c_class_atS c_class_of_product a c d hp.1 hp.2.1 hp.2.2;have c_are_among:aJ lp w K mg base 1 "are_among" ["classes","wishes"] (cF K (fun(_:jT) (_:List jT)=>True) true AE):=d_are_among.cU X G (fun _ _ _ _ _ _ us hl=>match us,hl with|[_,_],_=>rfl) fun f fd F=>kX F jo rfl fun a c _=>rh B a c;have c_number_among:aJ lp w K mg base 5 "number_among" ["places","wishes"] (sV K (fun(ps:List Int) (ws:List jT)=>ps=Q.P7/\A8 ws/\∀j,j<7->ws.getD j []≠[]) true (fun _ ws (n:Int)=>Io ws n)):=d_number_among.cU X G (fun _ _ _ _ _ _ us hl=>match us,hl with|[_,_],_=>rfl) fun f fd F=>G_ F bf rfl fun a c hp=>mf B g_SMALL_PLACES c_next_prime c_small_free_numbers c_classes_of c_wishes_without c_are_among a c hp.1 hp.2.1 hp.2.2;have c_is_square_at:aJ lp w K mg base 4 "is_square_at" ["k","p"] (cF K (fun(k p:Int)=>k≠0/\p∈Q.P7) true Q.pW):=d_is_square_at.cU X G (fun _ _ _ _ _ _ us hl=>match us,hl with|[_,_],_=>rfl) fun f fd F=>kX F k6 rfl fun a c hp=>m_ c_class_atS a c hp.1 hp.2;have c_samples_at:aJ lp w K mg base 4 "samples_at" ["p"] (dG K (fun(p:Int)=>p∈Q.P7) true Q.uk):=d_samples_at.cU X G (fun _ _ _ _ _ _ us hl=>match us,hl with|[_],_=>rfl) fun f fd F=>nL F iW rfl fun a hp=>qi B g_AT_NOUGHT g_AT_TWO c_least_no_square a hp;have c_classes_for:aJ lp w K mg base 5 "classes_for" ["number","noes","p"] (kH K (fun(n:Int) (_:List Int) (p:Int)=>n≠0/\p∈Q.P7) true zo):=d_classes_for.cU X G (fun _ _ _ _ _ _ us hl=>match us,hl with|[_,_,_],_=>rfl) fun f fd F=>AF F mH rfl fun a c d hp=>nX c_class_atS c_samples_at c_says a c d hp.1 hp.2;have c_two_with:aJ lp w K mg base 6 "two_with" ["number","noes"] (sV K (fun(n:Int) (ns:List Int)=>∃g,Due 2 g n ns) true (fun n ns row=>∀g,Due 2 g n ns->Res 2 g n ns row)):=d_two_with.cU X G (fun _ _ _ _ _ _ us hl=>match us,hl with|[_,_],_=>rfl) fun f fd F=>G_ F ic rfl fun a c hp=>tE B g_SMALL_PLACES c_classes_for c_number_among c_joined a c hp;have c_first_of:aJ lp w K mg base 3 "first_of" ["size","signs","number"] (kH K (fun(_ _:Int) (n:Int)=>n∈Q.dJ 6) true CU):=d_first_of.cU X G (fun _ _ _ _ _ _ us hl=>match us,hl with|[_,_,_],_=>rfl) fun f fd F=>AF F kL rfl fun a c d hp=>tH B g_ALL_SMALL_PRIMES c_joined a c d hp;have c_in_one_alone:aJ lp w K mg base 1 "in_one_alone" ["one","other"] (cF K (fun(_ _:List Int)=>True) true HP):=d_in_one_alone.cU X G (fun _ _ _ _ _ _ us hl=>match us,hl with|[_,_],_=>rfl) fun f fd F=>kX F k8 rfl fun a c _=>m9 g_SMALL_PLACES a c;have c_row_with:aJ lp w K mg base 16 "row_with" ["size","signs","number","noes"] (wR K (fun s g n ns=>Due s g n ns/\s<=(8:Nat)) true Res):=jK B c_all_noes c_joined c_two_with c_first_of c_in_one_alone d_row_with X G 8;have c_can_be:aJ lp w K mg base 5 "can_be" ["wish"] (dG K sQ true (fun w=>sO w.s w.g w.n w.ns)):=d_can_be.cU X G (fun _ _ _ _ _ _ us hl=>match us,hl with|[_],_=>rfl) fun f fd F=>nL F iH rfl fun a hp=>zA B c_is_square_at a hp;have c_built:aJ lp w K mg base 17 "built" ["wish"] (BQ K sQ true HS):=d_built.cU X G (fun _ _ _ _ _ _ us hl=>match us,hl with|[_],_=>rfl) fun f fd F=>II F yg rfl fun a hp=>Co c_can_be c_row_with a hp;have c_law_cell_at:aJ lp w K mg base 1 "_law_cell_at" ["_law_script","_law_k"] (cF K (fun _ k=>0<=k) true kF):=d_law_cell_at.cU X G (fun _ _ _ _ _ _ us hl=>match us,hl with|[_,_],_=>rfl) fun f fd F=>kX F mY rfl fun a c hp=>nV B a c hp;have c_law_big:aJ lp w K mg base 1 "_law_big" ["_law_cell","_law_k"] (cF K (fun _ k=>0<=k/\k<=100) true CW):=d_law_big.cU X G (fun _ _ _ _ _ _ us hl=>match us,hl with|[_,_],_=>rfl) fun f fd F=>kX F dC rfl fun a c hp=>xI B a c hp.1 hp.2;have c_law_small:aJ lp w K mg base 1 "_law_small" ["_law_cell"] (dG K (fun(_:Int)=>True) true Fm):=d_law_small.cU X G (fun _ _ _ _ _ _ us hl=>match us,hl with|[_],_=>rfl) fun f fd F=>nL F cz rfl fun a _=>qB B a;have c_law_row:aJ lp w K mg base 2 "_law_row" ["_law_cell","_law_size"] (cF K (fun(_ n:Int)=>0<=n/\n<=8) true DP):=d_law_row.cU X G (fun _ _ _ _ _ _ us hl=>match us,hl with|[_,_],_=>rfl) fun f fd F=>kX F cT rfl fun a c hp=>xK B c_law_small a c hp.1 hp.2;have c_law_common:aJ lp w K mg base 1 "_law_common" ["_law_a","_law_b"] (cF K (fun _ _=>True) true FL):=d_law_common.cU X G (fun _ _ _ _ _ _ us hl=>match us,hl with|[_,_],_=>rfl) fun f fd F=>kX F dH rfl fun a c _=>qt B a c;have c_law_root:aJ lp w K mg base 1 "_law_root" ["_law_k"] (dG K (fun k=>0<=k/\Sm 8000 k) true Q.rt):=d_law_root.cU X G (fun _ _ _ _ _ _ us hl=>match us,hl with|[_],_=>rfl) fun f fd F=>nL F ie rfl fun a hp=>sR a hp.1 hp.2;have c_law_free:aJ lp w K mg base 2 "_law_free" ["_law_number"] (dG K (fun(n:Int)=>n≠0/\n.natAbs<1073741824) true dW):=d_law_free.cU X G (fun _ _ _ _ _ _ us hl=>match us,hl with|[_],_=>rfl) fun f fd F=>nL F bh rfl fun a hp=>uv B c_law_root a hp.1 hp.2;have c_law_free_times:aJ lp w K mg base 2 "_law_free_times" ["_law_one","_law_other"] (cF K AG true fQ):=d_law_free_times.cU X G (fun _ _ _ _ _ _ us hl=>match us,hl with|[_,_],_=>rfl) fun f fd F=>kX F fB rfl fun a c hp=>kc c_law_common a c hp;have c_law_power:aJ lp w K mg base 1 "_law_power" ["_law_k","_law_often","_law_p"] (kH K (fun _ e m=>0<=e/\2<=m/\m<2^62) true ya):=d_law_power.cU X G (fun _ _ _ _ _ _ us hl=>match us,hl with|[_,_,_],_=>rfl) fun f fd F=>AF F bz rfl fun a b c hp=>qV a b c hp.1 hp.2.1 hp.2.2;have c_law_split:aJ lp w K mg base 1 "_law_split" ["_law_k","_law_p"] (cF K (fun k d=>k≠0/\2<=d/\Sm 9000 d) true Q.a9):=d_law_split.cU X G (fun _ _ _ _ _ _ us hl=>match us,hl with|[_,_],_=>rfl) fun f fd F=>kX F ez rfl fun a b hp=>qy a b hp.1 hp.2.1 hp.2.2;have c_law_says:aJ lp w K mg base 2 "_law_says" ["_law_a","_law_b","_law_p"] (kH K Je true Q.aj):=d_law_says.cU X G (fun _ _ _ _ _ _ us hl=>match us,hl with|[_,_,_],_=>rfl) fun f fd F=>AF F bB rfl fun a b c hp=>tX c_law_power c_law_split a b c hp;have c_law_noes:aJ lp w K mg base 3 "_law_noes" ["_law_row_here","_law_places"] (cF K Ji true Jb):=d_law_noes.cU X G (fun _ _ _ _ _ _ us hl=>match us,hl with|[_,_],_=>rfl) fun f fd F=>kX F cf rfl fun a c hp=>uF B c_law_says a c hp;exact nL F dZ rfl fun xs hl=>Hk B c_can_be c_built c_parting c_law_cell_at c_law_big c_law_row c_law_free c_law_free_times c_law_noes xs hl
end L2.EP.K
namespace PySem.W.Fast
def tw11826233779747194789:Nat:=0
def tw16703270345123580684:Nat:=0
def tw7621036360881413028:Nat:=0
def tw3852730357590160967:Nat:=0
def tw14197312252502433530:Nat:=0
def tw16064455887536919031:Nat:=0
def tw5339936180215236652:Nat:=0
def tw4538377633174888112:Nat:=0
def tw5155440478796917278:Nat:=0
def tw14863669790600338159:Nat:=0
def tw5706315484732925740:Nat:=0
def tw14115030713568480254:Nat:=0
def tw1146479514426658585:Nat:=0
def tw8903106312809051434:Nat:=0
def tw11177199239671075697:Nat:=0
def tw18393722585073932445:Nat:=0
def tw12912923070913672401:Nat:=0
def tw16099095351495656214:Nat:=0
def tw6366577941126907651:Nat:=0
def tw8764340356393119390:Nat:=0
def tw15832706144488690410:Nat:=0
def tw3918724218343523003:Nat:=0
def tw9504154677817357190:Nat:=0
def tw775636347562350241:Nat:=0
def tw13107692630030886690:Nat:=0
def tw5322170113503111166:Nat:=0
def tw7254362802347701712:Nat:=0
def tw16464787093403503295:Nat:=0
def tw12428787250159519682:Nat:=0
def tw8629552437974465480:Nat:=0
def tw2601609910127897721:Nat:=0
def tw2797680830240972665:Nat:=0
def tw6121579350026249047:Nat:=0
def tw3342073008483548349:Nat:=0
def tw13047900878643374952:Nat:=0
def tw16432188115001458546:Nat:=0
def tw7426010913555258782:Nat:=0
def tw5610207799214480445:Nat:=0
def tw1872126296555496689:Nat:=0
def tw16494276554765262001:Nat:=0
def tw6000635769359088064:Nat:=0
def tw4380653566141897437:Nat:=0
def tw2539506220169153584:Nat:=0
def tw16198127661216319394:Nat:=0
def tw3106745407531482689:Nat:=0
def tw12587520734893913970:Nat:=0
def tw4347894887297850264:Nat:=0
def tw4851529485284149706:Nat:=0
def tw13520078514049853937:Nat:=0
def tw10845369921140772181:Nat:=0
def tw10328896689695314564:Nat:=0
def tw16036992898388286876:Nat:=0
def tw14199808773184206899:Nat:=0
def tw667354040948252020:Nat:=0
def tw7373919034393076999:Nat:=0
def tw2402155303523347749:Nat:=0
def tw17077780274001497937:Nat:=0
def tw10480035834367538608:Nat:=0
def tw6914978153606443101:Nat:=0
def tw13449268614789245854:Nat:=0
def tw10800126873876644516:Nat:=0
def tw11398096159189417682:Nat:=0
def tw4270451458889467676:Nat:=0
def tw8871785446740052367:Nat:=0
def tw405799313222172080:Nat:=0
def tw14721792740573547266:Nat:=0
def tw18327683282262322543:Nat:=0
def tw15602230787681809042:Nat:=0
def tw9266242331157043639:Nat:=0
def tw12232193059091079613:Nat:=0
def tw10854539226969850184:Nat:=0
def tw415616436373986857:Nat:=0
def tw13688094633265263161:Nat:=0
def tw7047364851350278025:Nat:=0
def tw14682130500661380249:Nat:=0
def tw16656948743560253038:Nat:=0
def tw702046029699425806:Nat:=0
def tw3123697720853683791:Nat:=0
def tw7533048604643178677:Nat:=0
def tw112425972910559349:Nat:=0
def tw12526004810132110586:Nat:=0
def tw284454477038972502:Nat:=0
def tw3815965430000613297:Nat:=0
def tw1445795473877391265:Nat:=0
def tw6339757204241391101:Nat:=0
def tw7946324825974380668:Nat:=0
def tw1785882459149211753:Nat:=0
def tw2450499948966942549:Nat:=0
def tw5182563850353535086:Nat:=0
def tw8467267470323513493:Nat:=0
def tw18215894179882962204:Nat:=0
def tw3073435057662025178:Nat:=0
def tw11341190204698491172:Nat:=0
def tw6183309777711556818:Nat:=0
def tw14574451354669977324:Nat:=0
def tw12849969176521088813:Nat:=0
def tw4233384938014729978:Nat:=0
def tw16553769321792792972:Nat:=0
def tw107736638017125666:Nat:=0
def tw5491458494700706582:Nat:=0
def tw2462028264061140443:Nat:=0
def tw7529298836244184914:Nat:=0
def tw348443902514837846:Nat:=0
def tw5188448090442421571:Nat:=0
def tw392427222616042193:Nat:=0
def tw18111815521625794392:Nat:=0
def tw1210170611555420693:Nat:=0
def tw14004947328342457084:Nat:=0
def tw622196896622515600:Nat:=0
def tw10253019294511932329:Nat:=0
def tw11106898494060815282:Nat:=0
def tw845280130427484831:Nat:=0
def tw1254509538264362148:Nat:=0
def tw2224727609885476233:Nat:=0
def tw16971673326726384896:Nat:=0
def tw12629141396184597686:Nat:=0
def tw5882302447880235719:Nat:=0
def tw2516028345320619627:Nat:=0
def tw7764041415248029746:Nat:=0
def tw1821800661271658693:Nat:=0
def tw5578984502919876941:Nat:=0
def tw7099571962062668846:Nat:=0
def tw7174764471088679508:Nat:=0
def tw12766680571086957384:Nat:=0
def tw11053734532887523048:Nat:=0
def tw13473071349284433227:Nat:=0
def tw5022037698906266688:Nat:=0
def tw4421604501372898941:Nat:=0
def tw16867576250462707645:Nat:=0
def tw16254776038346730769:Nat:=0
def tw1418584681997100621:Nat:=0
def tw14565634405547174190:Nat:=0
def tw227058379141789152:Nat:=0
def tw17789248608516756121:Nat:=0
def tw16397063978083401373:Nat:=0
def tw2827971364345587148:Nat:=0
def tw9846860919647879753:Nat:=0
def tw7661460675075170518:Nat:=0
def tw4891846008876109834:Nat:=0
def tw12888598565840870320:Nat:=0
def tw9972294198657375476:Nat:=0
def tw18124976522939293978:Nat:=0
def tw16769942964012831544:Nat:=0
def tw14803511356645521882:Nat:=0
def tw11429648700296612017:Nat:=0
def tw8280087252385326650:Nat:=0
def tw3818258189294747451:Nat:=0
def tw5164704732457178087:Nat:=0
def tw14653554762282138262:Nat:=0
def tw1867672406939321788:Nat:=0
def tw2398189726855125347:Nat:=0
def tw17998702329491939997:Nat:=0
def tw4562062817820154856:Nat:=0
def tw11194242003809911862:Nat:=0
def tw17327068682212201803:Nat:=0
def tw13020252453350126763:Nat:=0
def tw5494357949345138000:Nat:=0
def tw6064846518755779276:Nat:=0
def tw3502440492927007215:Nat:=0
def tw13807134509187910949:Nat:=0
def tw9462821492153577398:Nat:=0
def tw17626204542928787640:Nat:=0
def tw11291811020349653187:Nat:=0
def tw14714466120804897318:Nat:=0
def tw18031860933307773863:Nat:=0
def tw7697021152662059709:Nat:=0
def tw1944993813697202076:Nat:=0
def tw3998568469952403816:Nat:=0
def tw16983301700097565409:Nat:=0
def tw2158067179035078711:Nat:=0
def tw10237992072831251767:Nat:=0
def tw11400314925075907935:Nat:=0
def tw12228388565450847310:Nat:=0
def tw783512325451934507:Nat:=0
def tw14928490300814881807:Nat:=0
def tw4206216458150119913:Nat:=0
def tw2790963925904639685:Nat:=0
def tw11452198244470153783:Nat:=0
def tw4432412342588566548:Nat:=0
def tw8901619020045325799:Nat:=0
def tw15208498210354642141:Nat:=0
def tw1950099298413447664:Nat:=0
def tw18106940342307225228:Nat:=0
def tw2903879327027588543:Nat:=0
def tw1397330128113737096:Nat:=0
def tw5324574190014457392:Nat:=0
def tw8151491379778432131:Nat:=0
def tw18281067206196920728:Nat:=0
def tw1311319824286948362:Nat:=0
def tw14788525007416959183:Nat:=0
def tw1953144486327482420:Nat:=0
def tw18120767910920404543:Nat:=0
def tw9297463764301208169:Nat:=0
def tw9215737390845289172:Nat:=0
def tw12396803630779761588:Nat:=0
def tw10007655745820912609:Nat:=0
def tw16367674970550308433:Nat:=0
def tw11532999953795622361:Nat:=0
def tw13974908669678439724:Nat:=0
def tw12185380021883337299:Nat:=0
def tw18365934223042820188:Nat:=0
def tw4055108324257912184:Nat:=0
def tw9214340396464403898:Nat:=0
def tw14015191444550373344:Nat:=0
def tw17244248163385699692:Nat:=0
def tw16467664455968026811:Nat:=0
def tw13817009572787603916:Nat:=0
def tw9721264576354544300:Nat:=0
def tw10356379560317302326:Nat:=0
def tw9459435862446764762:Nat:=0
def tw12705452525035313289:Nat:=0
def tw8140427047817701942:Nat:=0
def tw2086560538465834067:Nat:=0
def tw3153636263571119991:Nat:=0
def tw17433959485888215298:Nat:=0
def tw4415763401921725527:Nat:=0
def tw11673653221217409743:Nat:=0
def tw2958810556583315913:Nat:=0
def tw8996158554920382194:Nat:=0
def tw10962130149430744759:Nat:=0
def tw9439164418686256776:Nat:=0
def tw17200706111613034742:Nat:=0
def tw12961855978740307877:Nat:=0
def tw12920449660987035390:Nat:=0
def tw12991484042795323302:Nat:=0
def tw12846851837450201849:Nat:=0
def tw3627529969114717009:Nat:=0
def tw4744216267173662087:Nat:=0
def tw11545100332021543257:Nat:=0
def tw3691970756067075004:Nat:=0
def tw16922357132671676756:Nat:=0
def tw9050450647445078784:Nat:=0
def tw17707097760117767407:Nat:=0
def tw1385464648724025405:Nat:=0
def tw14756381572994168415:Nat:=0
def tw3126914580193190757:Nat:=0
def tw5149733492959445317:Nat:=0
def tw9480921465134082074:Nat:=0
def tw7082009205092829824:Nat:=0
def tw5927381981642905745:Nat:=0
def tw3912019671202280742:Nat:=0
def tw3332495363521120359:Nat:=0
def tw8728910160061346529:Nat:=0
def tw6416941064476398638:Nat:=0
def tw6101660604426032637:Nat:=0
def tw9575398522663412230:Nat:=0
def tw15650715776220026366:Nat:=0
def tw3560636351690753928:Nat:=0
def tw7131927245794138780:Nat:=0
def tw13260004669284282083:Nat:=0
def tw17882917826000594752:Nat:=0
def tw4069301865091988356:Nat:=0
def tw8404814730967427251:Nat:=0
def tw2255644755186019608:Nat:=0
def tw14914623769095174721:Nat:=0
def tw6822873504407195601:Nat:=0
def tw17380895198205375586:Nat:=0
def tw12173983967404600561:Nat:=0
def tw8580154322877146560:Nat:=0
def tw8550940572249043512:Nat:=0
def tw6476391729952702641:Nat:=0
def tw86143027640885786:Nat:=0
def tw16985123457536617841:Nat:=0
def tw3684293854088461889:Nat:=0
def tw9387977303155069380:Nat:=0
def tw3822775640161975475:Nat:=0
def tw15267454053275089377:Nat:=0
def tw3668233572091818541:Nat:=0
def tw2916307223279381074:Nat:=0
def tw18084610449814608195:Nat:=0
def tw1904219695960960295:Nat:=0
def tw6638190081996927403:Nat:=0
end PySem.W.Fast
open PySem PySem.W PyProof.Rows
set_option maxRecDepth 100000 in
set_option maxHeartbeats 0 in
theorem PySem.Challenge.cw_everyplace_k64_whole_every_row_can_be_holds : PySem.Challenge.rw_everyplace_k64_whole_every_row_can_be.Holds := by
 w_on; o_law; k_head; (case hw => w_witness2)
 k_fill
 refine L2.yA (l := PySem.Challenge.rw_everyplace_k64_whole_every_row_can_be) (n := 63) (k := 18) (x := "_law_script") (CX := L2.nM) (sp := L2.EP.qQ) rfl (by decide) rfl ⟨rfl, by decide, by decide⟩ (fun w h Y => PySem.W.kIn_of Y) ?F ?S ?C
 case F =>
  intro w mg fa h KX G hmg
  have B : L2.EP.Bu mg := by
   refine' L2.EP.Hr (K := L2.aK KX) KX G ?z1 ?z2 ?z3 ?z4 ?z5 ?z6 ?z7 ?z8 ?z9 ?z10 ?z11 ?z12 ?z13 ?z14 ?z15 ?z16 ?z17 ?z18 ?z19
   all_goals (dsimp only [L2.aK]; k_is)
  have d_is_whole : L2.EP.Df (L2.aK KX) "is_whole" L2.EP.K.gN := by
   dsimp only [L2.aK]
   refine' L2.EP.Df.mk ?a ?l ?c ?k
   (case a=>k_is);(case l=>k_is);(case c=>k_is);(case k=>k_is)
  have d_power_by : L2.EP.Df (L2.aK KX) "power_by" L2.EP.K.gO := by
   dsimp only [L2.aK]
   refine' L2.EP.Df.mk ?a ?l ?c ?k
   (case a=>k_is);(case l=>k_is);(case c=>k_is);(case k=>k_is)
  have d_taken_out : L2.EP.Df (L2.aK KX) "taken_out" L2.EP.K.fF := by
   dsimp only [L2.aK]
   refine' L2.EP.Df.mk ?a ?l ?c ?k
   (case a=>k_is);(case l=>k_is);(case c=>k_is);(case k=>k_is)
  have d_square_root : L2.EP.Df (L2.aK KX) "square_root" L2.EP.K.dM := by
   dsimp only [L2.aK]
   refine' L2.EP.Df.mk ?a ?l ?c ?k
   (case a=>k_is);(case l=>k_is);(case c=>k_is);(case k=>k_is)
  have d_square_root_or_none : L2.EP.Df (L2.aK KX) "square_root_or_none" L2.EP.K.bt := by
   dsimp only [L2.aK]
   refine' L2.EP.Df.mk ?a ?l ?c ?k
   (case a=>k_is);(case l=>k_is);(case c=>k_is);(case k=>k_is)
  have d_common_divisor : L2.EP.Df (L2.aK KX) "common_divisor" L2.EP.K.cE := by
   dsimp only [L2.aK]
   refine' L2.EP.Df.mk ?a ?l ?c ?k
   (case a=>k_is);(case l=>k_is);(case c=>k_is);(case k=>k_is)
  have d_fraction : L2.EP.Df (L2.aK KX) "fraction" L2.EP.K.dE := by
   dsimp only [L2.aK]
   refine' L2.EP.Df.mk ?a ?l ?c ?k
   (case a=>k_is);(case l=>k_is);(case c=>k_is);(case k=>k_is)
  have d_next_divisor : L2.EP.Df (L2.aK KX) "next_divisor" L2.EP.K.dq := by
   dsimp only [L2.aK]
   refine' L2.EP.Df.mk ?a ?l ?c ?k
   (case a=>k_is);(case l=>k_is);(case c=>k_is);(case k=>k_is)
  have d_is_prime : L2.EP.Df (L2.aK KX) "is_prime" L2.EP.K.gm := by
   dsimp only [L2.aK]
   refine' L2.EP.Df.mk ?a ?l ?c ?k
   (case a=>k_is);(case l=>k_is);(case c=>k_is);(case k=>k_is)
  have d_divided : L2.EP.Df (L2.aK KX) "divided" L2.EP.K.iK := by
   dsimp only [L2.aK]
   refine' L2.EP.Df.mk ?a ?l ?c ?k
   (case a=>k_is);(case l=>k_is);(case c=>k_is);(case k=>k_is)
  have d_parts : L2.EP.Df (L2.aK KX) "parts" L2.EP.K.lD := by
   dsimp only [L2.aK]
   refine' L2.EP.Df.mk ?a ?l ?c ?k
   (case a=>k_is);(case l=>k_is);(case c=>k_is);(case k=>k_is)
  have d_tame_parts : L2.EP.Df (L2.aK KX) "tame_parts" L2.EP.K.ef := by
   dsimp only [L2.aK]
   refine' L2.EP.Df.mk ?a ?l ?c ?k
   (case a=>k_is);(case l=>k_is);(case c=>k_is);(case k=>k_is)
  have d_power : L2.EP.Df (L2.aK KX) "power" L2.EP.K.lG := by
   dsimp only [L2.aK]
   refine' L2.EP.Df.mk ?a ?l ?c ?k
   (case a=>k_is);(case l=>k_is);(case c=>k_is);(case k=>k_is)
  have d_freed : L2.EP.Df (L2.aK KX) "freed" L2.EP.K.lO := by
   dsimp only [L2.aK]
   refine' L2.EP.Df.mk ?a ?l ?c ?k
   (case a=>k_is);(case l=>k_is);(case c=>k_is);(case k=>k_is)
  have d_free_of : L2.EP.Df (L2.aK KX) "free_of" L2.EP.K.iG := by
   dsimp only [L2.aK]
   refine' L2.EP.Df.mk ?a ?l ?c ?k
   (case a=>k_is);(case l=>k_is);(case c=>k_is);(case k=>k_is)
  have d_joined : L2.EP.Df (L2.aK KX) "joined" L2.EP.K.jq := by
   dsimp only [L2.aK]
   refine' L2.EP.Df.mk ?a ?l ?c ?k
   (case a=>k_is);(case l=>k_is);(case c=>k_is);(case k=>k_is)
  have d_free_product : L2.EP.Df (L2.aK KX) "free_product" L2.EP.K.c_ := by
   dsimp only [L2.aK]
   refine' L2.EP.Df.mk ?a ?l ?c ?k
   (case a=>k_is);(case l=>k_is);(case c=>k_is);(case k=>k_is)
  have d_square_by : L2.EP.Df (L2.aK KX) "square_by" L2.EP.K.fA := by
   dsimp only [L2.aK]
   refine' L2.EP.Df.mk ?a ?l ?c ?k
   (case a=>k_is);(case l=>k_is);(case c=>k_is);(case k=>k_is)
  have d_least_no_square : L2.EP.Df (L2.aK KX) "least_no_square" L2.EP.K.bW := by
   dsimp only [L2.aK]
   refine' L2.EP.Df.mk ?a ?l ?c ?k
   (case a=>k_is);(case l=>k_is);(case c=>k_is);(case k=>k_is)
  have d_class_at : L2.EP.Df (L2.aK KX) "class_at" L2.EP.K.eO := by
   dsimp only [L2.aK]
   refine' L2.EP.Df.mk ?a ?l ?c ?k
   (case a=>k_is);(case l=>k_is);(case c=>k_is);(case k=>k_is)
  have d_two_says : L2.EP.Df (L2.aK KX) "two_says" L2.EP.K.gb := by
   dsimp only [L2.aK]
   refine' L2.EP.Df.mk ?a ?l ?c ?k
   (case a=>k_is);(case l=>k_is);(case c=>k_is);(case k=>k_is)
  have d_odd_says : L2.EP.Df (L2.aK KX) "odd_says" L2.EP.K.gu := by
   dsimp only [L2.aK]
   refine' L2.EP.Df.mk ?a ?l ?c ?k
   (case a=>k_is);(case l=>k_is);(case c=>k_is);(case k=>k_is)
  have d_says : L2.EP.Df (L2.aK KX) "says" L2.EP.K.pM := by
   dsimp only [L2.aK]
   refine' L2.EP.Df.mk ?a ?l ?c ?k
   (case a=>k_is);(case l=>k_is);(case c=>k_is);(case k=>k_is)
  have d_primes_of : L2.EP.Df (L2.aK KX) "primes_of" L2.EP.K.fq := by
   dsimp only [L2.aK]
   refine' L2.EP.Df.mk ?a ?l ?c ?k
   (case a=>k_is);(case l=>k_is);(case c=>k_is);(case k=>k_is)
  have d_all_noes : L2.EP.Df (L2.aK KX) "all_noes" L2.EP.K.eZ := by
   dsimp only [L2.aK]
   refine' L2.EP.Df.mk ?a ?l ?c ?k
   (case a=>k_is);(case l=>k_is);(case c=>k_is);(case k=>k_is)
  have d_is_row_number : L2.EP.Df (L2.aK KX) "is_row_number" L2.EP.K.cQ := by
   dsimp only [L2.aK]
   refine' L2.EP.Df.mk ?a ?l ?c ?k
   (case a=>k_is);(case l=>k_is);(case c=>k_is);(case k=>k_is)
  have d_is_row : L2.EP.Df (L2.aK KX) "is_row" L2.EP.K.il := by
   dsimp only [L2.aK]
   refine' L2.EP.Df.mk ?a ?l ?c ?k
   (case a=>k_is);(case l=>k_is);(case c=>k_is);(case k=>k_is)
  have d_refuse_no_row : L2.EP.Df (L2.aK KX) "refuse_no_row" L2.EP.K.cM := by
   dsimp only [L2.aK]
   refine' L2.EP.Df.mk ?a ?l ?c ?k
   (case a=>k_is);(case l=>k_is);(case c=>k_is);(case k=>k_is)
  have d_signs_of : L2.EP.Df (L2.aK KX) "signs_of" L2.EP.K.eV := by
   dsimp only [L2.aK]
   refine' L2.EP.Df.mk ?a ?l ?c ?k
   (case a=>k_is);(case l=>k_is);(case c=>k_is);(case k=>k_is)
  have d_is_no : L2.EP.Df (L2.aK KX) "is_no" L2.EP.K.jF := by
   dsimp only [L2.aK]
   refine' L2.EP.Df.mk ?a ?l ?c ?k
   (case a=>k_is);(case l=>k_is);(case c=>k_is);(case k=>k_is)
  have d_noes_of : L2.EP.Df (L2.aK KX) "noes_of" L2.EP.K.fY := by
   dsimp only [L2.aK]
   refine' L2.EP.Df.mk ?a ?l ?c ?k
   (case a=>k_is);(case l=>k_is);(case c=>k_is);(case k=>k_is)
  have d_first_in_one_alone : L2.EP.Df (L2.aK KX) "first_in_one_alone" L2.EP.K.bD := by
   dsimp only [L2.aK]
   refine' L2.EP.Df.mk ?a ?l ?c ?k
   (case a=>k_is);(case l=>k_is);(case c=>k_is);(case k=>k_is)
  have d_parting : L2.EP.Df (L2.aK KX) "parting" L2.EP.K.iB := by
   dsimp only [L2.aK]
   refine' L2.EP.Df.mk ?a ?l ?c ?k
   (case a=>k_is);(case l=>k_is);(case c=>k_is);(case k=>k_is)
  have d_next_prime : L2.EP.Df (L2.aK KX) "next_prime" L2.EP.K.d8 := by
   dsimp only [L2.aK]
   refine' L2.EP.Df.mk ?a ?l ?c ?k
   (case a=>k_is);(case l=>k_is);(case c=>k_is);(case k=>k_is)
  have d_class_of_product : L2.EP.Df (L2.aK KX) "class_of_product" L2.EP.K.bO := by
   dsimp only [L2.aK]
   refine' L2.EP.Df.mk ?a ?l ?c ?k
   (case a=>k_is);(case l=>k_is);(case c=>k_is);(case k=>k_is)
  have d_small_free_numbers : L2.EP.Df (L2.aK KX) "small_free_numbers" L2.EP.K.a8 := by
   dsimp only [L2.aK]
   refine' L2.EP.Df.mk ?a ?l ?c ?k
   (case a=>k_is);(case l=>k_is);(case c=>k_is);(case k=>k_is)
  have d_classes_of : L2.EP.Df (L2.aK KX) "classes_of" L2.EP.K.dm := by
   dsimp only [L2.aK]
   refine' L2.EP.Df.mk ?a ?l ?c ?k
   (case a=>k_is);(case l=>k_is);(case c=>k_is);(case k=>k_is)
  have d_wishes_without : L2.EP.Df (L2.aK KX) "wishes_without" L2.EP.K.bJ := by
   dsimp only [L2.aK]
   refine' L2.EP.Df.mk ?a ?l ?c ?k
   (case a=>k_is);(case l=>k_is);(case c=>k_is);(case k=>k_is)
  have d_are_among : L2.EP.Df (L2.aK KX) "are_among" L2.EP.K.fI := by
   dsimp only [L2.aK]
   refine' L2.EP.Df.mk ?a ?l ?c ?k
   (case a=>k_is);(case l=>k_is);(case c=>k_is);(case k=>k_is)
  have d_number_among : L2.EP.Df (L2.aK KX) "number_among" L2.EP.K.cg := by
   dsimp only [L2.aK]
   refine' L2.EP.Df.mk ?a ?l ?c ?k
   (case a=>k_is);(case l=>k_is);(case c=>k_is);(case k=>k_is)
  have d_is_square_at : L2.EP.Df (L2.aK KX) "is_square_at" L2.EP.K.dk := by
   dsimp only [L2.aK]
   refine' L2.EP.Df.mk ?a ?l ?c ?k
   (case a=>k_is);(case l=>k_is);(case c=>k_is);(case k=>k_is)
  have d_samples_at : L2.EP.Df (L2.aK KX) "samples_at" L2.EP.K.d9 := by
   dsimp only [L2.aK]
   refine' L2.EP.Df.mk ?a ?l ?c ?k
   (case a=>k_is);(case l=>k_is);(case c=>k_is);(case k=>k_is)
  have d_classes_for : L2.EP.Df (L2.aK KX) "classes_for" L2.EP.K.cJ := by
   dsimp only [L2.aK]
   refine' L2.EP.Df.mk ?a ?l ?c ?k
   (case a=>k_is);(case l=>k_is);(case c=>k_is);(case k=>k_is)
  have d_two_with : L2.EP.Df (L2.aK KX) "two_with" L2.EP.K.eN := by
   dsimp only [L2.aK]
   refine' L2.EP.Df.mk ?a ?l ?c ?k
   (case a=>k_is);(case l=>k_is);(case c=>k_is);(case k=>k_is)
  have d_first_of : L2.EP.Df (L2.aK KX) "first_of" L2.EP.K.gJ := by
   dsimp only [L2.aK]
   refine' L2.EP.Df.mk ?a ?l ?c ?k
   (case a=>k_is);(case l=>k_is);(case c=>k_is);(case k=>k_is)
  have d_in_one_alone : L2.EP.Df (L2.aK KX) "in_one_alone" L2.EP.K.b8 := by
   dsimp only [L2.aK]
   refine' L2.EP.Df.mk ?a ?l ?c ?k
   (case a=>k_is);(case l=>k_is);(case c=>k_is);(case k=>k_is)
  have d_row_with : L2.EP.Df (L2.aK KX) "row_with" L2.EP.K.fe := by
   dsimp only [L2.aK]
   refine' L2.EP.Df.mk ?a ?l ?c ?k
   (case a=>k_is);(case l=>k_is);(case c=>k_is);(case k=>k_is)
  have d_can_be : L2.EP.Df (L2.aK KX) "can_be" L2.EP.K.iv := by
   dsimp only [L2.aK]
   refine' L2.EP.Df.mk ?a ?l ?c ?k
   (case a=>k_is);(case l=>k_is);(case c=>k_is);(case k=>k_is)
  have d_built : L2.EP.Df (L2.aK KX) "built" L2.EP.K.ly := by
   dsimp only [L2.aK]
   refine' L2.EP.Df.mk ?a ?l ?c ?k
   (case a=>k_is);(case l=>k_is);(case c=>k_is);(case k=>k_is)
  have d_law_cell_at : L2.EP.Df (L2.aK KX) "_law_cell_at" L2.EP.K.dF := by
   dsimp only [L2.aK]
   refine' L2.EP.Df.mk ?a ?l ?c ?k
   (case a=>k_is);(case l=>k_is);(case c=>k_is);(case k=>k_is)
  have d_law_big : L2.EP.Df (L2.aK KX) "_law_big" L2.EP.K.iI := by
   dsimp only [L2.aK]
   refine' L2.EP.Df.mk ?a ?l ?c ?k
   (case a=>k_is);(case l=>k_is);(case c=>k_is);(case k=>k_is)
  have d_law_small : L2.EP.Df (L2.aK KX) "_law_small" L2.EP.K.fk := by
   dsimp only [L2.aK]
   refine' L2.EP.Df.mk ?a ?l ?c ?k
   (case a=>k_is);(case l=>k_is);(case c=>k_is);(case k=>k_is)
  have d_law_row : L2.EP.Df (L2.aK KX) "_law_row" L2.EP.K.iN := by
   dsimp only [L2.aK]
   refine' L2.EP.Df.mk ?a ?l ?c ?k
   (case a=>k_is);(case l=>k_is);(case c=>k_is);(case k=>k_is)
  have d_law_common : L2.EP.Df (L2.aK KX) "_law_common" L2.EP.K.eE := by
   dsimp only [L2.aK]
   refine' L2.EP.Df.mk ?a ?l ?c ?k
   (case a=>k_is);(case l=>k_is);(case c=>k_is);(case k=>k_is)
  have d_law_root : L2.EP.Df (L2.aK KX) "_law_root" L2.EP.K.gB := by
   dsimp only [L2.aK]
   refine' L2.EP.Df.mk ?a ?l ?c ?k
   (case a=>k_is);(case l=>k_is);(case c=>k_is);(case k=>k_is)
  have d_law_free : L2.EP.Df (L2.aK KX) "_law_free" L2.EP.K.gK := by
   dsimp only [L2.aK]
   refine' L2.EP.Df.mk ?a ?l ?c ?k
   (case a=>k_is);(case l=>k_is);(case c=>k_is);(case k=>k_is)
  have d_law_free_times : L2.EP.Df (L2.aK KX) "_law_free_times" L2.EP.K.cw := by
   dsimp only [L2.aK]
   refine' L2.EP.Df.mk ?a ?l ?c ?k
   (case a=>k_is);(case l=>k_is);(case c=>k_is);(case k=>k_is)
  have d_law_power : L2.EP.Df (L2.aK KX) "_law_power" L2.EP.K.fv := by
   dsimp only [L2.aK]
   refine' L2.EP.Df.mk ?a ?l ?c ?k
   (case a=>k_is);(case l=>k_is);(case c=>k_is);(case k=>k_is)
  have d_law_split : L2.EP.Df (L2.aK KX) "_law_split" L2.EP.K.fD := by
   dsimp only [L2.aK]
   refine' L2.EP.Df.mk ?a ?l ?c ?k
   (case a=>k_is);(case l=>k_is);(case c=>k_is);(case k=>k_is)
  have d_law_says : L2.EP.Df (L2.aK KX) "_law_says" L2.EP.K.gI := by
   dsimp only [L2.aK]
   refine' L2.EP.Df.mk ?a ?l ?c ?k
   (case a=>k_is);(case l=>k_is);(case c=>k_is);(case k=>k_is)
  have d_law_noes : L2.EP.Df (L2.aK KX) "_law_noes" L2.EP.K.gH := by
   dsimp only [L2.aK]
   refine' L2.EP.Df.mk ?a ?l ?c ?k
   (case a=>k_is);(case l=>k_is);(case c=>k_is);(case k=>k_is)
  have d_law : L2.EP.Df (L2.aK KX) "law" L2.EP.K.ou := by
   dsimp only [L2.aK]
   refine' L2.EP.Df.mk ?a ?l ?c ?k
   (case a=>k_is);(case l=>k_is);(case c=>k_is);(case k=>k_is)
  have g_GREAT_PRIMES_FROM : L2.EP.oe mg "GREAT_PRIMES_FROM" 32768 := by
   refine' L2.EP.oe.mk (K := L2.aK KX) KX G ?ga0
   (case ga0 => dsimp only [L2.aK]; k_is)
  have g_GREAT_FROM : L2.EP.oe mg "GREAT_FROM" 1073741824 := by
   refine' L2.EP.oe.mk (K := L2.aK KX) KX G ?ga1
   (case ga1 => dsimp only [L2.aK]; k_is)
  have g_LONGEST : L2.EP.oe mg "LONGEST" 8 := by
   refine' L2.EP.oe.mk (K := L2.aK KX) KX G ?ga2
   (case ga2 => dsimp only [L2.aK]; k_is)
  have g_SMALL_PLACES : L2.EP.qw (L2.aK KX) mg "SMALL_PLACES" [0, 2, 3, 5, 7, 11, 13] := by
   refine' L2.EP.qw.mk (K := L2.aK KX) KX G ?ga3 ?gl3 ?gz3 ?gv3
   (case ga3 => dsimp only [L2.aK]; k_is); (case gl3 => dsimp only [L2.aK]; k_is); (case gz3 => decide); (case gv3 => repeat' (first | exact .nil | refine .cons ⟨_, rfl⟩ ?_))
  have g_AT_NOUGHT : L2.EP.qw (L2.aK KX) mg "AT_NOUGHT" [1, -1] := by
   refine' L2.EP.qw.mk (K := L2.aK KX) KX G ?ga4 ?gl4 ?gz4 ?gv4
   (case ga4 => dsimp only [L2.aK]; k_is); (case gl4 => dsimp only [L2.aK]; k_is); (case gz4 => decide); (case gv4 => repeat' (first | exact .nil | refine .cons ⟨_, rfl⟩ ?_))
  have g_AT_TWO : L2.EP.qw (L2.aK KX) mg "AT_TWO" [1, 3, 5, 7, 2, 6, 10, 14] := by
   refine' L2.EP.qw.mk (K := L2.aK KX) KX G ?ga5 ?gl5 ?gz5 ?gv5
   (case ga5 => dsimp only [L2.aK]; k_is); (case gl5 => dsimp only [L2.aK]; k_is); (case gz5 => decide); (case gv5 => repeat' (first | exact .nil | refine .cons ⟨_, rfl⟩ ?_))
  have g_ALL_SMALL_PRIMES : L2.EP.oe mg "ALL_SMALL_PRIMES" 30030 := by
   refine' L2.EP.oe.mk (K := L2.aK KX) KX G ?ga6
   (case ga6 => dsimp only [L2.aK]; k_is)
  exact L2.EP.K.fin KX G hmg B g_GREAT_PRIMES_FROM g_GREAT_FROM g_LONGEST g_SMALL_PLACES g_AT_NOUGHT g_AT_TWO g_ALL_SMALL_PRIMES d_is_whole d_power_by d_taken_out d_square_root d_square_root_or_none d_common_divisor d_fraction d_next_divisor d_is_prime d_divided d_parts d_tame_parts d_power d_freed d_free_of d_joined d_free_product d_square_by d_least_no_square d_class_at d_two_says d_odd_says d_says d_primes_of d_all_noes d_is_row_number d_is_row d_refuse_no_row d_signs_of d_is_no d_noes_of d_first_in_one_alone d_parting d_next_prime d_class_of_product d_small_free_numbers d_classes_of d_wishes_without d_are_among d_number_among d_is_square_at d_samples_at d_classes_for d_two_with d_first_of d_in_one_alone d_row_with d_can_be d_built d_law_cell_at d_law_big d_law_small d_law_row d_law_common d_law_root d_law_free d_law_free_times d_law_power d_law_split d_law_says d_law_noes d_law
 case S => exact fun K H a ns hl hO hS => L2.EP.wL K H a ns hl hS
 case C => exact fun _ _ _ _ z => z
