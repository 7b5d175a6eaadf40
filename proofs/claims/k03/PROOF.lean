import PyProof.Rows.All
import Wide.All
import OpenK.AllK
import Wide.FinOn
import Lean
import PyProof.EqAt
import PyProof.EqKinds
import PyProof.TupleCall
import PySem.Challenge.RW_pointpurse_k03_houses_refused
set_option Elab.async false
set_option linter.all false
set_option maxRecDepth 100000
set_option maxHeartbeats 4000000
set_option bootstrap.genMatcherCode false
set_option genSizeOf false
set_option genInjectivity false
set_option compiler.extract_closed false
namespace _L2
open PySem PySem.Spec PyProof.Rows
noncomputable abbrev Key:=Sum Int Str
noncomputable def jk:Key->Value->Bool
 |.inl k,v=>Value.isInt k v
 |.inr x,v=>Value.isStrOf x v
noncomputable def jxR (w:World):Key->Int
 |.inl k=>hashInt k
 |.inr x=>hashStr w x
theorem jbc:∀{k:Key} {v:Value},jk k v=true->(∃i t,k=Sum.inl i/\v=Value.int i t)∨(∃x t,k=Sum.inr x/\v=Value.str x t)
 |.inl i,v,h=>by
  obtain⟨t,e⟩:=Value.isInt_shape (k:=i) (v:=v) h
  exact .inl ⟨i,t,rfl,e⟩
 |.inr x,v,h=>by
  obtain⟨t,e⟩:=Value.isStrOf_shape (x:=x) (v:=v) h
  exact .inr ⟨x,t,rfl,e⟩
theorem jln (i:Int)(t:Tok):jk (.inl i) (.int i t)=true:=by simp[jk,Value.isInt]
theorem jlq (x:Str)(t:Tok):jk (.inr x) (.str x t)=true:=by simp[jk,Value.isStrOf]
theorem juk (a b:Int):decide ((Sum.inl a:Key)=Sum.inl b)=(a==b):=by
 by_cases e:a=b
 ·subst e;simp
 ·have h:¬ (Sum.inl a:Key)=Sum.inl b:=fun q=>e (Sum.inl.inj q)
  rw[decide_eq_false h]
  exact(beq_eq_false_iff_ne.mpr e).symm
theorem juH (a b:Str):decide ((Sum.inr a:Key)=Sum.inr b)=decide (a=b):=by
 by_cases e:a=b
 ·subst e;simp
 ·have h:¬ (Sum.inr a:Key)=Sum.inr b:=fun q=>e (Sum.inr.inj q)
  rw[decide_eq_false h,decide_eq_false e]
theorem jtk (a:Int)(b:Str):decide ((Sum.inl a:Key)=Sum.inr b)=false:=decide_eq_false (fun q=>nomatch q)
theorem juY (a:Str)(b:Int):decide ((Sum.inr a:Key)=Sum.inl b)=false:=decide_eq_false (fun q=>nomatch q)
noncomputable def jcj (prog:Program)(w:World):PySem.KeyKind prog w Key where
 is:=jk
 hash:=jxR w
 inj:=fun v a b ha hb=>by
  rcases jbc ha with⟨i,t,rfl,rfl⟩|⟨x,t,rfl,rfl⟩
  ·rcases jbc hb with⟨j,u,rfl,e⟩|⟨y,u,rfl,e⟩
   ·injection e with e1 _;rw[e1]
   ·exact nomatch e
  ·rcases jbc hb with⟨j,u,rfl,e⟩|⟨y,u,rfl,e⟩
   ·exact nomatch e
   ·injection e with e1 _;rw[e1]
 byValue:=fun k v h=>by
  rcases jbc h with⟨i,t,rfl,rfl⟩|⟨x,t,rfl,rfl⟩<;>rfl
 pyHash:=fun hv h=>by
  rcases jbc hv with⟨i,t,rfl,rfl⟩|⟨x,t,rfl,rfl⟩
  ·exact wpAny_pyHash_int h
  ·exact wpAny_pyHash_str h
 eqBool:=fun hu hv h=>by
  rcases jbc hu with⟨i,t,rfl,rfl⟩|⟨x,t,rfl,rfl⟩
  ·rcases jbc hv with⟨j,u,rfl,rfl⟩|⟨y,u,rfl,rfl⟩
   ·rw[juk]at h;exact wpAny_eqBool_int h
   ·rw[jtk]at h;exact SeqAt.EqAt.int_str i t y u _ _ _ _ h
  ·rcases jbc hv with⟨j,u,rfl,rfl⟩|⟨y,u,rfl,rfl⟩
   ·rw[juY]at h;exact SeqAt.EqAt.str_int x t j u _ _ _ _ h
   ·rw[juH]at h;exact wpAny_eqBool_str h
 «strs»:=fun k x t v h=>by
  rcases jbc h with⟨i,u,rfl,e⟩|⟨y,u,rfl,e⟩
  ·exact nomatch e
  ·injection e with e1 _
   subst e1
   cases v<;>rfl
theorem jiM (prog:Program)(w:World)(i:Int)(t:Tok):(jcj prog w).is (.inl i) (.int i t)=true:=jln i t
theorem jjb (prog:Program)(w:World)(x:Str)(t:Tok):(jcj prog w).is (.inr x) (.str x t)=true:=jlq x t
end _L2
namespace _L2
open PySem PySem.Spec PyProof.Rows
set_option genInjectivity true in
inductive V where
 |non|bl (b:Bool)|int (i:Int)|str (x:Str)|byt (b:Array UInt8)|flt (b:UInt64)|ref (a:Addr)|ty (n:String)
 deriving DecidableEq
noncomputable def ja0:V->Value->Prop
 |.non,u=>u=Value.none
 |.bl b,u=>u=Value.bool b
 |.int i,u=>∃t,u=Value.int i t
 |.str x,u=>∃t,u=Value.str x t
 |.byt b,u=>∃t,u=Value.bytes b t
 |.flt b,u=>∃t,u=Value.float b t
 |.ref a,u=>u=Value.ref a
 |.ty n,u=>u=Value.type n
noncomputable abbrev jaZ:List V->List Value->Prop:=Paired ja0
theorem jaZ.length {xs:List V}{us:List Value}(r:jaZ xs us):xs.length=us.length:=Paired.length r
theorem jaZ.get:∀{xs:List V} {us:List Value} {i:Nat} {x:V},jaZ xs us->xs[i]?=some x->∃u,us[i]?=some u/\ja0 x u
 |_,_,_,_,.nil,e=>by simp at e
 |_,_,0,_,.cons r _,e=>by simp at e;subst e;exact⟨_,rfl,r⟩
 |_,_,i+1,x,.cons _ t,e=>by
  obtain⟨u,h1,h2⟩:=jaZ.get (i:=i) (x:=x) t (by simpa using e)
  exact⟨u,by simpa using h1,h2⟩
theorem jaZ.set {x:V}{u:Value}(r:ja0 x u):∀{xs:List V} {us:List Value} (i:Nat),jaZ xs us->jaZ (xs.set i x) (us.set i u)
 |_,_,_,.nil=>.nil
 |_,_,0,.cons _ t=>.cons r t
 |_,_,i+1,.cons q t=>.cons q (jaZ.set r i t)
theorem jaZ.append:∀{xs ys:List V} {us ws:List Value},jaZ xs us->jaZ ys ws->jaZ (xs++ys) (us++ws)
 |_,_,_,_,.nil,s=>s
 |_,_,_,_,.cons r t,s=>.cons r (jaZ.append t s)
theorem jaZ.take:∀{xs:List V} {us:List Value} (n:Nat),jaZ xs us->jaZ (xs.take n) (us.take n)
 |_,_,0,_=>.nil
 |_,_,_+1,.nil=>.nil
 |_,_,n+1,.cons r t=>.cons r (jaZ.take n t)
theorem jaZ.drop:∀{xs:List V} {us:List Value} (n:Nat),jaZ xs us->jaZ (xs.drop n) (us.drop n)
 |_,_,0,r=>r
 |_,_,_+1,.nil=>.nil
 |_,_,n+1,.cons _ t=>jaZ.drop n t
noncomputable def jhH:Option V->Option Value->Prop
 |some v,some u=>ja0 v u
 |none,none=>True
 |_,_=>False
noncomputable def KV {κ:Type}:List (κ×V)->List (κ×Value)->Prop:=Paired fun(p:κ×V) (q:κ×Value)=>p.1=q.1/\ja0 p.2 q.2
noncomputable def kV:Key->V
 |.inl i=>.int i
 |.inr x=>.str x
set_option genInjectivity true in
inductive HO where
 |lst (xs:List V)
 |tup (xs:List V)
 |dK (kvs:List (Key×V))|dT (kvs:List (List Key×V))
 |set (S:Int->Bool) (n:Nat)
 |ins (C dx:Addr) (fs:List (Str×V))
 |own (x:Addr)
 |xd (fs:List (Str×V))
 |met (f x:Addr)
 |rng (lo hi:Int)
 |frz (o:Obj) (u:HO)
 |tbl (ps:Array Value)
 |ext (φ:Heap->Prop)
noncomputable abbrev Hp:=Addr->Option HO
noncomputable def upd (H:Hp)(a:Addr)(o:HO):Hp:=fun b=>if b=a then some o else H b
theorem jaC {H:Hp}{a:Addr}{o:HO}:upd H a o a=some o:=by unfold upd;rw[if_pos rfl]
theorem jaj {H:Hp}{a b:Addr}{o:HO}(h:b≠a):upd H a o b=H b:=by unfold upd;rw[if_neg h]
theorem jak {H:Hp}{a b:Addr}{o:HO}(h:H a=some o)(h':H b=none):a≠b:=by
 intro e;subst e;rw[h]at h';cases h'
section
variable (P:Program) (w:World)
noncomputable def jbX (H:Hp)(h:Heap)(a:Addr):HO->Prop
 |.lst xs=>xs.length<=sizeLine/\∃(its:List Value) (n:Nat),jaZ xs its/\h.get? a=some {cls:=.type "list",data:=.seq its.toArray n}
 |.tup xs=>xs.length<=sizeLine/\∃its:List Value,jaZ xs its/\IsTup h a its.toArray
 |.dK kvs=>kvs.length<=sizeLine/\(a==sysModules)=false/\∃vs,KV kvs vs/\h.DictOf (jcj P w) a vs
 |.dT kvs=>kvs.length<=sizeLine/\(a==sysModules)=false/\∃xs:List (List Key×Addr×Value),
   Paired (fun(p:List Key×V) (q:List Key×Addr×Value)=>p.1=q.1/\H q.2.1=some (.tup (p.1.map kV))/\ja0 p.2 q.2.2) kvs xs /\
   ∃o es ep,h.get? a=some o/\o.ExactDict/\o.data=.dict es ep/\es.toList=xs.map (entryOfKey (tupleKind (jcj P w)))/\(xs.map (·.1)).Nodup
 |.set S n=>h.SetOf (intKind P w) a S n
 |.ins C dx fs=>H dx=some (.own a)/\fs.length<=1000/\dx≠a/\h.get? a=some (PySem.W.instObj C dx) /\
   ∃mA,h.Ns1 dx mA/\(∀f,jhH (fs.lookup f) (mA f))/\PySem.Within mA (fs.map (·.1))
 |.own _=>∃o,h.get? a=some o
 |.xd fs=>∃mA,h.Ns1 a mA/\∀f,jhH (fs.lookup f) (mA f)
 |.rng lo hi=>∃t u v,h.get? a=some {cls:=.type "range",data:=.fields #[.int lo t,.int hi u,.int 1 v]}
 |.frz o u=>h.get? a=some o/\jbX H h a u
 |.tbl ps=>h.get? a=some {cls:=.none,data:=.fields ps}
 |.met f x=>h.get? a=some (PySem.W.methodObj (.ref f) (.ref x))
 |.ext φ=>φ h/\(∃o,h.get? a=some o)/\∀h1 h2:Heap,φ h1->(∀o,h1.get? a=some o->h2.get? a=some o)->φ h2
noncomputable def HOk (H:Hp)(h:Heap):Prop:=∀a o,H a=some o->jbX P w H h a o
end
section
variable {P:Program} {w:World} {H H':Hp} {h h':Heap} {a:Addr} {o:HO}
theorem jbX.lt (x:jbX P w H h a o):a<h.objs.size:=by
 cases o with
 |lst xs=>obtain⟨_,_,_,_,e⟩:=x;exact Heap.lt_size e
 |tup xs=>obtain⟨_,_,_,p⟩:=x;exact p.lt
 |dK kvs=>obtain⟨_,_,_,_,o,_,_,e,_⟩:=x;exact Heap.lt_size e
 |dT kvs=>obtain⟨_,_,_,_,o,_,_,e,_⟩:=x;exact Heap.lt_size e
 |set S n=>obtain⟨o,_,_,_,e,_⟩:=x;exact Heap.lt_size e
 |ins C dx fs=>obtain⟨_,_,_,e,_⟩:=x;exact Heap.lt_size e
 |own y=>obtain⟨_,e⟩:=x;exact Heap.lt_size e
 |xd fs=>obtain⟨_,⟨_,_,_,e,_⟩,_⟩:=x;exact Heap.lt_size e
 |rng lo hi=>obtain⟨_,_,_,e⟩:=x;exact Heap.lt_size e
 |frz ob u=>obtain⟨e,_⟩:=x;exact Heap.lt_size e
 |tbl ps=>exact Heap.lt_size (show h.get? a=some _ from x)
 |met f y=>exact Heap.lt_size (show h.get? a=some _ from x)
 |ext φ=>obtain⟨_,⟨_,e⟩,_⟩:=x;exact Heap.lt_size e
theorem Paired.mapP {α β:Type}{F G:α->β->Prop}:∀{l₁:List α} {l₂:List β},Paired F l₁ l₂->(∀a b,F a b->G a b)->Paired G l₁ l₂
 |_,_,.nil,_=>.nil
 |_,_,.cons r t,f=>.cons (f _ _ r) (Paired.mapP t f)
theorem jbX.stay (x:jbX P w H h a o)(k:∀b u,(b=a∨H b=some (.own a))->h.get? b=some u->h'.get? b=some u)
  (ho:∀b,H b=some (.own a)->H' b=some (.own a)) (ht:∀b xs,H b=some (.tup xs)->H' b=some (.tup xs)):jbX P w H' h' a o:=by
 induction o with
 |lst xs=>obtain⟨z,its,n,r,e⟩:=x;exact⟨z,its,n,r,k _ _ (.inl rfl) e⟩
 |tup xs=>obtain⟨z,its,r,ob,e,c⟩:=x;exact⟨z,its,r,ob,k _ _ (.inl rfl) e,c⟩
 |dK kvs=>obtain⟨z,y,vs,r,ob,es,ep,e,c⟩:=x;exact⟨z,y,vs,r,ob,es,ep,k _ _ (.inl rfl) e,c⟩
 |dT kvs=>
  obtain⟨z,y,xs,r,ob,es,ep,e,c⟩:=x
  exact⟨z,y,xs,Paired.mapP r fun p q z=>⟨z.1,ht _ _ z.2.1,z.2.2⟩,ob,es,ep,k _ _ (.inl rfl) e,c⟩
 |set S n=>obtain⟨ob,es,ep,t,e,c⟩:=x;exact⟨ob,es,ep,t,k _ _ (.inl rfl) e,c⟩
 |ins C dx fs=>
  obtain⟨d,z,ne,e,mA,⟨od,es,ep,e2,c⟩,r⟩:=x
  exact⟨ho _ d,z,ne,k _ _ (.inl rfl) e,mA,⟨od,es,ep,k _ _ (.inr d) e2,c⟩,r⟩
 |own y=>obtain⟨ob,e⟩:=x;exact⟨ob,k _ _ (.inl rfl) e⟩
 |xd fs=>obtain⟨mA,⟨od,es,ep,e,c⟩,r⟩:=x;exact⟨mA,⟨od,es,ep,k _ _ (.inl rfl) e,c⟩,r⟩
 |rng lo hi=>obtain⟨t,u,v,e⟩:=x;exact⟨t,u,v,k _ _ (.inl rfl) e⟩
 |frz ob u ih=>obtain⟨e,q⟩:=x;exact⟨k _ _ (.inl rfl) e,ih q⟩
 |tbl ps=>
  have e:h.get? a=some {cls:=.none,data:=.fields ps}:=x
  show h'.get? a=some {cls:=.none,data:=.fields ps}
  exact k a _ (.inl rfl) e
 |met f y=>
  have e:h.get? a=some (PySem.W.methodObj (.ref f) (.ref y)):=x
  show h'.get? a=some (PySem.W.methodObj (.ref f) (.ref y))
  exact k a _ (.inl rfl) e
 |ext φ=>obtain⟨p,⟨o,e⟩,st⟩:=x;exact⟨st _ _ p fun o q=>k _ _ (.inl rfl) q,⟨o,k _ _ (.inl rfl) e⟩,st⟩
theorem HOk.lt (x:HOk P w H h)(e:H a=some o):a<h.objs.size:=(x a o e).lt
theorem HOk.fresh (x:HOk P w H h)(e:h.objs.size<=a):H a=none:=by
 cases q:H a with
 |none=>rfl
 |some u=>exact absurd (Nat.lt_of_lt_of_le (x.lt q) e) (Nat.lt_irrefl _)
theorem HOk.kept (x:HOk P w H h)(k:∀b u,h.get? b=some u->h'.get? b=some u):HOk P w H h':=fun a o e=>
 (x a o e).stay (fun b u _ q=>k b u q) (fun _ q=>q) fun _ _ q=>q
theorem HOk.laid (x:HOk P w H h)(k:∀b u,h.get? b=some u->h'.get? b=some u)(hp:h.objs.size<=a)(new:jbX P w (upd H a o) h' a o):HOk P w (upd H a o) h':=fun b u e=>by
 have hn:=x.fresh hp
 by_cases hb:b=a
 ·subst hb;rw[jaC]at e;cases e;exact new
 ·rw[jaj hb]at e
  exact(x b u e).stay (fun c v _ q=>k c v q) (fun c q=>by rw[jaj (jak q hn)];exact q) fun c xs q=>by rw[jaj (jak q hn)];exact q
end
noncomputable def Rd (H:Hp)(a:Addr)(u:HO):Prop:=H a=some u∨∃o,H a=some (.frz o u)
theorem Rd.of {H:Hp}{a:Addr}{u:HO}(h:H a=some u):Rd H a u:=.inl h
theorem Rd.ok {P:Program}{w:World}{H:Hp}{h:Heap}{a:Addr}{u:HO}(r:Rd H a u)(x:HOk P w H h):jbX P w H h a u:=by
 rcases r with r|⟨o,r⟩
 ·exact x a u r
 ·obtain⟨_,q⟩:=x a _ r
  exact q
noncomputable def Mut:Option HO->Prop
 |some (.lst _)=>True
 |some (.dK _)=>True
 |some (.dT _)=>True
 |some (.set _ _)=>True
 |some (.ins _ _ _)=>True
 |some (.ext _)=>True
 |_=>False
section
variable {P:Program} {w:World} {H:Hp} {h h':Heap} {x e:Addr} {o':HO}
theorem HOk.write (ok:HOk P w H h)(mu:Mut (H x))(he:e=x∨H e=some (.own x))(k:∀b u,b≠e->h.get? b=some u->h'.get? b=some u)(heo:∃u,h'.get? e=some u)
  (new:jbX P w (upd H x o') h' x o'):HOk P w (upd H x o') h':=fun b u q=>by
 have nown:∀c y,H c=some (.own y)->c≠x:=fun c y r z=>by subst z;rw[r]at mu;exact mu
 have ntup:∀c xs,H c=some (.tup xs)->c≠x:=fun c xs r z=>by subst z;rw[r]at mu;exact mu
 by_cases hb:b=x
 ·subst hb;rw[jaC]at q;cases q;exact new
 ·rw[jaj hb]at q
  by_cases hbe:b=e
  ·have q':H b=some (.own x):=by
    rcases he with z|z
    ·exact absurd (hbe.trans z) hb
    ·rw[hbe];exact z
   rw[q]at q';cases q'
   obtain⟨v,hv⟩:=heo
   exact⟨v,by rw[hbe];exact hv⟩
  ·refine(ok b u q).stay (fun c v hc r=>k c v ?_ r) (fun c r=>by rw[jaj (nown c b r)];exact r) fun c xs r=>by rw[jaj (ntup c xs r)];exact r
   rcases hc with rfl|hc
   ·exact hbe
   ·rintro rfl
    rcases he with z|z
    ·exact nown c b hc z
    ·rw[hc]at z;cases z;exact hb rfl
end
structure Un (fs ex:List Addr) (H H':Hp) (h h':Heap):Prop where
 keep:∀b o,h.get? b=some o->H b=none->b∉fs->b∉ex->h'.get? b=some o
 slot:∀b o,h.get? b=some o->H b=none->b∈fs->b∉ex->∃sl,h'.get? b=some {o with slots:=sl}
 free:∀b o,h.get? b=some o->H b=none->b∉ex->H' b=none
 there:∀b o,h.get? b=some o->b∉ex->∃o',h'.get? b=some o'
 tups:∀b xs,H b=some (.tup xs)->H' b=some (.tup xs)
 frzs:∀b o u,H b=some (.frz o u)->H' b=some (.frz o u)
 tbls:∀b ps,H b=some (.tbl ps)->∃more,H' b=some (.tbl (ps++more))
section
variable {fs fs' ex ex':List Addr} {H H1 H2:Hp} {h h1 h2 h':Heap} {a x e:Addr} {o:HO}
theorem Un.any (u:Un fs ex H H1 h h1){b:Addr}{ob:Obj}(q:h.get? b=some ob)(n:H b=none)(hx:b∉ex):∃sl,h1.get? b=some {ob with slots:=sl}:=by
 by_cases hb:b∈fs
 ·exact u.slot b ob q n hb hx
 ·exact⟨ob.slots,u.keep b ob q n hb hx⟩
theorem Un.trans (a:Un fs ex H H1 h h1)(b:Un fs ex H1 H2 h1 h2):Un fs ex H H2 h h2 where
 keep:=fun c ob q n hc hx=>b.keep c ob (a.keep c ob q n hc hx) (a.free c ob q n hx) hc hx
 slot:=fun c ob q n hc hx=>by
  obtain⟨sl,e1⟩:=a.slot c ob q n hc hx
  obtain⟨sl',e2⟩:=b.slot c _ e1 (a.free c ob q n hx) hc hx
  exact⟨sl',e2⟩
 free:=fun c ob q n hx=>by
  obtain⟨o',e1⟩:=a.there c ob q hx
  exact b.free c o' e1 (a.free c ob q n hx) hx
 there:=fun c ob q hx=>by
  obtain⟨o',e1⟩:=a.there c ob q hx
  exact b.there c o' e1 hx
 tups:=fun c xs q=>b.tups c xs (a.tups c xs q)
 frzs:=fun c ob xs q=>b.frzs c ob xs (a.frzs c ob xs q)
 tbls:=fun c ps q=>by
  obtain⟨m1,e1⟩:=a.tbls c ps q
  obtain⟨m2,e2⟩:=b.tbls c _ e1
  exact⟨m1++m2,by rw[e2,Array.append_assoc]⟩
theorem Un.kept (k:∀b u,h.get? b=some u->h'.get? b=some u):Un fs ex H H h h':=
 ⟨fun b ob q _ _ _=>k b ob q,fun b ob q _ _ _=>⟨ob.slots,k b ob q⟩,fun _ _ _ n _=>n,fun b ob q _=>⟨ob,k b ob q⟩,fun _ _ q=>q,fun _ _ _ q=>q,fun _ ps q=>⟨#[],by rw[q];simp⟩⟩
theorem Un.refl:Un fs ex H H h h:=Un.kept fun _ _ q=>q
theorem Un.laid (k:∀b u,h.get? b=some u->h'.get? b=some u)(hp:h.objs.size<=a)(hn:H a=none):Un fs ex H (upd H a o) h h' where
 keep:=fun b u q _ _ _=>k b u q
 slot:=fun b u q _ _ _=>⟨u.slots,k b u q⟩
 free:=fun b u q n _=>by rw[jaj (Nat.ne_of_lt (Nat.lt_of_lt_of_le (Heap.lt_size q) hp))];exact n
 there:=fun b u q _=>⟨u,k b u q⟩
 tups:=fun b xs q=>by rw[jaj (jak q hn)];exact q
 frzs:=fun b u xs q=>by rw[jaj (jak q hn)];exact q
 tbls:=fun b ps q=>⟨#[],by rw[jaj (jak q hn),q];simp⟩
theorem Un.write (mu:Mut (H x))(he:e=x∨H e=some (.own x))(k:∀b u,b≠e->h.get? b=some u->h'.get? b=some u)(heo:∃u,h'.get? e=some u):Un fs ex H (upd H x o) h h':=by
 have hx:∀b,H b=none->b≠x:=fun b n z=>by subst z;rw[n]at mu;exact mu
 have hb:∀b,H b=none->b≠e:=fun b n z=>by
  subst z
  rcases he with r|r
  ·exact hx b n r
  ·rw[n]at r;cases r
 have hm:∀b u,H b=some u->¬ Mut (some u)->b≠x:=fun b u q nm z=>by subst z;rw[q]at mu;exact nm mu
 refine⟨fun b u q n _ _=>k b u (hb b n) q,fun b u q n _ _=>⟨u.slots,k b u (hb b n) q⟩,fun b u q n _=>by rw[jaj (hx b n)];exact n,fun b u q _=>?_,
  fun b xs q=>by rw[jaj (hm b _ q fun z=>z)];exact q,fun b u xs q=>by rw[jaj (hm b _ q fun z=>z)];exact q,fun b ps q=>⟨#[],by rw[jaj (hm b _ q fun z=>z),q];simp⟩⟩
 by_cases hbe:b=e
 ·subst hbe;exact heo
 ·exact⟨u,k b u hbe q⟩
end
noncomputable def trk (h:Heap)(H:Hp):List Addr:=(List.range h.objs.size).filter fun a=>(H a).isSome
noncomputable def jog (h:Heap)(H:Hp):Heap:=PySem.W.hideAll h (trk h H)
theorem jlp (h:Heap)(H:Hp):(jog h H).objs.size=h.objs.size:=PySem.W.hideAll_size _ _
theorem joe {h:Heap}{H:Hp}{b:Addr}{o:Obj}(e:h.get? b=some o)(n:H b=none):(jog h H).get? b=some o:=
 PySem.W.hideAll_get _ e fun hm=>by
  have q:(H b).isSome=true:=(List.mem_filter.mp hm).2
  rw[n]at q;simp at q
theorem jsn {h:Heap}{H:Hp}{b:Addr}{o:Obj}(e:(jog h H).get? b=some o):h.get? b=some o/\H b=none:=by
 have e':h.get? b=some o:=PySem.W.of_hideAll (trk h H) e
 refine⟨e',?_⟩
 cases q:H b with
 |none=>rfl
 |some x=>
  have hm:b∈trk h H:=List.mem_filter.mpr ⟨List.mem_range.mpr (Heap.lt_size e'),by simp[q]⟩
  have z:(jog h H).get? b=none:=PySem.W.hideAll_none (trk h H) hm
  rw[z]at e;cases e
noncomputable def jrB (g h:Heap)(L:Addr):List (Addr×Obj):=(List.range h.objs.size).filterMap fun a=>if a=L∨(g.get? a).isSome=true then none else(h.get? a).map fun o=>(a,o)
noncomputable def rest (g h:Heap)(L d:Addr):List (Addr×Obj):=(jrB g h L).filter fun p=>decide (p.1≠d)
end _L2
namespace _L2
open PySem PySem.Spec PyProof.Rows
structure Mod (K:PySem.W.Frag) (mg:Str->Option Value) (base:Heap):Prop where
 kin:K.In base
 glob:base.Ns mainGlobals mg
 blt:∃mb,base.Ns builtinsNs mb/\∀x:Str,x≠"__name__"->mb x=bootBuiltins x
 nolimit:base.NoLimit
structure Cx where
 prog:Program
 w:World
 K:PySem.W.Frag
 mg:Str->Option Value
 base:Heap
 A:Around
 N:List Str
 s₀:Shared
 H₀:Hp
 env:Env
 outer:List Env
 stack:List Env
 ex:List Addr
 fn:Str->Bool
 calm:Bool
 pn:List (Addr×Obj)
 xe:Value->Shared->Prop
noncomputable def frs (l:List Env):List Addr:=l.filterMap (·.frame)
noncomputable abbrev Cx.fs (X:Cx):List Addr:=frs X.outer
noncomputable def Vis (sc:Scope)(x:Str):Prop:=sc.names.lookup x=some .local∨sc.names.lookup x=some .cell∨sc.names.lookup x=some .free
noncomputable def Loc (sc:Scope)(x:Str):Prop:=sc.names.lookup x=some .local∨sc.names.lookup x=some .cell
noncomputable def jxf (env:Env)(h:Heap)(m:Str->Option Value)(x:Str)(u:Value):Prop:=
 (env.kindOf x=some .local/\m x=some u)∨((env.kindOf x=some .cell∨env.kindOf x=some .free)/\∃c,env.cells.lookup x=some c/\h.IsCell c (some u))
structure Cx.Ok (X:Cx):Prop where
 mod:Mod X.K X.mg X.base
 kind:X.env.scope.kind=.function
 glob:X.env.globals=mainGlobals
 blt:X.env.builtins=builtinsNs
 above:X.s₀.heap.objs.size<=X.env.locals
 inj:∀x y c,X.env.cells.lookup x=some c->X.env.cells.lookup y=some c->x=y
 has:∀x,(X.env.kindOf x=some .cell∨X.env.kindOf x=some .free)->∃c,X.env.cells.lookup x=some c
 cab:∀x c,X.fn x=true->X.env.cells.lookup x=some c->X.s₀.heap.objs.size<=c
 hd:X.calm=true->X.A.handled=none
 frames:X.A.frames=some X.stack
 stk:X.stack=X.outer∨(X.stack=X.env::X.outer/\X.env.frame=some X.env.locals)
 exf:∀b∈X.ex,b≠X.env.locals/\∀x c,X.env.cells.lookup x=some c->c≠b
 bs:∀b o,X.base.get? b=some o->X.s₀.heap.get? b=some o/\X.H₀ b=none
 bsz:X.base.objs.size<=X.s₀.heap.objs.size
 noex:∀b o,X.base.get? b=some o->b∉X.ex
 exfs:∀b∈X.ex,b∉X.fs
 funs:X.s₀.heap.FunFrames X.base X.outer
 frf:∀b∈X.fs,X.H₀ b=none
structure Inv (X:Cx) (pins:List (Addr×Obj)) (σ:List (Option V)) (H:Hp) (s:Shared):Prop where
 ok:X.Ok
 os:s.os=X.s₀.os
 bare:AllBare s.gens
 base:Un X.fs X.ex X.H₀ H X.s₀.heap s.heap
 loc:∃m,s.heap.Ns X.env.locals m/\∀(i:Nat) (x:Str) (v:V),X.N[i]?=some x->σ[i]?=some (some v)->Vis X.env.scope x->∃u,ja0 v u/\jxf X.env s.heap m x u
 cell:∀x c,X.env.cells.lookup x=some c->∃v,s.heap.IsCell c v
 free:H X.env.locals=none
 freeC:∀x c,X.env.cells.lookup x=some c->H c=none
 pin:∀p∈X.pn++pins,s.heap.get? p.1=some p.2/\H p.1=none/\p.1≠X.env.locals/\p.1∉X.fs/\∀v,p.2.data≠.cell v
 hok:HOk X.prog X.w H s.heap
 len:σ.length=X.N.length
section
variable {X:Cx} {pins:List (Addr×Obj)} {σ:List (Option V)} {H H':Hp} {s:Shared} {h':Heap}
theorem Cx.Ok.nofr (ok:X.Ok){b:Addr}{o:Obj}(e:X.base.get? b=some o):b∉X.fs:=fun hb=>by
 have:=(ok.funs.mem hb).1
 rw[e]at this;cases this
theorem Inv.bs (I:Inv X pins σ H s):∀b o,X.base.get? b=some o->s.heap.get? b=some o/\H b=none:=fun b o e=>
 ⟨I.base.keep b o (I.ok.bs b o e).1 (I.ok.bs b o e).2 (I.ok.nofr e) (I.ok.noex b o e),I.base.free b o (I.ok.bs b o e).1 (I.ok.bs b o e).2 (I.ok.noex b o e)⟩
theorem Inv.bk (I:Inv X pins σ H s):∀b o,X.base.get? b=some o->s.heap.get? b=some o:=fun b o e=>(I.bs b o e).1
theorem Inv.mod (I:Inv X pins σ H s):Mod X.K X.mg X.base:=I.ok.mod
theorem Inv.kIn (I:Inv X pins σ H s):X.K.In s.heap:=I.ok.mod.kin.keeps I.bk
theorem Inv.nolimit (I:Inv X pins σ H s):s.heap.NoLimit:=I.ok.mod.nolimit.keeps I.bk
theorem Inv.lt (I:Inv X pins σ H s):X.env.locals<s.heap.objs.size:=let⟨_,hn,_⟩:=I.loc;hn.lt
theorem Inv.sz (I:Inv X pins σ H s):X.s₀.heap.objs.size<=s.heap.objs.size:=Nat.le_trans I.ok.above (Nat.le_of_lt I.lt)
theorem Inv.nofs (I:Inv X pins σ H s){a:Addr}(h:s.heap.objs.size<=a):a∉X.fs:=fun hb=>by
 obtain⟨_,o,ho,_⟩:=I.ok.funs.mem hb
 exact absurd (Nat.lt_of_lt_of_le (Heap.lt_size ho) (Nat.le_trans I.sz h)) (Nat.lt_irrefl _)
theorem Inv.cne (I:Inv X pins σ H s):∀x c,X.env.cells.lookup x=some c->c≠X.env.locals:=fun x c e z=>by
 obtain⟨v,o,ho,hd⟩:=I.cell x c e
 obtain⟨m,⟨o',es,ep,ho',hd',_⟩,_⟩:=I.loc
 rw[z,ho']at ho;cases ho;rw[hd']at hd;cases hd
theorem Inv.funs (I:Inv X pins σ H s):s.heap.FunFrames X.base X.outer:=by
 have all:∀(l:List Env),(∀b∈frs l,b∈X.fs)->X.s₀.heap.FunFrames X.base l->s.heap.FunFrames X.base l:=by
  intro l
  induction l with
  |nil=>intro _ _;trivial
  |cons env r ih=>
   intro hs hl
   obtain⟨hk,⟨L,o,hf,hn,ho,hd⟩,hr⟩:=hl
   have hL:L∈X.fs:=hs L (by unfold frs;rw[List.filterMap_cons,hf];exact List.mem_cons_self)
   obtain⟨sl,e⟩:=I.base.slot L o ho (I.ok.frf L hL) hL fun z=>I.ok.exfs L z hL
   exact⟨hk,⟨L,_,hf,hn,e,hd⟩,ih (fun b hb=>hs b (by unfold frs;rw[List.filterMap_cons,hf];exact List.mem_cons_of_mem _ hb)) hr⟩
 exact all X.outer (fun _ hb=>hb) I.ok.funs
theorem Inv.stack (I:Inv X pins σ H s):s.heap.FunFrames X.base X.stack:=by
 rcases I.ok.stk with e|⟨e,hf⟩
 ·rw[e];exact I.funs
 ·rw[e]
  obtain⟨m,hn,_⟩:=I.loc
  refine .cons (by rw[I.ok.kind];decide) hf hn ?_ I.funs
  exact Heap.get?_none_of_le (Nat.le_trans I.ok.bsz I.ok.above)
theorem Inv.stkSub (I:Inv X pins σ H s):∀b∈frs X.stack,b∈X.env.locals::X.fs:=fun b hb=>by
 rcases I.ok.stk with e|⟨e,hf⟩
 ·rw[e]at hb;exact List.mem_cons_of_mem _ hb
 ·rw[e]at hb
  unfold frs at hb
  rw[List.filterMap_cons,hf]at hb
  exact hb
theorem Inv.stkFree (I:Inv X pins σ H s):∀b∈frs X.stack,H b=none:=fun b hb=>by
 rcases List.mem_cons.mp (I.stkSub b hb)with e|hb
 ·rw[e];exact I.free
 ·obtain⟨_,o,ho,_⟩:=I.ok.funs.mem hb
  exact I.base.free b o ho (I.ok.frf b hb) fun z=>I.ok.exfs b z hb
theorem Inv.step {g':Array GenState}{t':Nat}{d':Drawn}{ch:List Addr}(I:Inv X pins σ H s)
  (hch:∀b∈ch,(b∈X.ex∨X.s₀.heap.objs.size<=b)/\b≠X.env.locals/\(∀x c,X.env.cells.lookup x=some c->c≠b)/\∀p∈X.pn++pins,p.1≠b)
  (keep:∀b o,b≠X.env.locals->b∉X.fs->b∉ch->s.heap.get? b=some o->H b=none->h'.get? b=some o)
  (slot:∀b o,b≠X.env.locals->b∈X.fs->b∉ch->s.heap.get? b=some o->H b=none->∃sl,h'.get? b=some {o with slots:=sl}) (free:∀b o,b∉ch->s.heap.get? b=some o->H b=none->H' b=none)
  (there:∀b o,b∉ch->s.heap.get? b=some o->∃o',h'.get? b=some o')
  (tups:∀b xs,H b=some (.tup xs)->H' b=some (.tup xs)) (frzs:∀b o u,H b=some (.frz o u)->H' b=some (.frz o u)) (tbls:∀b ps,H b=some (.tbl ps)->∃more,H' b=some (.tbl (ps++more)))
  (ns:∀m,s.heap.Ns X.env.locals m->h'.Ns X.env.locals m) (hok:HOk X.prog X.w H' h') (hg:AllBare g') :
  Inv X pins σ H' {s with heap:=h',gens:=g',drawn:=d',toks:=t'}:=by
 have neL:∀b o,X.s₀.heap.get? b=some o->b≠X.env.locals:=fun b o e=>Nat.ne_of_lt (Nat.lt_of_lt_of_le (Heap.lt_size e) I.ok.above)
 have neC:∀b o,X.s₀.heap.get? b=some o->b∉X.ex->b∉ch:=fun b o e hx hb=>by
  rcases(hch b hb).1 with z|z
  ·exact hx z
  ·exact absurd (Nat.lt_of_lt_of_le (Heap.lt_size e) z) (Nat.lt_irrefl _)
 have cellK:∀x c,X.env.cells.lookup x=some c->∀v,s.heap.IsCell c v->h'.IsCell c v:=fun x c e v ⟨o,ho,hd⟩=>by
  have nch:c∉ch:=fun z=>(hch c z).2.2.1 x c e rfl
  by_cases hc:c∈X.fs
  ·obtain⟨sl,q⟩:=slot c o (I.cne x c e) hc nch ho (I.freeC x c e)
   exact⟨_,q,hd⟩
  ·exact⟨o,keep c o (I.cne x c e) hc nch ho (I.freeC x c e),hd⟩
 refine⟨I.ok,I.os,hg,⟨fun b o e n hb hx=>?_,fun b o e n hb hx=>?_,fun b o e n hx=>?_,fun b o e hx=>?_,fun b xs e=>tups b xs (I.base.tups b xs e),fun b o xs e=>frzs b o xs (I.base.frzs b o xs e),fun b ps e=>?_⟩,?_,fun x c e=>?_,?_,fun x c e=>?_,fun p hp=>?_,hok,I.len⟩
 ·exact keep b o (neL b o e) hb (neC b o e hx) (I.base.keep b o e n hb hx) (I.base.free b o e n hx)
 ·obtain⟨sl,e1⟩:=I.base.slot b o e n hb hx
  obtain⟨sl',e2⟩:=slot b _ (neL b o e) hb (neC b o e hx) e1 (I.base.free b o e n hx)
  exact⟨sl',e2⟩
 ·obtain⟨o',e1⟩:=I.base.there b o e hx
  exact free b o' (neC b o e hx) e1 (I.base.free b o e n hx)
 ·obtain⟨o',e1⟩:=I.base.there b o e hx
  exact there b o' (neC b o e hx) e1
 ·obtain⟨m1,e1⟩:=I.base.tbls b ps e
  obtain⟨m2,e2⟩:=tbls b _ e1
  exact⟨m1++m2,by rw[e2,Array.append_assoc]⟩
 ·obtain⟨m,hn,hl⟩:=I.loc
  refine⟨m,ns m hn,fun i x v e1 e2 e3=>?_⟩
  obtain⟨u,r,l⟩:=hl i x v e1 e2 e3
  refine⟨u,r,?_⟩
  rcases l with l|⟨k,c,e,z⟩
  ·exact .inl l
  ·exact .inr ⟨k,c,e,cellK x c e _ z⟩
 ·obtain⟨v,z⟩:=I.cell x c e
  exact⟨v,cellK x c e v z⟩
 ·obtain⟨m,⟨o,_,_,ho,_⟩,_⟩:=I.loc
  exact free _ o (fun z=>(hch _ z).2.1 rfl) ho I.free
 ·obtain⟨v,o,ho,hd⟩:=I.cell x c e
  exact free c o (fun z=>(hch c z).2.2.1 x c e rfl) ho (I.freeC x c e)
 ·obtain⟨e,n,ne,nf,d⟩:=I.pin p hp
  have nch:p.1∉ch:=fun z=>(hch p.1 z).2.2.2 p hp rfl
  exact⟨keep p.1 p.2 ne nf nch e n,free p.1 p.2 nch e n,ne,nf,d⟩
theorem Inv.un {t':Nat}(I:Inv X pins σ H s)(u:Un X.fs [] H H' s.heap h')(hok:HOk X.prog X.w H' h'):Inv X pins σ H' {s with heap:=h',toks:=t'}:=by
 obtain⟨m,⟨o,es,ep,ho,r⟩,_⟩:=id I.loc
 obtain⟨sl,hL⟩:=u.any ho I.free (by simp)
 exact I.step (g':=s.gens) (d':=s.drawn) (ch:=[]) (fun _ z=>nomatch z) (fun b o _ hb _ e n=>u.keep b o e n hb (by simp)) (fun b o _ hb _ e n=>u.slot b o e n hb (by simp)) (fun b o _ e n=>u.free b o e n (by simp)) (fun b o _ e=>u.there b o e (by simp)) u.tups u.frzs u.tbls (fun m' hm=>by
  obtain⟨o',es',ep',ho',r'⟩:=hm
  rw[ho]at ho';cases ho'
  exact⟨_,es',ep',hL,r'⟩) hok I.bare
theorem Inv.call {g':Array GenState}{t':Nat}{d':Drawn}{ch:List Addr}(I:Inv X pins σ H s)(u:Un (frs X.stack) ch H H' s.heap h')(hok:HOk X.prog X.w H' h')(hg:AllBare g')
  (hch:∀b∈ch,(b∈X.ex∨X.s₀.heap.objs.size<=b)/\b≠X.env.locals/\(∀x c,X.env.cells.lookup x=some c->c≠b)/\∀p∈X.pn++pins,p.1≠b) :
  Inv X pins σ H' {s with heap:=h',gens:=g',drawn:=d',toks:=t'}:=by
 obtain⟨m,⟨o,es,ep,ho,r⟩,_⟩:=id I.loc
 obtain⟨sl,hL⟩:=u.any ho I.free fun z=>(hch _ z).2.1 rfl
 exact I.step (ch:=ch) hch (fun b o hL hb hc e n=>u.keep b o e n (fun z=>(List.mem_cons.mp (I.stkSub b z)).elim hL hb) hc) (fun b o _ _ hc e n=>u.any e n hc) (fun b o hc e n=>u.free b o e n hc) (fun b o hc e=>u.there b o e hc) u.tups u.frzs u.tbls (fun m' hm=>by
  obtain⟨o',es',ep',ho',r'⟩:=hm
  rw[ho]at ho';cases ho'
  exact⟨_,es',ep',hL,r'⟩) hok hg
theorem Inv.turned {t':Nat}{it:Addr}(I:Inv X pins σ H s)(k:∀b o,b≠it->s.heap.get? b=some o->h'.get? b=some o)(hn:H it=none)(hL:it≠X.env.locals)
  (h1:it∈X.ex∨X.s₀.heap.objs.size<=it) (h2:∀x c,X.env.cells.lookup x=some c->c≠it) (h3:∀p∈X.pn++pins,p.1≠it):Inv X pins σ H {s with heap:=h',toks:=t'}:=by
 have nit:∀b u,H b=some u->b≠it:=fun b u e z=>by rw[z,hn]at e;cases e
 refine I.step (g':=s.gens) (d':=s.drawn) (ch:=[it]) (fun b hb=>?_) (fun b o _ _ hc e _=>k b o (fun z=>hc (by simp[z])) e) (fun b o _ _ hc e _=>⟨o.slots,k b o (fun z=>hc (by simp[z])) e⟩) (fun _ _ _ _ n=>n)
  (fun b o hc e=>⟨o,k b o (fun z=>hc (by simp[z])) e⟩) (fun _ _ e=>e) (fun _ _ _ e=>e) (fun b ps e=>⟨#[],by rw[e];simp⟩) (fun m hm=>?_) (fun b u e=>?_) I.bare
 ·have e:b=it:=by simpa using hb
  subst e
  exact⟨h1,hL,h2,h3⟩
 ·obtain⟨o,es,ep,ho,r⟩:=hm
  exact⟨o,es,ep,k _ o (Ne.symm hL) ho,r⟩
 ·refine(I.hok b u e).stay (fun c v hc q=>k c v ?_ q) (fun _ q=>q) fun _ _ q=>q
  rcases hc with z|z
  ·rw[z];exact nit b u e
  ·exact nit c _ z
theorem Inv.tok (I:Inv X pins σ H s)(t:Nat):Inv X pins σ H {s with toks:=t}:=I.un (h':=s.heap) (t':=t) Un.refl I.hok
theorem Inv.kept {t':Nat}(I:Inv X pins σ H s)(k:∀b u,s.heap.get? b=some u->h'.get? b=some u):Inv X pins σ H {s with heap:=h',toks:=t'}:=I.un (Un.kept k) (I.hok.kept k)
theorem Inv.laid {a:Addr}{o:HO}{t':Nat}(I:Inv X pins σ H s)(k:∀b u,s.heap.get? b=some u->h'.get? b=some u)(hp:s.heap.objs.size<=a)(new:jbX X.prog X.w (upd H a o) h' a o) :
  Inv X pins σ (upd H a o) {s with heap:=h',toks:=t'}:=I.un (Un.laid k hp (I.hok.fresh hp)) (I.hok.laid k hp new)
theorem Inv.write {x e:Addr}{o:HO}{t':Nat}(I:Inv X pins σ H s)(mu:Mut (H x))(he:e=x∨H e=some (.own x))(k:∀b u,b≠e->s.heap.get? b=some u->h'.get? b=some u)(heo:∃u,h'.get? e=some u)
  (new:jbX X.prog X.w (upd H x o) h' x o):Inv X pins σ (upd H x o) {s with heap:=h',toks:=t'}:=I.un (Un.write mu he k heo) (I.hok.write mu he k heo new)
theorem Inv.pins_of {pins':List (Addr×Obj)}(I:Inv X pins σ H s)(h:∀p∈pins',s.heap.get? p.1=some p.2/\H p.1=none/\p.1≠X.env.locals/\p.1∉X.fs/\∀v,p.2.data≠.cell v):Inv X pins' σ H s:=
 ⟨I.ok,I.os,I.bare,I.base,I.loc,I.cell,I.free,I.freeC,fun p hp=>(List.mem_append.mp hp).elim (fun z=>I.pin p (List.mem_append_left _ z)) (h p),I.hok,I.len⟩
theorem jhk {N:List Str}(hN:N.Nodup){i j:Nat}{x:Str}(a:N[i]?=some x)(b:N[j]?=some x):i=j:=by
 obtain⟨h1,e1⟩:=List.getElem?_eq_some_iff.mp a
 obtain⟨h2,e2⟩:=List.getElem?_eq_some_iff.mp b
 exact(List.getElem_inj hN).mp (e1.trans e2.symm)
theorem jib {M:Model}{A:Around}{E:Value->Shared->Prop}{i:Nat}{x:Str}{v:V}{u:Value}{Q:Unit->Shared->Prop}(I:Inv X pins σ H s)(hN:X.N.Nodup)(hi:X.N[i]?=some x)(hx:Loc X.env.scope x)(r:ja0 v u)
  (h:∀s',Inv X pins (σ.set i (some v)) H s'->(∃a,Heap.SameBut a s.heap s'.heap/\(a=X.env.locals∨X.env.cells.lookup x=some a))->Q () s') (hf:X.fn x=true∨X.env.scope.names.lookup x=some .local:=by first|exact .inl rfl|exact .inr rfl|assumption):wpAny M A (storeName X.env x u) Q E s:=by
 obtain⟨m,hn,hl⟩:=id I.loc
 have hcls:(X.env.scope.kind==.class||(X.env.scope.kind==.module&&X.env.locals !=X.env.globals))=false:=by rw[I.ok.kind];rfl
 have hiσ:i<σ.length:=by rw[I.len];exact(List.getElem?_eq_some_iff.mp hi).1
 have cne:=I.cne
 have tracked:∀{a:Addr} {h':Heap},(∃o,s.heap.get? a=some o/\H a=none)->Heap.SameBut a s.heap h'->HOk X.prog X.w H h':=fun {a h'} ha hs b ob e=>by
  obtain⟨_,_,hfree⟩:=ha
  refine(I.hok b ob e).stay (fun c w' hc q=>(hs.2 c ?_).trans q) (fun _ q=>q) fun _ _ q=>q
  rintro rfl
  rcases hc with rfl|hc
  ·rw[hfree]at e;cases e
  ·rw[hfree]at hc;cases hc
 rcases hx with hk|hk
 ·refine wpAny_storeName_local hk hn (fun h' hn' hs=>?_) hcls
  obtain⟨oL,_,_,hoL,_⟩:=id hn
  refine h _ ⟨I.ok,I.os,I.bare,⟨fun b o e n hb hx=>?_,fun b o e n hb hx=>?_,I.base.free,fun b o e hx=>?_,I.base.tups,I.base.frzs,I.base.tbls⟩,⟨_,hn',fun j y v' e1 e2 e3=>?_⟩,fun y c e=>?_,I.free,I.freeC,fun p hp=>?_,tracked ⟨oL,hoL,I.free⟩ hs,by simpa using I.len⟩ ⟨_,hs,.inl rfl⟩
  ·exact(hs.2 b (Nat.ne_of_lt (Nat.lt_of_lt_of_le (Heap.lt_size e) I.ok.above))).trans (I.base.keep b o e n hb hx)
  ·obtain⟨sl,e1⟩:=I.base.slot b o e n hb hx
   exact⟨sl,(hs.2 b (Nat.ne_of_lt (Nat.lt_of_lt_of_le (Heap.lt_size e) I.ok.above))).trans e1⟩
  ·obtain⟨o',e1⟩:=I.base.there b o e hx
   exact⟨o',(hs.2 b (Nat.ne_of_lt (Nat.lt_of_lt_of_le (Heap.lt_size e) I.ok.above))).trans e1⟩
  ·by_cases hj:j=i
   ·subst hj
    rw[hi]at e1;cases e1
    rw[List.getElem?_set_self hiσ]at e2
    cases e2
    exact⟨u,r,.inl ⟨hk,by simp⟩⟩
   ·rw[List.getElem?_set_ne (Ne.symm hj)]at e2
    obtain⟨u',r',q⟩:=hl j y v' e1 e2 e3
    refine⟨u',r',?_⟩
    rcases q with⟨k,e⟩|⟨k,c,e,z⟩
    ·refine .inl ⟨k,?_⟩
     have:y≠x:=fun e=>hj (jhk hN e1 (e▸hi))
     simp[this,e]
    ·exact .inr ⟨k,c,e,z.sameBut hs (cne y c e)⟩
  ·obtain⟨w',z⟩:=I.cell y c e
   exact⟨w',z.sameBut hs (cne y c e)⟩
  ·obtain⟨e,n,ne,nf,d⟩:=I.pin p hp
   exact⟨(hs.2 p.1 ne).trans e,n,ne,nf,d⟩
 ·have hfn:X.fn x=true:=by
   rcases hf with z|z
   ·exact z
   ·rw[z]at hk;cases hk
  obtain⟨c,hc⟩:=I.ok.has x (.inl hk)
  obtain⟨w',z⟩:=I.cell x c hc
  refine wpAny_storeName_cell I.ok.kind hk hc z (fun h' hc' hs=>?_)
  obtain⟨oc,hoc,hocd⟩:=id z
  refine h {s with heap:=h'} ⟨I.ok,I.os,I.bare,⟨fun b o e n hb hx=>?_,fun b o e n hb hx=>?_,I.base.free,fun b o e hx=>?_,I.base.tups,I.base.frzs,I.base.tbls⟩,⟨m,hn.sameBut hs (Ne.symm (cne x c hc)),fun j y v' e1 e2 e3=>?_⟩,fun y c' e=>?_,I.free,I.freeC,fun p hp=>?_,tracked ⟨oc,hoc,I.freeC x c hc⟩ hs,by simpa using I.len⟩ ⟨c,hs,.inr hc⟩
  ·exact(hs.2 b (Nat.ne_of_lt (Nat.lt_of_lt_of_le (Heap.lt_size e) (I.ok.cab x c hfn hc)))).trans (I.base.keep b o e n hb hx)
  ·obtain⟨sl,e1⟩:=I.base.slot b o e n hb hx
   exact⟨sl,(hs.2 b (Nat.ne_of_lt (Nat.lt_of_lt_of_le (Heap.lt_size e) (I.ok.cab x c hfn hc)))).trans e1⟩
  ·obtain⟨o',e1⟩:=I.base.there b o e hx
   exact⟨o',(hs.2 b (Nat.ne_of_lt (Nat.lt_of_lt_of_le (Heap.lt_size e) (I.ok.cab x c hfn hc)))).trans e1⟩
  ·by_cases hj:j=i
   ·subst hj
    rw[hi]at e1;cases e1
    rw[List.getElem?_set_self hiσ]at e2
    cases e2
    exact⟨u,r,.inr ⟨.inl hk,c,hc,hc'⟩⟩
   ·rw[List.getElem?_set_ne (Ne.symm hj)]at e2
    obtain⟨u',r',q⟩:=hl j y v' e1 e2 e3
    refine⟨u',r',?_⟩
    rcases q with q|⟨k,c',e,z'⟩
    ·exact .inl q
    ·refine .inr ⟨k,c',e,z'.sameBut hs ?_⟩
     rintro rfl
     exact hj (jhk hN e1 (I.ok.inj _ _ _ e hc▸hi))
  ·by_cases hcc:c'=c
   ·subst hcc;exact⟨_,hc'⟩
   ·obtain⟨w2,z2⟩:=I.cell y c' e
    exact⟨w2,z2.sameBut hs hcc⟩
  ·obtain⟨e,n,ne,nf,d⟩:=I.pin p hp
   refine⟨(hs.2 p.1 ?_).trans e,n,ne,nf,d⟩
   intro q
   rw[q,hoc]at e
   have q':oc=p.2:=Option.some.inj e
   exact d w' (by rw[<- q'];exact hocd)
theorem jeh {M:Model}{A:Around}{E:Value->Shared->Prop}{i:Nat}{x:Str}{v:V}{u:Value}{Q:Unit->Shared->Prop}(I:Inv X pins σ H s)(hN:X.N.Nodup)(hi:X.N[i]?=some x)(hx:Loc X.env.scope x)(r:ja0 v u)
  (h:∀s',Inv X pins (σ.set i (some v)) H s'->Q () s') (hf:X.fn x=true∨X.env.scope.names.lookup x=some .local:=by first|exact .inl rfl|exact .inr rfl|assumption):wpAny M A (storeName X.env x u) Q E s:=
 jib I hN hi hx r (fun s' I' _=>h s' I') hf
theorem Inv.call' {s':Shared}{ch:List Addr}(I:Inv X pins σ H s)(ho:s'.os=s.os)(u:Un (frs X.stack) ch H H' s.heap s'.heap)(hok:HOk X.prog X.w H' s'.heap)(hg:AllBare s'.gens)
  (hch:∀b∈ch,(b∈X.ex∨X.s₀.heap.objs.size<=b)/\b≠X.env.locals/\(∀x c,X.env.cells.lookup x=some c->c≠b)/\∀p∈X.pn++pins,p.1≠b):Inv X pins σ H' s':=by
 obtain⟨h',g',d',t',o'⟩:=s'
 have e:o'=s.os:=ho
 subst e
 exact I.call (g':=g') (t':=t') (d':=d') u hok hg hch
end
noncomputable abbrev XK:=Value->Option Addr->Hp->Prop
noncomputable abbrev St:=List (Option V)
noncomputable abbrev VK:=V->Hp->Prop
noncomputable abbrev TE:=St->Hp->VK->Prop
noncomputable abbrev TT:=St->Hp->(Bool->Hp->Prop)->Prop
noncomputable abbrev TA:=St->Hp->(List V->Hp->Prop)->Prop
structure Ends where
 nx:St->Hp->Prop
 rt:VK
 bk:St->Hp->Prop:=fun _ _=>False
 ct:St->Hp->Prop:=fun _ _=>False
noncomputable abbrev TS:=Ends->St->Hp->Prop
noncomputable def EP (X:Cx)(pins:List (Addr×Obj))(σ:St)(Q:VK)(u:Value)(s':Shared):Prop:=∃v H',Inv X pins σ H' s'/\ja0 v u/\Q v H'
noncomputable def TP (X:Cx)(pins:List (Addr×Obj))(σ:St)(Q:Bool->Hp->Prop)(b:Bool)(s':Shared):Prop:=∃H',Inv X pins σ H' s'/\Q b H'
noncomputable def AP (X:Cx)(pins:List (Addr×Obj))(σ:St)(Q:List V->Hp->Prop)(us:List Value)(s':Shared):Prop:=∃vs H',Inv X pins σ H' s'/\jaZ vs us/\Q vs H'
noncomputable def SP (X:Cx)(pins:List (Addr×Obj))(D:Ends)(f:Flow)(s':Shared):Prop:=
 match f with
 |.next=>∃σ' H',Inv X pins σ' H' s'/\D.nx σ' H'
 |.brk=>∃σ' H',Inv X pins σ' H' s'/\D.bk σ' H'
 |.cont=>∃σ' H',Inv X pins σ' H' s'/\D.ct σ' H'
 |.ret u=>∃v σ' H',Inv X pins σ' H' s'/\ja0 v u/\D.rt v H'
noncomputable def PE (X:Cx)(e:Expr)(t:TE):Prop:=
 ∀(pins:List (Addr×Obj)) (s:Shared) (σ:St) (H:Hp) (Q:VK),Inv X pins σ H s->t σ H Q->wpAny (model X.prog X.w) X.A (eval e X.env) (EP X pins σ Q) X.xe s
noncomputable def PT (X:Cx)(e:Expr)(t:TT):Prop:=
 ∀(pins:List (Addr×Obj)) (s:Shared) (σ:St) (H:Hp) (Q:Bool->Hp->Prop),Inv X pins σ H s->t σ H Q->wpAny (model X.prog X.w) X.A (isTrue e X.env (eval e X.env)) (TP X pins σ Q) X.xe s
noncomputable def PW (X:Cx)(e:Expr)(t:TT):Prop:=
 ∀(whole:Sem Value) (pins:List (Addr×Obj)) (s:Shared) (σ:St) (H:Hp) (Q:Bool->Hp->Prop),Inv X pins σ H s->t σ H Q->wpAny (model X.prog X.w) X.A (isTrue e X.env whole) (TP X pins σ Q) X.xe s
theorem PW.pt {X:Cx}{e:Expr}{t:TT}(h:PW X e t):PT X e t:=h _
noncomputable def PA (X:Cx)(es:List Expr)(t:TA):Prop:=
 ∀(pos:Pos) (pins:List (Addr×Obj)) (s:Shared) (σ:St) (H:Hp) (Q:List V->Hp->Prop),Inv X pins σ H s->t σ H Q->wpAny (model X.prog X.w) X.A (spliced (backTo pos (starEach es X.env))) (AP X pins σ Q) X.xe s
noncomputable def PS (X:Cx)(st:Stmt)(t:TS):Prop:=
 ∀(pins:List (Addr×Obj)) (s:Shared) (σ:St) (H:Hp) (D:Ends),Inv X pins σ H s->t D σ H->wpAny (model X.prog X.w) X.A (exec st X.env) (SP X pins D) X.xe s
noncomputable def PSs (X:Cx)(st:List Stmt)(t:TS):Prop:=
 ∀(pins:List (Addr×Obj)) (s:Shared) (σ:St) (H:Hp) (D:Ends),Inv X pins σ H s->t D σ H->wpAny (model X.prog X.w) X.A (execs st X.env) (SP X pins D) X.xe s
theorem thn {α:Type}{t:Sem α}{Q Q':α->Shared->Prop}{M:Model}{A:Around}{E:Value->Shared->Prop}{s:Shared}(h:wpAny M A t Q E s)(hQ:∀a s,Q a s->Q' a s):wpAny M A t Q' E s:=wpAny_mono h hQ fun _ _ x=>x
end _L2
namespace _L2
open PySem PySem.Spec PyProof.Rows
section
variable {X:Cx}
theorem bin {a b:Expr}{ta tb:TE}(ha:PE X a ta)(hb:PE X b tb){pins:List (Addr×Obj)}{s:Shared}{σ:St}{H:Hp}{R:V->V->Hp->Prop}(I:Inv X pins σ H s)(h:ta σ H fun x H1=>tb σ H1 fun y H2=>R x y H2)
  {α:Type} {Q:α->Shared->Prop} {f:Value->Value->Sem α}
  (hf:∀v u s2 x y H2,Inv X pins σ H2 s2->ja0 x v->ja0 y u->R x y H2->wpAny (model X.prog X.w) X.A (f v u) Q X.xe s2) :
  wpAny (model X.prog X.w) X.A (eval a X.env) (fun v s₁=>wpAny (model X.prog X.w) X.A (eval b X.env) (fun u s₂=>wpAny (model X.prog X.w) X.A (f v u) Q X.xe s₂) X.xe s₁) X.xe s:=by
 refine thn (ha pins s σ H _ I h) fun v s1 ⟨x,H1,I1,r1,q1⟩=>?_
 refine thn (hb pins s1 σ H1 _ I1 q1) fun u s2 ⟨y,H2,I2,r2,q2⟩=>?_
 exact hf v u s2 x y H2 I2 r1 r2 q2
noncomputable def jxa (i:Nat):TE:=fun σ H Q=>∃v,σ[i]?=some (some v)/\Q v H
noncomputable def tC (v:V):TE:=fun _ H Q=>Q v H
theorem jvb {i:Nat} {x:Str} {pos:Pos} (hN:X.N[i]?=some x) (hv:Vis X.env.scope x) (hd:(x==("__debug__" : Str))=false:=by decide) (hcd:(x==("__classdict__" : Str))=false:=by decide):PE X (.Name x pos) (jxa i):=by
 intro pins s σ H Q I h
 obtain⟨v,e,h⟩:=h
 obtain⟨m,hn,hl⟩:=I.loc
 obtain⟨u,r,l⟩:=hl i x v hN e hv
 have fin:EP X pins σ Q u s:=⟨v,H,I,r,h⟩
 rcases l with⟨hk,hm⟩|⟨hk,c,hc,hcell⟩
 ·exact wpAny_Name (wpAny_loadName_local I.ok.kind hk hn hm fin) hd
 ·rcases hk with hk|hk
  ·exact wpAny_Name (wpAny_loadName_cell I.ok.kind hk hc hcell fin) hd
  ·exact wpAny_Name (wpAny_loadName_free I.ok.kind hk hc hcell fin hcd) hd
theorem juz {i j pos}:PE X (.Constant (.int i) j pos) (tC (.int i)):=fun _ _ _ H _ I h=>wpAny_Constant_int ⟨.int i,H,I.tok _,⟨_,rfl⟩,h⟩
theorem jnU {b j pos}:PE X (.Constant (.bool b) j pos) (tC (.bl b)):=fun _ _ _ H _ I h=>Constant_bool ⟨.bl b,H,I,rfl,h⟩
theorem juD {j pos}:PE X (.Constant .none j pos) (tC .non):=fun _ _ _ H _ I h=>Constant_none ⟨.non,H,I,rfl,h⟩
theorem jve {x j pos}:PE X (.Constant (.str x) j pos) (tC (.str x)):=fun _ _ _ H _ I h=>Calls.Constant_str ⟨.str x,H,I.tok _,⟨_,rfl⟩,h⟩
noncomputable def Gl (X:Cx)(x:Str):Prop:=X.env.kindOf x=some .globalImplicit
theorem jeN {E:Value->Shared->Prop}{pins:List (Addr×Obj)}{s:Shared}{σ:St}{H:Hp}{x:Str}{u:Value}{pos:Pos}{Q:Value->Shared->Prop}(I:Inv X pins σ H s)(hg:Gl X x)(hm:X.mg x=some u)(h:Q u s)
  (hd:(x==("__debug__" : Str))=false:=by decide):wpAny (model X.prog X.w) X.A (eval (.Name x pos) X.env) Q E s:=
 Calls.Name_function_global I.ok.kind hg (Calls.loadGlobal_global (by rw[I.ok.glob];exact I.mod.glob.keeps I.bk) hm h) hd
theorem jfQ {E:Value->Shared->Prop}{pins:List (Addr×Obj)}{s:Shared}{σ:St}{H:Hp}{x:Str}{u:Value}{pos:Pos}{Q:Value->Shared->Prop}(I:Inv X pins σ H s)(hg:Gl X x)(hm:X.mg x=none)(hv:bootBuiltins x=some u)(h:Q u s)
  (hn:x≠"__name__":=by decide) (hd:(x==("__debug__" : Str))=false:=by decide):wpAny (model X.prog X.w) X.A (eval (.Name x pos) X.env) Q E s:=by
 obtain⟨mb,h1,h2⟩:=I.mod.blt
 exact Calls.Name_function_global I.ok.kind hg (Calls.loadGlobal_builtin (by rw[I.ok.glob];exact I.mod.glob.keeps I.bk) hm (by rw[I.ok.blt];exact h1.keeps I.bk) ((h2 x hn).trans hv) h) hd
theorem ji7 {x:Str} {v:V} {u:Value} {pos:Pos} (hg:Gl X x) (hm:X.mg x=some u) (r:ja0 v u) (hd:(x==("__debug__" : Str))=false:=by decide):PE X (.Name x pos) (tC v):=
 fun _ _ _ H _ I h=>jeN I hg hm ⟨v,H,I,r,h⟩ hd
theorem jqN {x:Str} {v:V} {u:Value} {pos:Pos} (hg:Gl X x) (hm:X.mg x=none) (hv:bootBuiltins x=some u) (r:ja0 v u) (hn:x≠"__name__":=by decide) (hd:(x==("__debug__" : Str))=false:=by decide):PE X (.Name x pos) (tC v):=
 fun _ _ _ H _ I h=>jfQ I hg hm hv ⟨v,H,I,r,h⟩ hn hd
variable {a b:Expr} {ta tb:TE} {pos:Pos}
noncomputable def PC (X:Cx)(op:CmpOp)(a b:Expr)(t:TE):Prop:=
 ∀(pins:List (Addr×Obj)) (s:Shared) (σ:St) (H:Hp) (Q:VK),Inv X pins σ H s->t σ H Q ->
  wpAny (model X.prog X.w) X.A (eval a X.env) (fun v s₁=>wpAny (model X.prog X.w) X.A (eval b X.env) (fun u s₂=>wpAny (model X.prog X.w) X.A (compareOp op v u) (EP X pins σ Q) X.xe s₂) X.xe s₁) X.xe s
theorem jjI (b:Expr){op:CmpOp}(h:op≠.In)(h2:op≠.NotIn):behindInMarks op b=false:=by
 have e1:(op==CmpOp.In)=false:=by cases op<;>first|rfl|exact absurd rfl h
 have e2:(op==CmpOp.NotIn)=false:=by cases op<;>first|rfl|exact absurd rfl h2
 cases b<;>simp[behindInMarks,e1,e2]
noncomputable def jvF (ta:TE):TE:=fun σ H Q=>ta σ H fun x H1=>Q (.bl (decide (x=.non))) H1
noncomputable def jnE (ta:TE):TE:=fun σ H Q=>ta σ H fun x H1=>Q (.bl (!decide (x=.non))) H1
theorem ja0.none_iff {x:V}{v:Value}(r:ja0 x v):(v==Value.none)=decide (x=.non):=by
 cases x with
 |non=>cases r;rfl
 |bl _=>cases r;rfl
 |int _=>obtain⟨t,rfl⟩:=r;rfl
 |str _=>obtain⟨t,rfl⟩:=r;rfl
 |byt _=>obtain⟨t,rfl⟩:=r;rfl
 |flt _=>obtain⟨t,rfl⟩:=r;rfl
 |ref _=>cases r;rfl
 |ty _=>cases r;rfl
theorem jpM {j pos'}(ha:PE X a ta):PC X .Is a (.Constant .none j pos') (jvF ta):=by
 intro pins s σ H Q I h
 refine thn (ha pins s σ H _ I h) fun v s1 ⟨x,H1,I1,r1,q1⟩=>?_
 exact Constant_none (is_none_gen ⟨.bl _,H1,I1,by rw[r1.none_iff];rfl,q1⟩)
theorem jlZ {j pos'}(ha:PE X a ta):PC X .IsNot a (.Constant .none j pos') (jnE ta):=by
 intro pins s σ H Q I h
 refine thn (ha pins s σ H _ I h) fun v s1 ⟨x,H1,I1,r1,q1⟩=>?_
 exact Constant_none (isnot_none_gen ⟨.bl _,H1,I1,by rw[r1.none_iff];rfl,q1⟩)
noncomputable def tB (t:TE):TT:=fun σ H Q=>t σ H fun x H1=>∃c,x=.bl c/\Q c H1
theorem jpz {op:CmpOp}{t:TE}(h:PC X op a b t)(h1:behindInMarks op b=false:=by first|exact jjI _ (by decide) (by decide)|rfl):PE X (.Compare a [op] [b] pos) t:=fun pins s σ H Q I hw=>wpAny_Compare1 (h pins s σ H Q I hw) h1
theorem jpE {op:CmpOp}{t:TE}(h:PC X op a b t)(h1:behindInMarks op b=false:=by first|exact jjI _ (by decide) (by decide)|rfl):PT X (.Compare a [op] [b] pos) (tB t):=by
 intro pins s σ H Q I hw
 refine wpAny_isTrue_Compare1 (thn (h pins s σ H _ I hw) fun v s1 h1=>thn h1 fun u s2 h2=>thn h2 fun c s3 ⟨x,H1,I1,r1,q1⟩=>?_) h1
 obtain⟨d,rfl,q⟩:=q1
 cases r1
 exact wpAny_truthy_bool ⟨H1,I1,q⟩
variable {tA tB':TT} {rest:List Expr}
noncomputable def jwf (t u:TT):TT:=fun σ H Q=>t σ H fun c H1=>if c=true then u σ H1 Q else Q false H1
noncomputable def tOr (t u:TT):TT:=fun σ H Q=>t σ H fun c H1=>if c=true then Q true H1 else u σ H1 Q
noncomputable def jxm (t:TT):TT:=fun σ H Q=>t σ H fun c H1=>Q (!c) H1
theorem jql (ha:PT X a tA):PW X (.BoolOp .And [a] pos) tA:=by
 intro wh pins s σ H Q I h
 refine isTrue_and (thn (ha pins s σ H Q I h) fun c s1 e=>?_)
 cases c with
 |true=>exact isTrue_and_nil e
 |false=>exact e
theorem jta (ha:PT X a tA):PW X (.BoolOp .Or [a] pos) tA:=by
 intro wh pins s σ H Q I h
 refine isTrue_or (thn (ha pins s σ H Q I h) fun c s1 e=>?_)
 cases c with
 |false=>exact isTrue_or_nil e
 |true=>exact e
theorem juy (ha:PT X a tA)(hb:PW X (.BoolOp .And (b::rest) pos) tB'):PW X (.BoolOp .And (a::b::rest) pos) (jwf tA tB'):=by
 intro wh pins s σ H Q I h
 refine isTrue_and (thn (ha pins s σ H _ I h) fun c s1 ⟨H1,I1,q1⟩=>?_)
 cases c with
 |true=>exact hb wh pins s1 σ H1 Q I1 q1
 |false=>exact⟨H1,I1,q1⟩
theorem jws (ha:PT X a tA)(hb:PW X (.BoolOp .Or (b::rest) pos) tB'):PW X (.BoolOp .Or (a::b::rest) pos) (tOr tA tB'):=by
 intro wh pins s σ H Q I h
 refine isTrue_or (thn (ha pins s σ H _ I h) fun c s1 ⟨H1,I1,q1⟩=>?_)
 cases c with
 |true=>exact⟨H1,I1,q1⟩
 |false=>exact hb wh pins s1 σ H1 Q I1 q1
theorem jte (ha:PT X a tA):PT X (.UnaryOp .Not a pos) (jxm tA):=by
 intro pins s σ H Q I h
 exact isTrue_not (ha pins s σ H (fun c H1=>Q (!c) H1) I h)
noncomputable def jrW (ta tb:TE):TE:=fun σ H Q=>ta σ H fun x H1=>∃c,x=.bl c/\if c=true then tb σ H1 Q else Q (.bl false) H1
noncomputable def jwo (ta tb:TE):TE:=fun σ H Q=>ta σ H fun x H1=>∃c,x=.bl c/\if c=true then Q (.bl true) H1 else tb σ H1 Q
noncomputable def jvo (ta:TE):TE:=fun σ H Q=>ta σ H fun x H1=>∃c,x=.bl c/\Q (.bl (!c)) H1
theorem jtA {op}{t:TE}(h:PE X a t):PE X (.BoolOp op [a] pos) t:=fun pins s σ H Q I hw=>BoolOp_one (h pins s σ H Q I hw)
theorem ju (ha:PE X a ta)(hb:PE X (.BoolOp .And (b::rest) pos) tb):PE X (.BoolOp .And (a::b::rest) pos) (jrW ta tb):=by
 intro pins s σ H Q I h
 refine BoolOp_and (thn (ha pins s σ H _ I h) fun v s1 ⟨x,H1,I1,r1,q1⟩=>?_)
 obtain⟨c,rfl,q1⟩:=q1
 cases r1
 refine wpAny_truthy_bool ?_
 cases c with
 |true=>exact hb pins s1 σ H1 Q I1 q1
 |false=>exact⟨.bl false,H1,I1,rfl,q1⟩
theorem jwE (ha:PE X a ta)(hb:PE X (.BoolOp .Or (b::rest) pos) tb):PE X (.BoolOp .Or (a::b::rest) pos) (jwo ta tb):=by
 intro pins s σ H Q I h
 refine BoolOp_or (thn (ha pins s σ H _ I h) fun v s1 ⟨x,H1,I1,r1,q1⟩=>?_)
 obtain⟨c,rfl,q1⟩:=q1
 cases r1
 refine wpAny_truthy_bool ?_
 cases c with
 |false=>exact hb pins s1 σ H1 Q I1 q1
 |true=>exact⟨.bl true,H1,I1,rfl,q1⟩
theorem jtK (ha:PE X a ta):PE X (.UnaryOp .Not a pos) (jvo ta):=by
 intro pins s σ H Q I h
 refine UnaryOp_ (thn (ha pins s σ H _ I h) fun v s1 ⟨x,H1,I1,r1,q1⟩=>?_)
 obtain⟨c,rfl,q1⟩:=q1
 cases r1
 exact not_of (wpAny_truthy_bool ⟨.bl (!c),H1,I1,rfl,q1⟩)
noncomputable def tIf (t:TT)(ta tb:TE):TE:=fun σ H Q=>t σ H fun c H1=>if c=true then ta σ H1 Q else tb σ H1 Q
theorem jnz {c:Expr}(hc:PT X c tA)(ha:PE X a ta)(hb:PE X b tb):PE X (.IfExp c a b pos) (tIf tA ta tb):=by
 intro pins s σ H Q I h
 refine wpAny_IfExp (thn (hc pins s σ H _ I h) fun d s1 ⟨H1,I1,q1⟩=>?_)
 cases d with
 |true=>exact ha pins s1 σ H1 Q I1 q1
 |false=>exact hb pins s1 σ H1 Q I1 q1
end
end _L2
namespace _L2
open PySem PySem.Spec PyProof.Rows
noncomputable def SqL (K:PySem.W.Frag)(H:Hp)(a:Addr)(xs:List V):Prop:=
 Rd H a (.lst xs) ∨
  ∃(o:Obj) (its:Array Value) (n:Nat),K.lookup a=some o/\o.cls=.type "list"/\o.dict=none/\o.data=.seq its n/\its.size<=sizeLine/\jaZ xs its.toList
noncomputable def SqT (K:PySem.W.Frag)(H:Hp)(a:Addr)(xs:List V):Prop:=
 Rd H a (.tup xs) ∨
  ∃(o:Obj) (its:Array Value) (n:Nat),K.lookup a=some o/\o.cls=.type "tuple"/\o.data=.seq its n/\its.size<=sizeLine/\jaZ xs its.toList
noncomputable def jxW:Value->Option V
 |.none=>some .non
 |.bool b=>some (.bl b)
 |.int i _=>some (.int i)
 |.str x _=>some (.str x)
 |.bytes b _=>some (.byt b)
 |.float b _=>some (.flt b)
 |.ref a=>some (.ref a)
 |.type n=>some (.ty n)
 |_=>none
theorem ja0.abs {x:V}{u:Value}(r:ja0 x u):jxW u=some x:=by
 cases x with
 |non=>cases r;rfl
 |bl _=>cases r;rfl
 |int _=>obtain⟨t,rfl⟩:=r;rfl
 |str _=>obtain⟨t,rfl⟩:=r;rfl
 |byt _=>obtain⟨t,rfl⟩:=r;rfl
 |flt _=>obtain⟨t,rfl⟩:=r;rfl
 |ref _=>cases r;rfl
 |ty _=>cases r;rfl
theorem ja0.inj {x y:V}{u:Value}(r:ja0 x u)(q:ja0 y u):x=y:=Option.some.inj (r.abs.symm.trans q.abs)
theorem jaZ.inj {xs ys:List V}{us:List Value}(h:jaZ xs us)(k:jaZ ys us):xs=ys:=by
 induction h generalizing ys with
 |nil=>cases k;rfl
 |cons r t ih=>
  cases k with
  |cons r' t'=>rw[r.inj r',ih t']
section
variable {X:Cx} {pins:List (Addr×Obj)} {σ:St} {H:Hp} {s:Shared} {a:Addr} {xs ys:List V}
theorem SqL.of {K:PySem.W.Frag}(h:H a=some (.lst xs)):SqL K H a xs:=.inl (.inl h)
theorem SqT.of {K:PySem.W.Frag}(h:H a=some (.tup xs)):SqT K H a xs:=.inl (.inl h)
theorem Inv.list (I:Inv X pins σ H s)(h:SqL X.K H a xs):∃its:List Value,jaZ xs its/\PlainL s.heap a its.toArray/\xs.length<=sizeLine:=by
 rcases h with h|⟨o,its,n,hk,hc,hd,hs,hz,r⟩
 ·obtain⟨z,its,n,r,e⟩:=h.ok I.hok
  exact⟨its,r,⟨_,n,e,rfl,rfl,rfl⟩,z⟩
 ·refine⟨its.toList,r,⟨o,n,I.kIn a o hk,hc,hd,by simpa using hs⟩,?_⟩
  have e:=r.length
  simp only[Array.length_toList]at e
  omega
theorem Inv.tuple (I:Inv X pins σ H s)(h:SqT X.K H a xs):∃its:List Value,jaZ xs its/\IsTup s.heap a its.toArray/\xs.length<=sizeLine:=by
 rcases h with h|⟨o,its,n,hk,hc,hs,hz,r⟩
 ·obtain⟨z,its,r,p⟩:=h.ok I.hok
  exact⟨its,r,p,z⟩
 ·refine⟨its.toList,r,⟨o,I.kIn a o hk,hc,n,by simpa using hs⟩,?_⟩
  have e:=r.length
  simp only[Array.length_toList]at e
  omega
theorem Inv.list_inj (I:Inv X pins σ H s)(h:SqL X.K H a xs)(h':SqL X.K H a ys):xs=ys:=by
 obtain⟨its,r,⟨o,n,e,_,_,d⟩,_⟩:=I.list h
 obtain⟨its',r',⟨o',n',e',_,_,d'⟩,_⟩:=I.list h'
 rw[e]at e';cases e'
 rw[d]at d'
 injection d' with d1 _
 have:its=its':=by simpa using congrArg Array.toList d1
 subst this
 exact r.inj r'
theorem Inv.tuple_inj (I:Inv X pins σ H s)(h:SqT X.K H a xs)(h':SqT X.K H a ys):xs=ys:=by
 obtain⟨its,r,⟨o,e,_,n,d⟩,_⟩:=I.tuple h
 obtain⟨its',r',⟨o',e',_,n',d'⟩,_⟩:=I.tuple h'
 rw[e]at e';cases e'
 rw[d]at d'
 injection d' with d1 _
 have:its=its':=by simpa using congrArg Array.toList d1
 subst this
 exact r.inj r'
end
noncomputable abbrev Cx.wish (X:Cx) (E:Value->Shared->Prop):Cx:={X with xe:=E}
noncomputable abbrev Cx.nox (X:Cx):Cx:=X.wish fun _ _=>False
theorem Cx.Ok.wish {X:Cx}(ok:X.Ok)(E:Value->Shared->Prop):(X.wish E).Ok:=
 ⟨ok.mod,ok.kind,ok.glob,ok.blt,ok.above,ok.inj,ok.has,ok.cab,ok.hd,ok.frames,ok.stk,ok.exf,ok.bs,ok.bsz,ok.noex,ok.exfs,ok.funs,ok.frf⟩
theorem Cx.Ok.unwish {X:Cx}{E:Value->Shared->Prop}(ok:(X.wish E).Ok):X.Ok:=
 ⟨ok.mod,ok.kind,ok.glob,ok.blt,ok.above,ok.inj,ok.has,ok.cab,ok.hd,ok.frames,ok.stk,ok.exf,ok.bs,ok.bsz,ok.noex,ok.exfs,ok.funs,ok.frf⟩
section
variable {X:Cx} {pins:List (Addr×Obj)} {σ:St} {H:Hp} {s:Shared} {E:Value->Shared->Prop}
theorem Inv.wish (I:Inv X pins σ H s)(E:Value->Shared->Prop):Inv (X.wish E) pins σ H s:=⟨I.ok.wish E,I.os,I.bare,I.base,I.loc,I.cell,I.free,I.freeC,I.pin,I.hok,I.len⟩
theorem Inv.unwish (I:Inv (X.wish E) pins σ H s):Inv X pins σ H s:=⟨I.ok.unwish,I.os,I.bare,I.base,I.loc,I.cell,I.free,I.freeC,I.pin,I.hok,I.len⟩
theorem SP.unwish {D:Ends}{f:Flow}{s':Shared}(h:SP (X.wish E) pins D f s'):SP X pins D f s':=by
 cases f with
 |next=>obtain⟨σ',H',I,q⟩:=h;exact⟨σ',H',I.unwish,q⟩
 |brk=>obtain⟨σ',H',I,q⟩:=h;exact⟨σ',H',I.unwish,q⟩
 |cont=>obtain⟨σ',H',I,q⟩:=h;exact⟨σ',H',I.unwish,q⟩
 |ret u=>obtain⟨v,σ',H',I,r,q⟩:=h;exact⟨v,σ',H',I.unwish,r,q⟩
theorem PSs.nox {st:List Stmt}{t:TS}(h:PSs X.nox st t):PSs X st t:=fun pins s σ H D I hw=>
 wpAny_mono (h pins s σ H D (I.wish _) hw) (fun _ _ q=>q.unwish) fun _ _ z=>False.elim z
end
section
variable {X:Cx} {st:Stmt} {rest:List Stmt} {t u:TS} {e:Expr} {te:TE} {pos:Pos}
noncomputable def juK:TS:=fun D σ H=>D.nx σ H
noncomputable def jxB (t u:TS):TS:=fun D σ H=>t {D with nx:=u D} σ H
theorem jly:PSs X [] juK:=fun _ _ σ H _ I h=>wpAny_execs_nil ⟨σ,H,I,h⟩
theorem jer (h1:PS X st t)(h2:PSs X rest u):PSs X (st::rest) (jxB t u):=by
 intro pins s σ H D I h
 refine wpAny_execs_cons (thn (h1 pins s σ H {D with nx:=u D} I h) fun f s1 q=>?_)
 cases f with
 |next=>
  obtain⟨σ',H',I',q⟩:=q
  exact h2 pins s1 σ' H' D I' q
 |ret v=>exact q
 |brk=>exact q
 |cont=>exact q
theorem jmE (h1:PS X st t):PSs X [st] t:=by
 intro pins s σ H D I h
 refine wpAny_execs_cons (thn (h1 pins s σ H D I h) fun f s1 q=>?_)
 cases f with
 |next=>exact wpAny_execs_nil q
 |ret v=>exact q
 |brk=>exact q
 |cont=>exact q
theorem jpU:PS X (.Pass pos) juK:=fun _ _ σ H _ I h=>wpAny_Pass ⟨σ,H,I,h⟩
theorem Inv.quiet {pins:List (Addr×Obj)}{σ:St}{H:Hp}{s:Shared}(I:Inv X pins σ H s):interactive X.env=false:=by simp[interactive,I.ok.kind]
noncomputable def jvU (te:TE):TS:=fun D σ H=>te σ H fun _ H1=>D.nx σ H1
theorem jiS (he:PE X e te)(hs:swapsWith e none pos.line X.env=pure false:=by rfl):PS X (.Expr e pos) (jvU te):=by
 intro pins s σ H D I h
 exact wpAny_Expr_any (thn (he pins s σ H _ I h) fun v s1 ⟨x,H1,I1,r1,q1⟩=>⟨σ,H1,I1,q1⟩) I.quiet hs
noncomputable def jxN (te:TE):TS:=fun D σ H=>te σ H D.rt
theorem jlg (he:PE X e te):PS X (.Return (some e) pos) (jxN te):=by
 intro pins s σ H D I h
 exact wpAny_Return_some (thn (he pins s σ H _ I h) fun v s1 ⟨x,H1,I1,r1,q1⟩=>⟨x,σ,H1,I1,r1,q1⟩)
noncomputable def jv3:TS:=fun D _ H=>D.rt .non H
theorem jsy:PS X (.Return none pos) jv3:=fun _ _ σ H _ I h=>wpAny_Return_none ⟨.non,σ,H,I,rfl,h⟩
noncomputable def jxU (c:TT)(t u:TS):TS:=fun D σ H=>c σ H fun b H1=>if b=true then t D σ H1 else u D σ H1
theorem ju2 {c:Expr}{a b:List Stmt}{tc:TT}(hc:PT X c tc)(ha:PSs X a t)(hb:PSs X b u):PS X (.If c a b pos) (jxU tc t u):=by
 intro pins s σ H D I h
 refine wpAny_If (thn (hc pins s σ H _ I h) fun d s1 ⟨H1,I1,q1⟩=>?_)
 cases d with
 |true=>exact ha pins s1 σ H1 D I1 q1
 |false=>exact hb pins s1 σ H1 D I1 q1
noncomputable def jtW:TS:=fun _ _ _=>False
theorem jo7:PS X st jtW:=fun _ _ _ _ _ _ h=>h.elim
end
noncomputable abbrev TG:=V->St->Hp->(St->Hp->Prop)->Prop
noncomputable abbrev TGs:=List V->St->Hp->(St->Hp->Prop)->Prop
noncomputable def PG (X:Cx)(target:Expr)(t:TG):Prop:=
 ∀(pins:List (Addr×Obj)) (s:Shared) (σ:St) (H:Hp) (v:V) (u:Value) (Q:St->Hp->Prop),Inv X pins σ H s->ja0 v u->t v σ H Q ->
  wpAny (model X.prog X.w) X.A (assign target X.env u) (fun _ s'=>∃σ' H',Inv X pins σ' H' s'/\Q σ' H') X.xe s
noncomputable def PGs (X:Cx)(ts:List Expr)(t:TGs):Prop:=
 ∀(pins:List (Addr×Obj)) (s:Shared) (σ:St) (H:Hp) (vs:List V) (us:List Value) (Q:St->Hp->Prop),Inv X pins σ H s->jaZ vs us->t vs σ H Q ->
  wpAny (model X.prog X.w) X.A (assignInOrder ((assignEach ts X.env).map (·.2)) us) (fun _ s'=>∃σ' H',Inv X pins σ' H' s'/\Q σ' H') X.xe s
section
variable {X:Cx} {pos:Pos}
noncomputable def jej (i:Nat):TG:=fun v σ H Q=>Q (σ.set i (some v)) H
theorem jlW {i:Nat}{x:Str}(hN:X.N.Nodup)(hi:X.N[i]?=some x)(hx:Loc X.env.scope x)(hf:X.fn x=true∨X.env.scope.names.lookup x=some .local:=by first|exact .inl rfl|exact .inr rfl|assumption):PG X (.Name x pos) (jej i):=by
 intro pins s σ H v u Q I r h
 exact wpAny_assign_Name (jeh I hN hi hx r (fun s' I'=>⟨_,H,I',h⟩) hf)
noncomputable def jw1:TGs:=fun vs σ H Q=>vs=[]/\Q σ H
noncomputable def jtG (t:TG)(u:TGs):TGs:=fun vs σ H Q=>∃v r,vs=v::r/\t v σ H fun σ' H'=>u r σ' H' Q
theorem jrH:PGs X [] jw1:=by
 intro pins s σ H vs us Q I r h
 obtain⟨e,h⟩:=h
 subst e
 cases r
 exact assignInOrder_nil ⟨σ,H,I,h⟩
theorem jos {e:Expr}{es:List Expr}{t:TG}{u:TGs}(h1:PG X e t)(h2:PGs X es u)
  (hs:(assignEach (e::es) X.env).map (·.2)=assign e X.env::(assignEach es X.env).map (·.2):=by rfl):PGs X (e::es) (jtG t u):=by
 intro pins s σ H vs us Q I r h
 obtain⟨v,vr,e1,h⟩:=h
 subst e1
 cases r with
 |cons r rr=>
  rw[hs]
  refine assignInOrder_cons (thn (h1 pins s σ H _ _ _ I r h) fun _ s1 ⟨σ1,H1,I1,q1⟩=>?_)
  exact h2 pins s1 σ1 H1 _ _ Q I1 rr q1
noncomputable def jxc (K:PySem.W.Frag)(n:Nat)(t:TGs):TG:=fun v σ H Q=>∃a xs,v=.ref a/\SqT K H a xs/\xs.length=n/\t xs σ H Q
theorem jvk {es:List Expr}{k:Nat}{t:TGs}{n:Nat}(hc:X.calm=true)(h:PGs X es t)
  (hn:(assignEach es X.env).length=n:=by rfl) (hst:(assignEach es X.env).findIdx? (·.1)=none:=by rfl):PG X (.Tuple es k pos) (jxc X.K n t):=by
 intro pins s σ H v u Q I r hw
 obtain⟨a,xs,e1,hq,hl,hw⟩:=hw
 subst e1
 cases r
 obtain⟨its,rv,ht,hz⟩:=I.tuple hq
 refine assign_Tuple_tuple (I.ok.hd hc) ht (by simp[hn,<- hl,rv.length]) hst fun h' hx=>?_
 have I1:Inv X pins σ H {s with heap:=h'}:=I.kept (t':=s.toks) fun b o e=>hx b o (Nat.ne_of_lt (Heap.lt_size e)) e
 exact h pins _ σ H xs _ Q I1 (by simpa using rv) hw
noncomputable def jsO (te:TE)(g:TG):TS:=fun D σ H=>te σ H fun x H1=>g x σ H1 D.nx
theorem jlv {tg e:Expr}{te:TE}{g:TG}(he:PE X e te)(hg:PG X tg g)(hs:swapsWithSole [tg] e pos.line X.env=pure false:=by rfl)(hw:swappedStores [tg] e X.env=pure none:=by rfl)
  (h1:(assignEach [tg] X.env).map (·.2)=[assign tg X.env]:=by rfl):PS X (.Assign [tg] e pos) (jsO te g):=by
 intro pins s σ H D I h
 refine wpAny_Assign_stores (thn (he pins s σ H _ I h) fun v s1 ⟨x,H1,I1,r1,q1⟩=>?_) hs hw
 rw[h1]
 exact thn (hg pins s1 σ H1 x v _ I1 r1 q1) fun _ s2 q=>q
theorem jpm {i:Nat}{x:Str}{e:Expr}{te:TE}{pos':Pos}(hN:X.N.Nodup)(hi:X.N[i]?=some x)(hx:Loc X.env.scope x)(he:PE X e te)(hs:swapsWith e (some (.Name x pos')) pos.line X.env=pure false:=by rfl)(hf:X.fn x=true∨X.env.scope.names.lookup x=some .local:=by first|exact .inl rfl|exact .inr rfl|assumption) :
  PS X (.Assign [.Name x pos'] e pos) (jsO te (jej i)):=by
 intro pins s σ H D I h
 refine wpAny_Assign_Name (thn (he pins s σ H _ I h) fun v s1 ⟨y,H1,I1,r1,q1⟩=>?_) hs
 exact jeh I1 hN hi hx r1 (fun s2 I2=>⟨_,H1,I2,q1⟩) hf
noncomputable def jxy (i j:Nat)(ta:TA):TS:=fun D σ H=>ta σ H fun vs H1=>∃v w,vs=[v,w]/\D.nx ((σ.set i (some v)).set j (some w)) H1
theorem juM {i j:Nat}{x y:Str}{a b:Expr}{ta:TA}{px py pt:Pos}{kt k2 pt2}(hc:X.calm=true)(hN:X.N.Nodup)(hi:X.N[i]?=some x)(hj:X.N[j]?=some y)(hij:i≠j)
  (hx:X.env.scope.names.lookup x=some .local) (hy:X.env.scope.names.lookup y=some .local) (ha:PA X [a,b] ta)
  (hw:swappedStores [.Tuple [.Name x px,.Name y py] kt pt] (.Tuple [a,b] k2 pt2) X.env=pure (some [x,y]))
  (hs:swapsWithSole [.Tuple [.Name x px,.Name y py] kt pt] (.Tuple [a,b] k2 pt2) pos.line X.env=pure false:=by rfl) :
  PS X (.Assign [.Tuple [.Name x px,.Name y py] kt pt] (.Tuple [a,b] k2 pt2) pos) (jxy i j ta):=by
 intro pins s σ H D I h
 rw[exec_Assign_arm]
 refine wpAny_bind (wpAny_standAt ?_)
 rw[hs]
 refine wpAny_bind (wpAny_pure ?_)
 rw[if_neg (by decide)]
 refine wpAny_bind (Tuple_ (thn (ha _ pins s σ H _ I h) fun us s1 ⟨vs,H1,I1,r1,q1⟩=>?_))
 obtain⟨v,w,e1,q1⟩:=q1
 subst e1
 obtain⟨u1,u2,rfl,rv,rw'⟩:∃u1 u2,us=[u1,u2]/\ja0 v u1/\ja0 w u2:=by
  cases r1 with
  |cons p q=>
   cases q with
   |cons p' q'=>
    cases q'
    exact⟨_,_,rfl,p,p'⟩
 refine wpAny_newObj_type ?_ (by show 2<=sizeLine;decide)
 have I2:Inv X pins σ H1 {s1 with heap:=s1.heap.push {cls:=.type "tuple",data:=.seq [u1,u2].toArray}}:=I1.kept (t':=s1.toks) fun b o e=>Heap.get?_push_of_some _ e
 rw[hw]
 refine wpAny_bind (wpAny_pure ?_)
 show wpAny (model X.prog X.w) X.A (do rule "assign.swapped-stores";let items <- unpackItems (.ref s1.heap.objs.size) 2 none;assignInOrder [fun v=>bindName X.env y v,fun v=>bindName X.env x v] items.reverse;pure Flow.next) _ _ _
 refine wpAny_bind (wpAny_rule (wpAny_bind (unpackItems_tuple (items:=#[u1,u2]) (I.ok.hd hc) (IsTup.new s1.heap _) fun h' hx'=>?_)))
 have I3:=I2.kept (h':=h') (t':=s1.toks) fun b o e=>hx' b o (Nat.ne_of_lt (Heap.lt_size e)) e
 show wpAny _ _ (assignInOrder [fun v=>bindName X.env y v,fun v=>bindName X.env x v] [u2,u1] >>=fun _=>pure Flow.next) _ _ _
 refine wpAny_bind (assignInOrder_cons (wpAny_bindName (jeh I3 hN hj (.inl hy) rw' (fun s2 I4=>?_) (.inr hy))))
 refine assignInOrder_cons (wpAny_bindName (jeh I4 hN hi (.inl hx) rv (fun s3 I5=>assignInOrder_nil (wpAny_pure ?_)) (.inr hx)))
 rw[List.set_comm _ _ (Ne.symm hij)]at I5
 exact⟨_,H1,I5,q1⟩
end
section
variable {X:Cx} {pos:Pos}
end
structure It where
 go:Nat->Hp->Prop
 yld:Nat->Hp->V->Hp->Prop
 stop:Nat->Hp->Prop
noncomputable def jm8 (X:Cx)(pins:List (Addr×Obj))(H:Hp)(b:Addr):Prop:=
 H b=none/\b≠X.env.locals/\b∉X.fs/\(b∈X.ex∨X.s₀.heap.objs.size<=b)/\(∀x c,X.env.cells.lookup x=some c->c≠b)/\∀p∈X.pn++pins,p.1≠b
theorem Inv.fpOk {X:Cx}{pins:List (Addr×Obj)}{σ:St}{H H':Hp}{s:Shared}{b:Addr}(I:Inv X pins σ H s)(hb:s.heap.objs.size<=b)(hn:H' b=none):jm8 X pins H' b:=by
 refine⟨hn,Nat.ne_of_gt (Nat.lt_of_lt_of_le I.lt hb),I.nofs hb,.inr (Nat.le_trans I.sz hb),fun x c e z=>?_,fun p hp z=>?_⟩
 ·obtain⟨v,q⟩:=I.cell x c e
  exact absurd (Nat.lt_of_lt_of_le q.lt (by rw[z];exact hb)) (Nat.lt_irrefl _)
 ·exact absurd (Nat.lt_of_lt_of_le (Heap.lt_size (I.pin p hp).1) (by rw[z];exact hb)) (Nat.lt_irrefl _)
structure Turn (P:Program) (w:World) (K:PySem.W.Frag) (tg:Expr) (J:It) (fp:List Addr) (it:Addr) (tn:Nat->Heap->Prop):Prop where
 mem:it∈fp
 obj:∀i h,tn i h->∀b∈fp,∃o,h.get? b=some o/\∀v,o.data≠.cell v
 keep:∀i h h',tn i h->(∀b∈fp,∀o,h.get? b=some o->h'.get? b=some o)->tn i h'
 item:∀(X:Cx),X.prog=P->X.w=w->X.K=K->X.calm=true->∀(i:Nat) (pins:List (Addr×Obj)) (s:Shared) (σ:St) (H:Hp) (E:Value->Shared->Prop),Inv X pins σ H s->(∀b∈fp,jm8 X pins H b)->tn i s.heap->J.go i H ->
  wpAny (model P w) X.A (pyNext (.ref it)) (fun r s1=>∃u,r=some u /\
   wpAny (model P w) X.A (letOwnedTupleGo tg (.ref it) u) (fun _ s2=>∃x H',Inv X pins σ H' s2/\ja0 x u/\J.yld i H x H'/\tn (i+1) s2.heap/\∀b∈fp,H' b=none) E s1) E s
 done:∀(X:Cx),X.prog=P->X.w=w->X.K=K->X.calm=true->∀(i:Nat) (pins:List (Addr×Obj)) (s:Shared) (σ:St) (H:Hp) (E:Value->Shared->Prop),Inv X pins σ H s->(∀b∈fp,jm8 X pins H b)->tn i s.heap->J.stop i H ->
  wpAny (model P w) X.A (pyNext (.ref it)) (fun r s1=>r=none/\Inv X pins σ H s1) E s
 self:∀(A:Around) (i:Nat) (s:Shared) (Q:Value->Shared->Prop) (E:Value->Shared->Prop),tn i s.heap->Q (.ref it) s->wpAny (model P w) A (pyIter (.ref it)) Q E s
noncomputable abbrev TI:=St->Hp->(It->Hp->Prop)->Prop
noncomputable def PIE (X:Cx)(pins:List (Addr×Obj))(σ:St)(tg:Expr)(R:It->Hp->Prop)(itv:Value)(s2:Shared):Prop:=
 ∃(it:Addr) (fp:List Addr) (tn:Nat->Heap->Prop) (J:It) (H':Hp),itv=.ref it/\Inv X pins σ H' s2/\Turn X.prog X.w X.K tg J fp it tn/\tn 0 s2.heap/\(∀b∈fp,jm8 X pins H' b)/\R J H'
noncomputable def PI (X:Cx)(tg iter:Expr)(wi:TI):Prop:=
 ∀(pins:List (Addr×Obj)) (s:Shared) (σ:St) (H:Hp) (R:It->Hp->Prop),Inv X pins σ H s->wi σ H R ->
  wpAny (model X.prog X.w) X.A (eval iter X.env) (fun v s1=>wpAny (model X.prog X.w) X.A (pyIter v) (PIE X pins σ tg R) X.xe s1) X.xe s
theorem jpa {M:Model}{A:Around}{E:Value->Shared->Prop}{s:Shared}{tg:Expr}{it:Addr}{u:Value}{o:Obj}{n:String}{vs:Array Value}{Q:Unit->Shared->Prop}(ho:s.heap.get? it=some o)(hc:o.cls=.type n)(hd:o.data=.fields vs)
  (hn:["enumerate","zip","dict_itemiterator","dict_reverseitemiterator","odict_iterator","itertools.zip_longest","itertools.pairwise"].contains n=false) (hQ:Q () s):wpAny M A (letOwnedTupleGo tg (.ref it) u) Q E s:=by
 unfold letOwnedTupleGo
 cases tg<;>first
  |exact wpAny_pure hQ
  |(cases u<;>first
    |exact wpAny_pure hQ
    |(refine wpAny_bind (wpAny_load ho ?_)
      rw[hc,hd]
      show wpAny M A (if(["enumerate","zip","dict_itemiterator","dict_reverseitemiterator","odict_iterator","itertools.zip_longest","itertools.pairwise"].contains n&&vs[0]?==some (rawInt _))=true then _ else _) Q E s
      rw[if_neg (by intro h;rw[hn,Bool.false_and]at h;cases h)]
      exact wpAny_pure hQ))
noncomputable def Itl (K:PySem.W.Frag)(a:Addr):It:=
 ⟨fun i H=>∃xs x,SqL K H a xs/\xs[i]?=some x,fun i H x H'=>H'=H/\∀xs,SqL K H a xs->xs[i]?=some x,fun i H=>∃xs,SqL K H a xs/\xs.length<=i⟩
noncomputable def Itt (K:PySem.W.Frag)(a:Addr):It:=
 ⟨fun i H=>∃xs x,SqT K H a xs/\xs[i]?=some x,fun i H x H'=>H'=H/\∀xs,SqT K H a xs->xs[i]?=some x,fun i H=>∃xs,SqT K H a xs/\xs.length<=i⟩
noncomputable def Itr (lo:Int)(n:Nat):It:=⟨fun i _=>i<n,fun i H x H'=>H'=H/\x=.int (lo+i),fun i _=>n<=i⟩
theorem jl {P:Program}{w:World}{K:PySem.W.Frag}{tg:Expr}(a it:Addr):Turn P w K tg (Itl K a) [it] it (fun i h=>h.IsListIter it a i) where
 mem:=by simp
 obj:=fun i h st b hb=>by
  have e:b=it:=by simpa using hb
  subst e
  obtain⟨o,e,c,d⟩:=st
  exact⟨o,e,fun v z=>by rw[d]at z;cases z⟩
 keep:=fun i h h' st k=>st.at fun o e=>k it (by simp) o e
 item:=by
  intro X hP hw hK hc i pins s σ H E I hf st hg
  subst hP hw hK
  obtain⟨xs,x,hq,hx⟩:=hg
  obtain⟨its,rv,p,hz⟩:=I.list hq
  obtain⟨u,hu,ru⟩:=rv.get hx
  obtain⟨f0,f1,f2,f3,f4,f5⟩:=hf it (by simp)
  refine wpAny_pyNext_list_item st p.isList (x:=u) (by simpa using hu) fun h' st' sb=>?_
  have I1:Inv X pins σ H {s with heap:=h'}:=I.turned (t':=s.toks) (fun b o hb e=>(sb.2 b hb).trans e) f0 f1 f3 f4 f5
  obtain⟨o,e,c,d⟩:=id st'
  exact⟨u,rfl,jpa (s:={s with heap:=h'}) e c d (by decide) ⟨x,H,I1,ru,⟨rfl,fun ys hy=>by rw[I.list_inj hy hq];exact hx⟩,st',fun b hb=>(hf b hb).1⟩⟩
 done:=by
  intro X hP hw hK hc i pins s σ H E I hf st hg
  subst hP hw hK
  obtain⟨xs,hq,hx⟩:=hg
  obtain⟨its,rv,p,hz⟩:=I.list hq
  obtain⟨f0,f1,f2,f3,f4,f5⟩:=hf it (by simp)
  have hl:=rv.length
  exact wpAny_pyNext_list_end (I.ok.hd hc) st p.isList (by simp;omega) fun h' eb=>⟨rfl,I.turned (t':=s.toks) (fun b o hb e=>eb b o hb e) f0 f1 f3 f4 f5⟩
 self:=fun _ _ _ _ _ st h=>wpAny_pyIter_listiter st h
theorem jkx {P:Program}{w:World}{K:PySem.W.Frag}{tg:Expr}(a it:Addr):Turn P w K tg (Itt K a) [it] it (fun i h=>h.IsTupleIter it a i) where
 mem:=by simp
 obj:=fun i h st b hb=>by
  have e:b=it:=by simpa using hb
  subst e
  obtain⟨o,e,c,d⟩:=st
  exact⟨o,e,fun v z=>by rw[d]at z;cases z⟩
 keep:=fun i h h' st k=>st.at fun o e=>k it (by simp) o e
 item:=by
  intro X hP hw hK hc i pins s σ H E I hf st hg
  subst hP hw hK
  obtain⟨xs,x,hq,hx⟩:=hg
  obtain⟨its,rv,p,hz⟩:=I.tuple hq
  obtain⟨u,hu,ru⟩:=rv.get hx
  obtain⟨f0,f1,f2,f3,f4,f5⟩:=hf it (by simp)
  refine wpAny_pyNext_tuple_item st (show s.heap.IsTuple a its.toArray from p) (x:=u) (by simpa using hu) fun h' st' sb=>?_
  have I1:Inv X pins σ H {s with heap:=h'}:=I.turned (t':=s.toks) (fun b o hb e=>(sb.2 b hb).trans e) f0 f1 f3 f4 f5
  obtain⟨o,e,c,d⟩:=id st'
  exact⟨u,rfl,jpa (s:={s with heap:=h'}) e c d (by decide) ⟨x,H,I1,ru,⟨rfl,fun ys hy=>by rw[I.tuple_inj hy hq];exact hx⟩,st',fun b hb=>(hf b hb).1⟩⟩
 done:=by
  intro X hP hw hK hc i pins s σ H E I hf st hg
  subst hP hw hK
  obtain⟨xs,hq,hx⟩:=hg
  obtain⟨its,rv,p,hz⟩:=I.tuple hq
  obtain⟨f0,f1,f2,f3,f4,f5⟩:=hf it (by simp)
  have hl:=rv.length
  exact wpAny_pyNext_tuple_end (I.ok.hd hc) st (show s.heap.IsTuple a its.toArray from p) (by simp;omega) fun h' eb=>⟨rfl,I.turned (t':=s.toks) (fun b o hb e=>eb b o hb e) f0 f1 f3 f4 f5⟩
 self:=fun _ _ _ _ _ st h=>wpAny_pyIter_tupleiter st h
theorem jkI {P:Program}{w:World}{K:PySem.W.Frag}{tg:Expr}(it:Addr)(lo:Int)(n:Nat):Turn P w K tg (Itr lo n) [it] it (fun i h=>IsRangeIter h it (lo+(i:Nat)*1) ((n:Int) - (i:Nat)) 1) where
 mem:=by simp
 obj:=fun i h st b hb=>by
  have e:b=it:=by simpa using hb
  subst e
  exact⟨_,st,fun v z=>by
   have z':Data.fields _=Data.cell v:=z
   cases z'⟩
 keep:=fun i h h' st k=>k it (by simp) _ st
 item:=by
  intro X hP hw hK hc i pins s σ H E I hf st hg
  subst hP hw hK
  obtain⟨f0,f1,f2,f3,f4,f5⟩:=hf it (by simp)
  have W:=Walks.range (prog:=X.prog) (w:=X.w) (I.ok.hd hc) it lo 1 n
  refine W.item i s _ _ hg st fun v h' tk hv st' kk=>?_
  obtain⟨t,rfl⟩:=hv
  have I1:Inv X pins σ H {s with heap:=h',toks:=tk}:=I.turned (fun b o hb e=>kk b o (by simpa using hb) e) f0 f1 f3 f4 f5
  refine⟨_,rfl,jpa (s:={s with heap:=h',toks:=tk}) (n:="range_iterator") st' rfl rfl (by decide) ⟨.int (lo+i),H,I1,⟨t,?_⟩,⟨rfl,rfl⟩,st',fun b hb=>(hf b hb).1⟩⟩
  rw[Int.mul_one]
 done:=by
  intro X hP hw hK hc i pins s σ H E I hf st hg
  subst hP hw hK
  obtain⟨f0,f1,f2,f3,f4,f5⟩:=hf it (by simp)
  exact wpAny_pyNext_range_end (I.ok.hd hc) st (by have:n<=i:=hg;omega) fun h' eb=>⟨rfl,I.turned (t':=s.toks) (fun b o hb e=>eb b o hb e) f0 f1 f3 f4 f5⟩
 self:=fun _ _ _ _ _ st h=>wpAny_pyIter_rangeiter st h
end _L2
namespace _L2
open PySem PySem.Spec PyProof.Rows
section
variable {X:Cx} {tg:Expr}
theorem jjl {pins:List (Addr×Obj)}{σ:St}{H:Hp}{s:Shared}{R:It->Hp->Prop}{E:Value->Shared->Prop}{lo hi:Int}{t u v:Tok}{tk:Nat}(I:Inv X pins σ H s)(h1 : -(2 ^ 62)<=lo)(h2:lo<2 ^ 62)(h3 : -(2 ^ 62)<=hi)(h4:hi<2 ^ 62)
  (q:R (Itr lo (hi - lo).toNat) H):wpAny (model X.prog X.w) X.A (pyIter (.ref s.heap.objs.size)) (PIE X pins σ tg R) E {s with heap:=s.heap.push {cls:=.type "range",data:=.fields #[.int lo t,.int hi u,.int 1 v]},toks:=tk}:=by
 refine wpAny_pyIter_range (IsRange.new ..) (small_one h1 h2 h3 h4) ?_
 have I1:Inv X pins σ H {s with heap:=s.heap.push {cls:=.type "range",data:=.fields #[.int lo t,.int hi u,.int 1 v]},toks:=tk}:=I.kept fun b o e=>Heap.get?_push_of_some _ e
 refine⟨(s.heap.push {cls:=.type "range",data:=.fields #[.int lo t,.int hi u,.int 1 v]}).objs.size,[(s.heap.push {cls:=.type "range",data:=.fields #[.int lo t,.int hi u,.int 1 v]}).objs.size],_,_,H,rfl,
  I1.kept (t':=tk) fun b o e=>Heap.get?_push_of_some _ e,jkI _ lo (hi - lo).toNat,?_,fun b hb=>?_,q⟩
 ·have e1:lo+((0:Nat):Int)*1=lo:=by simp
  have e2:(((hi - lo).toNat:Nat):Int) - ((0:Nat):Int)=Builtin.Range.rangeSize lo hi 1:=by rw[rangeSize_one];split<;>omega
  show IsRangeIter _ _ (lo+((0:Nat):Int)*1) ((((hi - lo).toNat:Nat):Int) - ((0:Nat):Int)) 1
  rw[e1,e2]
  exact Heap.get?_push_size _ rfl
 ·have e:b=(s.heap.push {cls:=.type "range",data:=.fields #[.int lo t,.int hi u,.int 1 v]}).objs.size:=by simpa using hb
  subst e
  exact I1.fpOk (Nat.le_refl _) (I1.hok.fresh (Nat.le_refl _))
noncomputable def jtu (ta:TA):TI:=fun σ H R=>ta σ H fun vs H1=>∃j:Int,vs=[.int j]/\-(2 ^ 62)<=j/\j<2 ^ 62/\R (Itr 0 j.toNat) H1
noncomputable def juB (ta:TA):TI:=fun σ H R=>ta σ H fun vs H1=>∃i j:Int,vs=[.int i,.int j]/\(-(2 ^ 62)<=i/\i<2 ^ 62/\-(2 ^ 62)<=j/\j<2 ^ 62)/\R (Itr i (j - i).toNat) H1
theorem jmO {a:Expr} {ta:TA} {p pos:Pos} (hg:Gl X "range") (hm:X.mg "range" =none) (ha:PA X [a] ta) (hs:starEach [a] X.env=[(false,eval a X.env)]:=by rfl):PI X tg (.Call (.Name "range" p) [a] [] pos) (jtu ta):=by
 intro pins s σ H R I h
 refine Call_ (jfQ I hg hm boot_range (PyProof.Rows.callWith_type1 (thn (ha pos pins s σ H _ I h) fun us s1 ⟨vs,H1,I1,r1,q1⟩=>?_) hs rfl))
 obtain⟨j,e,q1,q2,q⟩:=q1
 subst e
 cases r1 with
 |cons r rr=>
  cases rr
  obtain⟨t,rfl⟩:=r
  exact call_range_1 (jjl I1 (by omega) (by omega) q1 q2 (by simpa using q))
theorem jlI {a b:Expr} {ta:TA} {p pos:Pos} (hg:Gl X "range") (hm:X.mg "range" =none) (ha:PA X [a,b] ta) (hs:starEach [a,b] X.env=[(false,eval a X.env),(false,eval b X.env)]:=by rfl) (hs2:starEach [b] X.env=[(false,eval b X.env)]:=by rfl) :
  PI X tg (.Call (.Name "range" p) [a,b] [] pos) (juB ta):=by
 intro pins s σ H R I h
 refine Call_ (jfQ I hg hm boot_range (PyProof.Rows.callWith_type1 (thn (ha pos pins s σ H _ I h) fun us s1 ⟨vs,H1,I1,r1,q1⟩=>?_) (by rw[hs,hs2]) (by rw[hs2];rfl)))
 obtain⟨i,j,e,⟨q1,q2,q3,q4⟩,q⟩:=q1
 subst e
 cases r1 with
 |cons r rr=>
  cases rr with
  |cons r' rr=>
   cases rr
   obtain⟨t,rfl⟩:=r
   obtain⟨t',rfl⟩:=r'
   exact call_range_2 (jjl I1 q1 q2 q3 q4 q)
noncomputable def jxS (wi:TI)(g:TG)(tb:TS):TS:=fun D σ H=>wi σ H fun J H1=>∃W:Nat->Nat->St->Hp->Prop,(∃m,W 0 m σ H1)/\∀i m σ H,W i m σ H ->
 (J.stop i H/\D.nx σ H)∨(J.go i H/\∃N:St->Hp->Prop,(∀σ' H',N σ' H'->∃m',m'<m/\W (i+1) m' σ' H')/\∀x H',J.yld i H x H'->g x σ H' fun σ2 H2=>tb {D with nx:=N,ct:=N,bk:=D.nx} σ2 H2)
noncomputable def jh7 (fp:List Addr)(h:Heap):List (Addr×Obj):=fp.filterMap fun b=>(h.get? b).map fun o=>(b,o)
theorem jdI {fp:List Addr}{h:Heap}{b:Addr}{o:Obj}(hb:b∈fp)(e:h.get? b=some o):(b,o)∈jh7 fp h:=List.mem_filterMap.mpr ⟨b,hb,by rw[e];rfl⟩
theorem jmp {fp:List Addr}{h:Heap}{p:Addr×Obj}(hp:p∈jh7 fp h):p.1∈fp/\h.get? p.1=some p.2:=by
 obtain⟨b,hb,e⟩:=List.mem_filterMap.mp hp
 cases q:h.get? b with
 |none=>rw[q]at e;cases e
 |some o=>
  rw[q]at e
  have e':(b,o)=p:=Option.some.inj e
  subst e'
  exact⟨hb,q⟩
theorem Inv.pinned {pins:List (Addr×Obj)}{σ:St}{H:Hp}{s:Shared}{fp:List Addr}(I:Inv X pins σ H s)(hf:∀b∈fp,jm8 X pins H b)(ho:∀b∈fp,∃o,s.heap.get? b=some o/\∀v,o.data≠.cell v):Inv X (pins++jh7 fp s.heap) σ H s:=
 I.pins_of fun p hp=>(List.mem_append.mp hp).elim (fun z=>I.pin p (List.mem_append_right _ z)) fun z=>by
  obtain⟨hb,e⟩:=jmp z
  obtain⟨f0,f1,f2,_⟩:=hf p.1 hb
  obtain⟨o,e',d⟩:=ho p.1 hb
  rw[e]at e';cases e'
  exact⟨e,f0,f1,f2,d⟩
theorem Inv.unpinned {pins pl:List (Addr×Obj)}{σ:St}{H:Hp}{s:Shared}(I:Inv X (pins++pl) σ H s):Inv X pins σ H s:=I.pins_of fun p hp=>I.pin p (List.mem_append_right _ (List.mem_append_left _ hp))
theorem jpx {iter:Expr}{body:List Stmt}{wi:TI}{g:TG}{tb:TS}{pos:Pos}(hp:PassesOwn (model X.prog X.w) X.A X.env X.xe)(hc:X.calm=true)(hi:PI X tg iter wi)(hg:PG X tg g)(hb:PSs X body tb)
  (hs:∀x,foldedSetIterable iter X.env x=pure x:=by intro _;rfl):PS X (.For tg iter body [] pos) (jxS wi g tb):=by
 intro pins s σ H D I h
 refine wpAny_For (thn (hi pins s σ H _ I h) fun v s1 h1=>thn h1 fun itv s2 h2=>?_) hs
 obtain⟨it,fp,tn,J,H2,e,I2,T,st2,f2,W,⟨m0,w0⟩,turn⟩:=h2
 subst e
 have stat:∀{H':Hp},(∀b∈fp,H' b=none)->∀b∈fp,jm8 X pins H' b:=fun hn b hb=>⟨hn b hb,(f2 b hb).2⟩
 refine codeAny_forLoop_any (fun n s'=>∃i σ' H',Inv X pins σ' H' s'/\tn i s'.heap/\(∀b∈fp,H' b=none)/\W i n σ' H') ?_ m0 ⟨0,σ,H2,I2,st2,fun b hb=>(f2 b hb).1,w0⟩
 rintro n s3 ⟨i,σ3,H3,I3,st3,fr3,w3⟩
 rcases turn i n σ3 H3 w3 with⟨stop,qn⟩|⟨go,N,hN,step⟩
 ·refine wpAny_passesOwn hp (thn (T.done X rfl rfl rfl hc i pins s3 σ3 H3 X.xe I3 (stat fr3) st3 stop) fun r s4 ⟨hr,I4⟩=>?_)
  subst hr
  exact wpAny_execs_nil ⟨σ3,H3,I4,qn⟩
 ·refine wpAny_passesOwn hp (thn (T.item X rfl rfl rfl hc i pins s3 σ3 H3 X.xe I3 (stat fr3) st3 go) fun r s4 ⟨u,hr,h4⟩=>?_)
  subst hr
  refine wpAny_passesOwn hp (thn h4 fun _ s5 ⟨x,H5,I5,r5,y5,st5,fr5⟩=>?_)
  have I5':=I5.pinned (stat fr5) (T.obj _ _ st5)
  refine wpAny_passesOwn hp (thn (hg _ s5 σ3 H5 x u _ I5' r5 (step x H5 y5)) fun _ s6 ⟨σ6,H6,I6,q6⟩=>?_)
  refine wpAny_passesOwn hp (thn (hb _ s6 σ6 H6 _ I6 q6) fun f s7 q7=>?_)
  have again:∀{σ7:St} {H7:Hp},Inv X (pins++jh7 fp s5.heap) σ7 H7 s7->N σ7 H7->∃m,m<n/\∃i σ' H',Inv X pins σ' H' s7/\tn i s7.heap/\(∀b∈fp,H' b=none)/\W i m σ' H':=fun {σ7 H7} I7 n7=>by
   obtain⟨m',hm,w7⟩:=hN σ7 H7 n7
   refine⟨m',hm,i+1,σ7,H7,I7.unpinned,T.keep _ _ _ st5 fun b hb o e=>(I7.pin (b,o) (List.mem_append_right _ (List.mem_append_right _ (jdI hb e)))).1,fun b hb=>?_,w7⟩
   obtain⟨o,e,d⟩:=T.obj _ _ st5 b hb
   exact(I7.pin (b,o) (List.mem_append_right _ (List.mem_append_right _ (jdI hb e)))).2.1
  cases f with
  |next=>obtain⟨σ7,H7,I7,n7⟩:=q7;exact again I7 n7
  |cont=>obtain⟨σ7,H7,I7,n7⟩:=q7;exact again I7 n7
  |brk=>obtain⟨σ7,H7,I7,q7⟩:=q7;exact⟨σ7,H7,I7.unpinned,q7⟩
  |ret v=>obtain⟨x7,σ7,H7,I7,r7,q7⟩:=q7;exact⟨x7,σ7,H7,I7.unpinned,r7,q7⟩
end
end _L2
namespace _L2
open PySem PySem.Spec PyProof.Rows
noncomputable abbrev R2:=V->V->Hp->VK->Prop
noncomputable def OpR (X:Cx)(f:Value->Value->Sem Value)(r:R2):Prop:=
 ∀(pins:List (Addr×Obj)) (s:Shared) (σ:St) (H:Hp) (x y:V) (v u:Value) (Q:VK),Inv X pins σ H s->ja0 x v->ja0 y u->r x y H Q ->
  wpAny (model X.prog X.w) X.A (f v u) (EP X pins σ Q) X.xe s
noncomputable def UnR (X:Cx)(f:Value->Sem Value)(r:V->Hp->VK->Prop):Prop:=
 ∀(pins:List (Addr×Obj)) (s:Shared) (σ:St) (H:Hp) (x:V) (v:Value) (Q:VK),Inv X pins σ H s->ja0 x v->r x H Q ->
  wpAny (model X.prog X.w) X.A (f v) (EP X pins σ Q) X.xe s
noncomputable def jbR (X:Cx)(f:Value)(r:List V->Hp->VK->Prop):Prop:=
 ∀(pins:List (Addr×Obj)) (s:Shared) (σ:St) (H:Hp) (xs:List V) (us:List Value) (Q:VK),Inv X pins σ H s->jaZ xs us->r xs H Q ->
  wpAny (model X.prog X.w) X.A (call f us) (EP X pins σ Q) X.xe s
noncomputable def jxV (X:Cx)(r:V->Hp->(Bool->Hp->Prop)->Prop):Prop:=
 ∀(pins:List (Addr×Obj)) (s:Shared) (σ:St) (H:Hp) (x:V) (v:Value) (Q:Bool->Hp->Prop),Inv X pins σ H s->ja0 x v->r x H Q ->
  wpAny (model X.prog X.w) X.A (truthy v) (TP X pins σ Q) X.xe s
noncomputable def tOp (r:R2)(ta tb:TE):TE:=fun σ H Q=>ta σ H fun x H1=>tb σ H1 fun y H2=>r x y H2 Q
noncomputable def tUn (r:V->Hp->VK->Prop)(ta:TE):TE:=fun σ H Q=>ta σ H fun x H1=>r x H1 Q
noncomputable def rI (C:Int->Int->Prop)(g:Int->Int->V):R2:=fun x y H Q=>∃i j,x=.int i/\y=.int j/\C i j/\Q (g i j) H
noncomputable def rI0 (g:Int->Int->V):R2:=fun x y H Q=>∃i j,x=.int i/\y=.int j/\Q (g i j) H
noncomputable def rU (g:Int->V):V->Hp->VK->Prop:=fun x H Q=>∃i,x=.int i/\Q (g i) H
section
variable {X:Cx} {a b c:Expr} {ta tb tc:TE} {pos:Pos}
theorem jwW (ha:PE X a ta)(hb:PE X b tb){pins:List (Addr×Obj)}{s:Shared}{σ:St}{H:Hp}{R:V->V->Hp->Prop}(I:Inv X pins σ H s)
  (h:ta σ H fun x H1=>tb σ H1 fun y H2=>R x y H2) {Q:Value->Shared->Prop} {f:Value->Value->Sem Value}
  (hf:∀v u s2 x y H2,Inv X pins σ H2 s2->ja0 x v->ja0 y u->R x y H2->wpAny (model X.prog X.w) X.A (f v u) Q X.xe s2) :
  wpAny (model X.prog X.w) X.A (eval a X.env) (fun v s₁=>wpAny (model X.prog X.w) X.A (eval b X.env) (fun u s₂=>wpAny (model X.prog X.w) X.A (f v u) Q X.xe s₂) X.xe s₁) X.xe s:=by
 refine thn (ha pins s σ H _ I h) fun v s1 ⟨x,H1,I1,r1,q1⟩=>?_
 refine thn (hb pins s1 σ H1 _ I1 q1) fun u s2 ⟨y,H2,I2,r2,q2⟩=>?_
 exact hf v u s2 x y H2 I2 r1 r2 q2
theorem jwr {op:Operator}{r:R2}(ho:OpR X (binaryOp op) r)(ha:PE X a ta)(hb:PE X b tb):PE X (.BinOp a op b pos) (tOp r ta tb):=by
 intro pins s σ H Q I h
 exact wpAny_BinOp (jwW ha hb I h fun v u s2 x y H2 I2 rx ry q=>ho pins s2 σ H2 x y v u Q I2 rx ry q)
theorem jwQ {op:UnaryOp}{r:V->Hp->VK->Prop}(ho:UnR X (unaryOp op) r)(ha:PE X a ta):PE X (.UnaryOp op a pos) (tUn r ta):=by
 intro pins s σ H Q I h
 exact UnaryOp_ (thn (ha pins s σ H _ I h) fun v s1 ⟨x,H1,I1,r1,q1⟩=>ho pins s1 σ H1 x v Q I1 r1 q1)
theorem opI {f:Value->Value->Sem Value}{C:Int->Int->Prop}{g:Int->Int->Int}
  (rule:∀(i j:Int) (t u:Tok) (s:Shared) (Q:Value->Shared->Prop) (E:Value->Shared->Prop),C i j->Q (.int (g i j) s.toks) {s with toks:=s.toks+1}->wpAny (model X.prog X.w) X.A (f (.int i t) (.int j u)) Q E s) :
  OpR X f (rI C fun i j=>.int (g i j)):=by
 intro pins s σ H x y v u Q I rx ry h
 obtain⟨i,j,rfl,rfl,hc,q⟩:=h
 obtain⟨t,rfl⟩:=rx
 obtain⟨t',rfl⟩:=ry
 exact rule i j t t' s _ _ hc ⟨.int (g i j),H,I.tok _,⟨_,rfl⟩,q⟩
theorem jxi {f:Value->Value->Sem Value}{g:Int->Int->Int}
  (rule:∀(i j:Int) (t u:Tok) (s:Shared) (Q:Value->Shared->Prop) (E:Value->Shared->Prop),Q (.int (g i j) s.toks) {s with toks:=s.toks+1}->wpAny (model X.prog X.w) X.A (f (.int i t) (.int j u)) Q E s) :
  OpR X f (rI0 fun i j=>.int (g i j)):=by
 intro pins s σ H x y v u Q I rx ry h
 obtain⟨i,j,rfl,rfl,q⟩:=h
 obtain⟨t,rfl⟩:=rx
 obtain⟨t',rfl⟩:=ry
 exact rule i j t t' s _ _ ⟨.int (g i j),H,I.tok _,⟨_,rfl⟩,q⟩
theorem jvG {f:Value->Value->Sem Value}{g:Int->Int->Bool}
  (rule:∀(i j:Int) (t u:Tok) (s:Shared) (Q:Value->Shared->Prop) (E:Value->Shared->Prop),Q (.bool (g i j)) s->wpAny (model X.prog X.w) X.A (f (.int i t) (.int j u)) Q E s) :
  OpR X f (rI0 fun i j=>.bl (g i j)):=by
 intro pins s σ H x y v u Q I rx ry h
 obtain⟨i,j,rfl,rfl,q⟩:=h
 obtain⟨t,rfl⟩:=rx
 obtain⟨t',rfl⟩:=ry
 exact rule i j t t' s _ _ ⟨.bl (g i j),H,I,rfl,q⟩
noncomputable def jxT (i j:Int):Prop:=0<=j/\j<=1000000/\i.natAbs<2 ^ 64
noncomputable def jvJ (i j:Int):Prop:=(-(2 ^ 64)<i/\i<2 ^ 64)∨(-(2 ^ 64)<j/\j<2 ^ 64)
theorem jvJ.ok {i j:Int}(h:jvJ i j):IntMulOk i j:=by
 rcases h with⟨h1,h2⟩|⟨h1,h2⟩
 ·exact .of_left (intBits_le_64 h1 h2)
 ·exact .of_right (intBits_le_64 h1 h2)
theorem jvf:OpR X (binaryOp .Add) (rI0 fun i j=>.int (i+j)):=jxi fun _ _ _ _ _ _ _ q=>add_int q
theorem juC:OpR X (binaryOp .Sub) (rI0 fun i j=>.int (i - j)):=jxi fun _ _ _ _ _ _ _ q=>sub_int q
theorem jtC:OpR X (binaryOp .Mult) (rI jvJ fun i j=>.int (i*j)):=opI fun _ _ _ _ _ _ _ hc q=>mul_int q hc.ok
theorem jtr:OpR X (binaryOp .Mod) (rI (fun _ j=>0<j) fun i j=>.int (i % j)):=opI fun i j _ _ _ _ _ hc q=>by
 have h1:(0:Int)<j:=hc
 exact mod_int' (by omega) (by rw[Int.fmod_eq_emod_of_nonneg i (by omega)];exact q)
theorem jue:OpR X (binaryOp .Pow) (rI jxT fun i j=>.int (i ^ j.toNat)):=opI fun _ _ _ _ _ _ _ hc q=>pow_int_small hc.1 hc.2.1 hc.2.2 q
theorem unI {f:Value->Sem Value}{g:Int->Int}
  (rule:∀(i:Int) (t:Tok) (s:Shared) (Q:Value->Shared->Prop) (E:Value->Shared->Prop),Q (.int (g i) s.toks) {s with toks:=s.toks+1}->wpAny (model X.prog X.w) X.A (f (.int i t)) Q E s) :
  UnR X f (rU fun i=>.int (g i)):=by
 intro pins s σ H x v Q I rx h
 obtain⟨i,rfl,q⟩:=h
 obtain⟨t,rfl⟩:=rx
 exact rule i t s _ _ ⟨.int (g i),H,I.tok _,⟨_,rfl⟩,q⟩
theorem juQ:UnR X (unaryOp .USub) (rU fun i=>.int (-i)):=unI fun _ _ _ _ _ q=>neg_int q
end
noncomputable def jvA:V->V->Bool
 |.non,.non=>true|.non,.int _=>true|.int _,.non=>true|.non,.bl _=>true|.bl _,.non=>true|.non,.str _=>true|.str _,.non=>true
 |.int _,.int _=>true|.bl _,.bl _=>true|.str _,.str _=>true|.byt _,.byt _=>true
 |.int _,.str _=>true|.str _,.int _=>true|.bl _,.str _=>true|.str _,.bl _=>true
 |_,_=>false
noncomputable def rEq:R2:=fun x y H Q=>jvA x y=true/\Q (.bl (decide (x=y))) H
noncomputable def rNe:R2:=fun x y H Q=>jvA x y=true/\Q (.bl (!decide (x=y))) H
theorem jmw {i j:Int}:decide (V.int i=V.int j)=(i==j):=by
 rw[Bool.eq_iff_iff]
 simp
theorem jpq {i j:Bool}:decide (V.bl i=V.bl j)=(i==j):=by
 rw[Bool.eq_iff_iff]
 simp
theorem jlb {i j:Str}:decide (V.str i=V.str j)=(i==j):=by
 rw[Bool.eq_iff_iff]
 simp
theorem jk8 {i j:Array UInt8}:decide (V.byt i=V.byt j)=(i.toList==j.toList):=by
 rw[Bool.eq_iff_iff]
 cases i
 cases j
 simp
section
variable {X:Cx} {a b c:Expr} {ta tb tc:TE} {pos:Pos}
theorem jaS {pins:List (Addr×Obj)}{σ:St}{H:Hp}{s:Shared}{Q:VK}{k k':Bool}(I:Inv X pins σ H s)(q:Q (.bl k) H)(e:k=k'):EP X pins σ Q (.bool k') s:=by
 subst e
 exact⟨.bl k,H,I,rfl,q⟩
theorem jwO:OpR X (compareOp .Eq) rEq:=by
 intro pins s σ H x y v u Q I rx ry h
 obtain⟨hs,q⟩:=h
 cases x with
 |non=>
  cases rx
  cases y with
  |non=>cases ry;exact PySem.EqNone.eq_none_none (jaS I q (by simp))
  |bl j=>cases ry;exact PySem.EqNone.eq_none_bool (jaS I q (by simp))
  |int j=>obtain⟨t',rfl⟩:=ry;exact PySem.EqNone.eq_none_int (jaS I q (by simp))
  |str j=>obtain⟨t',rfl⟩:=ry;exact PySem.EqNone.eq_none_str (jaS I q (by simp))
  |_=>exact absurd (show false=true from hs) Bool.false_ne_true
 |bl i=>
  cases rx
  cases y with
  |non=>cases ry;exact PySem.EqNone.eq_bool_none (jaS I q (by simp))
  |bl j=>cases ry;exact eq_bool (jaS I q jpq)
  |str j=>obtain⟨t',rfl⟩:=ry;exact PySem.EqMixed.eq_bool_str (jaS I q (by simp))
  |_=>exact absurd (show false=true from hs) Bool.false_ne_true
 |int i=>
  obtain⟨t,rfl⟩:=rx
  cases y with
  |non=>cases ry;exact PySem.EqNone.eq_int_none (jaS I q (by simp))
  |int j=>obtain⟨t',rfl⟩:=ry;exact eq_int (jaS I q jmw)
  |str j=>obtain⟨t',rfl⟩:=ry;exact PySem.EqMixed.eq_int_str (jaS I q (by simp))
  |_=>exact absurd (show false=true from hs) Bool.false_ne_true
 |str i=>
  obtain⟨t,rfl⟩:=rx
  cases y with
  |non=>cases ry;exact PySem.EqNone.eq_str_none (jaS I q (by simp))
  |bl j=>cases ry;exact PySem.EqMixed.eq_str_bool (jaS I q (by simp))
  |int j=>obtain⟨t',rfl⟩:=ry;exact PySem.EqMixed.eq_str_int (jaS I q (by simp))
  |str j=>obtain⟨t',rfl⟩:=ry;exact eq_str (jaS I q jlb)
  |_=>exact absurd (show false=true from hs) Bool.false_ne_true
 |byt i=>
  obtain⟨t,rfl⟩:=rx
  cases y with
  |byt j=>obtain⟨t',rfl⟩:=ry;exact PySem.W.eq_bytes (jaS I q jk8)
  |_=>exact absurd (show false=true from hs) Bool.false_ne_true
 |_=>cases y<;>exact absurd (show false=true from hs) Bool.false_ne_true
theorem jv7:OpR X (compareOp .NotEq) rNe:=by
 intro pins s σ H x y v u Q I rx ry h
 obtain⟨hs,q⟩:=h
 cases x with
 |non=>
  cases rx
  cases y with
  |non=>cases ry;exact PySem.EqNone.ne_none_none (jaS I q (by simp))
  |bl j=>cases ry;exact PySem.EqNone.ne_none_bool (jaS I q (by simp))
  |int j=>obtain⟨t',rfl⟩:=ry;exact PySem.EqNone.ne_none_int (jaS I q (by simp))
  |str j=>obtain⟨t',rfl⟩:=ry;exact PySem.EqNone.ne_none_str (jaS I q (by simp))
  |_=>exact absurd (show false=true from hs) Bool.false_ne_true
 |bl i=>
  cases rx
  cases y with
  |non=>cases ry;exact PySem.EqNone.ne_bool_none (jaS I q (by simp))
  |bl j=>cases ry;exact ne_bool (jaS I q (congrArg not jpq))
  |str j=>obtain⟨t',rfl⟩:=ry;exact PySem.EqMixed.ne_bool_str (jaS I q (by simp))
  |_=>exact absurd (show false=true from hs) Bool.false_ne_true
 |int i=>
  obtain⟨t,rfl⟩:=rx
  cases y with
  |non=>cases ry;exact PySem.EqNone.ne_int_none (jaS I q (by simp))
  |int j=>obtain⟨t',rfl⟩:=ry;exact ne_int (jaS I q (congrArg not jmw))
  |str j=>obtain⟨t',rfl⟩:=ry;exact PySem.EqMixed.ne_int_str (jaS I q (by simp))
  |_=>exact absurd (show false=true from hs) Bool.false_ne_true
 |str i=>
  obtain⟨t,rfl⟩:=rx
  cases y with
  |non=>cases ry;exact PySem.EqNone.ne_str_none (jaS I q (by simp))
  |bl j=>cases ry;exact PySem.EqMixed.ne_str_bool (jaS I q (by simp))
  |int j=>obtain⟨t',rfl⟩:=ry;exact PySem.EqMixed.ne_str_int (jaS I q (by simp))
  |str j=>obtain⟨t',rfl⟩:=ry;exact ne_str (jaS I q (congrArg not jlb))
  |_=>exact absurd (show false=true from hs) Bool.false_ne_true
 |byt i=>
  obtain⟨t,rfl⟩:=rx
  cases y with
  |byt j=>obtain⟨t',rfl⟩:=ry;exact PySem.W.ne_bytes (jaS I q (congrArg not jk8))
  |_=>exact absurd (show false=true from hs) Bool.false_ne_true
 |_=>cases y<;>exact absurd (show false=true from hs) Bool.false_ne_true
theorem jww:OpR X (compareOp .Lt) (rI0 fun i j=>.bl (decide (i<j))):=jvG fun _ _ _ _ _ _ _ q=>lt_int q
theorem jv9:OpR X (compareOp .LtE) (rI0 fun i j=>.bl (decide (i<=j))):=jvG fun _ _ _ _ _ _ _ q=>le_int q
theorem jwk:OpR X (compareOp .Gt) (rI0 fun i j=>.bl (decide (j<i))):=jvG fun _ _ _ _ _ _ _ q=>gt_int q
theorem jv4:OpR X (compareOp .GtE) (rI0 fun i j=>.bl (decide (j<=i))):=jvG fun _ _ _ _ _ _ _ q=>ge_int q
theorem jlB:OpR X (compareOp .Lt) (fun x y H Q=>∃i j,x=.str i/\y=.str j/\Q (.bl (decide (i.cps.toList<j.cps.toList))) H):=by
 intro pins s σ H x y v u Q I rx ry h
 obtain⟨i,j,rfl,rfl,q⟩:=h
 obtain⟨t,rfl⟩:=rx
 obtain⟨t',rfl⟩:=ry
 exact lt_str (jaS I q rfl)
theorem OpR.or {f:Value->Value->Sem Value}{r r':R2}(h:OpR X f r)(h':OpR X f r'):OpR X f (fun x y H Q=>r x y H Q∨r' x y H Q):=by
 intro pins s σ H x y v u Q I rx ry q
 rcases q with q|q
 ·exact h pins s σ H x y v u Q I rx ry q
 ·exact h' pins s σ H x y v u Q I rx ry q
theorem jl4 (b:Expr){op:CmpOp}(h:op≠.In:=by decide)(h2:op≠.NotIn:=by decide):behindInMarks op b=false:=by
 have e1:(op==CmpOp.In)=false:=by cases op<;>first|rfl|exact absurd rfl h
 have e2:(op==CmpOp.NotIn)=false:=by cases op<;>first|rfl|exact absurd rfl h2
 cases b<;>simp[behindInMarks,e1,e2]
theorem jm5 {op:CmpOp}{r:R2}(ho:OpR X (compareOp op) r)(ha:PE X a ta)(hb:PE X b tb)(hm:behindInMarks op b=false):PE X (.Compare a [op] [b] pos) (tOp r ta tb):=by
 intro pins s σ H Q I h
 exact wpAny_Compare1 (jwW ha hb I h fun v u s2 x y H2 I2 rx ry q=>ho pins s2 σ H2 x y v u Q I2 rx ry q) hm
noncomputable def jp (t:TE):TT:=fun σ H Q=>t σ H fun x H'=>∃k,x=.bl k/\Q k H'
theorem jsD {op:CmpOp}{r:R2}(ho:OpR X (compareOp op) r)(ha:PE X a ta)(hb:PE X b tb)(hm:behindInMarks op b=false):PT X (.Compare a [op] [b] pos) (jp (tOp r ta tb)):=by
 intro pins s σ H Q I h
 refine wpAny_isTrue_Compare1 (thn (ha pins s σ H _ I h) fun v s1 ⟨x,H1,I1,r1,q1⟩=>thn (hb pins s1 σ H1 _ I1 q1) fun u s2 ⟨y,H2,I2,r2,q2⟩=>
  thn (ho pins s2 σ H2 x y v u _ I2 r1 r2 q2) fun c s3 ⟨z,H3,I3,r3,k,e,q3⟩=>?_) hm
 subst e
 cases r3
 exact wpAny_truthy_bool ⟨H3,I3,q3⟩
noncomputable def jid (r r':R2)(ta tb tc:TE):TE:=fun σ H Q=>ta σ H fun x H1=>tb σ H1 fun y H2=>r x y H2 fun z H3=>∃k,z=.bl k /\
 (if k=true then tc σ H3 fun w' H4=>r' y w' H4 Q else Q (.bl false) H3)
theorem jon {op op':CmpOp}{r r':R2}(ho:OpR X (compareOp op) r)(ho':OpR X (compareOp op') r')(ha:PE X a ta)(hb:PE X b tb)(hc:PE X c tc)
  (hm:lastMarks [op,op'] [b,c]=false:=by with_unfolding_all rfl):PE X (.Compare a [op,op'] [b,c] pos) (jid r r' ta tb tc):=by
 intro pins s σ H Q I h
 refine Compare_chain (thn (ha pins s σ H _ I h) fun v s1 ⟨x,H1,I1,r1,q1⟩=>chain_link (thn (hb pins s1 σ H1 _ I1 q1) fun u s2 ⟨y,H2,I2,r2,q2⟩=>
  thn (ho pins s2 σ H2 x y v u _ I2 r1 r2 q2) fun d s3 ⟨z,H3,I3,r3,k,e,q3⟩=>?_)) hm
 subst e
 cases r3
 refine wpAny_truthy_bool ?_
 cases k with
 |false=>exact ite_ff ⟨.bl false,H3,I3,rfl,q3⟩
 |true=>exact ite_tt (chain_last (thn (hc pins s3 σ H3 _ I3 q3) fun w' s4 ⟨z',H4,I4,r4,q4⟩=>ho' pins s4 σ H4 y z' u w' Q I4 r2 r4 q4))
theorem jn7 {op op':CmpOp}{r r':R2}(ho:OpR X (compareOp op) r)(ho':OpR X (compareOp op') r')(ha:PE X a ta)(hb:PE X b tb)(hc:PE X c tc)
  (hm:lastMarks [op,op'] [b,c]=false:=by with_unfolding_all rfl):PT X (.Compare a [op,op'] [b,c] pos) (jp (jid r r' ta tb tc)):=by
 intro pins s σ H Q I h
 refine isTrue_chain (thn (ha pins s σ H _ I h) fun v s1 ⟨x,H1,I1,r1,q1⟩=>test_link (thn (hb pins s1 σ H1 _ I1 q1) fun u s2 ⟨y,H2,I2,r2,q2⟩=>
  thn (ho pins s2 σ H2 x y v u _ I2 r1 r2 q2) fun d s3 ⟨z,H3,I3,r3,k,e,q3⟩=>?_)) hm
 subst e
 cases r3
 refine wpAny_truthy_bool ?_
 cases k with
 |false=>
  obtain⟨k',e',q'⟩:=q3
  cases e'
  exact ite_ff ⟨H3,I3,q'⟩
 |true=>
  refine ite_tt (test_last (thn (hc pins s3 σ H3 _ I3 q3) fun w' s4 ⟨z',H4,I4,r4,q4⟩=>thn (ho' pins s4 σ H4 y z' u w' _ I4 r2 r4 q4) fun d' s5 ⟨z2,H5,I5,r5,k2,e2,q5⟩=>?_))
  subst e2
  cases r5
  exact wpAny_truthy_bool ⟨H5,I5,q5⟩
noncomputable def jsX (K:PySem.W.Frag)(x:V)(H:Hp)(k:Bool):Prop:=
 match x with
 |.non=>k=false
 |.bl b=>k=b
 |.int i=>k=(i !=0)
 |.str y=>y.length<=sizeLine/\k=((y.length:Int) !=0)
 |.byt y=>y.size<=sizeLine/\k=((y.size:Int) !=0)
 |.ref p=>(∃xs,SqL K H p xs/\k =!xs.isEmpty)∨(∃xs,SqT K H p xs/\k =!xs.isEmpty)∨∃kvs,H p=some (.dK kvs)/\k =!kvs.isEmpty
 |_=>False
theorem jkH {κ:Type}{kvs:List (κ×V)}{vs:List (κ×Value)}(r:KV kvs vs):(!vs.isEmpty) =!kvs.isEmpty:=by
 cases r<;>rfl
theorem jgw {xs:List V}{its:List Value}(r:jaZ xs its):(!its.toArray.isEmpty) =!xs.isEmpty:=by
 cases r<;>simp
theorem jgN:(sizeLine:Nat)<2 ^ 63:=by rw[sizeLine_eq];decide
theorem js3:jxV X (fun x H Q=>∃k,jsX X.K x H k/\Q k H):=by
 intro pins s σ H x v Q I rx h
 obtain⟨k,e,q⟩:=h
 have hl:=jgN
 have hs:sizeLine=16777216:=sizeLine_eq
 cases x with
 |non=>
  cases rx
  have e':k=false:=e
  subst e'
  exact truthy_none ⟨H,I,q⟩
 |bl b=>
  cases rx
  have e':k=b:=e
  subst e'
  exact wpAny_truthy_bool ⟨H,I,q⟩
 |int i=>
  obtain⟨t,rfl⟩:=rx
  have e':k=(i !=0):=e
  subst e'
  exact PySem.P.truthy_int ⟨H,I,q⟩
 |str y=>
  obtain⟨t,rfl⟩:=rx
  obtain⟨hy,e'⟩:y.length<=sizeLine/\k=((y.length:Int) !=0):=e
  subst e'
  exact PySem.P.truthy_str (by omega) ⟨H,I.tok _,q⟩
 |byt y=>
  obtain⟨t,rfl⟩:=rx
  obtain⟨hy,e'⟩:y.size<=sizeLine/\k=((y.size:Int) !=0):=e
  subst e'
  exact PySem.W.truthy_bytes (by omega) ⟨H,I.tok _,q⟩
 |ref p=>
  cases rx
  have e':(∃xs,SqL X.K H p xs/\k =!xs.isEmpty)∨(∃xs,SqT X.K H p xs/\k =!xs.isEmpty)∨∃kvs,H p=some (.dK kvs)/\k =!kvs.isEmpty:=e
  rcases e' with⟨xs,hx,e'⟩|⟨xs,hx,e'⟩|⟨kvs,hx,e'⟩
  ·subst e'
   obtain⟨its,r,pl,hz⟩:=I.list hx
   have hlen:=r.length
   exact wpAny_truthy_list pl.isList (by simp only[List.size_toArray];omega) ⟨H,I.tok _,by rw[jgw r];exact q⟩
  ·subst e'
   obtain⟨its,r,pl,hz⟩:=I.tuple hx
   have hlen:=r.length
   exact truthy_tuple pl (by simp only[List.size_toArray];omega) ⟨H,I.tok _,by rw[jgw r];exact q⟩
  ·subst e'
   obtain⟨hz,hS,vs,r,m⟩:kvs.length<=sizeLine/\(p==sysModules)=false/\∃vs,KV kvs vs/\s.heap.DictOf (jcj X.prog X.w) p vs:=I.hok p _ hx
   have hlen:kvs.length=vs.length:=Paired.length r
   exact wpAny_truthy_dict hS m (by omega) ⟨H,I.tok _,by rw[jkH r];exact q⟩
 |_=>exact(show False from e).elim
theorem joy (ha:PE X a ta)(he:∀whole,isTrue a X.env whole=(do let v <- whole;standAt a.pos;holding [v] (truthy v))) :
  PT X a (fun σ H Q=>ta σ H fun x H'=>∃k,jsX X.K x H' k/\Q k H'):=by
 intro pins s σ H Q I h
 exact isTrue_plain (thn (ha pins s σ H _ I h) fun v s1 ⟨x,H1,I1,r1,q1⟩=>js3 pins s1 σ H1 x v Q I1 r1 q1) (he _)
theorem jkc:OpR X (binaryOp .Add) (fun x y H Q=>∃i j,x=.str i/\y=.str j/\i.length+j.length<=sizeLine/\Q (.str (i++j)) H):=by
 intro pins s σ H x y v u Q I rx ry h
 obtain⟨i,j,rfl,rfl,hz,q⟩:=h
 obtain⟨t,rfl⟩:=rx
 obtain⟨t',rfl⟩:=ry
 exact add_str (fun t' tk=>⟨.str (i++j),H,I.tok _,⟨_,rfl⟩,q⟩) hz
theorem jgd {x:V}{us:List Value}(r:jaZ [x] us):∃u,us=[u]/\ja0 x u:=by
 cases r with
 |cons r1 r2=>cases r2;exact⟨_,rfl,r1⟩
theorem jnb {x y:V}{us:List Value}(r:jaZ [x,y] us):∃u w',us=[u,w']/\ja0 x u/\ja0 y w':=by
 cases r with
 |cons r1 r2=>
  cases r2 with
  |cons r3 r4=>cases r4;exact⟨_,_,rfl,r1,r3⟩
theorem jlw (hc:X.calm=true):jbR X (.builtin "max") (fun xs H Q=>∃i j,xs=[.int i,.int j]/\Q (.int (if j > i then j else i)) H):=by
 intro pins s σ H xs us Q I r h
 obtain⟨i,j,rfl,q⟩:=h
 obtain⟨u,w',rfl,⟨t,rfl⟩,⟨t',rfl⟩⟩:=jnb r
 refine max_two_ints (I.ok.hd hc) fun h' tk k=>⟨_,H,I.kept k,?_,q⟩
 by_cases hj:j > i
 ·rw[if_pos hj,if_pos hj];exact⟨_,rfl⟩
 ·rw[if_neg hj,if_neg hj];exact⟨_,rfl⟩
theorem jmG (hc:X.calm=true):jbR X (.builtin "min") (fun xs H Q=>∃i j,xs=[.int i,.int j]/\Q (.int (if j<i then j else i)) H):=by
 intro pins s σ H xs us Q I r h
 obtain⟨i,j,rfl,q⟩:=h
 obtain⟨u,w',rfl,⟨t,rfl⟩,⟨t',rfl⟩⟩:=jnb r
 refine min_two_ints (I.ok.hd hc) fun h' tk k=>⟨_,H,I.kept k,?_,q⟩
 by_cases hj:j<i
 ·rw[if_pos hj,if_pos hj];exact⟨_,rfl⟩
 ·rw[if_neg hj,if_neg hj];exact⟨_,rfl⟩
theorem jlD:jbR X (.type "int") (fun xs H Q=>(∃i,xs=[.int i]/\Q (.int i) H)∨∃k,xs=[.bl k]/\Q (.int (if k then 1 else 0)) H):=by
 intro pins s σ H xs us Q I r h
 rcases h with⟨i,rfl,q⟩|⟨k,rfl,q⟩
 ·obtain⟨u,rfl,t,rfl⟩:=jgd r
  exact call_int_int ⟨.int i,H,I,⟨_,rfl⟩,q⟩
 ·obtain⟨u,rfl,r1⟩:=jgd r
  cases r1
  exact call_int_bool ⟨.int (if k then 1 else 0),H,I.tok _,⟨_,rfl⟩,q⟩
end
end _L2
namespace _L2
open PySem PySem.Spec PyProof.Rows
structure ObjM (h:Heap) (x dx C:Addr) (mA:Str->Option Value):Prop where
 obj:h.get? x=some (PySem.W.instObj C dx)
 ns:h.Ns1 dx mA
 ne:dx≠x
theorem jml {h:Heap}{dx:Addr}{mA:Str->Option Value}(n:h.Ns1 dx mA):∃od,h.get? dx=some od/\∀name,PySem.W.lookIn name od=some (mA name):=by
 obtain⟨o,es,ep,ho,hd,hk,_,hm⟩:=n
 refine⟨o,ho,fun name=>?_⟩
 have e:=hm name
 unfold nsFind findBy at e
 rw[<- Array.find?_toList]at e
 unfold PySem.W.lookIn
 rw[hd]
 dsimp only
 split
 ·rename_i y q
  rw[q]at e
  exact congrArg some e
 ·rename_i q
  rw[q]at e
  have a:es.toList.any (·.refKey)=false:=by
   rw[List.any_eq_false]
   intro y hy
   obtain⟨z,t,hkey⟩:=hk y (Array.mem_toList_iff.mp hy)
   simp[DictEntry.refKey,hkey]
  have a':¬ es.toList.any (·.refKey)=true:=by rw[a];exact Bool.false_ne_true
  rw[if_neg a']
  exact congrArg some e
theorem ObjM.look {h:Heap}{x dx C:Addr}{mA:Str->Option Value}(I:ObjM h x dx C mA):∃od,PySem.W.InstAt h x (PySem.W.instObj C dx) C (some od)/\∀name,PySem.W.lookIn name od=some (mA name):=
 let⟨od,ho,hl⟩:=jml I.ns
 ⟨od,⟨I.obj,rfl,rfl,ho⟩,hl⟩
section
variable {prog:Program} {w:World} {A:Around} {E:Value->Shared->Prop} {s:Shared} {K:PySem.W.Frag} {x dx C f:Addr} {mA:Str->Option Value} {name:Str} {v:Value}
theorem jss {expr:Bool}{Q:Value->Shared->Prop}(X:K.In s.heap)(I:ObjM s.heap x dx C mA)(hg:PySem.W.plainGet K C name=true)(hh:PySem.W.hasDictIn K C=true)
  (ha:PySem.W.findIn K (.ref C) name=some none) (hv:mA name=some v) (hv':PySem.W.handedIn v=true) (h:Q v {s with toks:=s.toks+1}) :
  wpAny (model prog w) A (getAttr (.ref x) name expr) Q E s:=by
 obtain⟨od,J,hl⟩:=I.look
 exact PySem.W.get_value X J (PySem.W.plainGet_of hg).1 (PySem.W.findObj_own hh ha rfl (by rw[hl,hv])) hv' h
theorem jq0 {ns:List Str}{Q:Unit->Shared->Prop}(X:K.In s.heap)(I:ObjM s.heap x dx C mA)
  (hs:PySem.W.findIn K (.ref C) "__setattr__" =some (some (.builtin "object.__setattr__"))) (hp:PySem.W.plainOver K C=true) (ht:PySem.W.takerIn K C name=some none) (hh:PySem.W.hasDictIn K C=true)
  (hw:PySem.Within mA ns) (hsz:ns.length<=sizeLine)
  (h:∀h',ObjM h' x dx C (fun y=>if y=name then some v else mA y)->Heap.SameBut dx s.heap h'->Q () {s with heap:=h',toks:=s.toks+2}) :
  wpAny (model prog w) A (setAttr (.ref x) name v) Q E s:=by
 obtain⟨od,J,hl⟩:=I.look
 refine PySem.W.set_plain X J hs (PySem.W.osa_open (s:={s with toks:=s.toks+1}) (r:=none) X J hp ht fun b=>?_)
 obtain⟨cd,hc,hd'⟩:=PySem.W.any_some hh
 have hx:s.heap.get? x=some ⟨.ref C,some dx,.plain,#[]⟩:=I.obj
 refine wpAny_bind (wpAny_pure (wpAny_bind (wpAny_bind (wpAny_loadPart hx (wpAny_bind (PySem.W.Looks.here (s:={s with toks:=s.toks+1}) (PySem.W.looks_clsIn X hc) ?_))))))
 rw[hd']
 refine wpAny_pure (a:=some dx) (wpAny_bind (wpAny_pure (wpAny_bind ?_)))
 refine wpAny_nsSet1 (s:={s with toks:=s.toks+1}) I.ns fun h' hn2 hs2=>?_
 obtain⟨oD,esD,epD,hoD,hdD,hcD⟩:=hn2.count (PySem.Within.cons name v hw)
 refine wpAny_bind (wpAny_lookBehind hoD (by rw[hdD];exact pastItsLine_dict (Nat.le_trans hcD (by rw[List.length_cons];omega))) ?_)
 exact wpAny_pure (h _ ⟨(hs2.2 _ (Ne.symm I.ne)).trans I.obj,hn2,I.ne⟩ hs2)
theorem jn1 {R:Result->Shared->Prop}{vs:List Value}{kw:List (Str×Value)}(X:K.In s.heap)(hm:PySem.W.makesIn K C=true)
  (hi:PySem.W.findIn K (.ref C) "__init__" =some (some (.ref f))) (hf:PySem.W.typeIn K (.ref f)=some (.type "function"))
  (h:codeAny (model prog w) (A.under (.builtin "type.__call__" ⟨.ref C::vs,kw⟩)) (.call (.ref f) ⟨.ref (s.heap.objs.size+1)::vs,kw⟩) (PySem.W.InitBack (s.heap.objs.size+1) R)
   {s with heap:=(s.heap.push PySem.W.emptyDict).push (PySem.W.instObj C s.heap.objs.size)}) :
  codeAny (model prog w) A (.call (.ref C) ⟨vs,kw⟩) R s:=by
 obtain⟨hh,g,d,t,os⟩:=s
 exact PySem.W.make_core (PySem.W.makes_of X hm) (PySem.W.looks_findIn X hi) (fun self=>PySem.W.bind_fn X self hf) (.inl rfl) h
end
noncomputable def jhD (f:Str)(v:V):List (Str×V)->List (Str×V)
 |[]=>[(f,v)]
 |(g,x)::r=>if g=f then(g,v)::r else(g,x)::jhD f v r
theorem jfV (f g:Str)(v:V):∀fs:List (Str×V),(jhD f v fs).lookup g=if g=f then some v else fs.lookup g
 |[]=>by
  show List.lookup g [(f,v)]=_
  by_cases h:g=f
  ·have hb:(g==f)=true:=beq_iff_eq.mpr h
   simp only[List.lookup,hb,if_pos h]
  ·have hb:(g==f)=false:=beq_eq_false_iff_ne.mpr h
   simp only[List.lookup,hb,if_neg h]
 |(k,x)::r=>by
  have ih:=jfV f g v r
  rw[show jhD f v ((k,x)::r)=(if k=f then(k,v)::r else(k,x)::jhD f v r)from rfl]
  by_cases hk:k=f
  ·rw[if_pos hk]
   by_cases h:g=k
   ·have hb:(g==k)=true:=beq_iff_eq.mpr h
    simp only[List.lookup,hb,if_pos (h.trans hk)]
   ·have hb:(g==k)=false:=beq_eq_false_iff_ne.mpr h
    simp only[List.lookup,hb,if_neg (fun e:g=f=>h (e.trans hk.symm))]
  ·rw[if_neg hk]
   by_cases h:g=k
   ·have hb:(g==k)=true:=beq_iff_eq.mpr h
    simp only[List.lookup,hb,if_neg (fun e:g=f=>hk (h.symm.trans e))]
   ·have hb:(g==k)=false:=beq_eq_false_iff_ne.mpr h
    simp only[List.lookup,hb]
    exact ih
theorem jfE (f:Str)(v:V):∀fs:List (Str×V),f∈(jhD f v fs).map (·.1)/\∀g,g∈fs.map (·.1)->g∈(jhD f v fs).map (·.1)
 |[]=>⟨by simp[jhD],fun g h=>by simp at h⟩
 |(k,x)::r=>by
  obtain⟨i1,i2⟩:=jfE f v r
  rw[show jhD f v ((k,x)::r)=(if k=f then(k,v)::r else(k,x)::jhD f v r)from rfl]
  by_cases hk:k=f
  ·rw[if_pos hk]
   subst hk
   exact⟨by simp,fun g h=>by simpa using h⟩
  ·rw[if_neg hk]
   refine⟨?_,fun g h=>?_⟩
   ·rw[List.map_cons]
    exact List.mem_cons_of_mem _ i1
   ·rw[List.map_cons]at h ⊢
    rcases List.mem_cons.mp h with e|e
    ·exact List.mem_cons.mpr (.inl e)
    ·exact List.mem_cons_of_mem _ (i2 g e)
theorem jfq (f:Str)(v:V):∀fs:List (Str×V),(jhD f v fs).length<=fs.length+1
 |[]=>by simp[jhD]
 |(k,x)::r=>by
  have ih:=jfq f v r
  rw[show jhD f v ((k,x)::r)=(if k=f then(k,v)::r else(k,x)::jhD f v r)from rfl]
  by_cases hk:k=f
  ·rw[if_pos hk,List.length_cons,List.length_cons];omega
  ·rw[if_neg hk,List.length_cons,List.length_cons];omega
theorem jhH.some_of {v:V}{o:Option Value}(r:jhH (some v) o):∃u,o=some u/\ja0 v u:=by
 cases o with
 |none=>exact(show False from r).elim
 |some u=>exact⟨u,rfl,r⟩
theorem jm1 {v:V}{u:Value}(r:ja0 v u):PySem.W.handedIn u=true:=by
 cases v with
 |non=>cases(show u=Value.none from r);rfl
 |bl b=>cases(show u=Value.bool b from r);rfl
 |int i=>obtain⟨t,e⟩:=(show ∃t,u=Value.int i t from r);cases e;rfl
 |str x=>obtain⟨t,e⟩:=(show ∃t,u=Value.str x t from r);cases e;rfl
 |byt b=>obtain⟨t,e⟩:=(show ∃t,u=Value.bytes b t from r);cases e;rfl
 |flt b=>obtain⟨t,e⟩:=(show ∃t,u=Value.float b t from r);cases e;rfl
 |ref a=>cases(show u=Value.ref a from r);rfl
 |ty n=>cases(show u=Value.type n from r);rfl
section
variable {P:Program} {w:World} {H H':Hp} {h h':Heap} {a C dx:Addr} {fs fs':List (Str×V)}
theorem ji6 (hok:HOk P w H h)(e:H a=some (.ins C dx fs)):∃mA,ObjM h a dx C mA/\(∀f,jhH (fs.lookup f) (mA f))/\PySem.Within mA (fs.map (·.1))/\fs.length<=1000/\H dx=some (.own a):=by
 obtain⟨d,z,ne,ob,mA,n,r,q⟩:=(show jbX P w H h a (.ins C dx fs)from hok a _ e)
 exact⟨mA,⟨ob,n,ne⟩,r,q,z,d⟩
end
structure Cls (K:PySem.W.Frag) (C:Addr):Prop where
 pg:PySem.W.plainGet K C Str.empty=true
 hd:PySem.W.hasDictIn K C=true
 po:PySem.W.plainOver K C=true
 sa:PySem.W.findIn K (.ref C) "__setattr__" =some (some (.builtin "object.__setattr__"))
theorem Cls.get {K:PySem.W.Frag}{C:Addr}(c:Cls K C)(f:Str):PySem.W.plainGet K C f=true:=c.pg
noncomputable def jeb (K:PySem.W.Frag)(C:Addr)(f:Str):Prop:=PySem.W.findIn K (.ref C) f=some none
theorem jeb.taker {K:PySem.W.Frag}{C:Addr}{f:Str}(n:jeb K C f):PySem.W.takerIn K C f=some none:=by
 unfold PySem.W.takerIn
 rw[show PySem.W.findIn K (.ref C) f=some none from n]
 rfl
structure Con (K:PySem.W.Frag) (C:Addr) (f:Str) (v:V) (u:Value):Prop where
 at_:PySem.W.findIn K (.ref C) f=some (some u)
 rel:ja0 v u
 get:PySem.W.specialIn K u "__get__" =some none
 cp:PySem.W.copiedNames.contains f=false
structure Meth (K:PySem.W.Frag) (C:Addr) (m:Str) (f:Addr):Prop where
 at_:PySem.W.findIn K (.ref C) m=some (some (.ref f))
 fn:PySem.W.isFn K (.ref f)=true
 kp:PySem.W.keepIn K (.ref f)=true
section
variable {X:Cx} {pins:List (Addr×Obj)} {σ:St} {H:Hp} {s:Shared} {a C dx:Addr} {fs:List (Str×V)} {f:Str} {v:V} {A:Around} {E:Value->Shared->Prop}
theorem jkF {b:Bool}{Q:Value->Shared->Prop}(I:Inv X pins σ H s)(e:H a=some (.ins C dx fs))(c:Cls X.K C)(n:jeb X.K C f)(l:fs.lookup f=some v)
  (h:∀u s',Inv X pins σ H s'->ja0 v u->Q u s'):wpAny (model X.prog X.w) A (getAttr (.ref a) f b) Q E s:=by
 obtain⟨mA,O,r,_,_,_⟩:=ji6 I.hok e
 obtain⟨u,hu,ru⟩:=jhH.some_of (v:=v) (o:=mA f) (by rw[<- l];exact r f)
 exact jss I.kIn O (c.get f) c.hd n hu (jm1 ru) (h u _ (I.tok _) ru)
theorem jkD {y:V}{u:Value}{Q:Unit->Shared->Prop}(I:Inv X pins σ H s)(e:H a=some (.ins C dx fs))(c:Cls X.K C)(n:jeb X.K C f)(hl:fs.length<1000)(ry:ja0 y u)
  (h:∀s',Inv X pins σ (upd H a (.ins C dx (jhD f y fs))) s'->Q () s'):wpAny (model X.prog X.w) A (setAttr (.ref a) f u) Q E s:=by
 obtain⟨mA,O,r,wi,_,ho⟩:=ji6 I.hok e
 have hz:(fs.map (·.1)).length<=sizeLine:=by rw[List.length_map,sizeLine_eq];omega
 refine jq0 I.kIn O c.sa c.po n.taker c.hd wi hz fun h' O' sb=>h _ ?_
 have hd:∃o,h'.get? dx=some o:=let⟨o,_,_,e',_⟩:=O'.ns;⟨o,e'⟩
 refine I.write (x:=a) (e:=dx) (by rw[e];exact True.intro) (.inr ho) (fun b q hb z=>(sb.2 b hb).trans z) hd ?_
 refine⟨by rw[jaj O.ne];exact ho,?_,O.ne,O'.obj,_,O'.ns,fun g=>?_,fun g hg=>?_⟩
 ·have:=jfq f y fs;omega
 ·show jhH ((jhD f y fs).lookup g) (if g=f then some u else mA g)
  rw[jfV]
  by_cases q:g=f
  ·rw[if_pos q,if_pos q];exact ry
  ·rw[if_neg q,if_neg q];exact r g
 ·by_cases q:g=f
  ·rw[q];exact(jfE f y fs).1
  ·refine(jfE f y fs).2 g (wi g fun z=>hg ?_)
   show(if g=f then some u else mA g)=none
   rw[if_neg q];exact z
theorem Inv.made (I:Inv X pins σ H s):Inv X pins σ (upd (upd H s.heap.objs.size (.own (s.heap.objs.size+1))) (s.heap.objs.size+1) (.ins C s.heap.objs.size []))
  {s with heap:=(s.heap.push PySem.W.emptyDict).push (PySem.W.instObj C s.heap.objs.size)}:=by
 have e1:(s.heap.push PySem.W.emptyDict).get? s.heap.objs.size=some PySem.W.emptyDict:=Heap.get?_push_size s.heap rfl
 have e2:((s.heap.push PySem.W.emptyDict).push (PySem.W.instObj C s.heap.objs.size)).get? (s.heap.objs.size+1)=some (PySem.W.instObj C s.heap.objs.size):=by
  have:=Heap.get?_push_size (s.heap.push PySem.W.emptyDict) (o:=PySem.W.instObj C s.heap.objs.size) rfl
  rwa [Heap.size_push]at this
 have e3:(s.heap.push PySem.W.emptyDict).Ns s.heap.objs.size (fun _=>none):=⟨PySem.W.emptyDict,#[],_,e1,rfl,(fun e he=>absurd he (by simp)),fun _=>rfl⟩
 have I1:=I.laid (a:=s.heap.objs.size) (o:=.own (s.heap.objs.size+1)) (h':=s.heap.push PySem.W.emptyDict) (t':=s.toks) (fun b u q=>Heap.get?_push_of_some _ q) (Nat.le_refl _) ⟨_,e1⟩
 refine I1.laid (a:=s.heap.objs.size+1) (o:=.ins C s.heap.objs.size []) (t':=s.toks) (fun b u q=>Heap.get?_push_of_some _ q) (Nat.le_of_eq (Heap.size_push _ _)) ?_
 have ne:s.heap.objs.size≠s.heap.objs.size+1:=Nat.ne_of_lt (Nat.lt_succ_self _)
 refine⟨by rw[jaj ne,jaC],Nat.zero_le _,ne,e2,fun _=>none,(Heap.Ns1.of_empty e3).at fun o q=>Heap.get?_push_of_some _ q,fun _=>True.intro,fun y hy=>absurd rfl hy⟩
theorem jrM {prog:Program}{w:World}{env:Env}{e:Expr}{f:Str}{pos:Pos}{s:Shared}{Q:Value->Shared->Prop}(hb:attributeBase e f env (eval e env)=eval e env)
  (h:wpAny (model prog w) A (eval e env) (fun o s₁=>wpAny (model prog w) A (getAttr o f true) Q E s₁) E s):wpAny (model prog w) A (eval (.Attribute e f pos) env) Q E s:=
 Attribute_any_ h (by rw[arm_eval_Attribute,hb])
end
noncomputable def jxM (K:PySem.W.Frag)(ta:TE)(f:Str):TE:=fun σ H Q=>ta σ H fun x H1=>∃a C dx fs v,x=.ref a/\H1 a=some (.ins C dx fs)/\Cls K C/\jeb K C f/\fs.lookup f=some v/\Q v H1
noncomputable def jxA (K:PySem.W.Frag)(ta tv:TE)(f:Str):TS:=fun D σ H=>tv σ H fun y H1=>ta σ H1 fun x H2=>∃a C dx fs,x=.ref a/\H2 a=some (.ins C dx fs)/\Cls K C/\jeb K C f/\fs.length<1000 /\
 D.nx σ (upd H2 a (.ins C dx (jhD f y fs)))
section
variable {X:Cx} {o e value:Expr} {f:Str} {pos pos' tpos:Pos} {ta tv:TE}
theorem jtx (he:PE X e ta)(hb:attributeBase e f X.env (eval e X.env)=eval e X.env):PE X (.Attribute e f pos) (jxM X.K ta f):=by
 intro pins s σ H Q I h
 refine jrM hb (thn (he pins s σ H _ I h) fun u s1 ⟨x,H1,I1,rx,a,C,dx,fs,v,ex,ea,c,n,l,q⟩=>?_)
 subst ex
 obtain rfl:u=Value.ref a:=rx
 exact jkF I1 ea c n l fun u' s2 I2 ru=>⟨v,H1,I2,ru,q⟩
theorem juW (ha:PE X o ta)(hv:PE X value tv)(hs:swapsWith value (some (.Attribute o f pos')) pos.line X.env=pure false):PS X (.Assign [.Attribute o f pos'] value pos) (jxA X.K ta tv f):=by
 intro pins s σ H D I h
 refine plainObj_wpAny_Assign_Attribute (thn (hv pins s σ H _ I h) fun u s1 ⟨y,H1,I1,ry,q⟩=>thn (ha pins s1 σ H1 _ I1 q) fun ov s2 ⟨x,H2,I2,rx,a,C,dx,fs,ex,ea,c,n,l,q2⟩=>?_) hs
 subst ex
 obtain rfl:ov=Value.ref a:=rx
 exact jkD I2 ea c n l ry fun s3 I3=>⟨σ,_,I3,q2⟩
end
section
variable {X:Cx} {pins:List (Addr×Obj)} {σ:St} {H:Hp} {s:Shared} {A:Around} {E:Value->Shared->Prop} {Q:Value->Shared->Prop} {c:Value} {b:Bool}
inductive TyOf (K:PySem.W.Frag) (H:Hp):V->Value->Prop where
 |non:TyOf K H .non (.type "NoneType")
 |bl (x:Bool):TyOf K H (.bl x) (.type "bool")
 |int (i:Int):TyOf K H (.int i) (.type "int")
 |str (x:Str):TyOf K H (.str x) (.type "str")
 |flt (x:UInt64):TyOf K H (.flt x) (.type "float")
 |lst {a:Addr} {xs:List V} (e:H a=some (.lst xs)):TyOf K H (.ref a) (.type "list")
 |frz {a:Addr} {o:Obj} {xs:List V} (e:H a=some (.frz o (.lst xs))):TyOf K H (.ref a) (.type "list")
 |tup {a:Addr} {xs:List V} (e:H a=some (.tup xs)):TyOf K H (.ref a) (.type "tuple")
 |dK {a:Addr} {kvs:List (Key×V)} (e:H a=some (.dK kvs)):TyOf K H (.ref a) (.type "dict")
 |dT {a:Addr} {kvs:List (List Key×V)} (e:H a=some (.dT kvs)):TyOf K H (.ref a) (.type "dict")
 |ins {a C dx:Addr} {fs:List (Str×V)} (e:H a=some (.ins C dx fs)) (cl:Cls K C) (ha:PySem.W.findIn K (.ref C) "__class__" =some (some (.builtin "object.__class__")))
   (hn:PySem.W.specialIn K (.builtin "object.__class__") "__get__" =some (some (.builtin "getset_descriptor.__get__"))) (htk:PySem.W.takesIn K (.builtin "object.__class__")=some true)
   (hm:PySem.W.mroIn K C (.type "object")=some true):TyOf K H (.ref a) (.ref C)
theorem jeg {x:V}{u t:Value}(I:Inv X pins σ H s)(rx:ja0 x u)(ty:TyOf X.K H x t)(e:PySem.W.kitOne X.K t c=some b)(h:∀tk,Q (.bool b) {s with toks:=tk}) :
  wpAny (model X.prog X.w) A (call (.builtin "isinstance") [u,c]) Q E s:=by
 cases ty with
 |non=>cases(show u=Value.none from rx);exact PySem.W.kia_one PySem.W.kitx_none I.kIn True.intro e (fun z=>nomatch z) h
 |bl y=>cases(show u=Value.bool y from rx);exact PySem.W.kia_one PySem.W.kitx_bool I.kIn True.intro e (fun z=>nomatch z) h
 |int i=>obtain⟨t,q⟩:=(show ∃t,u=Value.int i t from rx);cases q;exact PySem.W.kia_one PySem.W.kitx_int I.kIn True.intro e (fun z=>nomatch z) h
 |str y=>obtain⟨t,q⟩:=(show ∃t,u=Value.str y t from rx);cases q;exact PySem.W.kia_one PySem.W.kitx_str I.kIn True.intro e (fun z=>nomatch z) h
 |flt y=>obtain⟨t,q⟩:=(show ∃t,u=Value.float y t from rx);cases q;exact PySem.W.kia_one PySem.W.kitx_float I.kIn True.intro e (fun z=>nomatch z) h
 | @lst a xs ea=>
  cases(show u=Value.ref a from rx)
  obtain⟨_,_,n,_,h1⟩:=(show jbX X.prog X.w H s.heap a (.lst xs)from I.hok a _ ea)
  exact PySem.W.kia_one PySem.W.kitx_list I.kIn ⟨_,h1,rfl⟩ e (fun z=>nomatch z) h
 | @frz a ob xs ea=>
  cases(show u=Value.ref a from rx)
  obtain⟨_,_,_,n,_,h1⟩:=(show jbX X.prog X.w H s.heap a (.frz ob (.lst xs))from I.hok a _ ea)
  exact PySem.W.kia_one PySem.W.kitx_list I.kIn ⟨_,h1,rfl⟩ e (fun z=>nomatch z) h
 | @tup a xs ea=>
  cases(show u=Value.ref a from rx)
  obtain⟨_,_,_,p⟩:=(show jbX X.prog X.w H s.heap a (.tup xs)from I.hok a _ ea)
  obtain⟨o,h1,h2,_⟩:=p
  exact PySem.W.kia_one PySem.W.kitx_tuple I.kIn ⟨o,h1,h2⟩ e (fun z=>nomatch z) h
 | @dK a kvs ea=>
  cases(show u=Value.ref a from rx)
  obtain⟨_,_,vs,_,p⟩:=(show jbX X.prog X.w H s.heap a (.dK kvs)from I.hok a _ ea)
  obtain⟨o,es,ep,h1,h2,_⟩:=p
  exact PySem.W.kia_one PySem.W.kitx_dict I.kIn ⟨o,h1,h2.1⟩ e (fun z=>nomatch z) h
 | @dT a kvs ea=>
  cases(show u=Value.ref a from rx)
  obtain⟨_,_,xs,_,o,es,ep,h1,h2,_⟩:=(show jbX X.prog X.w H s.heap a (.dT kvs)from I.hok a _ ea)
  exact PySem.W.kia_one PySem.W.kitx_dict I.kIn ⟨o,h1,h2.1⟩ e (fun z=>nomatch z) h
 | @ins a C dx fs ea cl ha hn htk hm=>
  cases(show u=Value.ref a from rx)
  obtain⟨mA,O,_⟩:=ji6 I.hok ea
  obtain⟨od,J,_⟩:=O.look
  exact PySem.W.kia_one (PySem.W.kitx_own (cl.get _) cl.hd ha hn htk hm) I.kIn J e (fun z=>nomatch z) h
end
end _L2
namespace _L2
open PySem PySem.Spec PyProof.Rows
structure Room (k:Nat) (A:Around):Prop where
 hd:A.handled=none
 dp:A.depth+3*k+5<recursionLimit
 un:A.units+16*k+200<cLine
theorem Room.mono {j k:Nat}{A:Around}(r:Room k A)(h:j<=k):Room j A:=⟨r.hd,by have:=r.dp;omega,by have:=r.un;omega⟩
theorem Room.deeper {k:Nat}{A:Around}(r:Room (k+1) A)(env:Env):Room k (A.deeper env):=
 ⟨r.hd,by have:=r.dp;show A.depth+1+3*k+5<_;omega,by have:=r.un;show A.units+3+16*k+200<_;omega⟩
theorem Room.in1 {k:Nat}{A:Around}(r:Room (k+1) A):Room k A.in1:=
 ⟨r.hd,by have:=r.dp;show A.depth+3*k+5<_;omega,by have:=r.un;show A.units+1+16*k+200<_;omega⟩
theorem jke {A:Around}{C:Addr}{us:List Value}{kw:List (Str×Value)}:(A.under (.builtin "type.__call__" ⟨.ref C::us,kw⟩)).depth=A.depth+1:=by
 first|rfl|simp[Around.under,Code.weight,Code.isCreation,Code.isGuard,Code.isCaller,Code.frames,Code.isFrame,guardIds]
theorem jkP {A:Around}{C:Addr}{us:List Value}{kw:List (Str×Value)}:(A.under (.builtin "type.__call__" ⟨.ref C::us,kw⟩)).units=A.units+1:=by
 first|rfl|simp[Around.under,Code.cUnits,Code.frames,Code.isFrame]
theorem Room.make {k:Nat}{A:Around}(r:Room (k+1) A)(C:Addr)(us:List Value)(kw:List (Str×Value)):Room k (A.under (.builtin "type.__call__" ⟨.ref C::us,kw⟩)):=
 ⟨r.hd,by have:=r.dp;rw[jke];omega,by have:=r.un;rw[jkP];omega⟩
theorem Room.depth {k:Nat}{A:Around}(r:Room k A):A.depth<recursionLimit:=by have:=r.dp;omega
theorem Room.units {k:Nat}{A:Around}(r:Room k A):A.units+64<cLine:=by have:=r.un;omega
noncomputable def jw6:TA:=fun _ H Q=>Q [] H
noncomputable def jlz (ta:TE)(tr:TA):TA:=fun σ H Q=>ta σ H fun x H1=>tr σ H1 fun xs H2=>Q (x::xs) H2
section
variable {X:Cx} {e:Expr} {es:List Expr} {te:TE} {t:TA} {pos:Pos}
theorem jb6:PA X [] jw6:=fun _ _ _ _ H Q I h=>Calls.spliced_nil ⟨[],H,I,.nil,h⟩
theorem jbB (ha:PE X e te)(hr:PA X es t)(hs:starEach (e::es) X.env=(false,eval e X.env)::starEach es X.env:=by rfl):PA X (e::es) (jlz te t):=by
 intro pos pins s σ H Q I h
 rw[hs]
 show wpAny _ _ (spliced ((false,eval e X.env)::backTo pos (starEach es X.env))) _ _ s
 refine Calls.spliced_cons (thn (ha pins s σ H _ I h) fun u s1 ⟨x,H1,I1,r1,q1⟩=>?_)
 exact thn (hr pos pins s1 σ H1 _ I1 q1) fun us s2 ⟨xs,H2,I2,r2,q2⟩=>⟨x::xs,H2,I2,.cons r1 r2,q2⟩
noncomputable def jxP (t:TA):TE:=fun σ H Q=>t σ H fun xs H1=>xs.length<=sizeLine/\∀p,H1 p=none->Q (.ref p) (upd H1 p (.tup xs))
noncomputable def jxX (t:TA):TE:=fun σ H Q=>t σ H fun xs H1=>xs.length<=sizeLine/\∀p,H1 p=none->Q (.ref p) (upd H1 p (.lst xs))
theorem jlj {x1}(h:PA X es t):PE X (.Tuple es x1 pos) (jxP t):=by
 intro pins s σ H Q I hq
 refine wpAny_Tuple_spliced (thn (h pos pins s σ H _ I hq) fun us s1 ⟨xs,H1,I1,r,z,q⟩=>⟨by rw[<- r.length];exact z,?_⟩)
 have hf:H1 s1.heap.objs.size=none:=I1.hok.fresh (Nat.le_refl _)
 refine⟨.ref s1.heap.objs.size,upd H1 s1.heap.objs.size (.tup xs),I1.laid (t':=s1.toks) (fun b u e=>Heap.get?_push_of_some _ e) (Nat.le_refl _) ?_,rfl,q _ hf⟩
 exact⟨z,us,r,⟨_,Heap.get?_push_size _ rfl,rfl,_,rfl⟩⟩
theorem jj6 (h:PA X es t):PE X (.List es pos) (jxX t):=by
 intro pins s σ H Q I hq
 refine wpAny_List_spliced (thn (h pos pins s σ H _ I hq) fun us s1 ⟨xs,H1,I1,r,z,q⟩=>⟨by rw[<- r.length];exact z,?_⟩)
 have hf:H1 s1.heap.objs.size=none:=I1.hok.fresh (Nat.le_refl _)
 refine⟨.ref s1.heap.objs.size,upd H1 s1.heap.objs.size (.lst xs),I1.laid (t':=s1.toks) (fun b u e=>Heap.get?_push_of_some _ e) (Nat.le_refl _) ?_,rfl,q _ hf⟩
 exact⟨z,us,0,r,Heap.get?_push_size _ rfl⟩
end
noncomputable abbrev Sp:=List V->Hp->VK->XK->Prop
noncomputable abbrev CXT:=List Env->Hp->Shared->XK->Value->Shared->Prop
structure Env0 (P:Program) (w:World) (K:PySem.W.Frag) (mg:Str->Option Value) (base:Heap) (A:Around) (outer:List Env) (s:Shared) (H:Hp):Prop where
 frames:A.frames=some outer
 mod:Mod K mg base
 bs:∀b o,base.get? b=some o->s.heap.get? b=some o/\H b=none
 bsz:base.objs.size<=s.heap.objs.size
 funs:s.heap.FunFrames base outer
 frf:∀b∈frs outer,H b=none
 hok:HOk P w H s.heap
 bare:AllBare s.gens
noncomputable def CE (outer:List Env)(P:Program)(w:World)(H:Hp)(s:Shared)(Q:VK)(u:Value)(s':Shared):Prop:=
 ∃v H',s'.os=s.os/\AllBare s'.gens/\Un (frs outer) [] H H' s.heap s'.heap/\HOk P w H' s'.heap/\ja0 v u/\Q v H'
noncomputable def CR (CX:CXT)(outer:List Env)(P:Program)(w:World)(H:Hp)(s:Shared)(Q:VK)(E:XK)(r:Result)(s':Shared):Prop:=
 match r with
 |.ok (.ret u)=>CE outer P w H s Q u s'
 |.ok _=>False
 |.error e=>CX outer H s E e s'
structure FnOk (P:Program) (w:World) (K:PySem.W.Frag) (mg:Str->Option Value) (base:Heap) (CX:CXT) (k:Nat) (f:Addr) (fd:FuncData) (ps:List Str) (sp:Sp):Prop where
 len:∀vs H Q E,sp vs H Q E->vs.length=ps.length
 run:∀(A:Around) (outer:List Env) (s:Shared) (H:Hp) (args:Args) (us:List Value) (vs:List V) (Q:VK) (E:XK),Room k A->Env0 P w K mg base A outer s H->BindsTo s fd args (ps.zip us)->jaZ vs us->sp vs H Q E ->
  codeAny (model P w) A (.call (.ref f) args) (CR CX outer P w H s Q E) s
theorem FnOk.imp {P:Program}{w:World}{K:PySem.W.Frag}{mg:Str->Option Value}{base:Heap}{CX:CXT}{k:Nat}{f:Addr}{fd:FuncData}{ps:List Str}{sp sp':Sp}(F:FnOk P w K mg base CX k f fd ps sp)
  (h:∀vs H Q E,sp' vs H Q E->sp vs H Q E):FnOk P w K mg base CX k f fd ps sp':=
 ⟨fun vs H Q E q=>F.len vs H Q E (h _ _ _ _ q),fun A outer s H args us vs Q E hr he hb hv hs=>F.run A outer s H args us vs Q E hr he hb hv (h _ _ _ _ hs)⟩
theorem Env0.make {P:Program}{w:World}{K:PySem.W.Frag}{mg:Str->Option Value}{base:Heap}{A:Around}{outer:List Env}{s:Shared}{H:Hp}(e:Env0 P w K mg base A outer s H)(C:Addr)(us:List Value)(kw:List (Str×Value)) :
  Env0 P w K mg base (A.under (.builtin "type.__call__" ⟨.ref C::us,kw⟩)) outer s H:=⟨by first|exact e.frames|(simpa[Around.under,Code.envs,Code.isFrame,pushEnvs]using e.frames),e.mod,e.bs,e.bsz,e.funs,e.frf,e.hok,e.bare⟩
theorem Env0.in1 {P:Program}{w:World}{K:PySem.W.Frag}{mg:Str->Option Value}{base:Heap}{A:Around}{outer:List Env}{s:Shared}{H:Hp}(e:Env0 P w K mg base A outer s H) :
  Env0 P w K mg base A.in1 outer s H:=⟨e.frames,e.mod,e.bs,e.bsz,e.funs,e.frf,e.hok,e.bare⟩
section
variable {X:Cx} {pins:List (Addr×Obj)} {σ:St} {H:Hp} {s s':Shared}
theorem Inv.env0 (I:Inv X pins σ H s):Env0 X.prog X.w X.K X.mg X.base X.A X.stack s H:=
 ⟨I.ok.frames,I.ok.mod,I.bs,Nat.le_trans I.ok.bsz I.sz,I.stack,I.stkFree,I.hok,I.bare⟩
theorem Inv.after {Q:VK}{u:Value}(I:Inv X pins σ H s)(h:CE X.stack X.prog X.w H s Q u s'):EP X pins σ Q u s':=by
 obtain⟨v,H',os,bare,un,hok,r,q⟩:=h
 obtain⟨hh,g,d,t,os'⟩:=s'
 obtain rfl:os'=s.os:=os
 exact⟨v,H',I.call (h':=hh) (g':=g) (d':=d) (t':=t) (ch:=[]) un hok bare (fun b z=>absurd z (by simp)),r,q⟩
end
noncomputable def jqR (sp:Sp)(dvs:List V)(E:XK)(t:TA):TE:=fun σ H Q=>t σ H fun vs H1=>sp (vs++dvs) H1 Q E
noncomputable def jwT (C:Addr)(sp:Sp)(dvs:List V)(E:XK)(t:TA):TE:=fun σ H Q=>t σ H fun vs H1=>∀x dx,H1 x=none->H1 dx=none->dx≠x ->
 sp (.ref x::(vs++dvs)) (upd (upd H1 dx (.own x)) x (.ins C dx [])) (fun v H2=>v=.non/\Q (.ref x) H2) E
noncomputable def jeD (K:PySem.W.Frag)(fd:FuncData)(ps:List Str)(ds:List Value):Prop:=
 ∀(s:Shared) (us:List Value),K.In s.heap->(us++ds).length=ps.length->BindsTo s fd ⟨us,[]⟩ (ps.zip (us++ds))
theorem jeD.all {K:PySem.W.Frag}{fd:FuncData}{ps:List Str}(h:∀us:List Value,us.length=ps.length->bindArgs fd ⟨us,[]⟩=pure (ps.zip us)):jeD K fd ps []:=fun s us _ hl=>by
 rw[List.append_nil]at hl ⊢
 exact .of_eq (h us hl)
noncomputable def jf0 (CX:CXT)(X:Cx)(E:XK):Prop:=∀(pins:List (Addr×Obj)) (σ:St) (H:Hp) (s:Shared) (e:Value) (s':Shared),Inv X pins σ H s->CX X.stack H s E e s'->X.xe e s'
section
variable {X:Cx} {CX:CXT} {k:Nat} {f C:Addr} {fd:FuncData} {ps:List Str} {sp:Sp} {dvs:List V} {ds:List Value} {E:XK} {x m:Str} {p pos apos:Pos} {e o:Expr} {es:List Expr} {ta:TE} {t:TA}
theorem juN {pins:List (Addr×Obj)}{σ:St}{H:Hp}{s:Shared}{Q:VK}{us:List Value}{vs:List V}(F:FnOk X.prog X.w X.K X.mg X.base CX k f fd ps sp)(hr:Room k X.A)(hb:jeD X.K fd ps ds)(hd:jaZ dvs ds)(hx:jf0 CX X E)
  (I:Inv X pins σ H s) (r:jaZ vs us) (h:sp (vs++dvs) H Q E):wpAny (model X.prog X.w) X.A (call (.ref f) us) (EP X pins σ Q) X.xe s:=by
 have r2:jaZ (vs++dvs) (us++ds):=r.append hd
 have hl:(us++ds).length=ps.length:=by rw[<- r2.length];exact F.len _ _ _ _ h
 refine wpAny_call (codeAny_mono (F.run X.A X.stack s H ⟨us,[]⟩ (us++ds) (vs++dvs) Q E hr I.env0 (hb s us I.kIn hl) r2 h) fun r s' hq=>?_)
 cases r with
 |error e=>exact hx pins σ H s e s' I hq
 |ok fl=>
  cases fl with
  |ret u=>exact I.after hq
  |next=>exact False.elim hq
  |brk=>exact False.elim hq
  |cont=>exact False.elim hq
theorem jmz (F:FnOk X.prog X.w X.K X.mg X.base CX k f fd ps sp)(hr:Room k X.A)(hg:Gl X x)(hm:X.mg x=some (.ref f))(hk:PySem.W.keepIn X.K (.ref f)=true)(hb:jeD X.K fd ps ds)(hd:jaZ dvs ds)(hx:jf0 CX X E)
  (ha:PA X (e::es) t) (hdb:(x==("__debug__" : Str))=false:=by decide) (he:starEach (e::es) X.env=(false,eval e X.env)::starEach es X.env:=by rfl) (hpl:(backTo pos (starEach es X.env)).any (·.1)=false:=by rfl) :
  PE X (.Call (.Name x p) (e::es) [] pos) (jqR sp dvs E t):=by
 intro pins s σ H Q I h
 refine wpAny_Call_Name_kw (jeN I hg hm ?_ hdb)
 refine PySem.W.callWith_K (h₀:=X.base) I.ok.mod.kin hk (thn (ha pos pins s σ H _ I h) fun us s1 ⟨vs,H1,I1,r,q⟩=>⟨I1.kIn,?_⟩) he hpl
 exact juN F hr hb hd hx I1 r q
structure Mk (K:PySem.W.Frag) (C f:Addr):Prop where
 makes:PySem.W.makesIn K C=true
 init:PySem.W.findIn K (.ref C) "__init__" =some (some (.ref f))
 fn:PySem.W.isFn K (.ref f)=true
 kp:PySem.W.keepIn K (.ref C)=true
theorem jn9 {pins:List (Addr×Obj)}{σ:St}{H:Hp}{s:Shared}{Q:VK}{us:List Value}{vs:List V}(M:Mk X.K C f)(F:FnOk X.prog X.w X.K X.mg X.base CX k f fd ps sp)(hr:Room (k+1) X.A)(hb:jeD X.K fd ps ds)(hd:jaZ dvs ds)
  (hx:jf0 CX X E) (I:Inv X pins σ H s) (r:jaZ vs us)
  (h:∀x dx,H x=none->H dx=none->dx≠x->sp (.ref x::(vs++dvs)) (upd (upd H dx (.own x)) x (.ins C dx [])) (fun v H2=>v=.non/\Q (.ref x) H2) E) :
  wpAny (model X.prog X.w) X.A (call (.ref C) us) (EP X pins σ Q) X.xe s:=by
 have hq:=h (s.heap.objs.size+1) s.heap.objs.size (I.hok.fresh (Nat.le_succ _)) (I.hok.fresh (Nat.le_refl _)) (Nat.ne_of_lt (Nat.lt_succ_self _))
 have I2:=Inv.made (C:=C) I
 have r2:jaZ (V.ref (s.heap.objs.size+1)::(vs++dvs)) (Value.ref (s.heap.objs.size+1)::(us++ds)):=.cons rfl (r.append hd)
 have hl:(Value.ref (s.heap.objs.size+1)::us++ds).length=ps.length:=by
  have e:=r2.length
  rw[F.len _ _ _ _ hq]at e
  exact e.symm
 refine wpAny_call (jn1 (f:=f) I.kIn M.makes M.init (beq_iff_eq.mp M.fn) (codeAny_mono (F.run _ X.stack _ _ ⟨Value.ref (s.heap.objs.size+1)::us,[]⟩ (Value.ref (s.heap.objs.size+1)::(us++ds)) _ _ E (hr.make C us [])
  (I2.env0.make C us []) (hb _ (Value.ref (s.heap.objs.size+1)::us) I2.kIn hl) r2 hq) fun r s' hq'=>?_))
 cases r with
 |error e=>exact hx pins σ _ _ e s' I2 hq'
 |ok fl=>
  cases fl with
  |ret u=>
   obtain⟨v,H',I3,rv,ev,q3⟩:=I2.after hq'
   subst ev
   exact⟨rv,⟨V.ref (s.heap.objs.size+1),H',I3,rfl,q3⟩⟩
  |next=>exact False.elim hq'
  |brk=>exact False.elim hq'
  |cont=>exact False.elim hq'
theorem jq8 (M:Mk X.K C f)(F:FnOk X.prog X.w X.K X.mg X.base CX k f fd ps sp)(hr:Room (k+1) X.A)(hg:Gl X x)(hm:X.mg x=some (.ref C))(hb:jeD X.K fd ps ds)(hd:jaZ dvs ds)(hx:jf0 CX X E)
  (ha:PA X (e::es) t) (hdb:(x==("__debug__" : Str))=false:=by decide) (he:starEach (e::es) X.env=(false,eval e X.env)::starEach es X.env:=by rfl) (hpl:(backTo pos (starEach es X.env)).any (·.1)=false:=by rfl) :
  PE X (.Call (.Name x p) (e::es) [] pos) (jwT C sp dvs E t):=by
 intro pins s σ H Q I h
 refine wpAny_Call_Name_kw (jeN I hg hm ?_ hdb)
 refine PySem.W.callWith_K (h₀:=X.base) I.ok.mod.kin M.kp (thn (ha pos pins s σ H _ I h) fun us s1 ⟨vs,H1,I1,r,q⟩=>⟨I1.kIn,?_⟩) he hpl
 exact jn9 M F hr hb hd hx I1 r q
end
section
variable {X:Cx} {CX:CXT} {k:Nat} {f C:Addr} {fd:FuncData} {ps ks:List Str} {sp:Sp} {E:XK} {x m:Str} {p pos apos kpos:Pos} {e o:Expr} {es:List Expr} {kws:List Keyword} {te ta:TE} {t tk:TA} {nm:Option Str}
structure KBinds (K:PySem.W.Frag) (fd:FuncData) (ps ks:List Str) (g:List Value->List Value->List Value) (gV:List V->List V->List V):Prop where
 to:∀(s:Shared) (us ws:List Value),K.In s.heap->(g us ws).length=ps.length->BindsTo s fd ⟨us,ks.zip ws⟩ (ps.zip (g us ws))
 rel:∀{vs:List V} {us:List Value} {zs:List V} {ws:List Value},jaZ vs us->jaZ zs ws->jaZ (gV vs zs) (g us ws)
variable {g:List Value->List Value->List Value} {gV:List V->List V->List V}
end
structure FnScope (N P:List Str) (sc:Scope):Prop where
 kind:sc.kind=.function
 co:sc.isCoroutine=false
 gen:sc.isGenerator=false
 nd:N.Nodup
 pre:N.take P.length=P
 par:∀x∈P,sc.names.lookup x=some .local∨sc.names.lookup x=some .cell
 nofree:∀y∈sc.names,y.2≠.free
theorem jhL {kindOf:Str->Option NameKind}{x:Str}:∀{binds:List (Str×Value)} {m:Str->Option Value},(∀v,(x,v)∉binds)->bindL kindOf binds m x=m x
 |[],_,_=>rfl
 |(n,v)::r,m,h=>by
  unfold bindL
  rw[jhL fun w hw=>h w (List.mem_cons_of_mem _ hw)]
  split
  ·have:x≠n:=by rintro rfl;exact h v List.mem_cons_self
   simp[this]
  ·rfl
theorem jhJ {kindOf:Str->Option NameKind}{x:Str}:∀{binds:List (Str×Value)} {m:Str->Option Value},(∀v,(x,v)∉binds)->bindC kindOf binds m x=m x
 |[],_,_=>rfl
 |(n,v)::r,m,h=>by
  unfold bindC
  rw[jhJ fun w hw=>h w (List.mem_cons_of_mem _ hw)]
  split
  ·rfl
  ·have:x≠n:=by rintro rfl;exact h v List.mem_cons_self
   simp[this]
theorem ji {kindOf:Str->Option NameKind}{x:Str}{v:Value}:∀{P:List Str} {vs:List Value} {i:Nat} {m:Str->Option Value},P.Nodup->P[i]?=some x->vs[i]?=some v->kindOf x=some .local ->
  bindL kindOf (P.zip vs) m x=some v
 |[],_,_,_,_,h,_,_=>by simp at h
 |_::_,[],_,_,_,_,h,_=>by simp at h
 |p::P,w::vs,0,m,nd,h1,h2,hk=>by
  simp at h1 h2;subst h1;subst h2
  show bindL kindOf ((p,w)::P.zip vs) m p=_
  unfold bindL
  rw[jhL fun v hv=>(List.nodup_cons.mp nd).1 (List.of_mem_zip hv).1,if_pos hk]
  simp
 |p::P,w::vs,i+1,m,nd,h1,h2,hk=>by
  show bindL kindOf ((p,w)::P.zip vs) m x=_
  unfold bindL
  exact ji (i:=i) (List.nodup_cons.mp nd).2 (by simpa using h1) (by simpa using h2) hk
theorem jhN {kindOf:Str->Option NameKind}{x:Str}{v:Value}:∀{P:List Str} {vs:List Value} {i:Nat} {m:Str->Option Value},P.Nodup->P[i]?=some x->vs[i]?=some v->kindOf x≠some .local ->
  bindC kindOf (P.zip vs) m x=some v
 |[],_,_,_,_,h,_,_=>by simp at h
 |_::_,[],_,_,_,_,h,_=>by simp at h
 |p::P,w::vs,0,m,nd,h1,h2,hk=>by
  simp at h1 h2;subst h1;subst h2
  show bindC kindOf ((p,w)::P.zip vs) m p=_
  unfold bindC
  rw[jhJ fun v hv=>(List.nodup_cons.mp nd).1 (List.of_mem_zip hv).1,if_neg hk]
  simp
 |p::P,w::vs,i+1,m,nd,h1,h2,hk=>by
  show bindC kindOf ((p,w)::P.zip vs) m x=_
  unfold bindC
  exact jhN (i:=i) (List.nodup_cons.mp nd).2 (by simpa using h1) (by simpa using h2) hk
noncomputable def start (N:List Str)(vs:List V):St:=vs.map some++List.replicate (N.length - vs.length) none
noncomputable def jiZ (CX:CXT)(P:Program)(w:World)(K:PySem.W.Frag)(mg:Str->Option Value)(base:Heap)(N:List Str)(qual:Str)(scope:Scope)(f:Addr)(cd:Value)(A:Around)(outer:List Env)(s:Shared)(H:Hp)(E:XK):Cx where
 prog:=P
 w:=w
 K:=K
 mg:=mg
 base:=base
 A:=A.deeper (envOfC qual scope s.heap.objs.size f cd)
 N:=N
 s₀:=s
 H₀:=H
 env:=envOfC qual scope s.heap.objs.size f cd
 outer:=outer
 stack:=envOfC qual scope s.heap.objs.size f cd::outer
 ex:=[]
 calm:=true
 fn:=fun _=>true
 pn:=[]
 xe:=fun e s'=>wpAny (model P w) (A.deeper (envOfC qual scope s.heap.objs.size f cd)) (leaving (envOfC qual scope s.heap.objs.size f cd) e) (fun _ s''=>CX outer H s E e s'') (fun e' s''=>CX outer H s E e' s'') s'
theorem jj5 {sc:Scope}{n:Nat}{x:Str}(h:sc.names.lookup x=some .cell):∃c,(cellsFrom n sc.names []).lookup x=some c:=by
 have q:=PySem.W.cellsFrom_some sc.names n [] (.inl h)
 exact Option.isSome_iff_exists.mp q
theorem jk1 {CX:CXT}{P:Program}{w:World}{K:PySem.W.Frag}{mg:Str->Option Value}{base:Heap}{N ps:List Str}{qual:Str}{scope:Scope}{f:Addr}{cd:Value}{A:Around}{outer:List Env}{s s1:Shared}{H:Hp}{E:XK}{us:List Value}{vs:List V}
  (S:FnScope N ps scope) (hd:A.handled=none) (e0:Env0 P w K mg base A outer s H) (hl:vs.length=ps.length) (r:jaZ vs us)
  (x:InCallC s s.heap.objs.size (bindL (envOfC qual scope s.heap.objs.size f cd).kindOf (ps.zip us) fun _=>none) (cellsFrom (s.heap.objs.size+1) scope.names []) (bindC (envOfC qual scope s.heap.objs.size f cd).kindOf (ps.zip us) fun _=>none) s1) :
  Inv (jiZ CX P w K mg base N qual scope f cd A outer s H E) [] (start N vs) H s1:=by
 have hpl:ps.length<=N.length:=by have:=congrArg List.length S.pre;rw[List.length_take]at this;omega
 obtain⟨h1,tk,rfl,hk⟩:=x.done
 have noA:∀b:Addr,b∉(jiZ CX P w K mg base N qual scope f cd A outer s H E).ex:=fun b z=>absurd (show b∈([]:List Addr)from z) (by simp)
 refine⟨⟨e0.mod,S.kind,rfl,rfl,Nat.le_refl _,fun y z c h1 h2=>?_,fun y hy=>?_,fun y c _ h=>?_,fun _=>hd,Around.frames_deeper e0.frames,.inr ⟨rfl,rfl⟩,fun b z=>absurd z (noA b),e0.bs,e0.bsz,fun b _ _=>noA b,fun b z=>absurd z (noA b),e0.funs,e0.frf⟩,
  rfl,e0.bare,Un.kept hk,⟨_,x.toInCall.ns,fun i y v h1 h2 h3=>?_⟩,fun y c h=>⟨_,x.cell y c h⟩,e0.hok.fresh (Nat.le_refl _),fun y c h=>?_,fun p hp=>absurd (show p∈([]:List (Addr×Obj))from hp) (by simp),e0.hok.kept hk,?_⟩
 ·exact name_of_addr x.apart (PySem.mem_of_lookup h1) (PySem.mem_of_lookup h2)
 ·have hy:scope.names.lookup y=some .cell∨scope.names.lookup y=some .free:=hy
  rcases hy with hy|hy
  ·exact jj5 hy
  ·exact absurd rfl (S.nofree _ (PySem.mem_of_lookup hy))
 ·exact Nat.le_of_lt (x.above y c (PySem.mem_of_lookup h))
 ·have hi:i<vs.length:=by
   unfold start at h2
   by_cases hi:i<vs.length
   ·exact hi
   ·rw[List.getElem?_append_right (by simpa using hi)]at h2
    rw[List.getElem?_replicate]at h2
    split at h2<;>cases h2
  have ha:vs[i]?=some v:=by
   unfold start at h2
   rw[List.getElem?_append_left (by simpa using hi),List.getElem?_map]at h2
   cases e:vs[i]? with
   |none=>rw[e]at h2;cases h2
   |some a=>rw[e]at h2;cases h2;rfl
  obtain⟨u,hu,rv⟩:=r.get ha
  have hp:ps[i]?=some y:=by
   rw[<- S.pre,List.getElem?_take_of_lt (by omega)];exact h1
  have ndP:ps.Nodup:=by rw[<- S.pre];exact S.nd.sublist (List.take_sublist _ _)
  refine⟨u,rv,?_⟩
  rcases S.par y (List.mem_of_getElem? hp)with k|k
  ·exact .inl ⟨k,ji ndP hp hu k⟩
  ·obtain⟨c,e⟩:=jj5 (n:=s.heap.objs.size+1) k
   refine .inr ⟨.inl k,c,e,?_⟩
   have q:=x.cell y c e
   rw[jhN ndP hp hu (by show scope.names.lookup y≠_;rw[k];decide)]at q
   exact q
 ·exact e0.hok.fresh (Nat.le_of_lt (x.above y c (PySem.mem_of_lookup h)))
 ·unfold start
  show _=N.length
  rw[List.length_append,List.length_map,List.length_replicate]
  omega
theorem jut {CX:CXT}{P:Program}{w:World}{K:PySem.W.Frag}{mg:Str->Option Value}{base:Heap}{k:Nat}{f:Addr}{name qual:Str}{params:Arguments}{body:List Stmt}{scope:Scope}{dV kV doc pm cdv ct oc:Value}{an od:Option Addr}
  {osl:Array (Option Value)} {N ps:List Str} {sp:Sp} (lk:K.lookup f=some ⟨oc,od,.func (PySem.W.fnOf name qual params body scope dV kV doc pm an cdv ct),osl⟩) (hcd:PySem.W.codeIn K cdv qual=true) (S:FnScope N ps scope)
  (len:∀vs H Q E,sp vs H Q E->vs.length=ps.length)
  (hbody:∀(A:Around) (outer:List Env) (s:Shared) (H:Hp) (vs:List V) (Q:VK) (E:XK),Room k (A.deeper (envOfC qual scope s.heap.objs.size f cdv))->sp vs H Q E ->
   ∃t,PSs (jiZ CX P w K mg base N qual scope f cdv A outer s H E) body t/\t {nx:=fun _ H'=>Q .non H',rt:=Q} (start N vs) H) :
  FnOk P w K mg base CX (k+1) f (PySem.W.fnOf name qual params body scope dV kV doc pm an cdv ct) ps sp:=by
 refine⟨len,fun A outer s H args us vs Q E hr e0 hb r hsp=>?_⟩
 have hl:=len _ _ _ _ hsp
 have KX:K.In s.heap:=e0.mod.kin.keeps fun b o e=>(e0.bs b o e).1
 have lim:s.heap.NoLimit:=e0.mod.nolimit.keeps fun b o e=>(e0.bs b o e).1
 have hkind:∀y∈ps.zip us,scope.names.lookup y.1=some .local∨(scope.names.lookup y.1=some .cell/\((cellsFrom (s.heap.objs.size+1) scope.names []).lookup y.1).isSome=true):=fun⟨n,v⟩ hy=>by
  rcases S.par n (List.of_mem_zip hy).1 with q|q
  ·exact .inl q
  ·exact .inr ⟨q,PySem.W.cellsFrom_some _ _ _ (.inl q)⟩
 refine codeAny_call_function hr.depth (KX _ _ lk) rfl S.co S.gen rfl (PySem.W.codeRec_of KX hcd) (hb _ _ _ _ ?_)
 refine wpAny_newFunctionEnv_cells S.kind hkind fun env he s1 x=>?_
 subst he
 refine⟨lim.keeps x.toInCall.keep,codeAny_func ?_⟩
 obtain⟨t,ht,hq⟩:=hbody A outer s H vs Q E (hr.deeper _) hsp
 have I:Inv (jiZ CX P w K mg base N qual scope f cdv A outer s H E) [] (start N vs) H s1:=jk1 S hr.hd e0 hl r x
 refine wpAny_mono (ht [] s1 (start N vs) H _ I hq) (fun fl s' hs=>?_) fun e s' hs=>hs
 have fin:∀{σ':St} {H':Hp} {v:V} {u:Value},Inv (jiZ CX P w K mg base N qual scope f cdv A outer s H E) [] σ' H' s'->ja0 v u->Q v H'->CE outer P w H s Q u s':=
  fun {σ' H' v u} J rv q=>⟨v,H',J.os,J.bare,J.base,J.hok,rv,q⟩
 cases fl with
 |ret u=>
  obtain⟨v,σ',H',J,rv,q⟩:=hs
  exact fin J rv q
 |next=>
  obtain⟨σ',H',J,q⟩:=hs
  exact fin (v:=V.non) (u:=Value.none) J rfl q
 |brk=>
  obtain⟨_,_,_,q⟩:=hs
  exact False.elim q
 |cont=>
  obtain⟨_,_,_,q⟩:=hs
  exact False.elim q
end _L2
namespace _L2
open PySem PySem.Spec PyProof.Rows
section
variable {X:Cx} {x:Str} {p pos:Pos} {e:Expr} {es:List Expr} {t:TA} {id T:String} {r:List V->Hp->VK->Prop}
noncomputable def tCB (r:List V->Hp->VK->Prop)(t:TA):TE:=fun σ H Q=>t σ H fun vs H1=>r vs H1 Q
theorem jn6 (hc:jbR X (.builtin id) r) (hg:Gl X x) (hm:X.mg x=none) (hv:bootBuiltins x=some (.builtin id)) (ha:PA X (e::es) t) (hn:x≠"__name__":=by decide) (hdb:(x==("__debug__" : Str))=false:=by decide)
  (he:starEach (e::es) X.env=(false,eval e X.env)::starEach es X.env:=by rfl) (hpl:(backTo pos (starEach es X.env)).any (·.1)=false:=by rfl):PE X (.Call (.Name x p) (e::es) [] pos) (tCB r t):=by
 intro pins s σ H Q I h
 refine wpAny_Call_Name_kw (jfQ I hg hm hv ?_ hn hdb)
 exact PyProof.Rows.callWith_builtin1 (thn (ha pos pins s σ H _ I h) fun us s1 ⟨vs,H1,I1,r1,q1⟩=>hc pins s1 σ H1 vs us Q I1 r1 q1) he hpl
theorem jmb (hc:jbR X (.type T) r) (hg:Gl X x) (hm:X.mg x=none) (hv:bootBuiltins x=some (.type T)) (ha:PA X (e::es) t) (hn:x≠"__name__":=by decide) (hdb:(x==("__debug__" : Str))=false:=by decide)
  (he:starEach (e::es) X.env=(false,eval e X.env)::starEach es X.env:=by rfl) (hpl:(backTo pos (starEach es X.env)).any (·.1)=false:=by rfl):PE X (.Call (.Name x p) (e::es) [] pos) (tCB r t):=by
 intro pins s σ H Q I h
 refine wpAny_Call_Name_kw (jfQ I hg hm hv ?_ hn hdb)
 exact PyProof.Rows.callWith_type1 (thn (ha pos pins s σ H _ I h) fun us s1 ⟨vs,H1,I1,r1,q1⟩=>hc pins s1 σ H1 vs us Q I1 r1 q1) he hpl
end
end _L2
namespace HT
open PySem PyProof.Rows
section
open PySem.SeqAt
open PySem.AutoSeq1 (wpAny_loadPart')
open PySem.MeetsSeq PySem.MeetsSeq2 PySem.MeetsSeq3
end
section
variable {prog:Program} {w:World} {A:Around} {E:Value->Shared->Prop} {s:Shared}
theorem cat_tup {t b:Addr}{vs ws:List Value}{Q:Value->Shared->Prop}(ht:IsTup s.heap t vs.toArray)(hb:IsTup s.heap b ws.toArray)(hv:vs≠[])
  (h1:ws=[]->Q (.ref t) s) (h2:ws≠[]->Q (.ref s.heap.objs.size) {s with heap:=s.heap.push {cls:=.type "tuple",data:=.seq (vs++ws).toArray}})
  (hsz:vs.length+ws.length<=sizeLine):wpAny (model prog w) A (binaryOp .Add (.ref t) (.ref b)) Q E s:=by
 obtain⟨⟨cls,dd,data,sl⟩,ho,hc,n,hd⟩:=id ht
 obtain⟨⟨cls2,dd2,data2,sl2⟩,ho2,hc2,n2,hd2⟩:=id hb
 simp only at hc hd hc2 hd2
 subst hc hd hc2 hd2
 have e:vs.toArray++ws.toArray=(vs++ws).toArray:=by simp
 by_cases hw:ws=[]
 ·exact concat_meets ⟨_,ho,rfl⟩ ⟨_,ho2,rfl⟩ noFill_tuple_add seq_tuple_add PySem.F.slot_tuple_add PySem.F.entry_tuple_add (PySem.F.args_tuple_add_2 _ _)
   (tuple_addW1 t b vs.toArray ws.toArray n n2 dd dd2 sl sl2 (by simpa using hv) (by simp[hw])) ⟨ho,ho2,h1 hw⟩
 ·refine concat_meets ⟨_,ho,rfl⟩ ⟨_,ho2,rfl⟩ noFill_tuple_add seq_tuple_add PySem.F.slot_tuple_add PySem.F.entry_tuple_add (PySem.F.args_tuple_add_2 _ _)
   (tuple_addW2 t b vs.toArray ws.toArray n n2 dd dd2 sl sl2 (by simpa using hv) (by simpa using hw) (by rw[List.size_toArray,List.size_toArray];exact hsz)) ⟨ho,ho2,?_⟩
  rw[e]
  exact h2 hw
noncomputable def sIx (n d:Nat):Option Int->Nat
 |none=>d
 |some v=>if v<0 then(v+(n:Int)).toNat else min v.toNat n
theorem sIx_none (n d:Nat):sIx n d none=d:=rfl
theorem sIx_nat (n d k:Nat):sIx n d (some (k:Int))=min k n:=by
 show(if(k:Int)<0 then((k:Int)+(n:Int)).toNat else min (k:Int).toNat n)=min k n
 rw[if_neg (by omega),Int.toNat_natCast]
theorem jtq (n d:Nat)(hd:d<=n)(o:Option Int):sIx n d o<=n:=by
 cases o with
 |none=>exact hd
 |some v=>
  show(if v<0 then(v+(n:Int)).toNat else min v.toNat n)<=n
  by_cases hv:v<0
  ·rw[if_pos hv];omega
  ·rw[if_neg hv];exact Nat.min_le_right _ _
theorem jmM (v:Int)(n d:Nat):(if v<0 then max (v+(n:Int)) 0 else min v (n:Int))=((sIx n d (some v):Nat):Int):=by
 show(if v<0 then max (v+(n:Int)) 0 else min v (n:Int))=(((if v<0 then(v+(n:Int)).toNat else min v.toNat n):Nat):Int)
 by_cases hv:v<0
 ·simp only[if_pos hv];omega
 ·simp only[if_neg hv];omega
theorem jkM (lo hi:Option Int)(n:Nat):Builtin.Slice.sliceAdjust lo hi 1 (n:Int)=(((sIx n 0 lo:Nat):Int),((sIx n n hi:Nat):Int)):=by
 have h1:¬ ((1:Int)<0):=by omega
 unfold Builtin.Slice.sliceAdjust
 simp only[h1,if_false]
 refine Prod.ext ?_ ?_
 ·cases lo with
  |none=>rfl
  |some v=>exact jmM v n 0
 ·cases hi with
  |none=>rfl
  |some v=>exact jmM v n n
theorem jkK (i j:Nat):Builtin.Slice.slicePlaces (i:Int) (j:Int) 1=j - i:=by
 unfold Builtin.Slice.slicePlaces
 have h1:(1:Int) > 0:=by omega
 simp only[h1,if_true,Int.ediv_one]
 split<;>omega
theorem jgD {v:Value}{o:Option Int}{Q:Option Int->Shared->Prop}(p:IsPart v o)(h:Q o s):wpAny (model prog w) A (Builtin.Slice.slicePartIndex v) Q E s:=by
 cases p with
 |none=>exact slicePart_none h
 |int i t=>exact slicePart_int h
theorem jdd {sl:Addr}{vl vu:Value}{lo hi:Option Int}{n:Nat}{Q:Int×Int×Nat->Shared->Prop}(hs:s.heap.IsSliceOf sl vl vu .none)(pl:IsPart vl lo)(pu:IsPart vu hi)
  (h:Q (((sIx n 0 lo:Nat):Int),1,sIx n n hi - sIx n 0 lo) s):wpAny (model prog w) A (Builtin.Slice.sliceApplied (.ref sl) (pure (n:Int))) Q E s:=by
 obtain⟨os,hos,hcs,hds⟩:=id hs
 unfold Builtin.Slice.sliceApplied Builtin.Slice.sliceFields
 refine wpAny_bind (wpAny_bind (wpAny_field hos hds (x:=vl) rfl (wpAny_bind (wpAny_field hos hds (x:=vu) rfl (wpAny_bind (wpAny_field hos hds (x:=.none) rfl (wpAny_pure ?_)))))))
 refine wpAny_bind (slicePart_none ?_)
 show wpAny _ _ (if((1:Int)==0)=true then _ else _) _ _ s
 rw[if_neg (by decide)]
 refine wpAny_bind (jgD pl (wpAny_bind (jgD pu (wpAny_bind (wpAny_pure ?_)))))
 show wpAny _ _ (match Builtin.Slice.sliceAdjust lo hi 1 (n:Int)with|(lo,hi)=>pure (lo,(1:Int),Builtin.Slice.slicePlaces lo hi 1)) _ _ s
 rw[jkM lo hi n]
 show wpAny _ _ (pure (((sIx n 0 lo:Nat):Int),(1:Int),Builtin.Slice.slicePlaces ((sIx n 0 lo:Nat):Int) ((sIx n n hi:Nat):Int) 1)) _ _ s
 rw[jkK]
 exact wpAny_pure h
theorem jnu (xs:Array Value)(i k:Nat):((List.range k).filterMap fun(m:Nat)=>xs[((i:Int)+(m:Int)*1).toNat]?).toArray=((xs.toList.drop i).take k).toArray:=by
 have e:(fun(m:Nat)=>xs[((i:Int)+(m:Int)*1).toNat]?)=fun m=>xs[i+m]?:=by
  funext m
  have:((i:Int)+(m:Int)*1).toNat=i+m:=by omega
  rw[this]
 rw[e]
 have:=pick_run xs i k
 rw[List.filterMap_map]at this
 have e2:((fun x=>xs[x]?) ∘ fun x=>i+x)=fun m=>xs[i+m]?:=rfl
 rw[e2]at this
 rw[this]
theorem getItem_tuple_cut {t sl:Addr}{items:Array Value}{vl vu:Value}{lo hi:Option Int}{Q:Value->Shared->Prop}(ht:IsTup s.heap t items)(hs:s.heap.IsSliceOf sl vl vu .none)(pl:IsPart vl lo)(pu:IsPart vu hi)
  (hw:¬ (sIx items.size 0 lo=0/\sIx items.size items.size hi=items.size))
  (h:Q (.ref s.heap.objs.size) {s with heap:=s.heap.push {cls:=.type "tuple",data:=.seq ((items.toList.drop (sIx items.size 0 lo)).take (sIx items.size items.size hi - sIx items.size 0 lo)).toArray}})
  (hsz:items.size<=sizeLine):wpAny (model prog w) A (getItem (.ref t) (.ref sl)) Q E s:=by
 have htake:sizeOk (.seq ((items.toList.drop (sIx items.size 0 lo)).take (sIx items.size items.size hi - sIx items.size 0 lo)).toArray):=by
  show((items.toList.drop (sIx items.size 0 lo)).take (sIx items.size items.size hi - sIx items.size 0 lo)).toArray.size<=sizeLine
  rw[List.size_toArray,List.length_take,List.length_drop,Array.length_toList]
  omega
 have hj:sIx items.size items.size hi<=items.size:=jtq _ _ (Nat.le_refl _) hi
 obtain⟨os,hos,hcs,hds⟩:=id hs
 have hTs:s.TypeIs (.ref sl) "slice":=⟨os,hos,hcs⟩
 unfold getItem
 try with_reducible refine wpAny_holding ?_
 first|refine wpAny_bind (wpAny_pure ?_)|skip
 refine wpAny_bind (wpAny_sequenceKey ht.typeIs (by decide) ?_)
 refine wpAny_bind (wpAny_callSpecial?_slot (name:=Str.ofString "__getitem__") ht.typeIs PyProof.Rows.slot_tuple_getitem
  (wpAny_call_entry PyProof.Rows.slot_tuple_getitem ht.typeIs entry_tuple_getitem ?_ (args_tuple_getitem _ _)))
 show wpAny _ _ (Builtin.Tuple.tupleItemsOf (.ref t) >>=_) _ _ s
 refine wpAny_bind (tupleItemsOf_ ht ?_)
 refine wpAny_bind (wpAny_typeOf hTs ?_)
 rw[if_pos (by decide)]
 refine wpAny_bind (jdd hs pl pu ?_)
 have hno:¬ ((((sIx items.size 0 lo:Nat):Int)==0&&(1:Int)==1&&(sIx items.size items.size hi - sIx items.size 0 lo)==items.size)=true):=by
  intro q
  rw[Bool.and_eq_true,Bool.and_eq_true]at q
  have q1:((sIx items.size 0 lo:Nat):Int)=0:=eq_of_beq q.1.1
  have q2:sIx items.size items.size hi - sIx items.size 0 lo=items.size:=eq_of_beq q.2
  exact hw ⟨by omega,by omega⟩
 show wpAny _ _ (if(((sIx items.size 0 lo:Nat):Int)==0&&(1:Int)==1&&(sIx items.size items.size hi - sIx items.size 0 lo)==items.size)=true then _ else _) _ _ s
 rw[if_neg hno,jnu]
 first
  |exact wpAny_bind (m:=Builtin.Tuple.tupleExact _) (wpAny_newObj_type (wpAny_pure ⟨_,rfl,wpAny_pure h⟩) htake)
  |exact wpAny_bind (m:=Builtin.Tuple.tupleExact _) (wpAny_newObj_type (wpAny_bind (wpAny_pure (wpAny_pure ⟨_,rfl,wpAny_pure h⟩))) htake)
  |exact wpAny_bind (wpAny_bind (m:=Builtin.Tuple.tupleExact _) (wpAny_newObj_type (wpAny_pure (wpAny_pure ⟨_,rfl,wpAny_pure h⟩)) htake))
  |exact wpAny_bind (wpAny_bind (m:=Builtin.Tuple.tupleExact _) (wpAny_newObj_type (wpAny_pure ⟨_,rfl,wpAny_pure h⟩) htake))
end
end HT
namespace _L2
open PySem PySem.Spec PyProof.Rows
noncomputable abbrev TO:=St->Hp->(Option Int->Hp->Prop)->Prop
noncomputable def PO (X:Cx)(e:Option Expr)(t:TO):Prop:=
 ∀(pins:List (Addr×Obj)) (s:Shared) (σ:St) (H:Hp) (Q:Option Int->Hp->Prop),Inv X pins σ H s->t σ H Q ->
  wpAny (model X.prog X.w) X.A (evalPart e X.env) (fun u s'=>∃o H',Inv X pins σ H' s'/\IsPart u o/\Q o H') X.xe s
noncomputable def jqC:TO:=fun _ H Q=>Q none H
noncomputable def jwt (t:TE):TO:=fun σ H Q=>t σ H fun x H1=>∃i,x=.int i/\Q (some i) H1
section
variable {X:Cx} {e:Expr} {te:TE} {lo hi:Option Expr} {tl th:TO} {pos p2:Pos}
theorem jqV:PO X none jqC:=by
 intro pins s σ H Q I h
 rw[evalPart_none]
 exact wpAny_pure ⟨none,H,I,.none,h⟩
theorem jsl (h:PE X e te):PO X (some e) (jwt te):=by
 intro pins s σ H Q I hw
 rw[evalPart_some]
 refine thn (h pins s σ H _ I hw) fun u s1 ⟨x,H1,I1,r1,q1⟩=>?_
 obtain⟨i,rfl,q⟩:=q1
 obtain⟨t,rfl⟩:=r1
 exact⟨some i,H1,I1,.int i t,q⟩
noncomputable def SlR (X:Cx)(r:V->Option Int->Option Int->Hp->VK->Prop):Prop:=
 ∀(pins:List (Addr×Obj)) (s:Shared) (σ:St) (H:Hp) (x:V) (v vl vu:Value) (lo hi:Option Int) (sl:Addr) (Q:VK),Inv X pins σ H s->ja0 x v->s.heap.IsSliceOf sl vl vu .none->IsPart vl lo->IsPart vu hi->r x lo hi H Q ->
  ∃T id,typeLookup (.type T) "__getitem__" =pure (some (.builtin id))/\s.TypeIs v T/\wpAny (model X.prog X.w) X.A (getItem v (.ref sl)) (EP X pins σ Q) X.xe s
theorem SlR.or {r r':V->Option Int->Option Int->Hp->VK->Prop}(h:SlR X r)(h':SlR X r'):SlR X (fun x lo hi H Q=>r x lo hi H Q∨r' x lo hi H Q):=by
 intro pins s σ H x v vl vu lo hi sl Q I rx hs pl pu q
 rcases q with q|q
 ·exact h pins s σ H x v vl vu lo hi sl Q I rx hs pl pu q
 ·exact h' pins s σ H x v vl vu lo hi sl Q I rx hs pl pu q
noncomputable def tSl (r:V->Option Int->Option Int->Hp->VK->Prop)(te:TE)(tl th:TO):TE:=fun σ H Q=>te σ H fun x H1=>tl σ H1 fun l H2=>th σ H2 fun u H3=>r x l u H3 Q
theorem jnA {r:V->Option Int->Option Int->Hp->VK->Prop}(hr:SlR X r)(he:PE X e te)(hl:PO X lo tl)(hu:PO X hi th):PE X (.Subscript e (.Slice lo hi none p2) pos) (tSl r te tl th):=by
 intro pins s σ H Q I h
 refine Subscript_ (thn (he pins s σ H _ I h) fun v s1 ⟨x,H1,I1,r1,q1⟩=>?_)
 refine wpAny_Slice (thn (hl pins s1 σ H1 _ I1 q1) fun vl s2 ⟨l,H2,I2,pl,q2⟩=>thn (hu pins s2 σ H2 _ I2 q2) fun vu s3 ⟨u,H3,I3,pu,q3⟩=>?_)
 rw[evalPart_none]
 refine wpAny_pure ?_
 have I4:Inv X pins σ H3 {s3 with heap:=s3.heap.push {cls:=.type "slice",data:=.fields #[vl,vu,.none]}}:=I3.kept (t':=s3.toks) fun b ob q=>Heap.get?_push_of_some _ q
 obtain⟨T,id,hT,ht,hg⟩:=hr pins {s3 with heap:=s3.heap.push {cls:=.type "slice",data:=.fields #[vl,vu,.none]}} σ H3 x v vl vu l u s3.heap.objs.size Q I4 r1 (Heap.IsSliceOf.new ..) pl pu q3
 show wpAny (model X.prog X.w) X.A (subscriptTail e (.Slice lo hi none p2) v (.ref s3.heap.objs.size)) (EP X pins σ Q) X.xe {s3 with heap:=s3.heap.push {cls:=.type "slice",data:=.fields #[vl,vu,.none]}}
 exact tail_any (ops:=[.ref s3.heap.objs.size,v]) ht hT hg (by with_unfolding_all rfl)
noncomputable def jpP (xs:List V)(lo hi:Option Int):List V:=(xs.drop (HT.sIx xs.length 0 lo)).take (HT.sIx xs.length xs.length hi - HT.sIx xs.length 0 lo)
theorem jfY (xs:List V)(lo hi:Option Int):(jpP xs lo hi).length<=xs.length:=by
 unfold jpP
 rw[List.length_take,List.length_drop]
 omega
noncomputable def jxp (K:PySem.W.Frag):V->Option Int->Option Int->Hp->VK->Prop:=fun x lo hi H Q=>∃a xs,x=.ref a/\SqT K H a xs /\
 ¬ (HT.sIx xs.length 0 lo=0/\HT.sIx xs.length xs.length hi=xs.length)/\∀p,H p=none->Q (.ref p) (upd H p (.tup (jpP xs lo hi)))
theorem juZ:SlR X (jxp X.K):=by
 intro pins s σ H x v vl vu lo hi sl Q I rx hs pl pu h
 obtain⟨a,xs,rfl,hx,hw,q⟩:=h
 cases rx
 obtain⟨its,r,ht,hz⟩:=I.tuple hx
 have hlen:its.toArray.size=xs.length:=by rw[List.size_toArray];exact r.length.symm
 refine⟨"tuple",_,PyProof.Rows.slot_tuple_getitem.lookup,ht.typeIs,?_⟩
 refine HT.getItem_tuple_cut ht hs pl pu (by rw[hlen];exact hw) ?_ (by rw[hlen];exact hz)
 rw[hlen]
 refine⟨.ref s.heap.objs.size,_,I.laid (t':=s.toks) (o:=.tup (jpP xs lo hi)) (fun b ob q=>Heap.get?_push_of_some _ q) (Nat.le_refl _) ?_,rfl,q _ (I.hok.fresh (Nat.le_refl _))⟩
 exact⟨Nat.le_trans (jfY xs lo hi) hz,_,(r.drop (HT.sIx xs.length 0 lo)).take (HT.sIx xs.length xs.length hi - HT.sIx xs.length 0 lo),IsTup.new _ _⟩
noncomputable def jvm (K:PySem.W.Frag):R2:=fun x y H Q=>∃a b xs ys,x=.ref a/\y=.ref b/\SqT K H a xs/\SqT K H b ys/\xs≠[]/\xs.length+ys.length<=sizeLine /\
 (ys=[]->Q (.ref a) H)/\(ys≠[]->∀p,H p=none->Q (.ref p) (upd H p (.tup (xs++ys))))
theorem jaZ.nil_iff {xs:List V}{us:List Value}(r:jaZ xs us):us=[]↔xs=[]:=by
 cases r with
 |nil=>simp
 |cons _ _=>simp
theorem jrJ:OpR X (binaryOp .Add) (jvm X.K):=by
 intro pins s σ H x y v u Q I rx ry h
 obtain⟨a,b,xs,ys,rfl,rfl,ha,hb,hx,hz,q1,q2⟩:=h
 cases rx
 cases ry
 obtain⟨its,r1,p1,_⟩:=I.tuple ha
 obtain⟨its2,r2,p2,_⟩:=I.tuple hb
 refine HT.cat_tup p1 p2 (fun z=>hx (r1.nil_iff.mp z)) (fun z=>⟨.ref a,H,I,rfl,q1 (r2.nil_iff.mp z)⟩) (fun z=>?_) (by rw[<- r1.length,<- r2.length];exact hz)
 refine⟨.ref s.heap.objs.size,_,I.laid (t':=s.toks) (o:=.tup (xs++ys)) (fun b ob q=>Heap.get?_push_of_some _ q) (Nat.le_refl _) ?_,rfl,q2 (fun w=>z (r2.nil_iff.mpr w)) _ (I.hok.fresh (Nat.le_refl _))⟩
 exact⟨by rw[List.length_append];exact hz,_,r1.append r2,IsTup.new _ _⟩
end
end _L2
namespace _L2
open PySem PySem.Spec PyProof.Rows
noncomputable def ixN (n:Nat)(i:Int):Option Nat:=if 0<=i then(if i<n then some i.toNat else none)else if -(n:Int)<=i then some (i+n).toNat else none
noncomputable def atI {α:Type}(xs:List α)(i:Int):Option α:=(ixN xs.length i).bind fun j=>xs[j]?
theorem jre {n:Nat}{i:Int}{j:Nat}(h:ixN n i=some j):seqIndex? i n=some j/\j<n/\-(n:Int)<=i/\i<n:=by
 unfold ixN at h
 by_cases h0:0<=i
 ·rw[if_pos h0]at h
  by_cases h1:i<n
  ·rw[if_pos h1]at h
   have e:i.toNat=j:=Option.some.inj h
   exact⟨by rw[seqIndex_of h0 h1,e],by omega,by omega,h1⟩
  ·rw[if_neg h1]at h;cases h
 ·rw[if_neg h0]at h
  by_cases h1 : -(n:Int)<=i
  ·rw[if_pos h1]at h
   have e:(i+n).toNat=j:=Option.some.inj h
   exact⟨by rw[seqIndex_neg (by omega) h1,e],by omega,h1,by omega⟩
  ·rw[if_neg h1]at h;cases h
theorem jiX {α:Type}{xs:List α}{i:Int}{v:α}(h:atI xs i=some v):∃j,seqIndex? i xs.length=some j/\xs[j]?=some v/\j<xs.length/\-(xs.length:Int)<=i/\i<xs.length:=by
 unfold atI at h
 cases e:ixN xs.length i with
 |none=>rw[e]at h;cases h
 |some j=>
  rw[e]at h
  obtain⟨h1,h2,h3,h4⟩:=jre e
  exact⟨j,h1,h,h2,h3,h4⟩
theorem jf7 {α:Type}{xs:List α}{j:Nat}{v:α}(h:xs[j]?=some v):atI xs (j:Int)=some v:=by
 have hj:j<xs.length:=(List.getElem?_eq_some_iff.mp h).1
 have e:ixN xs.length (j:Int)=some j:=by
  unfold ixN
  rw[if_pos (by omega),if_pos (by omega)];simp
 unfold atI;rw[e];exact h
noncomputable def jk9 (b:Expr):Prop:=∀o i,subscripted b false o i=operate [o,i] (getItem o i)
noncomputable def IxR (X:Cx)(r:R2):Prop:=
 ∀(value slice:Expr) (pins:List (Addr×Obj)) (s:Shared) (σ:St) (H:Hp) (x y:V) (v u:Value) (Q:VK),Inv X pins σ H s->ja0 x v->ja0 y u->r x y H Q ->
  subscripted slice false v u=operate [v,u] (getItem v u)->wpAny (model X.prog X.w) X.A (subscriptTail value slice v u) (EP X pins σ Q) X.xe s
noncomputable def MtR (X:Cx)(id:String)(r:V->List V->Hp->VK->Prop):Prop:=
 ∀(pins:List (Addr×Obj)) (s:Shared) (σ:St) (H:Hp) (x:V) (xs:List V) (v:Value) (us:List Value) (Q:VK),Inv X pins σ H s->ja0 x v->jaZ xs us->r x xs H Q ->
  wpAny (model X.prog X.w) X.A (call (.builtin id) (v::us)) (EP X pins σ Q) X.xe s
section
variable {X:Cx} {a b:Expr} {ta tb:TE} {pos:Pos}
theorem IxR.or {r r':R2}(h:IxR X r)(h':IxR X r'):IxR X (fun x y H Q=>r x y H Q∨r' x y H Q):=by
 intro value slice pins s σ H x y v u Q I rx ry q hs
 rcases q with q|q
 ·exact h value slice pins s σ H x y v u Q I rx ry q hs
 ·exact h' value slice pins s σ H x y v u Q I rx ry q hs
theorem jvW {r:R2}(hr:IxR X r)(ha:PE X a ta)(hb:PE X b tb)(hs:jk9 b):PE X (.Subscript a b pos) (tOp r ta tb):=by
 intro pins s σ H Q I h
 exact Subscript_ (jwW ha hb I h fun v u s2 x y H2 I2 rx ry q=>hr a b pins s2 σ H2 x y v u Q I2 rx ry q (hs _ _))
noncomputable def jw0 (K:PySem.W.Frag):R2:=fun x y H Q=>∃p xs i v,x=.ref p/\y=.int i/\SqL K H p xs/\atI xs i=some v/\Q v H
noncomputable def jxh (K:PySem.W.Frag):R2:=fun x y H Q=>∃p xs i v,x=.ref p/\y=.int i/\SqT K H p xs/\atI xs i=some v/\Q v H
noncomputable def jw4:R2:=fun x y H Q=>∃z i c,x=.str z/\y=.int i/\z.length<=sizeLine/\atI z.cps.toList i=some c/\Q (.str ⟨#[c]⟩) H
theorem jrq:IxR X (jw0 X.K):=by
 intro value slice pins s σ H x y v u Q I rx ry h hs
 obtain⟨p,xs,i,z,rfl,rfl,hq,he,q⟩:=h
 cases rx
 obtain⟨t,rfl⟩:=ry
 obtain⟨its,r,pl,hz⟩:=I.list hq
 obtain⟨j,h1,h2,h3,h4,h5⟩:=jiX he
 obtain⟨w,ew,rw'⟩:=r.get h2
 have hl:=r.length
 have hn:=jgN
 have fin:EP X pins σ Q w s:=⟨z,H,I,rw',q⟩
 by_cases h0:0<=i
 ·have hj:i.toNat=j:=by
   rw[seqIndex_of h0 h5]at h1
   exact Option.some.inj h1
  exact item_listR pl.isList h0 (by omega) (by rw[hj];simpa using ew) fin hs
 ·have hj:(i+(its.toArray.size:Int)).toNat=j:=by
   rw[seqIndex_neg (by omega) h4]at h1
   rw[List.size_toArray,<- hl]
   exact Option.some.inj h1
  exact subscriptTail_builtinR (x:=w) pl.isList.typeIs slot_list_getitem.lookup
   (wpAny_getItem_list_neg (Q:=fun r s'=>r=w/\EP X pins σ Q r s') pl.isList (by omega) (by rw[List.size_toArray]<;>omega) (by omega) (by rw[hj];simpa using ew) ⟨rfl,fin⟩) hs
theorem jt5:IxR X (jxh X.K):=by
 intro value slice pins s σ H x y v u Q I rx ry h hs
 obtain⟨p,xs,i,z,rfl,rfl,hq,he,q⟩:=h
 cases rx
 obtain⟨t,rfl⟩:=ry
 obtain⟨its,r,pl,hz⟩:=I.tuple hq
 obtain⟨j,h1,h2,h3,h4,h5⟩:=jiX he
 obtain⟨w,ew,rw'⟩:=r.get h2
 have hl:=r.length
 have hn:=jgN
 have fin:EP X pins σ Q w s:=⟨z,H,I,rw',q⟩
 exact subscriptTail_builtinR (x:=w) pl.typeIs slot_tuple_getitem.lookup
  (getItem_tuple (j:=j) (Q:=fun r s'=>r=w/\EP X pins σ Q r s') pl (by omega) (by omega) (by rw[List.size_toArray,<- hl];exact h1) (by simpa using ew) ⟨rfl,fin⟩) hs
theorem jtV:IxR X jw4:=by
 intro value slice pins s σ H x y v u Q I rx ry h hs
 obtain⟨z,i,c,rfl,rfl,hz,he,q⟩:=h
 obtain⟨t,rfl⟩:=rx
 obtain⟨t',rfl⟩:=ry
 obtain⟨j,h1,h2,h3,h4,h5⟩:=jiX he
 have hl:z.cps.toList.length=z.length:=by simp[Str.length]
 rw[hl]at h1 h4 h5
 have hn:=jgN
 exact tail_any (typeIs_str s z t) slot_str_getitem.lookup (getItem_str (c:=c) (by
  have e1:decide (i < -(2 ^ 63:Int))=false:=decide_eq_false (by omega)
  have e2:decide (i ≥ 2 ^ 63)=false:=decide_eq_false (by omega)
  rw[e1,e2,Bool.or_false]) (by rw[h1];simpa using h2) ⟨.str ⟨#[c]⟩,H,I.tok _,⟨_,rfl⟩,q⟩) hs
noncomputable def rIx (K:PySem.W.Frag):R2:=fun x y H Q=>jw0 K x y H Q∨jxh K x y H Q∨jw4 x y H Q
theorem jtn:IxR X (rIx X.K):=jrq.or (jt5.or jtV)
theorem Inv.lst {pins:List (Addr×Obj)}{σ:St}{H:Hp}{s:Shared}{p:Addr}{xs:List V}(I:Inv X pins σ H s)(h:H p=some (.lst xs)) :
  ∃(its:List Value) (n:Nat),jaZ xs its/\s.heap.get? p=some {cls:=.type "list",data:=.seq its.toArray n}/\xs.length<=sizeLine:=by
 obtain⟨z,its,n,r,e⟩:=I.hok p _ h
 exact⟨its,n,r,e,z⟩
theorem jip (lo hi:Option Int)(n:Nat):(sliceBounds lo hi none n).1=((HT.sIx n 0 lo:Nat):Int)/\(sliceBounds lo hi none n).2.1=((HT.sIx n n hi:Nat):Int)/\(sliceBounds lo hi none n).2.2=1:=by
 refine⟨?_,?_,rfl⟩
 ·cases lo with
  |none=>simp[sliceBounds,HT.sIx]
  |some i=>
   simp only[sliceBounds,HT.sIx,Option.getD_none,show(1:Int) > 0 by decide,if_true]
   by_cases h:i<0
   ·simp only[h,if_true]<;>omega
   ·simp only[h,if_false]<;>omega
 ·cases hi with
  |none=>simp[sliceBounds,HT.sIx]
  |some i=>
   simp only[sliceBounds,HT.sIx,Option.getD_none,show(1:Int) > 0 by decide,if_true]
   by_cases h:i<0
   ·simp only[h,if_true]<;>omega
   ·simp only[h,if_false]<;>omega
theorem jgS (its:List Value)(lo hi:Option Int):slicePick its.toArray lo hi none=((its.drop (HT.sIx its.length 0 lo)).take (HT.sIx its.length its.length hi - HT.sIx its.length 0 lo)).toArray:=by
 obtain⟨h1,h2,h3⟩:=jip lo hi its.toArray.size
 unfold slicePick
 rw[h1,h2,h3]
 simp only[sliceRange_one,pick_run,List.size_toArray]<;>rfl
noncomputable def jw8 (K:PySem.W.Frag):V->Option Int->Option Int->Hp->VK->Prop:=fun x lo hi H Q=>∃a xs,x=.ref a/\SqL K H a xs/\∀p,H p=none->Q (.ref p) (upd H p (.lst (jpP xs lo hi)))
theorem jr9:SlR X (jw8 X.K):=by
 intro pins s σ H x v vl vu lo hi sl Q I rx hs pl pu h
 obtain⟨a,xs,rfl,hx,q⟩:=h
 cases rx
 obtain⟨its,r,ht,hz⟩:=I.list hx
 have hlen:=r.length
 refine⟨"list",_,slot_list_getitem.lookup,ht.isList.typeIs,?_⟩
 refine wpAny_getItem_list_slice ht.isList hs pl pu .none (by simp) ?_ (by rw[List.size_toArray]<;>omega)
 rw[jgS,<- hlen]
 refine⟨.ref s.heap.objs.size,_,I.laid (t':=s.toks) (o:=.lst (jpP xs lo hi)) (fun b ob q=>Heap.get?_push_of_some _ q) (Nat.le_refl _) ?_,rfl,q _ (I.hok.fresh (Nat.le_refl _))⟩
 exact⟨Nat.le_trans (jfY xs lo hi) hz,_,0,(r.drop (HT.sIx xs.length 0 lo)).take (HT.sIx xs.length xs.length hi - HT.sIx xs.length 0 lo),Heap.get?_push_size _ rfl⟩
noncomputable def jd3:V->Bool
 |.non=>true
 |.bl _=>true
 |.int _=>true
 |.str _=>true
 |_=>false
noncomputable def eqV:V->V->Bool
 |.non,.non=>true
 |.bl a,.bl b=>a==b
 |.bl a,.int b=>(if a then 1 else 0)==b
 |.int a,.bl b=>a==(if b then 1 else 0)
 |.int a,.int b=>a==b
 |.str a,.str b=>a==b
 |_,_=>false
theorem jl0 {A:Around}{s:Shared}{y x:V}{u v:Value}(ry:ja0 y u)(rx:ja0 x v)(fy:jd3 y=true)(fx:jd3 x=true):SeqAt.EqAt A s u v (eqV y x):=by
 cases y with
 |non=>
  cases ry
  cases x with
  |non=>cases rx;exact SeqAt.EqAt.same _
  |bl b=>cases rx;exact SeqAt.EqAt.none_bool b
  |int b=>obtain⟨t,rfl⟩:=rx;exact SeqAt.EqAt.none_int b t
  |str b=>obtain⟨t,rfl⟩:=rx;exact SeqAt.EqAt.none_str b t
  |_=>exact absurd (show false=true from fx) Bool.false_ne_true
 |bl a=>
  cases ry
  cases x with
  |non=>cases rx;exact SeqAt.EqAt.bool_none a
  |bl b=>cases rx;exact SeqAt.EqAt.bool_bool a b
  |int b=>obtain⟨t,rfl⟩:=rx;exact SeqAt.EqAt.bool_int a b t
  |str b=>obtain⟨t,rfl⟩:=rx;exact SeqAt.EqAt.bool_str a b t
  |_=>exact absurd (show false=true from fx) Bool.false_ne_true
 |int a=>
  obtain⟨t',rfl⟩:=ry
  cases x with
  |non=>cases rx;exact SeqAt.EqAt.int_none a t'
  |bl b=>cases rx;exact SeqAt.EqAt.int_bool a t' b
  |int b=>obtain⟨t,rfl⟩:=rx;exact SeqAt.EqAt.int_int a t' b t
  |str b=>obtain⟨t,rfl⟩:=rx;exact SeqAt.EqAt.int_str a t' b t
  |_=>exact absurd (show false=true from fx) Bool.false_ne_true
 |str a=>
  obtain⟨t',rfl⟩:=ry
  cases x with
  |non=>cases rx;exact SeqAt.EqAt.str_none a t'
  |bl b=>cases rx;exact SeqAt.EqAt.str_bool a t' b
  |int b=>obtain⟨t,rfl⟩:=rx;exact SeqAt.EqAt.str_int a t' b t
  |str b=>obtain⟨t,rfl⟩:=rx;exact SeqAt.EqAt.str_str a t' b t
  |_=>exact absurd (show false=true from fx) Bool.false_ne_true
 |_=>exact absurd (show false=true from fy) Bool.false_ne_true
noncomputable def eqU (x:V)(u:Value):Bool:=match u with
 |.none=>eqV .non x
 |.bool b=>eqV (.bl b) x
 |.int i _=>eqV (.int i) x
 |.str z _=>eqV (.str z) x
 |_=>false
theorem jpv {x y:V}{u:Value}(r:ja0 y u)(f:jd3 y=true):eqU x u=eqV y x:=by
 cases y with
 |non=>cases r;rfl
 |bl b=>cases r;rfl
 |int i=>obtain⟨t,rfl⟩:=r;rfl
 |str z=>obtain⟨t,rfl⟩:=r;rfl
 |_=>exact absurd (show false=true from f) Bool.false_ne_true
theorem jfK {x:V}:∀{xs:List V} {us:List Value},jaZ xs us->xs.all jd3=true->us.any (eqU x)=xs.any fun y=>eqV y x
 |_,_,.nil,_=>rfl
 |y::xs,u::us,.cons r t,f=>by
  rw[List.all_cons,Bool.and_eq_true]at f
  rw[List.any_cons,List.any_cons,jpv r f.1,jfK t f.2]
theorem jei {A:Around}{s:Shared}{x:V}{v:Value}(rx:ja0 x v)(fx:jd3 x=true):∀{xs:List V} {us:List Value},jaZ xs us->xs.all jd3=true->∀u∈us,SeqAt.EqAt A s u v (eqU x u)
 |_,_,.nil,_=>fun u hu=>by cases hu
 |y::xs,u::us,.cons r t,f=>fun u' hu=>by
  rw[List.all_cons,Bool.and_eq_true]at f
  rcases List.mem_cons.mp hu with rfl|hu
  ·rw[jpv r f.1];exact jl0 r rx f.1 fx
  ·exact jei rx fx t f.2 u' hu
noncomputable def inV (x:V)(xs:List V):Bool:=xs.any fun y=>eqV y x
noncomputable def rIn (K:PySem.W.Frag)(neg:Bool):R2:=fun x y H Q=>∃p xs,y=.ref p/\(SqL K H p xs∨SqT K H p xs)/\jd3 x=true/\xs.all jd3=true/\Q (.bl (if neg then !inV x xs else inV x xs)) H
theorem jlA:OpR X (compareOp .In) (rIn X.K false):=by
 intro pins s σ H x y v u Q I rx ry h
 obtain⟨p,xs,rfl,hq,fx,fs,q⟩:=h
 cases ry
 rcases hq with hq|hq
 ·obtain⟨its,r,pl,hz⟩:=I.list hq
  refine SeqAt.in_listAt (eqU x) pl.isList (fun w hw=>jei rx fx r fs w (by simpa using hw)) ⟨.bl _,H,I,rfl,?_⟩
  rw[show its.toArray.any (eqU x)=its.any (eqU x)by simp,jfK r fs]
  exact q
 ·obtain⟨its,r,pl,hz⟩:=I.tuple hq
  refine SeqAt.in_tupleAt (eqU x) pl (fun w hw=>jei rx fx r fs w (by simpa using hw)) ⟨.bl _,H,I,rfl,?_⟩
  rw[show its.toArray.any (eqU x)=its.any (eqU x)by simp,jfK r fs]
  exact q
theorem jhV:OpR X (compareOp .NotIn) (rIn X.K true):=by
 intro pins s σ H x y v u Q I rx ry h
 obtain⟨p,xs,rfl,hq,fx,fs,q⟩:=h
 cases ry
 rcases hq with hq|hq
 ·obtain⟨its,r,pl,hz⟩:=I.list hq
  refine SeqAt.notIn_listAt (eqU x) pl.isList (fun w hw=>jei rx fx r fs w (by simpa using hw)) ⟨.bl _,H,I,rfl,?_⟩
  rw[show its.toArray.any (eqU x)=its.any (eqU x)by simp,jfK r fs]
  exact q
 ·obtain⟨its,r,pl,hz⟩:=I.tuple hq
  refine SeqAt.notIn_tupleAt (eqU x) pl (fun w hw=>jei rx fx r fs w (by simpa using hw)) ⟨.bl _,H,I,rfl,?_⟩
  rw[show its.toArray.any (eqU x)=its.any (eqU x)by simp,jfK r fs]
  exact q
theorem jhU:jbR X (.builtin "len") (fun xs H Q=>∃p ys,xs=[.ref p]/\(SqL X.K H p ys∨SqT X.K H p ys)/\Q (.int ys.length) H):=by
 intro pins s σ H xs us Q I r h
 obtain⟨p,ys,rfl,hq,q⟩:=h
 obtain⟨u,rfl,rx⟩:=jgd r
 cases rx
 have hn:=jgN
 rcases hq with hq|hq
 ·obtain⟨its,r',pl,hz⟩:=I.list hq
  have hlen:=r'.length
  exact Calls.call_len_list pl.isList (by simp only[List.size_toArray]<;>omega) ⟨.int ys.length,H,I.tok _,⟨s.toks+1,by rw[List.size_toArray,hlen]⟩,q⟩
 ·obtain⟨its,r',pl,hz⟩:=I.tuple hq
  have hlen:=r'.length
  exact len_tuple pl (by simp only[List.size_toArray]<;>omega) ⟨.int ys.length,H,I.tok _,⟨s.toks+1,by rw[List.size_toArray,hlen]⟩,q⟩
theorem jiy:jbR X (.builtin "len") (fun xs H Q=>∃z,xs=[.str z]/\z.length<=sizeLine/\Q (.int z.length) H):=by
 intro pins s σ H xs us Q I r h
 obtain⟨z,rfl,hz,q⟩:=h
 obtain⟨u,rfl,t,rfl⟩:=jgd r
 have hn:=jgN
 exact len_str (by omega) ⟨.int z.length,H,I.tok _,⟨_,rfl⟩,q⟩
theorem jbR.or {f:Value}{r r':List V->Hp->VK->Prop}(h:jbR X f r)(h':jbR X f r'):jbR X f (fun xs H Q=>r xs H Q∨r' xs H Q):=by
 intro pins s σ H xs us Q I rs q
 rcases q with q|q
 ·exact h pins s σ H xs us Q I rs q
 ·exact h' pins s σ H xs us Q I rs q
theorem jit:jbR X (.type "list") (fun xs H Q=>∃p ys,xs=[.ref p]/\(SqL X.K H p ys∨SqT X.K H p ys)/\∀l,H l=none->Q (.ref l) (upd H l (.lst ys))):=by
 intro pins s σ H xs us Q I r h
 obtain⟨p,ys,rfl,hq,q⟩:=h
 obtain⟨u,rfl,rx⟩:=jgd r
 cases rx
 have fin:∀(its:List Value),jaZ ys its->ys.length<=sizeLine->∀(h':Heap) (c':Nat),(∀b o',s.heap.get? b=some o'->h'.get? b=some o') ->
   h'.get? s.heap.objs.size=some {cls:=.type "list",dict:=none,data:=.seq its.toArray c',slots:=#[]}->EP X pins σ Q (.ref s.heap.objs.size) {s with heap:=h'}:=fun its r' hz h' c' kp e=>
  ⟨.ref s.heap.objs.size,_,I.laid (t':=s.toks) kp (Nat.le_refl _) (show jbX X.prog X.w _ h' _ (.lst ys)from⟨hz,its,c',r',e⟩),rfl,q _ (I.hok.fresh (Nat.le_refl _))⟩
 rcases hq with hq|hq
 ·obtain⟨its,r',pl,hz⟩:=I.list hq
  have hlen:=r'.length
  obtain⟨o,ho,hc,n,hd⟩:=pl.isList
  exact call_list_seq p (.inl rfl) ho hc hd (fun h' c' kp e=>fin its r' hz h' c' kp e) (by simp only[List.size_toArray]<;>omega)
 ·obtain⟨its,r',pl,hz⟩:=I.tuple hq
  have hlen:=r'.length
  obtain⟨o,ho,hc,n,hd⟩:=pl
  exact call_list_seq p (.inr rfl) ho hc hd (fun h' c' kp e=>fin its r' hz h' c' kp e) (by simp only[List.size_toArray]<;>omega)
theorem jhw:jbR X (.type "tuple") (fun xs H Q=>∃p ys,xs=[.ref p]/\((SqL X.K H p ys/\∀l,H l=none->Q (.ref l) (upd H l (.tup ys)))∨(SqT X.K H p ys/\Q (.ref p) H))):=by
 intro pins s σ H xs us Q I r h
 obtain⟨p,ys,rfl,h⟩:=h
 obtain⟨u,rfl,rx⟩:=jgd r
 cases rx
 rcases h with⟨hq,q⟩|⟨hq,q⟩
 ·obtain⟨its,r',pl,hz⟩:=I.list hq
  have hlen:=r'.length
  refine call_tuple_list pl.isList (fun h' kp=>?_) (by simp only[List.size_toArray]<;>omega)
  have I1:Inv X pins σ H {s with heap:=h'}:=I.kept (t':=s.toks) kp
  have I2:Inv X pins σ (upd H h'.objs.size (.tup ys)) {s with heap:=h'.push {cls:=.type "tuple",data:=.seq its.toArray}}:=
   I1.laid (t':=s.toks) (fun b o e=>Heap.get?_push_of_some _ e) (Nat.le_refl _) (show jbX X.prog X.w _ _ _ (.tup ys)from⟨hz,its,r',IsTup.new _ _⟩)
  exact⟨.ref h'.objs.size,_,I2,rfl,q _ (I1.hok.fresh (Nat.le_refl _))⟩
 ·obtain⟨its,r',pl,hz⟩:=I.tuple hq
  exact call_tuple_same pl ⟨.ref p,H,I,rfl,q⟩
noncomputable def tyV (K:PySem.W.Frag)(T:String)(x:V)(H:Hp):Prop:=match x with
 |.str _=>T = "str"
 |.int _=>T = "int"
 |.ref p=>(T = "list"/\∃xs,SqL K H p xs)∨(T = "tuple"/\∃o,K.lookup p=some o/\o.cls=.type "tuple"/\o.dict=none) ∨
   (T = "dict"/\((∃kvs,H p=some (.dK kvs))∨∃kvs,H p=some (.dT kvs)))∨(T = "set"/\∃S n,H p=some (.set S n))
 |_=>False
theorem juV {pins:List (Addr×Obj)}{σ:St}{H:Hp}{s:Shared}{T:String}{x:V}{v:Value}(I:Inv X pins σ H s)(r:ja0 x v)(ty:tyV X.K T x H) :
  s.TypeIs v T/\∀a,v=.ref a->∃ob,s.heap.get? a=some ob/\ob.dict=none:=by
 cases x with
 |str z=>
  obtain⟨t,rfl⟩:=r
  cases(show T = "str" from ty)
  exact⟨typeIs_str s z t,fun _ e=>nomatch e⟩
 |int i=>
  obtain⟨t,rfl⟩:=r
  cases(show T = "int" from ty)
  exact⟨typeIs_int s i t,fun _ e=>nomatch e⟩
 |ref p=>
  cases r
  rcases ty with⟨rfl,xs,hq⟩|⟨rfl,o,hk,hc,hd⟩|⟨rfl,hk⟩|⟨rfl,S,n,hk⟩
  ·obtain⟨its,_,pl,_⟩:=I.list hq
   refine⟨pl.isList.typeIs,fun a e=>?_⟩
   cases e
   obtain⟨o,n,e,c,hd,_⟩:=pl
   exact⟨o,e,hd⟩
  ·refine⟨⟨o,I.kIn p o hk,hc⟩,fun a e=>?_⟩
   cases e
   exact⟨o,I.kIn _ o hk,hd⟩
  ·have z:∃o,s.heap.get? p=some o/\o.ExactDict:=by
    rcases hk with⟨kvs,hk⟩|⟨kvs,hk⟩
    ·obtain⟨_,_,_,_,o,_,_,e,ex,_⟩:=I.hok p _ hk
     exact⟨o,e,ex⟩
    ·obtain⟨_,_,_,_,o,_,_,e,ex,_⟩:=I.hok p _ hk
     exact⟨o,e,ex⟩
   obtain⟨o,e,ex⟩:=z
   refine⟨⟨o,e,ex.1⟩,fun a e2=>?_⟩
   cases e2
   exact⟨o,e,ex.2.1⟩
  ·obtain⟨o,_,_,_,e,ex,_⟩:=I.hok p _ hk
   refine⟨⟨o,e,ex.1⟩,fun a e2=>?_⟩
   cases e2
   exact⟨o,e,ex.2.1⟩
 |_=>exact False.elim ty
noncomputable def tBM (K:PySem.W.Frag)(T:String)(r:V->List V->Hp->VK->Prop)(to:TE)(t:TA):TE:=fun σ H Q=>to σ H fun x H1=>tyV K T x H1/\t σ H1 fun xs H2=>r x xs H2 Q
variable {o e:Expr} {es:List Expr} {to:TE} {t:TA} {name:Str} {apos cpos:Pos} {T id:String} {r:V->List V->Hp->VK->Prop}
theorem jv5 (pa:PlainAttrs T) (slot:Slot T name id) (hty:typeOf (.builtin id)=pure (.type "method_descriptor")) (hm:MtR X id r) (ho:PE X o to) (ha:PA X (e::es) t)
  (hbase:attributeBase o name X.env (eval o X.env)=eval o X.env:=by rfl)
  (hfew:((backTo cpos (starEach (e::es) X.env)).all (fun x=>!x.1)&&(backToKw cpos (keywordEach [] X.env)).all (fun x=>x.1.isSome)
   && decide ((e::es).length+([]:List Keyword).length+(if([]:List Keyword).isEmpty then 0 else 1)<30))=true:=by rfl)
  (hline:(apos.endLine==cpos.line)=true:=by rfl) (hs:starEach (e::es) X.env=(false,eval e X.env)::starEach es X.env:=by rfl) (hplain:(backTo cpos (starEach es X.env)).any (·.1)=false:=by rfl) :
  PE X (.Call (.Attribute o name apos) (e::es) [] cpos) (tBM X.K T r to t):=by
 intro pins s σ H Q I h
 refine wpAny_Call_method_late hbase hfew hline rfl (thn (ho pins s σ H _ I h) fun v s1 ⟨x,H1,I1,r1,ty,q1⟩=>?_)
 obtain⟨h1,h2⟩:=juV I1 r1 ty
 refine⟨T,id,pa,slot,hty,h1,h2,?_⟩
 have hA:=ha cpos pins s1 σ H1 _ I1 q1
 rw[hs]at hA ⊢
 refine Calls.callWith_builtin (by show(false||(backTo cpos (starEach es X.env)).any (·.1))=false;rw[hplain]<;>rfl) (Calls.evalArgs_plain ?_)
 exact thn hA fun us s2 ⟨vs,H2,I2,r2,q2⟩=>hm pins s2 σ H2 x vs v us Q I2 r1 r2 q2
end
end _L2
namespace _L2
open PySem PySem.Spec PyProof.Rows
noncomputable def MtM (X:Cx)(id:String)(r:V->List V->Hp->VK->Prop):Prop:=
 ∀(pins:List (Addr×Obj)) (s:Shared) (σ:St) (H:Hp) (x:V) (xs:List V) (v:Value) (us:List Value) (Q:VK),Inv X pins σ H s->ja0 x v->jaZ xs us->r x xs H Q ->
  wpAny (model X.prog X.w) X.A (call (.builtin id) (v::us)) (EP X pins σ Q) X.xe s
theorem jaZ.one:∀{x:V} {us:List Value},jaZ [x] us->∃u,us=[u]/\ja0 x u
 |_,_,.cons r .nil=>⟨_,rfl,r⟩
theorem jaZ.two {x y:V}{us:List Value}(h:jaZ [x,y] us):∃u v,us=[u,v]/\ja0 x u/\ja0 y v:=by
 cases h with
 |cons r t=>
  cases t with
  |cons q s=>
   cases s
   exact⟨_,_,rfl,r,q⟩
theorem jaZ.zero:∀{us:List Value},jaZ [] us->us=[]
 |_,.nil=>rfl
theorem jaZ.rep {xs:List V}{us:List Value}(h:jaZ xs us):∀k:Nat,jaZ (List.replicate k xs).flatten (List.replicate k us).flatten
 |0=>.nil
 |k+1=>by
  rw[List.replicate_succ,List.replicate_succ,List.flatten_cons,List.flatten_cons]
  exact jaZ.append h (jaZ.rep h k)
theorem foldl_rep (its:List Value):∀(k:Nat) (acc:List Value),
  List.foldl (fun x1 x2=>x1++x2) acc.toArray (List.replicate k its.toArray)=(acc++(List.replicate k its).flatten).toArray
 |0,acc=>by simp
 |k+1,acc=>by
  have e:acc.toArray++its.toArray=(acc++its).toArray:=by simp
  have e2:(acc++its)++(List.replicate k its).flatten=acc++(List.replicate (k+1) its).flatten:=by
   rw[List.replicate_succ,List.flatten_cons,List.append_assoc]
  rw[<- e2,<- foldl_rep its k (acc++its),<- e,List.replicate_succ,List.foldl_cons]
section
variable {X:Cx} {pins:List (Addr×Obj)} {σ:St} {H:Hp} {s:Shared} {l b:Addr} {xs ys zs:List V}
theorem Inv.lset {its its':List Value}{n:Nat}{f:Array Value->Array Value}{t':Nat}(I:Inv X pins σ H s)(hH:H l=some (.lst xs))
  (e:s.heap.get? l=some {cls:=.type "list",data:=.seq its.toArray n}) (hf:f its.toArray=its'.toArray) (hv:jaZ ys its') (hz:ys.length<=sizeLine) :
  Inv X pins σ (upd H l (.lst ys)) {s with heap:=s.heap.update l (Obj.mapSeq f),toks:=t'}:=by
 have q:=PySem.IsL.update e f
 rw[hf]at q
 refine I.write (x:=l) (e:=l) (by rw[hH];exact trivial) (.inl rfl) (fun b' u hb hu=>(Heap.get?_update_other s.heap (Obj.mapSeq f) (Ne.symm hb)).trans hu) ⟨_,q⟩ ?_
 exact⟨hz,its',_,hv,q⟩
theorem Inv.lnew {its:List Value}{t':Nat}(I:Inv X pins σ H s)(hv:jaZ ys its)(hz:ys.length<=sizeLine) :
  Inv X pins σ (upd H s.heap.objs.size (.lst ys)) {s with heap:=s.heap.push {cls:=.type "list",data:=.seq its.toArray},toks:=t'}:=
 I.laid (fun _ _ q=>Heap.get?_push_of_some _ q) (Nat.le_refl _) ⟨hz,its,0,hv,Heap.get?_push_size _ rfl⟩
theorem Inv.fresh (I:Inv X pins σ H s):H s.heap.objs.size=none:=I.hok.fresh (Nat.le_refl _)
theorem Inv.lstM (I:Inv X pins σ H s)(hH:H l=some (.lst xs)):xs.length<=sizeLine/\∃(its:List Value) (n:Nat),jaZ xs its/\xs.length=its.length/\s.heap.get? l=some {cls:=.type "list",data:=.seq its.toArray n}:=by
 obtain⟨z,its,n,r,e⟩:=I.hok l _ hH
 exact⟨z,its,n,r,r.length,e⟩
end
section
variable {X:Cx}
noncomputable def rAppend:V->List V->Hp->VK->Prop:=fun x vs H Q=>∃l xs y,x=.ref l/\vs=[y]/\H l=some (.lst xs)/\xs.length<sizeLine/\Q .non (upd H l (.lst (xs++[y])))
theorem jfs:MtM X "list.append" rAppend:=by
 intro pins s σ H x vs v us Q I rx rv h
 obtain⟨l,xs,y,rfl,rfl,hH,hz,q⟩:=h
 cases rx
 obtain⟨u,rfl,ru⟩:=rv.one
 obtain⟨z,its,n,r,hl,e⟩:=I.lstM hH
 refine call_meets F.slot_list_append ⟨_,e,rfl⟩ F.entry_list_append (F.args_list_append_2 _ _) (PySem.list_append l its.toArray n u (by rw[List.size_toArray];omega)) ⟨e,?_⟩
 refine⟨.non,_,I.lset (its':=its++[u]) hH e (by simp) (r.append (.cons ru .nil)) ?_,rfl,q⟩
 rw[List.length_append,List.length_singleton]
 omega
theorem len_rep {α:Type}(xs:List α)(k:Nat):(List.replicate k xs).flatten.length=k*xs.length:=by
 induction k with
 |zero=>simp
 |succ k ih=>rw[List.replicate_succ,List.flatten_cons,List.length_append,ih,Nat.succ_mul,Nat.add_comm]
end
section
variable {prog:Program} {w:World} {A:Around} {E:Value->Shared->Prop} {s:Shared}
end
section
variable {X:Cx}
end
end _L2
namespace Att
open PySem PySem.W PySem.Calls PyProof.Rows
theorem jfT {P:Params}{h:Heap}:∀(ns:List Int) (vs:List Value),WellAll P h vs (ns.map WData.int)->IntsAre vs ns:=by
 intro ns
 induction ns with
 |nil=>
  intro vs w
  rw[List.map_nil]at w
  cases w
  exact .nil
 |cons n ns ih=>
  intro vs w
  rw[List.map_cons]at w
  cases w with
  |cons a b=>
   cases a
   exact .cons _ _ (ih _ b)
theorem jl8 {l:OpenLaw}{n:Nat}(hn:l.most=some n){P:Params}{h:Heap}{args:List WData}{vals:List Value}
  (hpre:l.row.toRowW.claim.pre args=true) (hwl:WellAll P h vals args) :
  ∃a vs ns,vals=[Value.ref a]/\args=[WData.list (ns.map WData.int)]/\h.get? a=some {cls:=.type "list",data:=.seq vs.toArray}/\IntsAre vs ns/\ns.length<=n:=by
 have hsh:WShape.hasAll [] args [.list .int]=true:=(pre_splitW hpre).1
 have hc:l.pre.holds [] {args:=args}=true:=(pre_splitW hpre).2
 obtain⟨d,r,rfl,h1,h2⟩:=hasAllW_cons hsh
 obtain rfl:=hasAllW_nil h2
 obtain⟨xs,rfl,h3⟩:=hasW_list h1
 obtain⟨ns,rfl⟩:=items_int h3
 have hlen:ns.length<=n:=by
  unfold OpenLaw.pre at hc
  have h4:(WTm.not (.lt (.lit (.int (n:Int))) (.len (.arg 0)))).holds [] {args:=[.list (ns.map .int)]}=true:=by
   have h4:=(holds_andW hc).1
   rw[hn]at h4
   exact h4
  have h5:=condW_of h4 (w_not (w_lt w_lit (w_len_list (w_arg rfl))))
  rw[List.length_map]at h5
  refine Nat.le_of_not_lt fun q=>?_
  have q':(n:Int)<((ns.length:Nat):Int):=by omega
  first
   |(rw[decide_eq_true q']at h5;exact absurd h5 (by decide))
   |(simp at h5;omega)
 cases hwl with
 |cons w1 w2=>
  cases w2
  cases w1 with
  |list ho hall=>exact⟨_,_,ns,rfl,rfl,ho,jfT ns _ hall,hlen⟩
theorem jmQ (l:OpenLaw)(args:List WData):l.row.toRowW.claim.post args (.bool true) args=true:=
 postW_of (r:=l.row.toRowW) (X:=(true==true))
  (show WShape.has [] (.bool true) .bool=true by first|rfl|decide|simp[WShape.has,WShape.arms,WShape.armsAll])
  (show(WTm.eq .res (.lit (.bool true))).value [] {args:=args,res:=some (.bool true),after:=args}=some (.bool (true==true))from w_eq_bool (w_res rfl) w_lit) rfl
theorem attach_call {l:OpenLaw}{n:Nat}{q:Program}{loose:List Str}{XP:(Str->Option Value)->Heap->Prop}{YP:World->Heap->Prop}{d:DefRec}
  (hn:l.most=some n) (hdf:d.params.defaults=[])
  (call:∀(w:World) (s₀ s₁:Shared) (mg mb:Str->Option Value) (fa:Addr) (o:Obj) (pm cd doc:Value) (a:Addr) (vs:List Value) (ns:List Int),
   Ground q loose [] XP w s₀ mg mb s₁.heap->YP w s₁.heap ->
   s₁.heap.get? fa=some o->o.data=.func (docDef d.name d.params d.body d.scope pm cd doc)->s₁.heap.CodeRec cd d.name->mg d.name=some (.ref fa) ->
   s₁.heap.get? a=some {cls:=.type "list",data:=.seq vs.toArray}->IntsAre vs ns->ns.length<=n->s₁.gens = #[] ->
   codeAny (model l.prog w) callerA (.call (.ref fa) ⟨[.ref a],[]⟩) (fun r s'=>r=.ok (.ret (.bool true))/\OldK s₁.heap s'.heap/\s'.os=s₁.os/\AllBare s'.gens) s₁) :
  WalkO q loose XP YP l.row.toRowW d [] (fun f vs=>PySem.call f vs):=by
 intro w s₀ s₁ mg mb G Y fa o pm cd doc dV kV ho hd hcd hD hmg hg args vals as hpre hlay hrd hwl hlo
 obtain rfl:dV=.none:=Dflts.none hD hdf
 obtain rfl:kV=.none:=Dflts.noKw hD
 obtain⟨a,vs,ns,rfl,rfl,hobj,hints,hlen⟩:=jl8 hn hpre hwl
 refine enter_call (codeAny_mono (call w s₀ s₁ mg mb fa o pm cd doc a vs ns G Y ho (fd_plain hd) hcd hmg hobj hints hlen hg) fun r s' hq=>?_)
 obtain⟨rfl,h2,h3,h4⟩:=hq
 exact⟨.inl ⟨.bool true,.bool true,[],rfl,fun _=>rfl,.bool true,jmQ l _,fun _=>⟨List.Pairwise.nil,fun _ hm=>(nomatch hm)⟩⟩,h2,h3,h4⟩
section
variable {prog:Program} {w:World} {A:Around} {E:Value->Shared->Prop} {s:Shared} {K:Frag}
end
end Att
namespace _L2
open PySem PySem.Spec PyProof.Rows
theorem jin:∀{vs:List Value} {ns:List Int},IntsAre vs ns->jaZ (ns.map V.int) vs
 |_,_,.nil=>.nil
 |_,_,.cons n t h=>.cons ⟨t,rfl⟩ (jin h)
noncomputable def jvQ (H:Hp):Prop:=∀b,H b=none∨∃o xs,H b=some (.frz o (.lst xs))
theorem joa {P:Program}{w:World}{K:PySem.W.Frag}{mg mb:Str->Option Value}{CX:CXT}{k:Nat}{fa a:Addr}{fd:FuncData}{x:Str}{sp:Sp}{s₁:Shared}{vs:List Value}{ns:List Int}
  (KX:K.In s₁.heap) (hns:s₁.heap.Ns mainGlobals mg) (hb:s₁.heap.Ns builtinsNs mb) (hbb:∀x:Str,x≠"__name__"->mb x=bootBuiltins x) (hlim:s₁.heap.NoLimit) (hg:s₁.gens = #[])
  (ha:s₁.heap.get? a=some {cls:=.type "list",data:=.seq vs.toArray}) (hi:IntsAre vs ns) (hl:ns.length<=sizeLine) (hr:Room k callerA)
  (F:∀base:Heap,K.In base->base.Ns mainGlobals mg->FnOk P w K mg base CX k fa fd [x] sp) (hbind:∀(s:Shared) (u:Value),BindsTo s fd ⟨[u],[]⟩ [(x,u)])
  (hsp:∀H:Hp,jvQ H->SqL K H a (ns.map V.int)->sp [.ref a] H (fun v _=>v=.bl true) fun _ _ _=>False)
  (hCX:∀H e s',CX [] H s₁ (fun _ _ _=>False) e s'->False) :
  codeAny (model P w) callerA (.call (.ref fa) ⟨[.ref a],[]⟩) (fun r s'=>r=.ok (.ret (.bool true))/\OldK s₁.heap s'.heap/\s'.os=s₁.os/\AllBare s'.gens) s₁:=by
 have rv:=jin hi
 have lenV:=hi.length
 have core:∀H:Hp,jvQ H->SqL K H a (ns.map V.int)->HOk P w H s₁.heap->(∀b,H b≠none->b=a)->(H a≠none->K.lookup a=none) ->
   codeAny (model P w) callerA (.call (.ref fa) ⟨[.ref a],[]⟩) (fun r s'=>r=.ok (.ret (.bool true))/\OldK s₁.heap s'.heap/\s'.os=s₁.os/\AllBare s'.gens) s₁:=by
  intro H hO hS hok hA hK
  have base_of:∀{b:Addr} {o:Obj},s₁.heap.get? b=some o->H b=none->(jog s₁.heap H).get? b=some o:=fun e n=>joe e n
  have noA:∀{b:Addr} {o:Obj} {es:Array DictEntry} {ep:Nat},s₁.heap.get? b=some o->o.data=.dict es ep->H b=none:=fun {b o es ep} e d=>by
   cases q:H b with
   |none=>rfl
   |some u=>
    have e':b=a:=hA b (by rw[q];simp)
    subst e'
    rw[ha]at e;cases e
    have d':Data.seq vs.toArray _=Data.dict es ep:=d
    cases d'
  have nsK:∀{b:Addr} {m:Str->Option Value},s₁.heap.Ns b m->(jog s₁.heap H).Ns b m:=fun {b m} ⟨o,es,ep,e,d,r⟩=>⟨o,es,ep,base_of e (noA e d),d,r⟩
  have hKb:K.In (jog s₁.heap H):=fun b o e=>base_of (KX b o e) (by
   cases q:H b with
   |none=>rfl
   |some u=>
    have e':b=a:=hA b (by rw[q];simp)
    subst e'
    rw[hK (by rw[q];simp)]at e;cases e)
  have hM:Mod K mg (jog s₁.heap H):=⟨hKb,nsK hns,⟨mb,nsK hb,hbb⟩,let⟨mc,h1,h2⟩:=hlim;⟨mc,nsK h1,h2⟩⟩
  have e0:Env0 P w K mg (jog s₁.heap H) callerA [] s₁ H:=⟨rfl,hM,fun b o e=>jsn e,Nat.le_of_eq (jlp _ _),trivial,fun b hb=>absurd (show b∈([]:List Addr)from hb) (by simp),hok,.of_eq hg⟩
  refine codeAny_mono ((F _ hKb (nsK hns)).run callerA [] s₁ H ⟨[.ref a],[]⟩ [.ref a] [.ref a] _ _ hr e0 (hbind s₁ (.ref a)) (.cons rfl .nil) (hsp H hO hS)) fun r s' h=>?_
  cases r with
  |error e=>exact(hCX H e s' h).elim
  |ok fl=>
   cases fl with
   |next=>exact False.elim h
   |brk=>exact False.elim h
   |cont=>exact False.elim h
   |ret u=>
    obtain⟨v,H',os,bare,un,hok',r',q⟩:=h
    have q':v=.bl true:=q
    subst q'
    obtain rfl:u=Value.bool true:=r'
    refine⟨rfl,OldK.of_keep fun b o e=>?_,os,bare⟩
    cases q:H b with
    |none=>exact un.keep b o e q (by intro z;exact absurd (show b∈([]:List Addr)from z) (by simp)) (by simp)
    |some u=>
     rcases hO b with z|⟨ob,xs,z⟩
     ·rw[q]at z;cases z
     ·have z2:=un.frzs b ob _ z
      obtain⟨e1,_⟩:=hok b _ z
      obtain⟨e2,_⟩:=hok' b _ z2
      rw[e]at e1;cases e1
      exact e2
 cases hk:K.lookup a with
 |some o=>
  have e:=KX a o hk
  rw[ha]at e
  cases e
  refine core (fun _=>none) (fun _=>.inl rfl) (.inr ⟨_,vs.toArray,_,hk,rfl,rfl,rfl,by rw[List.size_toArray,lenV];exact hl,by simpa using rv⟩) (fun b u z=>by have z':(none:Option HO)=some u:=z;cases z') (fun b z=>absurd rfl z) fun z=>absurd rfl z
 |none=>
  refine core (fun b=>if b=a then some (.frz {cls:=.type "list",data:=.seq vs.toArray} (.lst (ns.map V.int)))else none) (fun b=>?_) (.inl (.inr ⟨{cls:=.type "list",data:=.seq vs.toArray},if_pos rfl⟩)) (fun b u z=>?_) (fun b z=>?_) fun _=>hk
  ·by_cases hb:b=a
   ·exact .inr ⟨_,_,if_pos hb⟩
   ·exact .inl (if_neg hb)
  ·by_cases hb:b=a
   ·have z':=(if_pos hb).symm.trans z
    cases z'
    subst hb
    exact⟨ha,by rw[List.length_map];exact hl,vs,_,rv,ha⟩
   ·have z':=(if_neg hb).symm.trans z
    cases z'
  ·by_cases hb:b=a
   ·exact hb
   ·exact absurd (if_neg hb) z
end _L2
namespace _L2
open PySem PySem.Spec PyProof.Rows
theorem jqu {l:PySem.W.OpenLaw}{n k:Nat}{q:Program}{loose:List Str}{XP:(Str->Option Value)->Heap->Prop}{YP:World->Heap->Prop}{d:DefRec}{K:Params->PySem.W.Frag}{CX:World->CXT}{sp:World->Sp}{x:Str}
  (hn:l.most=some n) (hn2:n<=sizeLine) (hdf:d.params.defaults=[]) (hr:Room k callerA)
  (hY:∀(w:World) (h:Heap),YP w h->(K w.params).In h)
  (F:∀(w:World) (mg:Str->Option Value) (fa:Addr) (h:Heap),(K w.params).In h->h.Ns mainGlobals mg->mg d.name=some (.ref fa) ->
   ∃fd:FuncData,(∀(s:Shared) (u:Value),BindsTo s fd ⟨[u],[]⟩ [(x,u)]) /\
    ∀base:Heap,(K w.params).In base->base.Ns mainGlobals mg->FnOk l.prog w (K w.params) mg base (CX w) k fa fd [x] (sp w))
  (hsp:∀(w:World) (H:Hp) (a:Addr) (ns:List Int),ns.length<=n->jvQ H->SqL (K w.params) H a (ns.map V.int)->sp w [.ref a] H (fun v _=>v=.bl true) fun _ _ _=>False)
  (hCX:∀(w:World) (H:Hp) (s:Shared) (e:Value) (s':Shared),CX w [] H s (fun _ _ _=>False) e s'->False) :
  PySem.W.WalkO q loose XP YP l.row.toRowW d [] (fun f vs=>PySem.call f vs):=by
 refine Att.attach_call hn hdf fun w s₀ s₁ mg mb fa o pm cd doc a vs ns G Y ho hd hcd hmg hobj hints hlen hg=>?_
 have KX:=hY w _ Y
 obtain⟨fd,hb,hF⟩:=F w mg fa _ KX G.T.g hmg
 exact joa KX G.T.g G.T.b G.T.builtins G.T.nolimit hg hobj hints (Nat.le_trans hlen hn2) hr hF hb (fun H hO hS=>hsp w H a ns hlen hO hS) fun H e s'=>hCX w H s₁ e s'
theorem walk_ofK {l:PySem.W.OpenLaw}{n k:Nat}{q:Program}{loose:List Str}{XP:(Str->Option Value)->Heap->Prop}{YP:World->Heap->Prop}{d:DefRec}{K:Params->PySem.W.Frag}{CX:CXT}{sp:PySem.W.Frag->Sp}{x:Str}
  (hn:l.most=some n) (hn2:n<=sizeLine) (hdf:d.params.defaults=[]) (hr:Room k callerA)
  (hY:∀(w:World) (h:Heap),YP w h->(K w.params).In h)
  (F:∀(w:World) (mg:Str->Option Value) (fa:Addr) (h:Heap),(K w.params).In h->h.Ns mainGlobals mg->mg d.name=some (.ref fa) ->
   ∃fd:FuncData,(∀(s:Shared) (u:Value),BindsTo s fd ⟨[u],[]⟩ [(x,u)]) /\
    ∀base:Heap,(K w.params).In base->base.Ns mainGlobals mg->FnOk l.prog w (K w.params) mg base CX k fa fd [x] (sp (K w.params)))
  (hsp:∀(K:PySem.W.Frag) (H:Hp) (a:Addr) (ns:List Int),ns.length<=n->jvQ H->SqL K H a (ns.map V.int)->sp K [.ref a] H (fun v _=>v=.bl true) fun _ _ _=>False)
  (hCX:∀(H:Hp) (s:Shared) (e:Value) (s':Shared),CX [] H s (fun _ _ _=>False) e s'->False) :
  PySem.W.WalkO q loose XP YP l.row.toRowW d [] (fun f vs=>PySem.call f vs):=
 jqu (K:=K) (CX:=fun _=>CX) (sp:=fun w=>sp (K w.params)) hn hn2 hdf hr hY F (fun w H a ns h1 h2 h3=>hsp (K w.params) H a ns h1 h2 h3) fun _ H s e s'=>hCX H s e s'
end _L2
namespace _L2
open PySem PySem.Spec PyProof.Rows
noncomputable def jqA (s:Stmt)(j:Nat):Stmt:=match s with
 |.ClassDef _ _ _ body _ _ _ _ _ _ _=>body.getD j (.Pass ⟨0,0,0,0⟩)
 |_=>.Pass ⟨0,0,0,0⟩
noncomputable def jao (s:Stmt):Arguments:=match s with
 |.FunctionDef _ a _ _ _ _ _ _ _ _=>a
 |_=>{posonlyargs:=[],args:=[],vararg:=none,kwonlyargs:=[],kw_defaults:=[],kwarg:=none,defaults:=[]}
noncomputable def jac (s:Stmt):List Stmt:=match s with
 |.FunctionDef _ _ b _ _ _ _ _ _ _=>b
 |_=>[]
noncomputable def ja (s:Stmt):Scope:=match s with
 |.FunctionDef _ _ _ _ _ _ sc _ _ _=>sc
 |_=>{kind:=.function,names:=[],isGenerator:=false,isCoroutine:=false}
noncomputable abbrev CX0:CXT:=fun _ _ _ _ _ _=>False
noncomputable abbrev E0:XK:=fun _ _ _=>False
theorem jwp {X:Cx}:jf0 CX0 X E0:=fun _ _ _ _ _ _ _ h=>h.elim
structure Fun (K:PySem.W.Frag) (x qual:Str) (st:Stmt) (f:Addr) (fd:FuncData):Prop where
 ex:∃(oc:Value) (od:Option Addr) (kV doc pm:Value) (an:Option Addr) (cdv ct:Value) (osl:Array (Option Value)),
  fd=PySem.W.fnOf x qual (jao st) (jac st) (ja st) .none kV doc pm an cdv ct/\K.lookup f=some ⟨oc,od,.func fd,osl⟩/\PySem.W.codeIn K cdv qual=true
 kp:PySem.W.keepIn K (.ref f)=true
section
variable {P:Program} {w:World} {K:PySem.W.Frag} {mg:Str->Option Value} {base:Heap}
theorem Fun.ok {x qual:Str}{st:Stmt}{f:Addr}{fd:FuncData}{N ps:List Str}{k:Nat}{sp:Sp}(F:Fun K x qual st f fd)(S:FnScope N ps (ja st))(len:∀vs H Q E,sp vs H Q E->vs.length=ps.length)
  (hbody:∀(cdv:Value) (A:Around) (outer:List Env) (s:Shared) (H:Hp) (vs:List V) (Q:VK) (E:XK),Room k (A.deeper (envOfC qual (ja st) s.heap.objs.size f cdv))->sp vs H Q E ->
   ∃t,PSs (jiZ CX0 P w K mg base N qual (ja st) f cdv A outer s H E).nox (jac st) t/\t {nx:=fun _ H'=>Q .non H',rt:=Q} (start N vs) H):FnOk P w K mg base CX0 (k+1) f fd ps sp:=by
 obtain⟨oc,od,kV,doc,pm,an,cdv,ct,osl,rfl,lk,hcd⟩:=F.ex
 refine jut lk hcd S len fun A outer s H vs Q E hr hsp=>?_
 obtain⟨t,h,q⟩:=hbody cdv A outer s H vs Q E hr hsp
 exact⟨t,h.nox,q⟩
theorem Fun.binds {x qual:Str}{st:Stmt}{f:Addr}{fd:FuncData}{ps:List Str}(F:Fun K x qual st f fd)
  (h:∀(kV doc pm:Value) (an:Option Addr) (cdv ct:Value) (us:List Value),us.length=ps.length->bindArgs (PySem.W.fnOf x qual (jao st) (jac st) (ja st) .none kV doc pm an cdv ct) ⟨us,[]⟩=pure (ps.zip us)):jeD K fd ps []:=by
 obtain⟨oc,od,kV,doc,pm,an,cdv,ct,osl,rfl,lk,hcd⟩:=F.ex
 exact .all (h kV doc pm an cdv ct)
theorem ja5 {x qual:Str}{st:Stmt}{f:Addr}{oc:Value}{od an:Option Addr}{osl:Array (Option Value)}{kV doc pm cdv ct:Value}(l:K.lookup f=some ⟨oc,od,.func (PySem.W.fnOf x qual (jao st) (jac st) (ja st) .none kV doc pm an cdv ct),osl⟩)
  (c:PySem.W.codeIn K cdv qual=true) (k:PySem.W.keepIn K (.ref f)=true):Fun K x qual st f (PySem.W.fnOf x qual (jao st) (jac st) (ja st) .none kV doc pm an cdv ct):=⟨⟨oc,od,kV,doc,pm,an,cdv,ct,osl,rfl,l,c⟩,k⟩
end
section
variable {X:Cx}
end
noncomputable def jeB (H H':Hp):Prop:=∀b o,H b=some o->H' b=some o
theorem jeB.refl (H:Hp):jeB H H:=fun _ _ h=>h
theorem jeB.trans {H H1 H2:Hp}(a:jeB H H1)(b:jeB H1 H2):jeB H H2:=fun c o h=>b c o (a c o h)
theorem jeB.free {H H':Hp}(e:jeB H H'){l:Addr}(h:H' l=Option.none):H l=Option.none:=by
 cases q:H l with
 |none=>rfl
 |some o=>
  rw[e l o q]at h
  cases h
theorem jeB.seq {K:PySem.W.Frag}{H H':Hp}{a:Addr}{xs:List V}(e:jeB H H')(h:SqL K H a xs):SqL K H' a xs:=by
 rcases h with(h|⟨o,h⟩)|h
 ·exact .inl (.inl (e _ _ h))
 ·exact .inl (.inr ⟨o,e _ _ h⟩)
 ·exact .inr h
end _L2
namespace _L2
open PySem PySem.Spec PyProof.Rows
theorem jeC {a b c:Nat}(h:a<b)(k:b<=c):a≠c:=Nat.ne_of_lt (Nat.lt_of_lt_of_le h k)
theorem jwm {a b:Nat}(h:a<b)(k:b<=a):False:=absurd (Nat.lt_of_lt_of_le h k) (Nat.lt_irrefl _)
noncomputable def jhF (names:List (Str×NameKind))(cells:List (Str×Addr)):List (Str×Addr):=
 (names.filterMap fun p=>if p.2==.free then(cells.lookup p.1).map fun c=>(p.1,c)else none).reverse
theorem jc0 (env:Env):∀(names:List (Str×NameKind)) (acc:List (Str×Addr)),(∀p∈names,p.2=.free->∃c,env.cells.lookup p.1=some c) ->
  (forIn names acc fun(x:Str×NameKind) cs=>(match x with
   |(name,kind)=>if(kind==.free)=true then(do let c <- cellOf env name;pure (ForInStep.yield ((name,c)::cs)))else pure (ForInStep.yield cs)):Sem (List (Str×Addr)))
   =pure (jhF names env.cells++acc)
 |[],acc,_=>rfl
 |(n,k)::r,acc,h=>by
  have hr:∀p∈r,p.2=.free->∃c,env.cells.lookup p.1=some c:=fun p hp=>h p (List.mem_cons_of_mem _ hp)
  rw[List.forIn_cons]
  by_cases hk:k=.free
  ·subst hk
   obtain⟨c,hc⟩:=h (n,.free) List.mem_cons_self rfl
   have e1:cellOf env n=pure c:=by
    unfold cellOf
    have hc':env.cells.lookup n=some c:=hc
    rw[hc']
   have e2:jhF ((n,NameKind.free)::r) env.cells=jhF r env.cells++[(n,c)]:=by
    have hc':env.cells.lookup n=some c:=hc
    unfold jhF
    rw[List.filterMap_cons]
    simp[hc']
   simp only[beq_self_eq_true,if_true,e1,pure_bind]
   rw[jc0 env r _ hr,e2,List.append_assoc]
   rfl
  ·have hb:(k==NameKind.free)=false:=by simpa using hk
   have e2:jhF ((n,k)::r) env.cells=jhF r env.cells:=by
    unfold jhF
    rw[List.filterMap_cons]
    simp[hb]
   simp only[hb,Bool.false_eq_true,if_false,pure_bind]
   rw[jc0 env r _ hr,e2]
theorem jhh {scope:Scope}{env:Env}(h:∀p∈scope.names,p.2=.free->∃c,env.cells.lookup p.1=some c):closureFor scope env=pure (jhF scope.names env.cells):=by
 have q:=jc0 env scope.names [] h
 rw[List.append_nil]at q
 unfold closureFor
 simp only[bind_pure]
 exact q
theorem joH {names:List (Str×NameKind)}{cells:List (Str×Addr)}{x:Str}{c:Addr}(h:(x,c)∈jhF names cells):(x,NameKind.free)∈names/\cells.lookup x=some c:=by
 unfold jhF at h
 rw[List.mem_reverse,List.mem_filterMap]at h
 obtain⟨⟨n,k⟩,hm,e⟩:=h
 by_cases hk:k=.free
 ·subst hk
  simp only[beq_self_eq_true,if_true]at e
  cases q:cells.lookup n with
  |none=>rw[q]at e;cases e
  |some a=>
   rw[q]at e
   have e':(n,a)=(x,c):=Option.some.inj e
   cases e'
   exact⟨hm,q⟩
 ·have hb:(k==NameKind.free)=false:=by simpa using hk
  simp only[hb,Bool.false_eq_true,if_false]at e
  cases e
theorem jaT {names:List (Str×NameKind)}{cells:List (Str×Addr)}{x:Str}{c:Addr}(h:(jhF names cells).lookup x=some c):cells.lookup x=some c:=(joH (PySem.mem_of_lookup h)).2
theorem jgT {α:Type}{x:Str}{l:List (Str×α)}{a:α}(h:(x,a)∈l):∃b,l.lookup x=some b:=by
 induction l with
 |nil=>cases h
 |cons p r ih=>
  obtain⟨n,b⟩:=p
  by_cases e:x=n
  ·subst e;exact⟨b,by simp[List.lookup_cons]⟩
  ·rcases List.mem_cons.mp h with z|z
   ·cases z;exact absurd rfl e
   ·obtain⟨b',q⟩:=ih z
    exact⟨b',by rw[List.lookup_cons,(by simpa using e:(x==n)=false)];exact q⟩
theorem jjQ {names:List (Str×NameKind)}{cells:List (Str×Addr)}{x:Str}{c:Addr}(h:(x,NameKind.free)∈names)(hc:cells.lookup x=some c):(jhF names cells).lookup x=some c:=by
 have hm:(x,c)∈jhF names cells:=by
  unfold jhF
  rw[List.mem_reverse,List.mem_filterMap]
  exact⟨(x,.free),h,by simp[hc]⟩
 obtain⟨b,q⟩:=jgT hm
 have:=jaT q
 rw[hc]at this
 cases this
 exact q
theorem jdD {scope:Scope}{env:Env}{x:Str}(hc:∀y∈scope.names,y.2≠.cell)(h:(relabel scope env).names.lookup x=some .cell∨(relabel scope env).names.lookup x=some .free):(x,NameKind.free)∈scope.names:=by
 have key:∀k,(relabel scope env).names.lookup x=some k->(k=.cell∨k=.free)->(x,NameKind.free)∈scope.names:=fun k q hk=>by
  have m:=PySem.mem_of_lookup q
  unfold relabel at m
  rw[List.mem_map]at m
  obtain⟨⟨n,k'⟩,hm,e⟩:=m
  dsimp only at e
  by_cases hf:k'=.free
  ·subst hf
   split at e<;>cases e<;>exact hm
  ·have hb:(k'==NameKind.free)=false:=by simpa using hf
   simp only[hb,Bool.false_and,Bool.false_eq_true,if_false]at e
   cases e
   rcases hk with rfl|rfl
   ·exact absurd rfl (hc _ hm)
   ·exact absurd rfl hf
 rcases h with h|h
 ·exact key _ h (.inl rfl)
 ·exact key _ h (.inr rfl)
noncomputable def jbi (X:Cx)(N':List Str)(scope:Scope)(C:Addr)(fp:List Addr)(s₂:Shared)(H₂:Hp):Cx where
 prog:=X.prog
 w:=X.w
 K:=X.K
 mg:=X.mg
 base:=X.base
 A:=X.A
 N:=N'
 s₀:=s₂
 H₀:=H₂
 env:=compEnvC scope (jhF scope.names X.env.cells) C X.env
 outer:=X.stack
 stack:=X.stack
 ex:=fp
 fn:=fun _=>false
 calm:=X.calm
 pn:=[]
 xe:=fun _ _=>False
structure CompScope (X:Cx) (own N':List Str) (scope:Scope):Prop where
 kind:scope.kind=.function
 nocell:∀y∈scope.names,y.2≠.cell
 names:∀y∈scope.names,y.2=.local->scope.names.lookup y.1=some .local
 free:∀y∈scope.names,y.2=.free->(X.env.kindOf y.1=some .cell∨X.env.kindOf y.1=some .free)
 len:N'.length=own.length+X.N.length
 outer:∀(i:Nat) (x:Str),(N'.drop own.length)[i]?=some x->(x,NameKind.free)∈scope.names->X.N[i]?=some x
 apart:∀x∈N'.drop own.length,(relabel scope X.env).names.lookup x≠some .local
noncomputable def Cmp (J:It)(k:Nat)(g:TG)(tt:TT)(te:TE)(σ:St)(Q:VK)(H1:Hp):Prop:=∃W:Nat->Nat->List V->Hp->Prop,(∃m,W 0 m [] H1)/\∀i m ys H,W i m ys H ->
 (J.stop i H/\∀p,H p=none->Q (.ref p) (upd H p (.lst ys))) ∨
 (J.go i H/\ys.length<sizeLine/\∃(N1:V->Hp->Prop) (N0:Hp->Prop),(∀y H',N1 y H'->∃m',m'<m/\W (i+1) m' (ys++[y]) H')/\(∀H',N0 H'->∃m',m'<m/\W (i+1) m' ys H') /\
  ∀x H',J.yld i H x H'->g x (List.replicate k none++σ) H' fun σ2 H2=>tt σ2 H2 fun b H3=>if b=true then te σ2 H3 N1 else N0 H3)
noncomputable def jp0 (k:Nat)(wi:TI)(g:TG)(tt:TT)(te:TE):TE:=fun σ H Q=>wi σ H fun J H1=>Cmp J k g tt te σ Q H1
noncomputable def PTs (X:Cx)(ifs:List Expr)(t:TT):Prop:=
 ∀(pins:List (Addr×Obj)) (s:Shared) (σ:St) (H:Hp) (Q:Bool->Hp->Prop),Inv X pins σ H s->t σ H Q ->
  wpAny (model X.prog X.w) X.A (forIn ifs true fun c r=>if r=true then do let ok <- isTrue c X.env (eval c X.env);pure (ForInStep.yield ok)else pure (ForInStep.yield r)) (TP X pins σ Q) X.xe s
noncomputable def jxx:TT:=fun _ H Q=>Q true H
theorem jq6 {X:Cx}:PTs X [] jxx:=fun _ _ σ H Q I h=>wpAny_tests_nil ⟨H,I,h⟩
theorem jq2 {X:Cx}{c:Expr}{t:TT}(h:PT X c t):PTs X [c] t:=fun pins s σ H Q I q=>wpAny_tests_one (h pins s σ H Q I q)
noncomputable abbrev Nev:Value->Shared->Prop:=fun _ _=>False
noncomputable abbrev juo (cs:List Expr) (en:Env):Sem Bool:=forIn cs true fun c yes=>if yes=true then isTrue c en (eval c en) >>=fun b=>pure (ForInStep.yield b)else pure (ForInStep.yield yes)
noncomputable abbrev jrr (P:Program) (W:World) (B:Around) (elt tgt:Expr) (cs:List Expr) (src lst:Value) (en:Env) (Go:Shared->Prop) (v:Value):Shared->Prop:=wpAny (model P W) B (letOwnedTupleGo tgt src v) (fun _ t2=>
 wpAny (model P W) B (assign tgt en v) (fun _ t3=>wpAny (model P W) B (juo cs en) (fun yes t4=>if yes=true then wpAny (model P W) B (eval elt en) (fun x t5=>wpAny (model P W) B (call (.builtin "list.append") [lst,x]) (fun _ t6=>Go t6) Nev t5) Nev t4 else Go t4) Nev t3) Nev t2) Nev
theorem jiz {P:Program}{W:World}{B:Around}{R:Result->Shared->Prop}{s:Shared}{elt tgt iter:Expr}{cs:List Expr}{scope:Scope}{pos:Pos}{src lst:Value}{en:Env}(J:Nat->Shared->Prop)
  (turn:∀k t,J k t->wpAny (model P W) B (pyNext src) (fun got t1=>match got with|none=>R (.ok .next) t1|some v=>jrr P W B elt tgt cs src lst en (fun t6=>∃j,j<k/\J j t6) v t1) Nev t)
  (k:Nat) (start:J k s):codeAny (model P W) B (.compLoop (.ListComp elt [⟨tgt,iter,cs,0⟩] scope pos) 0 src lst en) R s:=by
 refine codeAny_loop rfl J (fun j t hj=>?_) k start
 refine(?_:wpAny _ B ((compTurn (.ListComp elt [⟨tgt,iter,cs,0⟩] scope pos) 0 src lst en).onRaise fun x=>do noteFrame x en;theTreesLotGoes x) _ _ t)
 refine wpAny_noted ?_
 rw[compTurn_list]
 refine wpAny_bind (wpAny_standAt (wpAny_bind (wpAny_mono (turn j t hj) (fun got t1 h1=>?_) fun _ _ no=>no.elim)))
 match got,h1 with
 |none,h1=>exact wpAny_pure h1
 |some v,h1=>
  refine wpAny_bind (wpAny_mono h1 (fun _ t2 h2=>wpAny_bind (wpAny_mono h2 (fun _ t3 h3=>wpAny_bind (wpAny_mono h3 (fun yes t4 h4=>?_) fun _ _ no=>no.elim)) fun _ _ no=>no.elim)) fun _ _ no=>no.elim)
  match yes,h4 with
  |true,h4=>exact wpAny_bind (wpAny_bind (wpAny_mono h4 (fun x t5 h5=>wpAny_bind (wpAny_mono h5 (fun _ t6 h6=>wpAny_pure (wpAny_pure ⟨rfl,h6⟩)) fun _ _ no=>no.elim)) fun _ _ no=>no.elim))
  |false,h4=>exact wpAny_pure ⟨rfl,h4⟩
section
variable {X:Cx}
theorem CompScope.ok {own N':List Str}{scope:Scope}{C:Addr}{fp:List Addr}{s₂:Shared}{H₂:Hp}{pins:List (Addr×Obj)}{σ:St}(S:CompScope X own N' scope)(I:Inv X pins σ H₂ s₂)(hC:s₂.heap.objs.size<=C)
  (hf:∀b∈fp,jm8 X pins H₂ b) (hlt:∀b∈fp,b<s₂.heap.objs.size):(jbi X N' scope C fp s₂ H₂).Ok where
 mod:=I.ok.mod
 kind:=S.kind
 glob:=I.ok.glob
 blt:=I.ok.blt
 above:=hC
 inj:=fun x y c h1 h2=>I.ok.inj x y c (jaT h1) (jaT h2)
 has:=fun x h=>by
  have hm:=jdD S.nocell h
  obtain⟨c,hc⟩:=I.ok.has x (S.free _ hm rfl)
  exact⟨c,jjQ hm hc⟩
 cab:=fun x c h=>by cases h
 hd:=I.ok.hd
 frames:=I.ok.frames
 stk:=.inl rfl
 exf:=fun b hb=>⟨jeC (hlt b hb) hC,fun x c h=>(hf b hb).2.2.2.2.1 x c (jaT h)⟩
 bs:=I.bs
 bsz:=Nat.le_trans I.ok.bsz I.sz
 noex:=fun b o e hb=>by
  rcases(hf b hb).2.2.2.1 with z|z
  ·exact I.ok.noex b o e z
  ·exact jwm (Heap.lt_size e) (Nat.le_trans I.ok.bsz z)
 exfs:=fun b hb hs=>by
  rcases List.mem_cons.mp (I.stkSub b hs)with z|z
  ·exact(hf b hb).2.1 z
  ·exact(hf b hb).2.2.1 z
 funs:=I.stack
 frf:=I.stkFree
theorem CompScope.inv {own N':List Str}{scope:Scope}{C D:Addr}{fp:List Addr}{s₂ s₄:Shared}{H₂:Hp}{pins:List (Addr×Obj)}{σ:St}{oD:Obj}{m:Str->Option Value}(S:CompScope X own N' scope)(I:Inv X pins σ H₂ s₂)(hC:s₂.heap.objs.size<=C)
  (hf:∀b∈fp,jm8 X pins H₂ b) (hlt:∀b∈fp,b<s₂.heap.objs.size) (hos:s₄.os=s₂.os) (hg:s₄.gens=s₂.gens) (k:∀b u,s₂.heap.get? b=some u->s₄.heap.get? b=some u) (hn:s₄.heap.Ns C m)
  (hD:s₄.heap.get? D=some oD) (hDs:s₂.heap.objs.size<=D) (hDC:D≠C) (hDd:∀v,oD.data≠.cell v) :
  Inv (jbi X N' scope C fp s₂ H₂) [(D,oD)] (List.replicate own.length none++σ) H₂ s₄ where
 ok:=S.ok I hC hf hlt
 os:=hos
 bare:=by rw[hg];exact I.bare
 base:=Un.kept k
 loc:=⟨m,hn,fun i x v e1 e2 e3=>by
  obtain⟨mX,hnX,hlX⟩:=I.loc
  have hge:own.length<=i:=by
   refine Nat.le_of_not_lt fun hi=>?_
   rw[List.getElem?_append_left (by simpa using hi),List.getElem?_replicate]at e2
   split at e2<;>cases e2
  rw[List.getElem?_append_right (by simpa using hge),List.length_replicate]at e2
  have e1':(N'.drop own.length)[i - own.length]?=some x:=by
   rw[List.getElem?_drop,show own.length+(i - own.length)=i by omega]
   exact e1
  have nl:=S.apart x (List.mem_of_getElem? e1')
  have hfr:(x,NameKind.free)∈scope.names:=by
   rcases e3 with z|z|z
   ·exact absurd z nl
   ·exact jdD S.nocell (.inl z)
   ·exact jdD S.nocell (.inr z)
  have hk:=S.free _ hfr rfl
  obtain⟨u,r,l⟩:=hlX (i - own.length) x v (S.outer _ _ e1' hfr) e2 (by
   rcases hk with z|z
   ·exact .inr (.inl z)
   ·exact .inr (.inr z))
  refine⟨u,r,?_⟩
  rcases l with⟨z,_⟩|⟨_,c,hc,o,ho,hd⟩
  ·rcases hk with q|q
   ·rw[q]at z;cases z
   ·rw[q]at z;cases z
  ·refine .inr ⟨?_,c,jjQ hfr hc,o,k _ _ ho,hd⟩
   rcases e3 with z|z|z
   ·exact absurd z nl
   ·exact .inl z
   ·exact .inr z⟩
 cell:=fun x c h=>by
  obtain⟨v,o,ho,hd⟩:=I.cell x c (jaT h)
  exact⟨v,o,k _ _ ho,hd⟩
 free:=I.hok.fresh hC
 freeC:=fun x c h=>I.freeC x c (jaT h)
 pin:=fun p hp=>by
  have e:p=(D,oD):=by
   have hp':p∈[(D,oD)]:=hp
   simpa using hp'
  subst e
  refine⟨hD,I.hok.fresh hDs,hDC,fun z=>?_,hDd⟩
  rcases List.mem_cons.mp (I.stkSub D z)with q|q
  ·exact jeC I.lt hDs q.symm
  ·exact I.nofs hDs q
 hok:=I.hok.kept k
 len:=by
  show _=N'.length
  rw[S.len,List.length_append,List.length_replicate,I.len]
theorem jgF {own N':List Str}{scope:Scope}{elt tg iter:Expr}{ifs:List Expr}{pos:Pos}{g:TG}{tt:TT}{te:TE}{it:Addr}{fp:List Addr}{tn:Nat->Heap->Prop}{J:It}{pins:List (Addr×Obj)}{s₂:Shared}{σ:St}{H₂:Hp}{Q:VK}
  {RR:Value->Addr->Result->Shared->Prop} {E:Value->Shared->Prop} (hc:X.calm=true) (S:CompScope X own N' scope)
  (hg:∀C s H,PG (jbi X N' scope C fp s H) tg g) (ht:∀C s H,PTs (jbi X N' scope C fp s H) ifs tt) (he:∀C s H,PE (jbi X N' scope C fp s H) elt te)
  (I:Inv X pins σ H₂ s₂) (T:Turn X.prog X.w X.K tg J fp it tn) (st:tn 0 s₂.heap) (hf:∀b∈fp,jm8 X pins H₂ b)
  (W:Nat->Nat->List V->Hp->Prop) (m0:Nat) (w0:W 0 m0 [] H₂)
  (turn:∀i m ys H,W i m ys H->(J.stop i H/\∀p,H p=none->Q (.ref p) (upd H p (.lst ys))) ∨
   (J.go i H/\ys.length<sizeLine/\∃(N1:V->Hp->Prop) (N0:Hp->Prop),(∀y H',N1 y H'->∃m',m'<m/\W (i+1) m' (ys++[y]) H')/\(∀H',N0 H'->∃m',m'<m/\W (i+1) m' ys H') /\
    ∀x H',J.yld i H x H'->g x (List.replicate own.length none++σ) H' fun σ2 H2=>tt σ2 H2 fun b H3=>if b=true then te σ2 H3 N1 else N0 H3))
  (hRR:∀(D C:Addr) (s':Shared) (H':Hp) (m':Str->Option Value),Inv X pins σ H' s'->Q (.ref D) H'->s'.heap.Ns C m'->H' C=none->C≠X.env.locals->X.s₀.heap.objs.size<=C->(∀x c,X.env.cells.lookup x=some c->c≠C)->(∀p∈X.pn++pins,p.1≠C) ->
   RR (.ref D) C (.ok .next) s') :
  wpAny (model X.prog X.w) X.A (newList []) (fun acc s₃=>wpAny (model X.prog X.w) X.A (newFunctionEnv scope X.env.globals (jhF scope.names X.env.cells) [] X.env.qual none .none (some X.env)) (fun cenv s₄=>
   codeAny (model X.prog X.w) X.A (.compStart (.ListComp elt [⟨tg,iter,ifs,0⟩] scope pos) 0 (.ref it) acc {cenv with scope:=relabel scope X.env}) (RR acc cenv.locals) s₄) E s₃) E s₂:=by
 refine wpAny_newObj_type (wpAny_newFunctionEnv S.nocell (by intro y hy;simp at hy) (fun h₁ hns₁ hsb₁=>?_) S.kind)
 dsimp only at hns₁ hsb₁ ⊢
 generalize hH2:s₂.heap.push {cls:=.type "list",dict:=none,data:=.seq ([]:List Value).toArray}=H2 at hns₁ hsb₁ ⊢
 have hC:H2.objs.size=s₂.heap.objs.size+1:=hH2▸Heap.size_push ..
 have hDC:s₂.heap.objs.size≠H2.objs.size:=Nat.ne_of_lt (by omega)
 have hCle:s₂.heap.objs.size<=H2.objs.size:=hC▸Nat.le_add_right _ 1
 have below:∀b,b<s₂.heap.objs.size->b≠H2.objs.size/\b≠s₂.heap.objs.size:=fun b hb=>⟨Nat.ne_of_lt (Nat.lt_of_lt_of_le hb hCle),Nat.ne_of_lt hb⟩
 have old:∀b o,s₂.heap.get? b=some o->h₁.get? b=some o:=fun b o e=>hsb₁.extBut b o (below b (Heap.lt_size e)).1 (Heap.get?_push_of_some _ (hH2▸Heap.get?_push_of_some _ e))
 have hacc:h₁.get? s₂.heap.objs.size=some {cls:=.type "list",data:=.seq ([]:List Value).toArray 0}:=hsb₁.extBut _ _ hDC (Heap.get?_push_of_some _ (hH2▸Heap.get?_push_size _ rfl))
 have hflt:∀b∈fp,b<s₂.heap.objs.size:=fun b hb=>by
  obtain⟨o,e,_⟩:=T.obj 0 _ st b hb
  exact Heap.lt_size e
 generalize hCd:H2.objs.size=C at *
 generalize hDd:s₂.heap.objs.size=D at *
 have hDnf:D∉X.fs:=I.nofs (Nat.le_of_eq hDd)
 have stat:∀{H':Hp} {o:Obj},(∀b∈fp,H' b=none)->∀b∈fp,jm8 (jbi X N' scope C fp s₂ H₂) [(D,o)] H' b:=fun {H' o} hn b hb=>
  ⟨hn b hb,(jeC (hflt b hb) hCle),fun z=>(S.ok I (hDd▸hCle) hf (by rw[hDd];exact hflt)).exfs b hb z,.inl hb,fun x c h=>(hf b hb).2.2.2.2.1 x c (jaT h),fun p hp=>by
   have e:p=(D,o):=by
    have hp':p∈[(D,o)]:=hp
    simpa using hp'
   subst e
   exact Ne.symm (Nat.ne_of_lt (hflt b hb))⟩
 have loop:∀s₃:Shared,s₃={s₂ with heap:=h₁,toks:=s₂.toks+([]:List (Str×Value)).length} ->
   codeAny (model X.prog X.w) X.A (.compLoop (.ListComp elt [⟨tg,iter,ifs,0⟩] scope pos) 0 (.ref it) (.ref D) (compEnvC scope (jhF scope.names X.env.cells) C X.env)) (RR (.ref D) C) s₃:=by
  rintro s₃ rfl
  refine jiz (fun n s'=>∃i ys us nn H',Inv (jbi X N' scope C fp s₂ H₂) [(D,{cls:=.type "list",data:=.seq (us:List Value).toArray nn})] (List.replicate own.length none++σ) H' s'/\jaZ ys us/\ys.length<=sizeLine /\
   tn i s'.heap/\(∀b∈fp,H' b=none)/\W i n ys H') ?_ m0 ⟨0,[],[],0,H₂,S.inv (m:=fun x=>([]:List (Str×Value)).reverse.lookup x) I (by rw[hDd];exact hCle) hf (by rw[hDd];exact hflt) rfl rfl old hns₁ hacc (Nat.le_of_eq hDd) hDC (by intro v z;cases z),.nil,Nat.zero_le _,
    T.keep _ _ _ st fun b hb o e=>old b o e,fun b hb=>(hf b hb).1,w0⟩
  rintro n s3 ⟨i,ys,us,nn,H3,I3,rv,hyz,st3,fr3,w3⟩
  rcases turn i n ys H3 w3 with⟨stop,qn⟩|⟨go,hlt,N1,N0,hN1,hN0,step⟩
  ·refine thn (T.done (jbi X N' scope C fp s₂ H₂) rfl rfl rfl hc i _ s3 _ H3 (fun _ _=>False) I3 (stat fr3) st3 stop) fun r s4 ⟨hr,I4⟩=>?_
   subst hr
   obtain⟨e4,n4,ne4,nf4,d4⟩:=I4.pin (D,_) (List.mem_append_right _ (List.mem_cons_self))
   obtain⟨mC,hmC,_⟩:=I4.loc
   have hH4:H3 D=none:=n4
   have U:Un (frs X.stack) fp H₂ H3 s₂.heap s4.heap:=I4.base
   have U':Un (frs X.stack) fp H₂ (upd H3 D (.lst ys)) s₂.heap s4.heap:=
    {keep:=U.keep,slot:=U.slot,there:=U.there
     free:=fun b o e nb hx=>by
      rw[jaj (jeC (Heap.lt_size e) (Nat.le_of_eq hDd))]
      exact U.free b o e nb hx
     tups:=fun b xs e=>by
      rw[jaj (jeC (I.hok.lt e) (Nat.le_of_eq hDd))]
      exact U.tups b xs e
     frzs:=fun b o xs e=>by
      rw[jaj (jeC (I.hok.lt e) (Nat.le_of_eq hDd))]
      exact U.frzs b o xs e
     tbls:=fun b ps e=>by
      rw[jaj (jeC (I.hok.lt e) (Nat.le_of_eq hDd))]
      exact U.tbls b ps e}
   have hokD:HOk X.prog X.w (upd H3 D (.lst ys)) s4.heap:=fun b u e=>by
    by_cases hb:b=D
    ·subst hb
     rw[jaC]at e
     cases e
     exact⟨hyz,us,nn,rv,e4⟩
    ·rw[jaj hb]at e
     exact(I4.hok b u e).stay (fun _ _ _ q=>q) (fun c q=>by rw[jaj (jak q hH4)];exact q) fun c xs q=>by rw[jaj (jak q hH4)];exact q
   have IX:Inv X pins σ (upd H3 D (.lst ys)) s4:=I.call' I4.os U' hokD I4.bare fun b hb=>by
    obtain⟨f0,f1,f2,f3,f4,f5⟩:=hf b hb
    exact⟨f3,f1,f4,f5⟩
   have hDne:C≠D:=fun z=>hDC z.symm
   refine hRR D C s4 _ mC IX (qn D hH4) hmC (by rw[jaj hDne];exact I4.free) (fun z=>?_) ?_ (fun x c h z=>?_) fun p hp z=>?_
   ·exact jeC I.lt (hDd▸hCle) z.symm
   ·exact Nat.le_trans I.sz (hDd▸hCle)
   ·obtain⟨v,o,ho,_⟩:=I.cell x c h
    exact jeC (Heap.lt_size ho) (hDd▸hCle) z
   ·exact jeC (Heap.lt_size (I.pin p hp).1) (hDd▸hCle) z
  ·refine thn (T.item (jbi X N' scope C fp s₂ H₂) rfl rfl rfl hc i _ s3 _ H3 (fun _ _=>False) I3 (stat fr3) st3 go) fun r s4 ⟨u,hr,h4⟩=>?_
   subst hr
   refine thn h4 fun _ s5 ⟨x,H5,I5,r5,y5,st5,fr5⟩=>?_
   have I5':=I5.pinned (stat fr5) (T.obj _ _ st5)
   refine thn (hg C s₂ H₂ _ s5 _ H5 x u _ I5' r5 (step x H5 y5)) fun _ s6 ⟨σ6,H6,I6,q6⟩=>?_
   have back:∀{σ7:St} {H7:Hp} {s7:Shared} {pp:List (Addr×Obj)},Inv (jbi X N' scope C fp s₂ H₂) (pp++jh7 fp s5.heap) σ7 H7 s7->tn (i+1) s7.heap/\∀b∈fp,H7 b=none:=fun {σ7 H7 s7 pp} I7=>by
    refine⟨T.keep _ _ _ st5 fun b hb o e=>(I7.pin (b,o) (List.mem_append_right _ (List.mem_append_right _ (jdI hb e)))).1,fun b hb=>?_⟩
    obtain⟨o,e,d⟩:=T.obj _ _ st5 b hb
    exact(I7.pin (b,o) (List.mem_append_right _ (List.mem_append_right _ (jdI hb e)))).2.1
   refine thn (ht C s₂ H₂ _ s6 σ6 H6 _ I6 q6) fun b s7 ⟨H7,I7,q7⟩=>?_
   have weak:∀{H8:Hp} {s8:Shared} {pp:List (Addr×Obj)},Inv (jbi X N' scope C fp s₂ H₂) pp σ6 H8 s8->Inv (jbi X N' scope C fp s₂ H₂) pp (List.replicate own.length none++σ) H8 s8:=fun {H8 s8 pp} J8=>by
    obtain⟨mC,hmC,_⟩:=J8.loc
    refine⟨J8.ok,J8.os,J8.bare,J8.base,⟨mC,hmC,fun j y v e1 e2 e3=>?_⟩,J8.cell,J8.free,J8.freeC,J8.pin,J8.hok,I3.len⟩
    obtain⟨m3,hm3,hl3⟩:=(S.inv (m:=fun x=>([]:List (Str×Value)).reverse.lookup x) (s₄:={s₂ with heap:=h₁,toks:=s₂.toks+([]:List (Str×Value)).length}) I (by rw[hDd];exact hCle) hf (by rw[hDd];exact hflt) rfl rfl old hns₁ hacc (Nat.le_of_eq hDd) hDC (by intro v z;cases z)).loc
    obtain⟨u',r',l'⟩:=hl3 j y v e1 e2 e3
    refine⟨u',r',?_⟩
    rcases l' with⟨k',z'⟩|⟨k',c,hcl,o,ho,hd⟩
    ·have hge:own.length<=j:=by
      refine Nat.le_of_not_lt fun hj=>?_
      rw[List.getElem?_append_left (by simpa using hj),List.getElem?_replicate]at e2
      split at e2<;>cases e2
     have e1':(N'.drop own.length)[j - own.length]?=some y:=by
      rw[List.getElem?_drop,show own.length+(j - own.length)=j by omega]
      exact e1
     exact absurd k' (S.apart y (List.mem_of_getElem? e1'))
    ·obtain⟨vc,oc,hoc,hdc⟩:=I.cell y c (jaT hcl)
     have ec:oc=o:=by
      have:=old c oc hoc
      rw[this]at ho
      exact Option.some.inj ho
     subst ec
     obtain⟨sl,hsl⟩:=J8.base.any hoc (I.freeC y c (jaT hcl)) (fun z=>(hf c z).2.2.2.2.1 y c (jaT hcl) rfl)
     exact .inr ⟨k',c,hcl,_,hsl,hd⟩
   cases b with
   |false=>
    obtain⟨m',hm,w7⟩:=hN0 _ q7
    obtain⟨st7,fr7⟩:=back I7
    exact⟨m',hm,i+1,ys,us,nn,H7,weak I7.unpinned,rv,hyz,st7,fr7,w7⟩
   |true=>
    refine thn (he C s₂ H₂ _ s7 σ6 H7 _ I7 q7) fun yv s8 ⟨y,H8,I8,r8,q8⟩=>?_
    obtain⟨m',hm,w8⟩:=hN1 _ _ q8
    obtain⟨st8,fr8⟩:=back I8
    obtain⟨e8,n8,ne8,nf8,d8⟩:=I8.pin (D,_) (List.mem_append_right _ (List.mem_append_left _ List.mem_cons_self))
    refine append_at (hsz:=by rw[List.size_toArray,<- rv.length];exact hyz) e8 fun h9 hs9 hD9=>?_
    have I8':Inv (jbi X N' scope C fp s₂ H₂) [] σ6 H8 s8:=I8.pins_of fun p hp=>nomatch hp
    have I9:Inv (jbi X N' scope C fp s₂ H₂) [] σ6 H8 {s8 with heap:=h9}:=I8'.turned (t':=s8.toks) (it:=D) (fun b o hb e=>hs9.extBut b o hb e) n8 ne8 (.inr (Nat.le_of_eq hDd)) (fun x c h z=>by
     obtain⟨v,o,ho,_⟩:=I.cell x c (jaT h)
     exact jeC (Heap.lt_size ho) (Nat.le_of_eq hDd) z) fun p hp=>nomatch (show p∈([]:List (Addr×Obj))from hp)
    have eqD:({cls:=.type "list",data:=.seq (us.toArray.push yv) (nn+1)}:Obj)={cls:=.type "list",data:=.seq (us++[yv]).toArray (nn+1)}:=by rw[List.push_toArray]
    refine⟨m',hm,i+1,ys++[y],us++[yv],nn+1,H8,weak (I9.pins_of fun p hp=>?_),rv.append (.cons r8 .nil),by rw[List.length_append];exact hlt,T.keep _ _ _ st8 fun b hb o e=>hs9.extBut b o (Nat.ne_of_lt (hflt b hb)) e,fr8,w8⟩
    have e:p=(D,{cls:=.type "list",data:=.seq (us++[yv]).toArray (nn+1)}):=by simpa using hp
    subst e
    exact⟨by rw[<- eqD];exact hD9,n8,ne8,nf8,by intro v z;cases z⟩
 exact codeAny_compStart_list (loop _ rfl) (T.self _ 0 _ _ _ (T.keep _ _ _ st fun b hb o e=>old b o e) (loop _ rfl))
end
end _L2
namespace _L2
open PySem PySem.Spec PyProof.Rows
section
variable {X:Cx}
theorem jgH {own N':List Str}{scope:Scope}(S:CompScope X own N' scope){pins:List (Addr×Obj)}{s:Shared}{σ:St}{H:Hp}(I:Inv X pins σ H s) :
  closureFor scope X.env=pure (jhF scope.names X.env.cells):=jhh fun p hp hf=>I.ok.has p.1 (S.free p hp hf)
theorem jrA {own N':List Str}{scope:Scope}{elt tg iter:Expr}{ifs:List Expr}{pos:Pos}{wi:TI}{g:TG}{tt:TT}{te:TE}(hc:X.calm=true)(S:CompScope X own N' scope)(hi:PI X tg iter wi)
  (hg:∀C fp s H,PG (jbi X N' scope C fp s H) tg g) (ht:∀C fp s H,PTs (jbi X N' scope C fp s H) ifs tt) (he:∀C fp s H,PE (jbi X N' scope C fp s H) elt te)
  (hs:∀x,foldedSetIterable iter X.env x=pure x:=by intro _;rfl):PE X (.ListComp elt [⟨tg,iter,ifs,0⟩] scope pos) (jp0 own.length wi g tt te):=by
 intro pins s σ H Q I h
 rw[eval_ListComp]
 refine wpAny_comprehension_free (use:=none) rfl hs (jgH S I) S.kind S.names (thn (hi pins s σ H _ I h) fun v s1 h1=>thn h1 fun itv s2 h2=>?_)
 obtain⟨it,fp,tn,J,H2,e,I2,T,st2,f2,W,⟨m0,w0⟩,turn⟩:=h2
 subst e
 refine jgF (RR:=fun acc C=>compPost (model X.prog X.w) X.A X.xe none (EP X pins σ Q) acc C) hc S (fun C s H=>hg C fp s H) (fun C s H=>ht C fp s H) (fun C s H=>he C fp s H) I2 T st2 f2 W m0 w0 turn ?_
 intro D C s' H' m' I' q' hn hC h1 h2' h3 h4
 refine⟨m',hn,fun h' hsb=>?_⟩
 exact⟨.ref D,H',I'.turned (t':=s'.toks) (it:=C) (fun b o hb e=>hsb.extBut b o hb e) hC h1 (.inr h2') h3 h4,rfl,q'⟩
theorem jkS {own N':List Str}{scope:Scope}{elt tg iter:Expr}{ifs:List Expr}{pos spos py:Pos}{wi:TI}{g:TG}{tt:TT}{te:TE}{i:Nat}{y:Str}(hN:X.N.Nodup)(hy:X.N[i]?=some y)(hx:Loc X.env.scope y)(hc:X.calm=true)(S:CompScope X own N' scope)(hi:PI X tg iter wi)
  (hg:∀C fp s H,PG (jbi X N' scope C fp s H) tg g) (ht:∀C fp s H,PTs (jbi X N' scope C fp s H) ifs tt) (he:∀C fp s H,PE (jbi X N' scope C fp s H) elt te)
  (hsw:swapsWith (.ListComp elt [⟨tg,iter,ifs,0⟩] scope pos) (some (.Name y py)) spos.line X.env=pure true)
  (hs:∀x,foldedSetIterable iter X.env x=pure x:=by intro _;rfl) (hf:X.fn y=true∨X.env.scope.names.lookup y=some .local:=by first|exact .inl rfl|exact .inr rfl|assumption) :
  PS X (.Assign [.Name y py] (.ListComp elt [⟨tg,iter,ifs,0⟩] scope pos) spos) (jsO (jp0 own.length wi g tt te) (jej i)):=by
 intro pins s σ H D I h
 rw[exec_Assign_Name_used _ _ _ _ hsw]
 refine wpAny_bind (wpAny_standAt (wpAny_bind ?_))
 show wpAny _ X.A (do let _ <- comprehension (.ListComp elt [⟨tg,iter,ifs,0⟩] scope pos) scope X.env _ (newList []) false (eval iter X.env) (some (assign (.Name y py) X.env))) _ _ s
 refine wpAny_bind (wpAny_mono (wpAny_comprehension_free (use:=some (assign (.Name y py) X.env)) (Q:=fun _ s'=>SP X pins D .next s') rfl hs (jgH S I) S.kind S.names
  (thn (hi pins s σ H _ I h) fun v s1 h1=>thn h1 fun itv s2 h2=>?_)) (fun _ s' hq=>wpAny_pure (wpAny_pure hq)) fun _ _ e=>e)
 obtain⟨it,fp,tn,J,H2,e,I2,T,st2,f2,W,⟨m0,w0⟩,turn⟩:=h2
 subst e
 refine jgF (Q:=fun x H1=>jej i x σ H1 D.nx) (RR:=fun acc C=>compPost (model X.prog X.w) X.A X.xe (some (assign (.Name y py) X.env)) (fun _ s'=>SP X pins D .next s') acc C) hc S (fun C s H=>hg C fp s H) (fun C s H=>ht C fp s H) (fun C s H=>he C fp s H) I2 T st2 f2 W m0 w0 turn ?_
 intro D' C s' H' m' I' q' hn hC h1 h2' h3 h4
 show wpAny _ X.A (assign (.Name y py) X.env (.ref D')) _ _ _
 refine wpAny_assign_Name (jib (v:=.ref D') I' hN hy hx rfl (fun s'' I'' hch=>?_) hf)
 obtain⟨a,hsa,ha⟩:=hch
 have hCa:C≠a:=by
  rcases ha with z|z
  ·rw[z];exact h1
  ·exact Ne.symm (h3 _ _ z)
 refine⟨m',hn.sameBut hsa hCa,fun h' hsb=>?_⟩
 exact⟨_,H',I''.turned (t':=s''.toks) (it:=C) (fun b o hb e=>hsb.extBut b o hb e) hC h1 (.inr h2') h3 h4,q'⟩
noncomputable def Its (z:Str):It:=⟨fun i _=>i<z.cps.size,fun i H x H'=>H'=H/\∃c,z.cps[i]?=some c/\x=.str ⟨#[c]⟩,fun i _=>z.cps.size<=i⟩
theorem joo {P:Program} {w:World} {K:PySem.W.Frag} {tg:Expr} (it:Addr) (z:Str) (t:Tok) (ty:String) (hty:ty = "str_ascii_iterator"∨ty = "str_iterator"):Turn P w K tg (Its z) [it] it (fun i h=>h.IsStrIter it ty z t i) where
 mem:=by simp
 obj:=fun i h st b hb=>by
  have e:b=it:=by simpa using hb
  subst e
  obtain⟨o,e,c,d⟩:=st
  exact⟨o,e,fun v z=>by rw[d]at z;cases z⟩
 keep:=fun i h h' st k=>by
  obtain⟨o,e,c,d⟩:=st
  exact⟨o,k it (by simp) o e,c,d⟩
 item:=by
  intro X hP hw hK hc i pins s σ H E I hf st hg
  subst hP hw hK
  have hg':i<z.cps.size:=hg
  have hx:z.cps[i]?=some z.cps[i]:=by simp[hg']
  obtain⟨f0,f1,f2,f3,f4,f5⟩:=hf it (by simp)
  have fin:∀h',h'.IsStrIter it ty z t (i+1)->Heap.SameBut it s.heap h'->∃u,some (Value.str ⟨#[z.cps[i]]⟩ s.toks)=some u /\
    wpAny (model X.prog X.w) X.A (letOwnedTupleGo tg (.ref it) u) (fun _ s2=>∃x H',Inv X pins σ H' s2/\ja0 x u/\(Its z).yld i H x H'/\s2.heap.IsStrIter it ty z t (i+1)/\∀b∈[it],H' b=none) E {s with heap:=h',toks:=s.toks+1}:=fun h' st' sb=>by
   have I1:Inv X pins σ H {s with heap:=h',toks:=s.toks+1}:=I.turned (fun b o hb e=>(sb.2 b hb).trans e) f0 f1 f3 f4 f5
   obtain⟨o,e,c,d⟩:=id st'
   refine⟨_,rfl,jpa (s:={s with heap:=h',toks:=s.toks+1}) e c d ?_ ⟨.str ⟨#[z.cps[i]]⟩,H,I1,⟨_,rfl⟩,⟨rfl,_,hx,rfl⟩,st',fun b hb=>(hf b hb).1⟩⟩
   rcases hty with q|q<;>rw[q]<;>decide
  rcases hty with q|q
  ·subst q
   exact wpAny_pyNext_ascii_item st hx fin
  ·subst q
   exact wpAny_pyNext_wide_item st hx fin
 done:=by
  intro X hP hw hK hc i pins s σ H E I hf st hg
  subst hP hw hK
  have hg':z.cps.size<=i:=hg
  have hx:z.cps[i]?=none:=by simp[hg']
  obtain⟨f0,f1,f2,f3,f4,f5⟩:=hf it (by simp)
  rcases hty with q|q
  ·subst q
   exact wpAny_pyNext_ascii_end (I.ok.hd hc) st hx fun h' eb=>⟨rfl,I.turned (t':=s.toks) (fun b o hb e=>eb b o hb e) f0 f1 f3 f4 f5⟩
  ·subst q
   exact wpAny_pyNext_wide_end (I.ok.hd hc) st hx fun h' eb=>⟨rfl,I.turned (t':=s.toks) (fun b o hb e=>eb b o hb e) f0 f1 f3 f4 f5⟩
 self:=fun A i s Q E st h=>by
  rcases hty with q|q
  ·subst q;exact wpAny_pyIter_striter_ascii st h
  ·subst q;exact wpAny_pyIter_striter_wide st h
noncomputable def jxG (tl:TE):TI:=fun σ H R=>tl σ H fun x H1=>∃z,x=.str z/\R (Its z) H1
theorem jum {tg:Expr}{l:Expr}{tl:TE}(hl:PE X l tl):PI X tg l (jxG tl):=by
 intro pins s σ H R I h
 refine thn (hl pins s σ H _ I h) fun v s1 ⟨x,H1,I1,r1,q1⟩=>?_
 obtain⟨z,e,q⟩:=q1
 subst e
 obtain⟨t,rfl⟩:=r1
 have fin:∀ty,(ty = "str_ascii_iterator"∨ty = "str_iterator")->PIE X pins σ tg R (.ref s1.heap.objs.size) {s1 with heap:=s1.heap.push {cls:=.type ty,data:=.fields #[.str z t,.int 0 0]}}:=fun ty hty=>
  ⟨s1.heap.objs.size,[s1.heap.objs.size],_,_,H1,rfl,I1.kept (t':=s1.toks) fun b o e=>Heap.get?_push_of_some _ e,joo _ z t ty hty,⟨_,Heap.get?_push_size _ rfl,rfl,rfl⟩,fun b hb=>by
   have e:b=s1.heap.objs.size:=by simpa using hb
   subst e
   exact I1.fpOk (Nat.le_refl _) (I1.hok.fresh (Nat.le_refl _)),q⟩
 cases ha:z.cps.all (· < 128)
 ·exact wpAny_pyIter_wide ha (fin _ (.inr rfl))
 ·exact wpAny_pyIter_ascii ha (fin _ (.inl rfl))
noncomputable def jt9 (K:PySem.W.Frag):R2:=fun x y H Q=>∃l b xs zs,x=.ref l/\y=.ref b/\SqL K H l xs/\SqL K H b zs/\xs.length+zs.length<=sizeLine/\∀p,H p=none->Q (.ref p) (upd H p (.lst (xs++zs)))
theorem jqW:OpR X (binaryOp .Add) (jt9 X.K):=by
 intro pins s σ H x y v u Q I rx ry h
 obtain⟨l,b,xs,zs,rfl,rfl,hH,hB,hz,q⟩:=h
 cases rx
 cases ry
 obtain⟨its,r,pl,z⟩:=I.list hH
 obtain⟨its2,r2,pl2,z2⟩:=I.list hB
 have hl:=r.length
 have hl2:=r2.length
 obtain⟨⟨cls,dd,data,sl⟩,n,ho,hc,_,hd⟩:=pl
 obtain⟨⟨cls2,dd2,data2,sl2⟩,n2,ho2,hc2,_,hd2⟩:=pl2
 simp only at hc hd hc2 hd2
 subst hc hd hc2 hd2
 have e:its.toArray++its2.toArray=(its++its2).toArray:=by simp
 refine concat_meets ⟨_,ho,rfl⟩ ⟨_,ho2,rfl⟩ noFill_list_add seq_list_add PySem.F.slot_list_add PySem.F.entry_list_add (PySem.F.args_list_add_2 _ _) (list_addW l b its.toArray its2.toArray n n2 dd dd2 sl sl2 (by rw[List.size_toArray,List.size_toArray];omega)) ⟨ho,ho2,?_⟩
 rw[e]
 exact⟨.ref _,_,I.lnew (t':=s.toks) (r.append r2) (by rw[List.length_append];omega),rfl,q _ I.fresh⟩
noncomputable def jw7:V->Option Int->Option Int->Hp->VK->Prop:=fun x lo hi H Q=>∃z,x=.str z/\z.length<=sizeLine/\Q (.str (Txt.slice z lo hi)) H
theorem juG:SlR X jw7:=by
 intro pins s σ H x v vl vu lo hi sl Q I rx hs pl pu h
 obtain⟨z,rfl,hz,q⟩:=h
 obtain⟨t,rfl⟩:=rx
 refine⟨"str",_,PySem.F.slot_str_getitem.lookup,typeIs_str _ _ _,?_⟩
 have fin:∀(l u:Option (Int×Tok)),l.map (·.1)=lo->u.map (·.1)=hi->s.heap.IsSlice sl l u none->wpAny (model X.prog X.w) X.A (getItem (.str z t) (.ref sl)) (EP X pins σ Q) X.xe s:=fun l u el eu hs'=>by
  subst el eu
  exact wpAny_getItem_str_slice (l:=l) (u:=u) (st:=none) hs' rfl (post_val_or_str ⟨Nat.le_trans (Txt.slice_le z _ _) hz,fun t' k=>⟨.str _,H,I.tok _,⟨_,rfl⟩,q⟩⟩)
 cases pl with
 |none=>
  cases pu with
  |none=>exact fin none none rfl rfl hs
  |int j tj=>exact fin none (some (j,tj)) rfl rfl hs
 |int i ti=>
  cases pu with
  |none=>exact fin (some (i,ti)) none rfl rfl hs
  |int j tj=>exact fin (some (i,ti)) (some (j,tj)) rfl rfl hs
theorem jgA:∀{ys:List Str} {us:List Value},jaZ (ys.map V.str) us->StrsAre us ys
 |[],_,.nil=>.nil
 |y::ys,_,.cons ⟨t,e⟩ r=>by
  subst e
  exact .cons y t (jgA r)
noncomputable def jtv (K:PySem.W.Frag):V->List V->Hp->VK->Prop:=fun x xs H Q=>∃z p ys,x=.str z/\xs=[.ref p]/\SqL K H p (ys.map V.str)/\(ys.map (·.length)).sum+ys.length*z.length<=16777216/\Q (.str (Txt.join z ys)) H
theorem jrz:MtR X "str.join" (jtv X.K):=by
 intro pins s σ H x xs v us Q I rx rv h
 obtain⟨z,p,ys,rfl,rfl,hq,hz,q⟩:=h
 obtain⟨t,rfl⟩:=rx
 obtain⟨u,rfl,ru⟩:=rv.one
 cases ru
 obtain⟨its,r,pl,hl⟩:=I.list hq
 exact join_list pl.isList (by simpa using jgA r) hz fun t' k=>⟨.str _,H,I.tok _,⟨_,rfl⟩,q⟩
theorem jnH:jbR X (.builtin "all") (fun xs H Q=>X.calm=true/\∃(p:Addr) (bs:List Bool),xs=[.ref p]/\SqL X.K H p (bs.map V.bl)/\Q (.bl (bs.all id)) H):=by
 intro pins s σ H xs us Q I r h
 obtain⟨hc,p,bs,rfl,hq,q⟩:=h
 obtain⟨u,rfl,rx⟩:=jgd r
 cases rx
 obtain⟨its,r',pl,hz⟩:=I.list hq
 have hl:=pl.isList
 have hlt:p<s.heap.objs.size:=by obtain⟨_,e,_⟩:=hl;exact Heap.lt_size e
 have hlen:=r'.length
 rw[List.length_map]at hlen
 refine call_all_walk (wpAny_pyIter_list hl ?_)
 refine⟨s.heap.objs.size,_,_,_,_,_,fun i=>bs.getD i true,rfl,Walks.list (A:=X.A.in1) (I.ok.hd hc) s.heap.objs.size p (Nat.ne_of_lt hlt) its.toArray,⟨⟨_,Heap.get?_push_size _ rfl,rfl,rfl⟩,hl.push _⟩,?_,fun h' tk hk=>?_⟩
 ·intro i v s' Q' E' hP hQ'
  have hP':its[i]?=some v:=by simpa using hP
  have hi:i<bs.length:=by rw[hlen];exact(List.getElem?_eq_some_iff.mp hP').1
  obtain⟨u',hu,ru⟩:=r'.get (i:=i) (x:=V.bl bs[i]) (by simp[hi])
  rw[hP']at hu
  cases hu
  cases(show v=Value.bool bs[i]from ru)
  have e:bs.getD i true=bs[i]:=by simp[List.getD,hi]
  exact wpAny_truthy_bool (by rw[<- e];exact hQ')
 ·have e:(List.range its.toArray.size).all (fun i=>bs.getD i true)=bs.all id:=by
   rw[List.size_toArray,<- hlen,Bool.eq_iff_iff,List.all_eq_true,List.all_eq_true]
   constructor
   ·intro a b hb
    obtain⟨i,hi,e⟩:=List.mem_iff_getElem.mp hb
    have:=a i (by simpa using hi)
    simpa[List.getD,hi,e]using this
   ·intro a i hi
    have hi':i<bs.length:=by simpa using hi
    have:=a bs[i] (List.getElem_mem hi')
    simpa[List.getD,hi']using this
  rw[e]
  exact⟨.bl _,H,(I.kept (t':=s.toks) (h':=s.heap.push {cls:=.type "list_iterator",data:=.fields #[.ref p,.int 0 0]}) fun b o e=>Heap.get?_push_of_some _ e).turned (t':=tk) (it:=s.heap.objs.size) (fun b o hb e=>hk b o (by simpa using hb) e) I.fresh
   (Ne.symm (Nat.ne_of_lt I.lt)) (.inr I.sz) (fun x c h z=>by
    obtain⟨v,o,ho,_⟩:=I.cell x c h
    exact jeC (Heap.lt_size ho) (Nat.le_refl _) z) fun p hp z=>jeC (Heap.lt_size (I.pin p hp).1) (Nat.le_refl _) z,rfl,q⟩
theorem jk3:OpR X (compareOp .LtE) (fun x y H Q=>∃i j,x=.str i/\y=.str j/\Q (.bl (!decide (j.cps.toList<i.cps.toList))) H):=by
 intro pins s σ H x y v u Q I rx ry h
 obtain⟨i,j,rfl,rfl,q⟩:=h
 obtain⟨t,rfl⟩:=rx
 obtain⟨t',rfl⟩:=ry
 exact PySem.P.le_str ⟨.bl _,H,I,rfl,q⟩
end
end _L2
namespace _L2
open PySem PySem.Spec PyProof.Rows
theorem jpC:bootBuiltins "len" =some (.builtin "len"):=by decide +kernel
theorem jtH:bootBuiltins "all" =some (.builtin "all"):=by decide +kernel
theorem jun:bootBuiltins "max" =some (.builtin "max"):=by decide +kernel
theorem jtL:bootBuiltins "min" =some (.builtin "min"):=by decide +kernel
theorem jdc:bootBuiltins "isinstance" =some (.builtin "isinstance"):=by decide +kernel
theorem jlC:bootBuiltins "int" =some (.type "int"):=by decide +kernel
theorem jpJ:bootBuiltins "str" =some (.type "str"):=by decide +kernel
theorem jmU:bootBuiltins "bool" =some (.type "bool"):=by decide +kernel
theorem jj:bootBuiltins "list" =some (.type "list"):=by decide +kernel
theorem jgU:bootBuiltins "tuple" =some (.type "tuple"):=by decide +kernel
theorem jt2:bootBuiltins "set" =some (.type "set"):=by decide +kernel
theorem jhK:bootBuiltins "enumerate" =some (.type "enumerate"):=by decide +kernel
theorem jlt:bootBuiltins "dict" =some (.type "dict"):=by decide +kernel
structure Callee (P:Program) (w:World) (K:PySem.W.Frag) (mg:Str->Option Value) (base:Heap) (k:Nat) (x:Str) (ps:List Str) (sp:Sp):Prop where
 ex:∃(f:Addr) (fd:FuncData),FnOk P w K mg base CX0 k f fd ps sp/\mg x=some (.ref f)/\PySem.W.keepIn K (.ref f)=true/\jeD K fd ps []
section
variable {X:Cx}
theorem jwX {k j:Nat}{x:Str}{ps:List Str}{sp:Sp}{e:Expr}{es:List Expr}{t:TA}{p pos:Pos}(c:Callee X.prog X.w X.K X.mg X.base k x ps sp)(hr:Room j X.A)(hg:Gl X x)(ha:PA X (e::es) t)(hk:k<=j:=by decide)
  (hd:(x==("__debug__" : Str))=false:=by decide) (hs:starEach (e::es) X.env=(false,eval e X.env)::starEach es X.env:=by rfl) (hplain:(backTo pos (starEach es X.env)).any (·.1)=false:=by rfl):PE X (.Call (.Name x p) (e::es) [] pos) (jqR sp [] E0 t):=by
 obtain⟨f,fd,F,hm,hkp,hb⟩:=c.ex
 exact jmz (hdb:=hd) (he:=hs) (hpl:=hplain) F (hr.mono hk) hg hm hkp hb .nil jwp ha
noncomputable def csB (N:List Str)(env:Env)(own N':List Str)(scope:Scope):Bool:=
 scope.kind==.function&&scope.names.all (fun y=>y.2 !=.cell)&&scope.names.all (fun y=>y.2 !=.local||scope.names.lookup y.1==some .local) &&
 scope.names.all (fun y=>y.2 !=.free||env.kindOf y.1==some .cell||env.kindOf y.1==some .free)&&N'.length==own.length+N.length &&
 ((N'.drop own.length).zip N).all (fun p=>p.1==p.2||!(scope.names.contains (p.1,NameKind.free)))&&(N'.drop own.length).all (fun x=>(relabel scope env).names.lookup x !=some .local)
theorem cs {own N':List Str}{scope:Scope}(h:csB X.N X.env own N' scope=true):CompScope X own N' scope:=by
 unfold csB at h
 simp only[Bool.and_eq_true]at h
 obtain⟨⟨⟨⟨⟨⟨h1,h2⟩,h3⟩,h4⟩,h5⟩,h6⟩,h7⟩:=h
 have hlen:N'.length=own.length+X.N.length:=by simpa using h5
 refine⟨by simpa using h1,fun y hy=>?_,fun y hy hl=>?_,fun y hy hf=>?_,hlen,fun i x hx hf=>?_,fun x hx=>?_⟩
 ·have:=List.all_eq_true.mp h2 y hy
  simpa using this
 ·have:=List.all_eq_true.mp h3 y hy
  simpa[hl]using this
 ·have:=List.all_eq_true.mp h4 y hy
  simpa[hf]using this
 ·have hi:i<(N'.drop own.length).length:=(List.getElem?_eq_some_iff.mp hx).1
  have hi':i<X.N.length:=by rw[List.length_drop]at hi;omega
  have hz:((N'.drop own.length).zip X.N)[i]?=some (x,X.N[i]):=by
   rw[List.getElem?_zip_eq_some]
   exact⟨hx,by simp[hi']⟩
  have:=List.all_eq_true.mp h6 _ (List.mem_of_getElem? hz)
  have hc:scope.names.contains (x,NameKind.free)=true:=by simpa using hf
  rw[hc]at this
  have e:x=X.N[i]:=by simpa using this
  rw[e]
  simp[hi']
 ·have:=List.all_eq_true.mp h7 x hx
  simpa using this
end
theorem jeB.upd {H H':Hp}{p:Addr}{o:HO}(e:jeB H H')(h:H' p=none):jeB H (upd H' p o):=fun b u q=>by
 have q':=e b u q
 rw[jaj (jak q' h)]
 exact q'
theorem jeB.tup {K:PySem.W.Frag}{H H':Hp}{a:Addr}{xs:List V}(e:jeB H H')(h:SqT K H a xs):SqT K H' a xs:=by
 rcases h with(h|⟨o,h⟩)|h
 ·exact .inl (.inl (e _ _ h))
 ·exact .inl (.inr ⟨o,e _ _ h⟩)
 ·exact .inr h
theorem jjE:∀{l:List Str},(∀y∈l,y.length=1)->(l.map (·.length)).sum=l.length
 |[],_=>rfl
 |y::l,h=>by
  rw[List.map_cons,List.sum_cons,h y List.mem_cons_self,jjE fun z hz=>h z (List.mem_cons_of_mem _ hz),List.length_cons]
  omega
noncomputable def spLaw (K:PySem.W.Frag):Sp:=fun vs H Q _=>∃(a:Addr) (ns:List Int),vs=[.ref a]/\SqL K H a (ns.map V.int)/\ns.length<=63/\∀H',Q (.bl true) H'
end _L2
namespace _L2
open PySem PySem.Spec PyProof.Rows
section
variable {X:Cx}
theorem jma {P:Program}{W:World}{B:Around}{E:Value->Shared->Prop}{src lst:Addr}{vs:Array Value}(apart:lst≠src)(k:Nat):∀(j:Nat) (t:Shared) (Q:List Value->Shared->Prop),t.heap.IsListIter src lst j->t.heap.IsList lst vs->j+k<=vs.size ->
  (∀g,g.IsListIter src lst (j+k)->Heap.SameBut src t.heap g->Q ((vs.toList.drop j).take k) {t with heap:=g})->wpAny (model P W) B (draw (.ref src) k) Q E t:=by
 induction k with
 |zero=>
  intro j t Q here _ _ fin
  have last:=fin t.heap here (Heap.SameBut.refl ..)
  rw[List.take_zero]at last
  exact(wpAny_pure last:wpAny (model P W) B (pure []) Q E t)
 |succ k ih=>
  intro j t Q here isl room fin
  have inside:j<vs.toList.length:=by rw[Array.length_toList];omega
  have split:(vs.toList.drop j).take (k+1)=vs[j]'(by simpa using inside)::(vs.toList.drop (j+1)).take k:=by
   rw[List.drop_eq_getElem_cons inside,List.take_succ_cons,Array.getElem_toList]
  unfold draw
  refine wpAny_bind (wpAny_pyNext_list_item here isl (x:=vs[j]'(by simpa using inside)) (by simp at inside;simp[inside]) fun g1 here1 only1=>?_)
  refine wpAny_bind (wpAny_holding (ih (j+1) _ _ here1 (isl.extBut only1.extBut apart) (by omega) fun g2 here2 only2=>wpAny_pure ?_))
  have last:=fin g2 (by rw[Nat.add_right_comm]at here2;exact here2) (only1.trans only2)
  rw[split]at last
  exact last
noncomputable def jxJ (K:PySem.W.Frag)(n:Nat)(t:TGs):TG:=fun v σ H Q=>∃a xs,v=.ref a/\SqL K H a xs/\xs.length=n/\t xs σ H Q
theorem jt7 {es:List Expr}{k:Nat}{t:TGs}{n:Nat}{pos:Pos}(hc:X.calm=true)(h:PGs X es t)
  (hn:(assignEach es X.env).length=n:=by rfl) (hst:(assignEach es X.env).findIdx? (·.1)=none:=by rfl):PG X (.Tuple es k pos) (jxJ X.K n t):=by
 intro pins s σ H v u Q I r hw
 obtain⟨a,xs,e1,hq,hl,hw⟩:=hw
 subst e1
 cases r
 obtain⟨its,rv,pl,hz⟩:=I.list hq
 have hlen:=rv.length
 have hL:=pl.isList
 have hlt:a≠s.heap.objs.size:=by
  obtain⟨o,ho,_⟩:=hL
  exact Nat.ne_of_lt (Heap.lt_size ho)
 rw[assign_Tuple]
 refine wpAny_bind (wpAny_standAt ?_)
 unfold unpack
 rw[hn,hst]
 refine wpAny_bind (wpAny_holding ?_)
 unfold unpackItems
 refine wpAny_bind ?_
 unfold notIterableAtAll
 refine wpAny_bind (wpAny_specialOf hL.typeIs PySem.slot_list_iter.lookup ?_)
 refine wpAny_pure ?_
 simp only[Bool.false_eq_true,if_false]
 refine wpAny_bind (wpAny_holding (wpAny_pyIter_list hL ?_))
 refine wpAny_bind (wpAny_holding (jma hlt n 0 _ _ ⟨_,Heap.get?_push_size _ rfl,rfl,rfl⟩ (hL.push _) (by rw[List.size_toArray];omega) fun h₁ hit₁ hs₁=>?_))
 have hall:List.take n (List.drop 0 its.toArray.toList)=its:=by
  rw[List.drop_zero]
  show List.take n its=its
  exact List.take_of_length_le (by omega)
 rw[hall]
 rw[if_neg (by omega)]
 have ht₁:h₁.IsList a its.toArray:=(hL.push _).extBut hs₁.extBut hlt
 refine wpAny_bind (wpAny_holding (wpAny_pyNext_list_end (I.ok.hd hc) hit₁ ht₁ (by simp;omega) fun h₂ he₂=>?_))
 simp only[Option.isSome_none,Bool.false_eq_true,if_false]
 refine wpAny_pure ?_
 have I1:Inv X pins σ H {s with heap:=h₂}:=I.kept (t':=s.toks) fun b o e=>he₂ b o (Nat.ne_of_lt (Heap.lt_size e)) (hs₁.extBut b o (Nat.ne_of_lt (Heap.lt_size e)) (Heap.get?_push_of_some _ e))
 exact h pins _ σ H xs _ Q I1 rv hw
structure Maker (P:Program) (w:World) (K:PySem.W.Frag) (mg:Str->Option Value) (base:Heap) (k:Nat) (x:Str) (C:Addr) (ps:List Str) (sp:Sp):Prop where
 ex:∃(f:Addr) (fd:FuncData),Mk K C f/\FnOk P w K mg base CX0 k f fd ps sp/\mg x=some (.ref C)/\jeD K fd ps []
noncomputable def jhG (σ:List Str)(v:Str):List Str:=if v∈σ then σ else σ++[v]
noncomputable def ddS (xs:List Str):List Str:=xs.foldl jhG []
theorem jjF (σ:List Str)(v:Str):(jhG σ v).length=if decide (v∈σ)=true then σ.length else σ.length+1:=by
 unfold jhG
 by_cases h:v∈σ<;>simp[h]
theorem jnw (σ:List Str)(v k:Str):decide (k∈jhG σ v)=(decide (k∈σ)||decide (k=v)):=by
 unfold jhG
 by_cases h:v∈σ
 ·rw[if_pos h,Bool.eq_iff_iff]
  simp only[Bool.or_eq_true,decide_eq_true_eq]
  exact⟨.inl,fun z=>z.elim id fun e=>e▸h⟩
 ·rw[if_neg h,Bool.eq_iff_iff]
  simp only[Bool.or_eq_true,decide_eq_true_eq,List.mem_append,List.mem_singleton]
theorem jnN (xs:List Str)(i:Nat)(v:Str)(h:xs[i]?=some v):ddS (xs.take (i+1))=jhG (ddS (xs.take i)) v:=by
 unfold ddS
 rw[List.take_add_one,h,Option.toList_some,List.foldl_append]
 rfl
theorem jqF (σ:List Str)(v:Str):(jhG σ v).length<=σ.length+1:=by
 rw[jjF]
 split<;>omega
theorem jiF:∀(xs σ:List Str),(xs.foldl jhG σ).length<=σ.length+xs.length
 |[],σ=>Nat.le_refl _
 |x::xs,σ=>by
  have h1:=jiF xs (jhG σ x)
  have h2:=jqF σ x
  rw[List.foldl_cons,List.length_cons]
  omega
theorem jpw (xs:List Str):(ddS xs).length<=xs.length:=by
 have:=jiF xs []
 simpa[ddS]using this
theorem jgz:∀(xs σ:List Str),(σ++xs).Nodup->xs.foldl jhG σ=σ++xs
 |[],σ,_=>by simp
 |x::xs,σ,h=>by
  have hx:x∉σ:=fun hm=>by
   rw[List.nodup_append]at h
   exact h.2.2 x hm x List.mem_cons_self rfl
  rw[List.foldl_cons]
  have e:jhG σ x=σ++[x]:=by
   unfold jhG
   rw[if_neg hx]
  rw[e,jgz xs (σ++[x]) (by simpa using h)]
  simp
theorem jmN {xs:List Str}(h:xs.Nodup):(ddS xs).length=xs.length:=by
 unfold ddS
 rw[jgz xs [] (by simpa using h)]
 simp
theorem jfl {P:Program}{W:World}{g g':Heap}{D:Addr}{f:Str->Bool}{n:Nat}(h:g.SetOf (strKind P W) D f n)(k:∀o,g.get? D=some o->g'.get? D=some o):g'.SetOf (strKind P W) D f n:=
 match h with
 |⟨o,es,ep,tb,at_,r⟩=>⟨o,es,ep,tb,k _ at_,r⟩
theorem jnL {P:Program}{W:World}{B:Around}{R:Result->Shared->Prop}{src:Addr}{fp wr:List Addr}{zs:List Str}{Pv:Nat->Value->Prop}{Sx:Nat->Heap->Prop}(Wk:Walks P W B.in1 src fp wr zs.length Pv Sx)(D:Addr)(out:D∉fp)(texts:∀j v,Pv j v->∃z t,zs[j]?=some z/\v=.str z t)(few:zs.length+1<scanBound)(left:Nat) :
  ∀(j:Nat) (t:Shared),zs.length - j=left->j<=zs.length->Sx j t.heap->t.heap.SetOf (strKind P W) D (fun z=>decide (z∈ddS (zs.take j))) (ddS (zs.take j)).length ->
   (∀g tk,(∀b o,b≠D->b∉wr->t.heap.get? b=some o->g.get? b=some o)->g.SetOf (strKind P W) D (fun z=>decide (z∈ddS zs)) (ddS zs).length->R (.ok (.ret .none)) {t with heap:=g,toks:=tk}) ->
   codeAny (model P W) B (.builtin "set.update.loop" ⟨[.ref D,.ref src],[]⟩) R t:=by
 have outw:D∉wr:=fun z=>out (Wk.sub _ z)
 induction left with
 |zero=>
  intro j t he hj here lies fin
  obtain rfl:j=zs.length:=by omega
  rw[List.take_length]at lies
  refine codeAny_builtin PyProof.Rows.F.entry_set_update_loop ?_
  rw[Around.under_plainId PyProof.Rows.F.plain_set_update_loop _]
  refine(wpAny_bind (Wk.done t _ _ here fun g tk kp=>?_):wpAny _ B.in1 (pyNext (.ref src) >>=_) _ _ t)
  show wpAny (model P W) B.in1 (ret Value.none) _ _ _
  exact wpAny_pure (fin g tk (fun b o _ nw e=>kp b o nw e) (jfl lies fun o e=>kp D o outw e))
 |succ left ih=>
  intro j t he hj here lies fin
  refine codeAny_builtin PyProof.Rows.F.entry_set_update_loop ?_
  rw[Around.under_plainId PyProof.Rows.F.plain_set_update_loop _]
  refine(wpAny_bind (Wk.item j t _ _ (by omega) here fun v g1 tk1 hv here1 kp1=>?_):wpAny _ B.in1 (pyNext (.ref src) >>=_) _ _ t)
  obtain⟨z,tz,hz,rfl⟩:=texts j v hv
  have size:=jpw (zs.take j)
  rw[List.length_take]at size
  refine(wpAny_bind (wpAny_holding ?_):wpAny _ B.in1 (holding [Value.str z tz] (setAdd D (.str z tz)) >>=_) _ _ _)
  unfold setAdd
  refine wpAny_holding (wpAny_bind ((strKind P W).pyHash (k:=z) (strKind_is _ _ _ _) ?_))
  refine wpAny_setAddHashed_of (knd:=strKind P W) (s:={t with heap:=g1,toks:=tk1+1}) (strKind_is _ _ _ _) rfl (jfl lies fun o e=>kp1 D o outw e) (by omega) fun g2 only lies2=>?_
  have lies3:g2.SetOf (strKind P W) D (fun y=>decide (y∈ddS (zs.take (j+1)))) (ddS (zs.take (j+1))).length:=by
   rw[jnN zs j z hz,jjF,show(fun y=>decide (y∈jhG (ddS (zs.take j)) z))=fun y=>decide (y∈ddS (zs.take j))||decide (y=z)from funext fun y=>jnw _ _ _]
   exact lies2
  exact wpAny_pure ⟨plainId_quiet PyProof.Rows.F.plain_set_update_loop _,ih (j+1) _ (by omega) (by omega) (Wk.frame _ _ _ here1 fun b hb o e=>(only.2 b fun q=>out (q▸hb)).trans e) lies3 fun g tk kp lies4=>fin g tk (fun b o nd nw e=>kp b o nd nw ((only.2 b nd).trans (kp1 b o nw e))) lies4⟩
noncomputable def juL (P:Program)(w:World)(a:Addr)(n:Nat):HO:=.ext fun h=>∃S,h.SetOf (strKind P w) a S n
theorem jhz:jbR X (.builtin "len") (fun xs H Q=>∃(p:Addr) (n:Nat),xs=[.ref p]/\H p=some (juL X.prog X.w p n)/\n<=1000/\Q (.int n) H):=by
 intro pins s σ H xs us Q I r h
 obtain⟨p,n,rfl,hp,hn,q⟩:=h
 obtain⟨u,rfl,rx⟩:=jgd r
 cases rx
 obtain⟨⟨S,o,es,ep,t,ho,hex,hd,hel,hmem,hbd,hf,hz⟩,_,_⟩:=I.hok p _ hp
 exact call_len_set ho hex hd hf (by omega) ⟨.int n,H,I.tok _,⟨_,by rw[hz]⟩,q⟩
end
end _L2
namespace _L2
open PySem PySem.Spec PyProof.Rows
section
variable {X:Cx}
section
variable {prog:Program} {w:World} {A:Around} {R:Result->Shared->Prop} {I:Addr} {fp wr:List Addr}
end
end
end _L2
namespace _L2
open PySem PySem.Spec PyProof.Rows
noncomputable def jhC (N:List Str)(sc:Scope)(i:Nat)(x:Str):Bool:=
 N[i]?==some x&&(sc.names.lookup x==some .local||sc.names.lookup x==some .cell||sc.names.lookup x==some .free)&&!(x==("__debug__" : Str))&&!(x==("__classdict__" : Str))
noncomputable def jfk (N:List Str)(sc:Scope)(i:Nat)(x:Str):Bool:=N[i]?==some x&&(sc.names.lookup x==some .local||sc.names.lookup x==some .cell)
noncomputable def jop (N:List Str)(sc:Scope)(i:Nat)(x:Str):Bool:=N[i]?==some x&&sc.names.lookup x==some .local
noncomputable def jbI (sc:Scope)(x:Str):Bool:=sc.names.lookup x==some .globalImplicit&&!(x==("__debug__" : Str))&&!(x==("__name__" : Str))
noncomputable def jax:Expr->Bool
 |.Starred ..=>false
 |_=>true
theorem jaK {e:Expr}{es:List Expr}{env:Env}(h:jax e=true):starEach (e::es) env=(false,eval e env)::starEach es env:=by
 cases e<;>first|rfl|cases h
noncomputable def notComp:Expr->Bool
 |.ListComp ..=>false
 |.SetComp ..=>false
 |.DictComp ..=>false
 |_=>true
theorem jbQ {e:Expr}{t:Option Expr}{l:Nat}{env:Env}(h:notComp e=true):swapsWith e t l env=pure false:=by
 cases e<;>first|rfl|cases h
section
variable {X:Cx}
theorem pvk (i:Nat){x:Str}{pos:Pos}(h:jhC X.N X.env.scope i x=true):PE X (.Name x pos) (jxa i):=by
 unfold jhC at h
 simp only[Bool.and_eq_true,Bool.or_eq_true,beq_iff_eq,Bool.not_eq_true']at h
 obtain⟨⟨⟨h1,h2⟩,h3⟩,h4⟩:=h
 refine jvb h1 ?_ h3 h4
 rcases h2 with(h2|h2)|h2
 ·exact .inl h2
 ·exact .inr (.inl h2)
 ·exact .inr (.inr h2)
theorem jbZ {i:Nat}{x:Str}(h:jfk X.N X.env.scope i x=true):X.N[i]?=some x/\Loc X.env.scope x:=by
 unfold jfk at h
 simp only[Bool.and_eq_true,Bool.or_eq_true,beq_iff_eq]at h
 exact h
theorem jfG {i:Nat}{x:Str}(h:jop X.N X.env.scope i x=true):X.N[i]?=some x/\X.env.scope.names.lookup x=some .local:=by
 unfold jop at h
 simp only[Bool.and_eq_true,beq_iff_eq]at h
 exact h
theorem jan {x:Str}(h:jbI X.env.scope x=true):Gl X x/\(x==("__debug__" : Str))=false/\x≠"__name__":=by
 unfold jbI at h
 simp only[Bool.and_eq_true,beq_iff_eq,Bool.not_eq_true']at h
 obtain⟨⟨h1,h2⟩,h3⟩:=h
 exact⟨h1,h2,fun z=>by rw[z]at h3;simp at h3⟩
theorem jgY {i:Nat}{x:Str}{e:Expr}{te:TE}{pos pos':Pos}(hN:X.N.Nodup)(h:jfk X.N X.env.scope i x=true)(he:PE X e te)(hs:notComp e=true:=by rfl)(hf:X.fn x=true:=by rfl) :
  PS X (.Assign [.Name x pos'] e pos) (jsO te (jej i)):=jpm hN (jbZ h).1 (jbZ h).2 he (jbQ hs) (.inl hf)
theorem joX {i:Nat}{x:Str}{pos:Pos}(hN:X.N.Nodup)(h:jfk X.N X.env.scope i x=true)(hf:X.fn x=true:=by rfl):PG X (.Name x pos) (jej i):=jlW hN (jbZ h).1 (jbZ h).2 (.inl hf)
theorem jrY {i:Nat}{x:Str}{pos:Pos}(hN:X.N.Nodup)(h:jop X.N X.env.scope i x=true):PG X (.Name x pos) (jej i):=jlW hN (jfG h).1 (.inl (jfG h).2) (.inr (jfG h).2)
theorem pac {e:Expr}{es:List Expr}{te:TE}{t:TA}(ha:PE X e te)(hr:PA X es t)(h:jax e=true:=by rfl):PA X (e::es) (jlz te t):=jbB ha hr (jaK h)
noncomputable def jai (es:List Expr):Bool:=es.all jax
theorem jbq:∀{es:List Expr} {env:Env} {pos:Pos},jai es=true->(backTo pos (starEach es env)).any (·.1)=false
 |[],_,_,_=>rfl
 |e::es,env,pos,h=>by
  unfold jai at h
  simp only[List.all_cons,Bool.and_eq_true]at h
  rw[jaK h.1]
  show(false||(backTo pos (starEach es env)).any (·.1))=false
  rw[Bool.false_or]
  exact jbq h.2
theorem jtO {k j:Nat}{x:Str}{ps:List Str}{sp:Sp}{e:Expr}{es:List Expr}{t:TA}{p pos:Pos}(c:Callee X.prog X.w X.K X.mg X.base k x ps sp)(hr:Room j X.A)(hg:jbI X.env.scope x=true)(ha:PA X (e::es) t)(hk:k<=j:=by decide)(hst:jai (e::es)=true:=by rfl) :
  PE X (.Call (.Name x p) (e::es) [] pos) (jqR sp [] E0 t):=by
 have h1:=hst
 unfold jai at h1
 simp only[List.all_cons,Bool.and_eq_true]at h1
 exact jwX c hr (jan hg).1 ha hk (jan hg).2.1 (jaK h1.1) (jbq h1.2)
theorem jca {x:Str}{id:String}{r:List V->Hp->VK->Prop}{e:Expr}{es:List Expr}{t:TA}{p pos:Pos}(hc:jbR X (.builtin id) r)(hg:jbI X.env.scope x=true)(hm:X.mg x=none)(hv:bootBuiltins x=some (.builtin id))(ha:PA X (e::es) t)(hst:jai (e::es)=true:=by rfl) :
  PE X (.Call (.Name x p) (e::es) [] pos) (tCB r t):=by
 have h1:=hst
 unfold jai at h1
 simp only[List.all_cons,Bool.and_eq_true]at h1
 exact jn6 hc (jan hg).1 hm hv ha (jan hg).2.2 (jan hg).2.1 (jaK h1.1) (jbq h1.2)
theorem jgM {x:Str}{T:String}{r:List V->Hp->VK->Prop}{e:Expr}{es:List Expr}{t:TA}{p pos:Pos}(hc:jbR X (.type T) r)(hg:jbI X.env.scope x=true)(hm:X.mg x=none)(hv:bootBuiltins x=some (.type T))(ha:PA X (e::es) t)(hst:jai (e::es)=true:=by rfl) :
  PE X (.Call (.Name x p) (e::es) [] pos) (tCB r t):=by
 have h1:=hst
 unfold jai at h1
 simp only[List.all_cons,Bool.and_eq_true]at h1
 exact jmb hc (jan hg).1 hm hv ha (jan hg).2.2 (jan hg).2.1 (jaK h1.1) (jbq h1.2)
theorem joT {x:Str}{v:V}{u:Value}{pos:Pos}(hg:jbI X.env.scope x=true)(hm:X.mg x=some u)(r:ja0 v u):PE X (.Name x pos) (tC v):=ji7 (jan hg).1 hm r (jan hg).2.1
theorem jjS {x:Str}{v:V}{u:Value}{pos:Pos}(hg:jbI X.env.scope x=true)(hm:X.mg x=none)(hv:bootBuiltins x=some u)(r:ja0 v u):PE X (.Name x pos) (tC v):=jqN (jan hg).1 hm hv r (jan hg).2.2 (jan hg).2.1
theorem jkL {tg:Expr} {a:Expr} {ta:TA} {p pos:Pos} (hg:jbI X.env.scope "range" =true) (hm:X.mg "range" =none) (ha:PA X [a] ta) (hs:jax a=true:=by rfl):PI X tg (.Call (.Name "range" p) [a] [] pos) (jtu ta):=jmO (jan hg).1 hm ha (jaK hs)
theorem jkr {tg:Expr} {a b:Expr} {ta:TA} {p pos:Pos} (hg:jbI X.env.scope "range" =true) (hm:X.mg "range" =none) (ha:PA X [a,b] ta) (hs:jai [a,b]=true:=by rfl):PI X tg (.Call (.Name "range" p) [a,b] [] pos) (juB ta):=by
 have h1:=hs
 unfold jai at h1
 simp only[List.all_cons,Bool.and_eq_true]at h1
 refine jlI (jan hg).1 hm ha ?_ (jaK h1.2.1)
 rw[jaK h1.1,jaK h1.2.1]
 rfl
end
noncomputable def jf (scope sc:Scope):Scope:=
 {scope with names:=scope.names.map fun(n,k)=>if(k==.free&&sc.kind==.function&&sc.names.lookup n==some .cell)then(n,.cell)else(n,k)}
theorem jmc (scope:Scope)(env:Env):relabel scope env=jf scope env.scope:=rfl
noncomputable def jwY (N:List Str)(sc:Scope)(own N':List Str)(scope:Scope):Bool:=
 scope.kind==.function&&scope.names.all (fun y=>y.2 !=.cell)&&scope.names.all (fun y=>y.2 !=.local||scope.names.lookup y.1==some .local) &&
 scope.names.all (fun y=>y.2 !=.free||sc.names.lookup y.1==some .cell||sc.names.lookup y.1==some .free)&&N'.length==own.length+N.length &&
 ((N'.drop own.length).zip N).all (fun p=>p.1==p.2||!(scope.names.contains (p.1,NameKind.free)))&&(N'.drop own.length).all (fun x=>(jf scope sc).names.lookup x !=some .local)
theorem csk {X:Cx}{own N':List Str}{scope:Scope}(h:jwY X.N X.env.scope own N' scope=true):CompScope X own N' scope:=cs h
end _L2
namespace _L2
open PySem PySem.Spec PyProof.Rows
structure QE (X:Cx) (e:Expr) (t:TE):Prop where
 h:PE X e t
structure QT (X:Cx) (e:Expr) (t:TT):Prop where
 h:PT X e t
structure QW (X:Cx) (e:Expr) (t:TT):Prop where
 h:PW X e t
structure QA (X:Cx) (es:List Expr) (t:TA):Prop where
 h:PA X es t
structure QS (X:Cx) (st:Stmt) (t:TS):Prop where
 h:PS X st t
structure QSs (X:Cx) (st:List Stmt) (t:TS):Prop where
 h:PSs X st t
structure QG (X:Cx) (tg:Expr) (t:TG):Prop where
 h:PG X tg t
structure QGs (X:Cx) (ts:List Expr) (t:TGs):Prop where
 h:PGs X ts t
structure QI (X:Cx) (tg iter:Expr) (wi:TI):Prop where
 h:PI X tg iter wi
structure QO (X:Cx) (e:Option Expr) (t:TO):Prop where
 h:PO X e t
structure QTs (X:Cx) (es:List Expr) (t:TT):Prop where
 h:PTs X es t
noncomputable abbrev jxl:TA:=fun _ H Q=>Q [] H
noncomputable abbrev jwq (ta:TE) (tr:TA):TA:=fun σ H Q=>ta σ H fun x H1=>tr σ H1 fun xs H2=>Q (x::xs) H2
noncomputable abbrev nC (v:V):TE:=fun _ H Q=>Q v H
noncomputable abbrev nCB (r:List V->Hp->VK->Prop) (t:TA):TE:=fun σ H Q=>t σ H fun vs H1=>r vs H1 Q
noncomputable def jmD:Expr->Bool
 |.UnaryOp .Not ..=>false
 |.BoolOp ..=>false
 |.IfExp ..=>false
 |.Compare ..=>false
 |_=>true
theorem jnh {a:Expr}{env:Env}(h:jmD a=true):∀whole,isTrue a env whole=(do let v <- whole;standAt a.pos;holding [v] (truthy v)):=by
 intro whole
 cases a with
 |UnaryOp op x p=>cases op<;>first|rfl|cases h
 |_=>first|rfl|cases h
noncomputable def jdQ:Expr->Bool
 |.Set ..=>false
 |_=>true
theorem jeo {e:Expr}{env:Env}(h:jdQ e=true):∀x,foldedSetIterable e env x=pure x:=by
 intro x
 cases e<;>first|rfl|cases h
noncomputable def jcF:Expr->Bool
 |.Call ..=>false
 |_=>true
theorem jqY {e:Expr}{f:Str}{env:Env}(h:jcF e=true):attributeBase e f env (eval e env)=eval e env:=by
 cases e<;>first|rfl|cases h
theorem jee {e:Expr}{es:List Expr}{env:Env}(h:jax e=true):assignEach (e::es) env=(false,assign e env)::assignEach es env:=by
 cases e<;>first|rfl|cases h
theorem jf5:∀{es:List Expr} {env:Env},jai es=true->(assignEach es env).length=es.length/\(assignEach es env).findIdx? (·.1)=none
 |[],_,_=>⟨rfl,rfl⟩
 |e::es,env,h=>by
  unfold jai at h
  simp only[List.all_cons,Bool.and_eq_true]at h
  obtain⟨h1,h2⟩:=jf5 (es:=es) (env:=env) h.2
  rw[jee h.1,List.length_cons,List.length_cons,h1]
  exact⟨rfl,by rw[List.findIdx?_cons];simp[h2]⟩
theorem jvc {e:Expr}{es:List Expr}{env:Env}{cpos:Pos}(h:jai (e::es)=true)(hl:es.length<28):((backTo cpos (starEach (e::es) env)).all (fun x=>!x.1)&&(backToKw cpos (keywordEach [] env)).all (fun x=>x.1.isSome)
   && decide ((e::es).length+([]:List Keyword).length+(if([]:List Keyword).isEmpty then 0 else 1)<30))=true:=by
 have h1:=jbq (env:=env) (pos:=cpos) h
 have h2:(backTo cpos (starEach (e::es) env)).all (fun x=>!x.1)=true:=by
  rw[List.all_eq_true]
  intro x hx
  rw[List.any_eq_false]at h1
  have:=h1 x hx
  simpa using this
 rw[h2]
 have h3:(backToKw cpos (keywordEach [] env)).all (fun x=>x.1.isSome)=true:=rfl
 rw[h3]
 simp
 omega
section
variable {X:Cx} {a b c e:Expr} {es:List Expr} {ta tb tc te:TE} {tA tB:TT} {t:TA} {pos p:Pos}
theorem juq {i:Int}{j:Nat}:QE X (.Constant (.int i) j pos) (nC (.int i)):=⟨juz⟩
theorem jwS {b:Bool}{j:Nat}:QE X (.Constant (.bool b) j pos) (nC (.bl b)):=⟨jnU⟩
theorem jtQ {j:Nat}:QE X (.Constant .none j pos) (nC .non):=⟨juD⟩
theorem jt4 {x:Str}{j:Nat}:QE X (.Constant (.str x) j pos) (nC (.str x)):=⟨jve⟩
theorem jiJ {x:Str}{v:V}{u:Value}(hg:jbI X.env.scope x=true)(hm:X.mg x=none)(hv:bootBuiltins x=some u)(r:ja0 v u):QE X (.Name x pos) (nC v):=⟨jjS hg hm hv r⟩
theorem jwZ {op:UnaryOp}{r:V->Hp->VK->Prop}(ho:UnR X (unaryOp op) r)(ha:QE X a ta):QE X (.UnaryOp op a pos) (tUn r ta):=⟨jwQ ho ha.h⟩
theorem jto {op:CmpOp}{r:R2}(ho:OpR X (compareOp op) r)(ha:QE X a ta)(hb:QE X b tb)(hm:behindInMarks op b=false:=by first|exact jl4 _|with_unfolding_all rfl):QE X (.Compare a [op] [b] pos) (tOp r ta tb):=⟨jm5 ho ha.h hb.h hm⟩
theorem jtS {op:CmpOp}{r:R2}(ho:OpR X (compareOp op) r)(ha:QE X a ta)(hb:QE X b tb)(hm:behindInMarks op b=false:=by first|exact jl4 _|with_unfolding_all rfl):QT X (.Compare a [op] [b] pos) (jp (tOp r ta tb)):=⟨jsD ho ha.h hb.h hm⟩
theorem jtd {j:Nat}{pos':Pos}(ha:QE X a ta):QE X (.Compare a [.Is] [.Constant .none j pos'] pos) (jvF ta):=⟨jpz (jpM ha.h)⟩
theorem jrZ {j:Nat}{pos':Pos}(ha:QE X a ta):QE X (.Compare a [.IsNot] [.Constant .none j pos'] pos) (jnE ta):=⟨jpz (jlZ ha.h)⟩
theorem jt6 {j:Nat}{pos':Pos}(ha:QE X a ta):QT X (.Compare a [.Is] [.Constant .none j pos'] pos) (_L2.tB (jvF ta)):=⟨jpE (jpM ha.h)⟩
theorem jqf {j:Nat}{pos':Pos}(ha:QE X a ta):QT X (.Compare a [.IsNot] [.Constant .none j pos'] pos) (_L2.tB (jnE ta)):=⟨jpE (jlZ ha.h)⟩
theorem jo2 {op op':CmpOp}{r r':R2}(ho:OpR X (compareOp op) r)(ho':OpR X (compareOp op') r')(ha:QE X a ta)(hb:QE X b tb)(hc:QE X c tc)(hm:lastMarks [op,op'] [b,c]=false:=by with_unfolding_all rfl):QE X (.Compare a [op,op'] [b,c] pos) (jid r r' ta tb tc):=⟨jon ho ho' ha.h hb.h hc.h hm⟩
theorem jpd {op op':CmpOp}{r r':R2}(ho:OpR X (compareOp op) r)(ho':OpR X (compareOp op') r')(ha:QE X a ta)(hb:QE X b tb)(hc:QE X c tc)(hm:lastMarks [op,op'] [b,c]=false:=by with_unfolding_all rfl):QT X (.Compare a [op,op'] [b,c] pos) (jp (jid r r' ta tb tc)):=⟨jn7 ho ho' ha.h hb.h hc.h hm⟩
theorem jpD {op:BoolOp}(h:QE X a ta):QE X (.BoolOp op [a] pos) ta:=⟨jtA h.h⟩
theorem jpp {rest:List Expr}(ha:QE X a ta)(hb:QE X (.BoolOp .And (b::rest) pos) tb):QE X (.BoolOp .And (a::b::rest) pos) (jrW ta tb):=⟨ju ha.h hb.h⟩
theorem jvu {rest:List Expr}(ha:QE X a ta)(hb:QE X (.BoolOp .Or (b::rest) pos) tb):QE X (.BoolOp .Or (a::b::rest) pos) (jwo ta tb):=⟨jwE ha.h hb.h⟩
theorem jua (ha:QE X a ta):QE X (.UnaryOp .Not a pos) (jvo ta):=⟨jtK ha.h⟩
theorem jq7 (ha:QT X a tA):QW X (.BoolOp .And [a] pos) tA:=⟨jql ha.h⟩
theorem juu (ha:QT X a tA):QW X (.BoolOp .Or [a] pos) tA:=⟨jta ha.h⟩
theorem jpi {rest:List Expr}(ha:QT X a tA)(hb:QW X (.BoolOp .And (b::rest) pos) tB):QW X (.BoolOp .And (a::b::rest) pos) (jwf tA tB):=⟨juy ha.h hb.h⟩
theorem jud {rest:List Expr}(ha:QT X a tA)(hb:QW X (.BoolOp .Or (b::rest) pos) tB):QW X (.BoolOp .Or (a::b::rest) pos) (tOr tA tB):=⟨jws ha.h hb.h⟩
theorem jvz (ha:QT X a tA):QT X (.UnaryOp .Not a pos) (jxm tA):=⟨jte ha.h⟩
theorem jv (ha:QE X a ta)(h:jmD a=true:=by rfl):QT X a (fun σ H Q=>ta σ H fun x H'=>∃k,jsX X.K x H' k/\Q k H'):=⟨joy ha.h (jnh h)⟩
theorem jnk (hc:QT X c tA)(ha:QE X a ta)(hb:QE X b tb):QE X (.IfExp c a b pos) (tIf tA ta tb):=⟨jnz hc.h ha.h hb.h⟩
theorem jtT:QA X [] jxl:=⟨jb6⟩
theorem jqU (ha:QE X e te)(hr:QA X es t)(h:jax e=true:=by rfl):QA X (e::es) (jwq te t):=⟨pac ha.h hr.h h⟩
theorem jnR {x:Str}{id:String}{r:List V->Hp->VK->Prop}(hc:jbR X (.builtin id) r)(hg:jbI X.env.scope x=true)(hm:X.mg x=none)(hv:bootBuiltins x=some (.builtin id))(ha:QA X (e::es) t)(hst:jai (e::es)=true:=by rfl):QE X (.Call (.Name x p) (e::es) [] pos) (nCB r t):=⟨jca hc hg hm hv ha.h hst⟩
theorem jmH {x:Str}{T:String}{r:List V->Hp->VK->Prop}(hc:jbR X (.type T) r)(hg:jbI X.env.scope x=true)(hm:X.mg x=none)(hv:bootBuiltins x=some (.type T))(ha:QA X (e::es) t)(hst:jai (e::es)=true:=by rfl):QE X (.Call (.Name x p) (e::es) [] pos) (nCB r t):=⟨jgM hc hg hm hv ha.h hst⟩
theorem joh {o:Expr} {to:TE} {name:Str} {apos cpos:Pos} {T id:String} {r:V->List V->Hp->VK->Prop} (pa:PlainAttrs T) (slot:Slot T name id) (hty:typeOf (.builtin id)=pure (.type "method_descriptor")) (hm:MtR X id r) (ho:QE X o to) (ha:QA X (e::es) t)
  (hb:jcF o=true:=by rfl) (hst:jai (e::es)=true:=by rfl) (hl:es.length<28:=by decide) (hline:(apos.endLine==cpos.line)=true:=by rfl):QE X (.Call (.Attribute o name apos) (e::es) [] cpos) (tBM X.K T r to t):=by
 have h1:=hst
 unfold jai at h1
 simp only[List.all_cons,Bool.and_eq_true]at h1
 exact⟨jv5 pa slot hty hm ho.h ha.h (jqY hb) (jvc hst hl) hline (jaK h1.1) (jbq h1.2)⟩
end
section
variable {P:Program} {w:World} {K:PySem.W.Frag} {mg:Str->Option Value} {base:Heap}
theorem Fun.okQ {x qual:Str}{st:Stmt}{f:Addr}{fd:FuncData}{N ps:List Str}{k:Nat}{sp:Sp}(F:Fun K x qual st f fd)(S:FnScope N ps (ja st))(len:∀vs H Q E,sp vs H Q E->vs.length=ps.length)
  (hbody:∀(cdv:Value) (A:Around) (outer:List Env) (s:Shared) (H:Hp) (vs:List V) (Q:VK) (E:XK),Room k (A.deeper (envOfC qual (ja st) s.heap.objs.size f cdv))->sp vs H Q E ->
   ∃t,QSs (jiZ CX0 P w K mg base N qual (ja st) f cdv A outer s H E).nox (jac st) t/\t {nx:=fun _ H'=>Q .non H',rt:=Q} (_L2.start N vs) H):FnOk P w K mg base CX0 (k+1) f fd ps sp:=
 F.ok S len fun cdv A outer s H vs Q E hr h=>let⟨t,ht,q⟩:=hbody cdv A outer s H vs Q E hr h;⟨t,ht.h,q⟩
end
end _L2
namespace _L2
open PySem PySem.Spec PyProof.Rows
noncomputable def Trk (H:Hp)(a:Addr)(xs:List V):Prop:=H a=some (.lst xs)∨H a=some (.tup xs)
theorem Trk.ty {K:PySem.W.Frag}{H:Hp}{a:Addr}{xs:List V}(h:Trk H a xs):TyOf K H (.ref a) (.type "list")∨TyOf K H (.ref a) (.type "tuple"):=h.elim (fun h=>.inl (.lst h)) fun h=>.inr (.tup h)
section
variable {X:Cx}
end
noncomputable def Lop (J:It)(g:TG)(tb:TS)(D:Ends)(σ:_L2.St)(H:Hp):Prop:=∃W:Nat->Nat->_L2.St->Hp->Prop,(∃m,W 0 m σ H)/\∀i m σ H,W i m σ H ->
   (J.stop i H/\D.nx σ H)∨(J.go i H/\∃N:_L2.St->Hp->Prop,(∀σ' H',N σ' H'->∃m',m'<m/\W (i+1) m' σ' H')/\∀x H',J.yld i H x H'->g x σ H' fun σ2 H2=>tb {D with nx:=N,ct:=N,bk:=D.nx} σ2 H2)
noncomputable def jvg {α:Type}(f:α->List V)(H:Hp)(v:V)(x:α):Prop:=∃p,v=.ref p/\H p=some (.tup (f x))
section
variable {X:Cx} {K:PySem.W.Frag} {a b e:Expr} {es:List Expr} {ta tb te:TE} {t:TA} {pos p:Pos}
end
end _L2
namespace _L2
open PySem PySem.Spec PyProof.Rows
noncomputable def EqS (H:Hp):Nat->V->V->Prop
 |0,x,y=>x=y/\(jd3 x=true∨∃p,x=.ref p)
 |n+1,x,y=>(x=y/\(jd3 x=true∨∃p,x=.ref p))∨∃a b xs ys,x=.ref a/\y=.ref b/\((H a=some (.tup xs)/\H b=some (.tup ys))∨(H a=some (.lst xs)/\H b=some (.lst ys)))/\Paired (EqS H n) xs ys
theorem EqS.ref {H:Hp}{n:Nat}{p:Addr}:EqS H n (.ref p) (.ref p):=by
 cases n with
 |zero=>exact⟨rfl,.inr ⟨p,rfl⟩⟩
 |succ n=>exact .inl ⟨rfl,.inr ⟨p,rfl⟩⟩
theorem jjD {x:V}(h:jd3 x=true):eqV x x=true:=by
 cases x with
 |non=>rfl
 |bl b=>simp[eqV]
 |int i=>simp[eqV]
 |str z=>simp[eqV]
 |_=>exact absurd (show false=true from h) Bool.false_ne_true
section
variable {X:Cx} {pins:List (Addr×Obj)} {σ:_L2.St} {H:Hp} {s:Shared}
theorem jlf {A:Around}{x:V}{u v:Value}(h:jd3 x=true∨∃p,x=.ref p)(r:ja0 x u)(r':ja0 x v):SeqAt.EqAt A s u v true:=by
 rcases h with h|⟨p,rfl⟩
 ·have:=jl0 (A:=A) (s:=s) r r' h h
  rw[jjD h]at this
  exact this
 ·cases r
  cases r'
  exact SeqAt.EqAt.same _
theorem jdj {F:V->V->Prop}:∀{xs ys:List V} {us vs:List Value},Paired F xs ys->jaZ xs us->jaZ ys vs->us.length=vs.length/\∀(j:Nat) (h1:j<us.length) (h2:j<vs.length),∃x y,F x y/\ja0 x us[j]/\ja0 y vs[j]
 |_,_,_,_,.nil,.nil,.nil=>⟨rfl,fun j h1=>absurd h1 (Nat.not_lt_zero _)⟩
 |_,_,_,_,.cons f t,.cons r rs,.cons r' rs'=>by
  obtain⟨e,h⟩:=jdj t rs rs'
  refine⟨congrArg (· + 1) e,fun j h1 h2=>?_⟩
  cases j with
  |zero=>exact⟨_,_,f,r,r'⟩
  |succ j=>exact h j (Nat.lt_of_succ_lt_succ h1) (Nat.lt_of_succ_lt_succ h2)
theorem jfc (n:Nat):(List.range n).all (fun _=>true)=true:=by simp
theorem jj1 (I:Inv X pins σ H s):∀(n:Nat) {A:Around} {x y:V} {u v:Value},A.units+n<cLine->EqS H n x y->ja0 x u->ja0 y v->SeqAt.EqAt A s u v true
 |0,A,x,y,u,v,hu,⟨e,h⟩,r,r'=>by subst e;exact jlf h r r'
 |n+1,A,x,y,u,v,hu,.inl ⟨e,h⟩,r,r'=>by subst e;exact jlf h r r'
 |n+1,A,x,y,u,v,hu,.inr ⟨a,b,xs,ys,ea,eb,h,hp⟩,r,r'=>by
  subst ea eb
  cases r
  cases r'
  by_cases hne:a=b
  ·subst hne
   exact SeqAt.EqAt.same _
  have hu1:A.units<cLine:=by omega
  rcases h with⟨h1,h2⟩|⟨h1,h2⟩
  ·obtain⟨its,rv,p,_⟩:=I.tuple (SqT.of h1)
   obtain⟨its2,rv2,p2,_⟩:=I.tuple (SqT.of h2)
   obtain⟨el,hj⟩:=jdj hp rv rv2
   have:=SeqAt.RcAt.tuples (A:=A) (e:=fun _=>true) (show s.heap.IsTuple a its.toArray from p) (show s.heap.IsTuple b its2.toArray from p2) hu1 (fun j h1 h2=>by
    obtain⟨x,y,f,r1,r2⟩:=hj j (by simpa using h1) (by simpa using h2)
    have:=jj1 I n (A:=A.in1) (by rw[Around.in1_units];omega) f r1 r2
    simpa using this)
   rw[jfc,Bool.true_and,show(its.toArray.size==its2.toArray.size)=true by simp[el]]at this
   exact SeqAt.EqAt.of_refs hne this
  ·obtain⟨its,rv,p,_⟩:=I.list (SqL.of h1)
   obtain⟨its2,rv2,p2,_⟩:=I.list (SqL.of h2)
   obtain⟨el,hj⟩:=jdj hp rv rv2
   have:=SeqAt.RcAt.lists (A:=A) (e:=fun _=>true) p.isList p2.isList (by simp[el]) hu1 (fun j h1 h2=>by
    obtain⟨x,y,f,r1,r2⟩:=hj j (by simpa using h1) (by simpa using h2)
    have:=jj1 I n (A:=A.in1) (by rw[Around.in1_units];omega) f r1 r2
    simpa using this)
   rw[jfc]at this
   exact SeqAt.EqAt.of_refs hne this
end
noncomputable def jvY (b:Bool):R2:=fun x y H Q=>∃a c xs ys,x=.ref a/\y=.ref c/\((H a=some (.tup xs)/\H c=some (.tup ys))∨(H a=some (.lst xs)/\H c=some (.lst ys)))/\Paired (EqS H 8) xs ys/\Q (.bl b) H
section
variable {X:Cx}
theorem ju5 (hu:X.A.units+16<cLine):OpR X (compareOp .Eq) (jvY true):=by
 intro pins s σ H x y v u Q I rx ry h
 obtain⟨a,c,xs,ys,rfl,rfl,h,hp,q⟩:=h
 cases rx
 cases ry
 rcases h with⟨h1,h2⟩|⟨h1,h2⟩
 ·obtain⟨its,rv,p,_⟩:=I.tuple (SqT.of h1)
  obtain⟨its2,rv2,p2,_⟩:=I.tuple (SqT.of h2)
  obtain⟨el,hj⟩:=jdj hp rv rv2
  have:=SeqAt.RcAt.tuples (A:=X.A) (e:=fun _=>true) (show s.heap.IsTuple a its.toArray from p) (show s.heap.IsTuple c its2.toArray from p2) (by omega) (fun j h1 h2=>by
   obtain⟨x,y,f,r1,r2⟩:=hj j (by simpa using h1) (by simpa using h2)
   have:=jj1 I 8 (A:=X.A.in1) (by rw[Around.in1_units];omega) f r1 r2
   simpa using this)
  rw[jfc,Bool.true_and,show(its.toArray.size==its2.toArray.size)=true by simp[el]]at this
  exact this _ _ _ _ ⟨.bl true,H,I,rfl,q⟩
 ·obtain⟨its,rv,p,_⟩:=I.list (SqL.of h1)
  obtain⟨its2,rv2,p2,_⟩:=I.list (SqL.of h2)
  obtain⟨el,hj⟩:=jdj hp rv rv2
  have:=SeqAt.RcAt.lists (A:=X.A) (e:=fun _=>true) p.isList p2.isList (by simp[el]) (by omega) (fun j h1 h2=>by
   obtain⟨x,y,f,r1,r2⟩:=hj j (by simpa using h1) (by simpa using h2)
   have:=jj1 I 8 (A:=X.A.in1) (by rw[Around.in1_units];omega) f r1 r2
   simpa using this)
  rw[jfc]at this
  exact this _ _ _ _ ⟨.bl true,H,I,rfl,q⟩
end
theorem jfr {H:Hp}:∀{xs:List V},(∀x∈xs,jd3 x=true∨∃p,x=.ref p)->Paired (EqS H 8) xs xs
 |[],_=>.nil
 |x::xs,h=>.cons (.inl ⟨rfl,h x (by simp)⟩) (jfr fun y hy=>h y (by simp[hy]))
end _L2
namespace _L2
open PySem PySem.Spec PyProof.Rows
section
variable {X:Cx}
end
theorem jeF {α:Type}{f:α->List V}{G G':Hp}(ht:∀p xs,G p=some (.tup xs)->G' p=some (.tup xs)):∀{us:List V} {xs:List α},Paired (jvg f G) us xs->Paired (jvg f G') us xs
 |_,_,.nil=>.nil
 |_,_,.cons ⟨p,e,hp⟩ t=>.cons ⟨p,e,ht _ _ hp⟩ (jeF ht t)
theorem jgJ {α β:Type}{F:α->β->Prop}:∀{us ws:List α} {xs ys:List β},Paired F us xs->Paired F ws ys->Paired F (us++ws) (xs++ys)
 |_,_,_,_,.nil,h=>h
 |_,_,_,_,.cons r t,h=>.cons r (jgJ t h)
noncomputable def Lst {α:Type}(f:α->List V)(H:Hp)(a:Addr)(xs:List α):Prop:=∃us,H a=some (.lst us)/\Paired (jvg f H) us xs
theorem jjp {H:Hp}{l:Addr}{zs:List V}{o:HO}(hl:H l=some (.lst zs)):∀p xs,H p=some (.tup xs)->upd H l o p=some (.tup xs):=fun p xs hp=>by
 have:p≠l:=fun e=>by rw[e,hl]at hp;cases hp
 rw[jaj this]
 exact hp
theorem Lst.more {α:Type}{f:α->List V}{H:Hp}{a:Addr}{us ws:List V}{xs ys:List α}(h:H a=some (.lst us))(h1:Paired (jvg f H) us xs)(h2:Paired (jvg f H) ws ys):Lst f (upd H a (.lst (us++ws))) a (xs++ys):=
 ⟨_,jaC,jgJ (jeF (jjp h) h1) (jeF (jjp h) h2)⟩
end _L2
namespace _L2
open PySem PySem.Spec PyProof.Rows
section
variable {X:Cx}
theorem ju4:bootBuiltins "zip" =some (.type "zip"):=by decide +kernel
end
end _L2
namespace _L2
open PySem PySem.Spec PyProof.Rows
section
variable {X:Cx}
end
end _L2
namespace _L2
open PySem PySem.Spec PyProof.Rows
noncomputable def sAt (b:Bool)(h:Heap)(l:Addr)(xs:Array Value):Prop:=match b with|false=>h.IsList l xs|true=>h.IsTuple l xs
noncomputable def iAt (b:Bool)(h:Heap)(it l:Addr)(i:Nat):Prop:=match b with|false=>h.IsListIter it l i|true=>h.IsTupleIter it l i
noncomputable def jdF (b:Bool)(l:Addr):Obj:={cls:=.type (match b with|false=>"list_iterator" |true=>"tuple_iterator"),data:=.fields #[.ref l,.int 0 0]}
theorem jfg {b:Bool}{l:Addr}{h:Heap}{it:Addr}(g:h.get? it=some (jdF b l)):iAt b h it l 0:=by
 cases b<;>exact⟨_,g,rfl,rfl⟩
theorem iAt.keep {b:Bool}{h h':Heap}{it l:Addr}{i:Nat}(x:iAt b h it l i)(k:∀o,h.get? it=some o->h'.get? it=some o):iAt b h' it l i:=by
 cases b
 ·exact Heap.IsListIter.at x k
 ·exact Heap.IsTupleIter.at x k
theorem iAt.obj {b:Bool}{h:Heap}{it l:Addr}{i:Nat}(x:iAt b h it l i):∃o,h.get? it=some o/\∀v,o.data≠.cell v:=by
 cases b<;>(obtain⟨o,g,_,d⟩:=x;exact⟨o,g,fun v z=>by rw[d]at z;cases z⟩)
theorem sAt.keep {b:Bool}{h h':Heap}{l:Addr}{xs:Array Value}(x:sAt b h l xs)(k:∀o,h.get? l=some o->h'.get? l=some o):sAt b h' l xs:=by
 cases b<;>(obtain⟨o,g,r⟩:=x;exact⟨o,k o g,r⟩)
theorem sAt.obj {b:Bool}{h:Heap}{l:Addr}{xs:Array Value}(x:sAt b h l xs):∃o,h.get? l=some o:=by
 cases b<;>(obtain⟨o,g,_⟩:=x;exact⟨o,g⟩)
section
variable {prog:Program} {w:World} {A:Around} {E:Value->Shared->Prop} {s:Shared} {it l:Addr} {i:Nat} {items:Array Value} {b:Bool}
theorem jlS {M:Model}{o:Obj}{fs:Array Value}{k:Nat}{v:Value}{Q:Unit->Shared->Prop}(ho:s.heap.get? it=some o)(hd:o.data=.fields fs)
  (q:Q () {s with heap:=s.heap.update it (Obj.mapFields (·.setIfInBounds k v))}) (hj:k<fs.size):wpAny M A (setField (.ref it) k v) Q E s:=wpAny_setField ho hd hj q
theorem jr2 {h:Heap} {ob:Obj} (gi:h.get? it=some ob) (ci:ob.cls=.type "tuple_iterator") (di:ob.data=.fields #[.ref l,.int (i:Int) 0]) :
  (h.update it (Obj.mapFields (·.setIfInBounds 1 (rawInt ((i:Int)+1))))).IsTupleIter it l (i+1):=by
 have dn:=Obj.data_mapFields di (·.setIfInBounds 1 (rawInt ((i:Int)+1)))
 refine⟨_,Heap.get?_update_self (Obj.mapFields (·.setIfInBounds 1 (rawInt ((i:Int)+1)))) gi (Obj.isFreed_of_fields dn),?_,?_⟩
 ·rw[Obj.cls_mapFields,ci]
 ·rw[dn]
  simp[rawInt]
theorem joW {Q:Value->Shared->Prop}{x:Value}(hit:s.heap.IsTupleIter it l i)(hl:s.heap.IsTuple l items)(hx:items[i]?=some x)
  (q:∀h',h'.IsTupleIter it l (i+1)->Heap.SameBut it s.heap h'->Q x {s with heap:=h'}):wpAny (model prog w) A (Builtin.SmallTypes.nextOf (.ref it)) Q E s:=by
 have ty:s.TypeIs (.ref it) "tuple_iterator":=let⟨o,g,c,_⟩:=hit;⟨o,g,c⟩
 obtain⟨ob,gi,ci,di⟩:=id hit
 obtain⟨ol,gl,_,nl,dl⟩:=hl
 have after:=jr2 (i:=i) gi ci di
 unfold Builtin.SmallTypes.nextOf
 refine wpAny_bind (wpAny_callSpecial?_slot (name:=Str.ofString "__next__") ty F.slot_tuple_iterator_next (wpAny_call_entry F.slot_tuple_iterator_next ty F.entry_tuple_iterator_next ?_ (F.args_tuple_iterator_next_1 _)))
 wp_walk using wpAny_field gi di (x:=.ref l) rfl,wpAny_field gi di (x:=.int (i:Int) 0) rfl,wpAny_seqItems gl dl
 rw[Int.toNat_natCast,hx]
 dsimp only
 wp_walk using jlS gi di
 ·exact⟨_,rfl,wpAny_pure (q _ after (Heap.SameBut.update ..))⟩
 ·show 1<2;decide
theorem jiw {Q:Value->Shared->Prop}(hh:A.handled=none)(hit:s.heap.IsTupleIter it l i)(hl:s.heap.IsTuple l items)(hx:items[i]?=none)
  (q:∀h' x,Heap.ExtBut it s.heap h'->(∃o,h'.get? x=some o/\o.cls=.type "StopIteration")->E (.ref x) {s with heap:=h'}):wpAny (model prog w) A (Builtin.SmallTypes.nextOf (.ref it)) Q E s:=by
 have ty:s.TypeIs (.ref it) "tuple_iterator":=let⟨o,g,c,_⟩:=hit;⟨o,g,c⟩
 obtain⟨ob,gi,ci,di⟩:=id hit
 obtain⟨ol,gl,_,nl,dl⟩:=hl
 have hh1:A.in1.handled=none:=hh
 unfold Builtin.SmallTypes.nextOf
 refine wpAny_bind (wpAny_callSpecial?_slot (name:=Str.ofString "__next__") ty F.slot_tuple_iterator_next (wpAny_call_entry F.slot_tuple_iterator_next ty F.entry_tuple_iterator_next ?_ (F.args_tuple_iterator_next_1 _)))
 wp_walk using wpAny_field gi di (x:=.ref l) rfl,wpAny_field gi di (x:=.int (i:Int) 0) rfl,wpAny_seqItems gl dl
 rw[Int.toNat_natCast,hx]
 dsimp only
 wp_walk using jlS gi di
 ·(try unfold raiseNew)
  wp_walk
  exact q _ _ (((Heap.SameBut.update ..).extBut.push _).push _) ⟨_,Heap.get?_push_size _ rfl,rfl⟩
 ·show 0<2;decide
theorem jsS {Q:Value->Shared->Prop}{x:Value}(hit:iAt b s.heap it l i)(hl:sAt b s.heap l items)(hx:items[i]?=some x)
  (q:∀h',iAt b h' it l (i+1)->Heap.SameBut it s.heap h'->Q x {s with heap:=h'}):wpAny (model prog w) A (Builtin.SmallTypes.nextOf (.ref it)) Q E s:=by
 cases b
 ·exact wpAny_nextOf_list_item hit hl hx q
 ·exact joW hit hl hx q
theorem jff {Q:Value->Shared->Prop}(hh:A.handled=none)(hit:iAt b s.heap it l i)(hl:sAt b s.heap l items)(hx:items[i]?=none)
  (q:∀h' x,Heap.ExtBut it s.heap h'->(∃o,h'.get? x=some o/\o.cls=.type "StopIteration")->E (.ref x) {s with heap:=h'}):wpAny (model prog w) A (Builtin.SmallTypes.nextOf (.ref it)) Q E s:=by
 cases b
 ·exact wpAny_nextOf_list_end hh hit hl hx q
 ·exact jiw hh hit hl hx q
theorem jih {Q:Value->Shared->Prop}(hl:sAt b s.heap l items)(q:Q (.ref s.heap.objs.size) {s with heap:=s.heap.push (jdF b l)}):wpAny (model prog w) A (pyIter (.ref l)) Q E s:=by
 cases b
 ·exact wpAny_pyIter_list hl q
 ·exact wpAny_pyIter_tuple hl q
end
theorem jlG {prog:Program}{w:World}{A:Around}{b:Bool}(hh:A.handled=none)(it l:Addr)(hne:l≠it)(items:Array Value) :
  Draws prog w A it [it,l] items.size (fun i v=>items[i]?=some v) (fun i h=>iAt b h it l i/\sAt b h l items) where
 live:=fun _ _ st=>let⟨o,g,_⟩:=st.1.obj;⟨o,g⟩
 frame:=fun _ _ _ st k=>⟨st.1.keep fun o e=>k it (by simp) o e,st.2.keep fun o e=>k l (by simp) o e⟩
 item:=fun i s Q E hi st q=>jsS st.1 st.2 (x:=items[i]) (by simp[hi]) fun h' a c=>q _ h' s.toks (by simp[hi]) ⟨a,st.2.keep fun o e=>c.extBut _ _ hne e⟩ c
 done:=fun s Q E st q=>jff hh st.1 st.2 (by simp) q
theorem jiV (l:Addr)(items:Array Value)(n:Nat)(dc:Option Addr)(sl:Array (Option Value)) :
  Meets (Builtin.«enumerate.__new__» ⟨[.type "enumerate",.ref l],[]⟩) (fun _ R s=>s.heap.get? l=some {cls:=.type "tuple",dict:=dc,data:=.seq items n,slots:=sl} /\
   R (.ok (.ret (.ref (s.heap.push (jdF true l)).objs.size))) {s with heap:=(s.heap.push (jdF true l)).push {cls:=.type "enumerate",data:=.fields #[.none,.bool false,.ref s.heap.objs.size,rawInt 0,.none,.none]}}):=by
 refine .of_wp ?_
 rintro prog w A R ⟨hp,g,d,tk,os⟩ ⟨hl,q⟩
 have sub:=sub_enumerate
 have ht:sAt true (Shared.heap ⟨hp,g,d,tk,os⟩) l items:=⟨_,hl,rfl,n,rfl⟩
 wp_walk using AutoSeq1.wpAny_loadPart' hl
 refine wpAny_stack_any fun st=>wpAny_pure ?_
 split
 case h_1 c _ _ _ _ _=>cases(c==Value.type "enumerate")<;>(wp_walk using AutoSeq1.wpAny_loadPart' hl,jih ht;exact⟨_,rfl,q⟩)
 case h_2=>wp_walk using AutoSeq1.wpAny_loadPart' hl,jih ht;exact⟨_,rfl,q⟩
section
variable {prog:Program} {w:World} {A:Around} {E:Value->Shared->Prop} {s:Shared} {l:Addr} {items:Array Value} {b:Bool}
theorem jiW {Q:Value->Shared->Prop}(hl:sAt b s.heap l items)
  (q:∀h',IsEnum h' (s.heap.objs.size+1) s.heap.objs.size 0 .none->iAt b h' s.heap.objs.size l 0->(∀c o,s.heap.get? c=some o->h'.get? c=some o)->Q (.ref (s.heap.objs.size+1)) {s with heap:=h'}) :
  wpAny (model prog w) A (call (.type "enumerate") [.ref l]) Q E s:=by
 cases b
 ·exact call_enumerate_list hl fun h' a c _ k=>q h' a c k
 ·obtain⟨⟨c,dc,dt,sl⟩,g,hc,n,hd⟩:=hl
  cases hc
  cases hd
  refine callType_new F.called_enumerate (by decide) (F.typeCall_enumerate_1 _) (F.newCall_enumerate_1 _) (fun o=>F.args_object_init_2 o _) F.entry_enumerate_new (jiV l items n dc sl) ⟨g,?_⟩
  have z:(s.heap.push (jdF true l)).objs.size=s.heap.objs.size+1:=Heap.size_push ..
  have ge:=Heap.get?_push_size (s.heap.push (jdF true l)) (o:={cls:=.type "enumerate",data:=.fields #[.none,.bool false,.ref s.heap.objs.size,rawInt 0,.none,.none]}) rfl
  rw[z]at ge
  show _/\_
  rw[z]
  exact⟨⟨_,ge,rfl⟩,q _ ge (jfg (Heap.get?_push_of_some _ (Heap.get?_push_size _ rfl))) fun c o x=>Heap.get?_push_of_some _ (Heap.get?_push_of_some _ x)⟩
theorem joc {h0 hB:Heap}{a c:Value}(zB:hB.objs.size=h0.objs.size+2) :
  ((hB.push {cls:=.type "tuple",data:=.seq #[a,c]}).push {cls:=.type "tuple",data:=.seq #[.none,.none]}).objs.size=h0.objs.size+4 /\
  IsZip (((hB.push {cls:=.type "tuple",data:=.seq #[a,c]}).push {cls:=.type "tuple",data:=.seq #[.none,.none]}).push {cls:=.type "zip",data:=.fields #[.none,.bool false,.bool false,.ref hB.objs.size,.ref (hB.push {cls:=.type "tuple",data:=.seq #[a,c]}).objs.size]}) (h0.objs.size+4) (h0.objs.size+2) (h0.objs.size+3) .none /\
  IsPair (((hB.push {cls:=.type "tuple",data:=.seq #[a,c]}).push {cls:=.type "tuple",data:=.seq #[.none,.none]}).push {cls:=.type "zip",data:=.fields #[.none,.bool false,.bool false,.ref hB.objs.size,.ref (hB.push {cls:=.type "tuple",data:=.seq #[a,c]}).objs.size]}) (h0.objs.size+2) a c /\
  IsPair (((hB.push {cls:=.type "tuple",data:=.seq #[a,c]}).push {cls:=.type "tuple",data:=.seq #[.none,.none]}).push {cls:=.type "zip",data:=.fields #[.none,.bool false,.bool false,.ref hB.objs.size,.ref (hB.push {cls:=.type "tuple",data:=.seq #[a,c]}).objs.size]}) (h0.objs.size+3) .none .none /\
  ∀d o,hB.get? d=some o->(((hB.push {cls:=.type "tuple",data:=.seq #[a,c]}).push {cls:=.type "tuple",data:=.seq #[.none,.none]}).push {cls:=.type "zip",data:=.fields #[.none,.bool false,.bool false,.ref hB.objs.size,.ref (hB.push {cls:=.type "tuple",data:=.seq #[a,c]}).objs.size]}).get? d=some o:=by
 have zC:(hB.push {cls:=.type "tuple",data:=.seq #[a,c]}).objs.size=h0.objs.size+3:=by rw[Heap.size_push,zB]
 have tC:=Heap.get?_push_size hB (o:={cls:=.type "tuple",data:=.seq #[a,c]}) rfl
 have kC:∀d o,hB.get? d=some o->(hB.push {cls:=.type "tuple",data:=.seq #[a,c]}).get? d=some o:=fun d o e=>Heap.get?_push_of_some _ e
 rw[zB]at tC ⊢
 rw[zC]
 generalize hB.push {cls:=.type "tuple",data:=.seq #[a,c]}=hC at zC tC kC ⊢
 have zD:(hC.push {cls:=.type "tuple",data:=.seq #[.none,.none]}).objs.size=h0.objs.size+4:=by rw[Heap.size_push,zC]
 have tD:=Heap.get?_push_size hC (o:={cls:=.type "tuple",data:=.seq #[.none,.none]}) rfl
 have kD:∀d o,hC.get? d=some o->(hC.push {cls:=.type "tuple",data:=.seq #[.none,.none]}).get? d=some o:=fun d o e=>Heap.get?_push_of_some _ e
 rw[zC]at tD
 generalize hC.push {cls:=.type "tuple",data:=.seq #[.none,.none]}=hD at zD tD kD ⊢
 have tE:=Heap.get?_push_size hD (o:={cls:=.type "zip",data:=.fields #[.none,.bool false,.bool false,.ref (h0.objs.size+2),.ref (h0.objs.size+3)]}) rfl
 rw[zD]at tE
 exact⟨zD,tE,Heap.get?_push_of_some _ (kD _ _ tC),Heap.get?_push_of_some _ tD,fun d o e=>Heap.get?_push_of_some _ (kD _ _ (kC _ _ e))⟩
theorem jpg (b1 b2:Bool)(l1 l2:Addr)(xs ys:Array Value) :
  Meets (Builtin.«zip.__new__» ⟨[.type "zip",.ref l1,.ref l2],[]⟩) (fun _ R s=>sAt b1 s.heap l1 xs/\sAt b2 s.heap l2 ys /\
   ∀h',IsZip h' (s.heap.objs.size+4) (s.heap.objs.size+2) (s.heap.objs.size+3) .none->IsPair h' (s.heap.objs.size+2) (.ref s.heap.objs.size) (.ref (s.heap.objs.size+1))->IsPair h' (s.heap.objs.size+3) .none .none ->
    iAt b1 h' s.heap.objs.size l1 0->iAt b2 h' (s.heap.objs.size+1) l2 0->(∀c o,s.heap.get? c=some o->h'.get? c=some o)->R (.ok (.ret (.ref (s.heap.objs.size+4)))) {s with heap:=h'}):=by
 refine .of_wp ?_
 rintro prog w A R ⟨hp,g,d,tk,os⟩ ⟨h1,h2,q⟩
 have sub:=sub_zip
 have g1:sAt b1 (Shared.heap ⟨hp,g,d,tk,os⟩) l1 xs:=h1
 have g2:sAt b2 (Shared.heap ⟨hp.push (jdF b1 l1),g,d,tk,os⟩) l2 ys:=sAt.keep h2 fun o e=>Heap.get?_push_of_some _ e
 wp_walk using jih g1,jih g2
 refine⟨_,rfl,?_⟩
 have z1:(hp.push (jdF b1 l1)).objs.size=hp.objs.size+1:=Heap.size_push ..
 generalize eA:hp.push (jdF b1 l1)=hA at *
 have z2:(hA.push (jdF b2 l2)).objs.size=hp.objs.size+2:=by rw[Heap.size_push,z1]
 have i1:hA.get? hp.objs.size=some (jdF b1 l1):=by rw[<- eA];exact Heap.get?_push_size _ rfl
 have k1:∀c o,hp.get? c=some o->hA.get? c=some o:=fun c o e=>by rw[<- eA];exact Heap.get?_push_of_some _ e
 have i2:(hA.push (jdF b2 l2)).get? (hp.objs.size+1)=some (jdF b2 l2):=by rw[<- z1];exact Heap.get?_push_size _ rfl
 have k2:∀c o,hA.get? c=some o->(hA.push (jdF b2 l2)).get? c=some o:=fun c o e=>Heap.get?_push_of_some _ e
 obtain⟨e4,p1,p2,p3,p4⟩:=joc (a:=.ref hp.objs.size) (c:=.ref hA.objs.size) z2
 have hq:=q _ p1 (by show IsPair _ _ _ (.ref (hp.objs.size+1));rw[<- z1];exact p2) p3 (jfg (p4 _ _ (k2 _ _ i1))) (jfg (p4 _ _ i2)) fun c o e=>p4 _ _ (k2 _ _ (k1 _ _ e))
 rw[<- e4]at hq
 exact hq
theorem jkN {b1 b2:Bool}{l1 l2:Addr}{xs ys:Array Value}{Q:Value->Shared->Prop}(h1:sAt b1 s.heap l1 xs)(h2:sAt b2 s.heap l2 ys)
  (q:∀h',IsZip h' (s.heap.objs.size+4) (s.heap.objs.size+2) (s.heap.objs.size+3) .none->IsPair h' (s.heap.objs.size+2) (.ref s.heap.objs.size) (.ref (s.heap.objs.size+1))->IsPair h' (s.heap.objs.size+3) .none .none ->
    iAt b1 h' s.heap.objs.size l1 0->iAt b2 h' (s.heap.objs.size+1) l2 0->(∀c o,s.heap.get? c=some o->h'.get? c=some o)->Q (.ref (s.heap.objs.size+4)) {s with heap:=h'}) :
  wpAny (model prog w) A (call (.type "zip") [.ref l1,.ref l2]) Q E s:=
 callType_new F.called_zip (by decide) (F.typeCall_zip_2 _ _) (F.newCall_zip_2 _ _) (fun o=>F.args_object_init_3 o _ _) F.entry_zip_new (jpg b1 b2 l1 l2 xs ys)
  ⟨h1,h2,fun h' p1 p2 p3 p4 p5 p6=>⟨⟨_,p1,rfl⟩,q h' p1 p2 p3 p4 p5 p6⟩⟩
theorem jlk {b1 b2:Bool}{z TI TO i1 i2 l1 l2:Addr}{i:Nat}{xs ys:Array Value}{x y u v:Value}{Q:Option Value->Shared->Prop}(D:ZipApart z TI TO i1 i2 l1 l2)
  (oz:IsZip s.heap z TI TO .none) (oi:IsPair s.heap TI (.ref i1) (.ref i2)) (oo:IsPair s.heap TO u v) (a1:iAt b1 s.heap i1 l1 i) (a2:iAt b2 s.heap i2 l2 i) (s1:sAt b1 s.heap l1 xs) (s2:sAt b2 s.heap l2 ys) (ex:xs[i]?=some x) (ey:ys[i]?=some y)
  (q:∀h',IsZip h' z TI TO (rawInt s.heap.objs.size)->IsPair h' TO x y->iAt b1 h' i1 l1 (i+1)->iAt b2 h' i2 l2 (i+1)->IsPair h' s.heap.objs.size x y ->
   (∀c o,c≠z->c≠TO->c≠i1->c≠i2->s.heap.get? c=some o->h'.get? c=some o)->Q (some (.ref s.heap.objs.size)) {s with heap:=h'}) :
  wpAny (model prog w) A (pyNext (.ref z)) Q E s:=by
 have ty:s.TypeIs (.ref z) "zip":=⟨_,oz,rfl⟩
 unfold pyNext
 refine wpAny_bind (wpAny_attempt (wpAny_callSpecial?_slot (name:=Str.ofString "__next__") ty F.slot_zip_next (wpAny_call_entry F.slot_zip_next ty F.entry_zip_next ?_ (F.args_zip_next_1 _))))
 have fin:∀(w1:Value) (t:Shared),Q (some w1) t->wpAny (model prog w) A (pure (some w1)) Q E t:=fun _ _ z=>wpAny_pure z
 change wpAny _ _ (field (.ref z) 2 >>=_) _ _ _
 refine wpAny_bind (wpAny_field oz rfl (x:=.bool false) rfl ?_)
 change wpAny _ _ (field (.ref z) 3 >>=_) _ _ _
 refine wpAny_bind (wpAny_field oz rfl (x:=.ref TI) rfl (wpAny_bind (wpAny_seqItems oi rfl ?_)))
 change wpAny _ _ (Builtin.SmallTypes.ownedTupleIsFree (.ref z) >>=_) _ _ _
 refine wpAny_bind (wpAny_bind (wpAny_field oz rfl (x:=.none) rfl (wpAny_pure ?_)))
 rw[if_pos rfl]
 refine wpAny_bind (wpAny_rule (wpAny_bind (wpAny_field oz rfl (x:=.ref TO) rfl (wpAny_bind (wpAny_setField_rec oz (by simp) fun hA zA kA=>wpAny_bind ?_)))))
 have zA':IsZip hA z TI TO .ellipsis:=zA
 have nA:hA.objs.size=s.heap.objs.size:=kA.1
 have oA:IsPair hA TO u v:=kA.extBut _ _ D.TOz oo
 have a1A:iAt b1 hA i1 l1 i:=a1.keep fun o e=>kA.extBut _ _ D.i1z e
 have a2A:iAt b2 hA i2 l2 i:=a2.keep fun o e=>kA.extBut _ _ D.i2z e
 have s1A:sAt b1 hA l1 xs:=s1.keep fun o e=>kA.extBut _ _ D.l1z e
 have s2A:sAt b2 hA l2 ys:=s2.keep fun o e=>kA.extBut _ _ D.l2z e
 have keepA:∀c o,c≠z->s.heap.get? c=some o->hA.get? c=some o:=fun c o n e=>kA.extBut _ _ n e
 simp only[List.zipIdx_cons,List.zipIdx_nil,List.forIn_cons,List.forIn_nil]
 refine wpAny_bind (wpAny_bind (wpAny_onRaise ?_))
 change wpAny _ _ (Builtin.SmallTypes.nextOf (.ref i1) >>=_) _ _ _
 refine wpAny_bind (jsS a1A s1A ex fun hB a1B kB=>wpAny_pure ?_)
 have oB:IsPair hB TO u v:=kB.extBut _ _ D.TOi1 oA
 refine wpAny_bind (wpAny_seqItems oB rfl (wpAny_bind (wpAny_updateSeq_pair oB fun hC oC kC=>wpAny_bind (wpAny_letGo (wpAny_pure ?_)))))
 have oC':IsPair hC TO x v:=oC
 have a2C:iAt b2 hC i2 l2 i:=(a2A.keep fun o e=>kB.extBut _ _ D.i12.symm e).keep fun o e=>kC.extBut _ _ D.TOi2.symm e
 have s2C:sAt b2 hC l2 ys:=(s2A.keep fun o e=>kB.extBut _ _ D.l2i1 e).keep fun o e=>kC.extBut _ _ D.l2TO e
 refine wpAny_bind (wpAny_bind (wpAny_onRaise ?_))
 change wpAny _ _ (Builtin.SmallTypes.nextOf (.ref i2) >>=_) _ _ _
 refine wpAny_bind (jsS a2C s2C ey fun hD a2D kD=>wpAny_pure ?_)
 have oD:IsPair hD TO x v:=kD.extBut _ _ D.TOi2 oC'
 refine wpAny_bind (wpAny_seqItems oD rfl (wpAny_bind (wpAny_updateSeq_pair oD fun hE oE kE=>wpAny_bind (wpAny_letGo (wpAny_pure (wpAny_pure ?_))))))
 have oE':IsPair hE TO x y:=oE
 refine wpAny_bind (wpAny_seqItems oE' rfl (wpAny_bind (wpAny_newTuple ?_)))
 have nE:hE.objs.size=s.heap.objs.size:=by rw[kE.1,kD.1,kC.1,kB.1,nA]
 have keepE:∀c o,c≠TO->c≠i1->c≠i2->hA.get? c=some o->hE.get? c=some o:=fun c o c2 c3 c4 e=>kE.extBut _ _ c2 (kD.extBut _ _ c4 (kC.extBut _ _ c2 (kB.extBut _ _ c3 e)))
 have zE:IsZip hE z TI TO .ellipsis:=keepE _ _ D.TOz.symm D.i1z.symm D.i2z.symm zA'
 have a1E:iAt b1 hE i1 l1 (i+1):=a1B.keep fun o e=>kE.extBut _ _ D.TOi1.symm (kD.extBut _ _ D.i12 (kC.extBut _ _ D.TOi1.symm e))
 have a2E:iAt b2 hE i2 l2 (i+1):=a2D.keep fun o e=>kE.extBut _ _ D.TOi2.symm e
 have lz:z<hE.objs.size:=Heap.lt_size zE
 change wpAny _ _ (Builtin.SmallTypes.ownedTupleHandOut (.ref z) (.ref hE.objs.size) >>=_) _ _ _
 refine wpAny_bind ?_
 unfold Builtin.SmallTypes.ownedTupleHandOut
 have zP:IsZip (hE.push {cls:=.type "tuple",data:=.seq #[x,y]}) z TI TO .ellipsis:=Heap.get?_push_of_some _ zE
 refine wpAny_bind (wpAny_setField_rec zP (by simp) fun hF zF kF=>wpAny_setField_rec (show IsZip hF z TI TO (rawInt hE.objs.size)from zF) (by simp) fun hG zG kG=>?_)
 have zG':IsZip hG z TI TO (rawInt hE.objs.size):=zG
 have keepG:∀c o,c≠z->(hE.push {cls:=.type "tuple",data:=.seq #[x,y]}).get? c=some o->hG.get? c=some o:=fun c o n e=>kG.extBut _ _ n (kF.extBut _ _ n e)
 have up:∀c o,c≠z->hE.get? c=some o->hG.get? c=some o:=fun c o n e=>keepG c o n (Heap.get?_push_of_some _ e)
 have new:IsPair hG hE.objs.size x y:=keepG _ _ (Nat.ne_of_gt lz) (Heap.get?_push_size _ rfl)
 rw[nE]at zG' new
 refine wpAny_pure ⟨_,rfl,fin _ _ ?_⟩
 change Q (some (.ref hE.objs.size)) _
 rw[nE]
 exact q hG zG' (up _ _ D.TOz oE') (a1E.keep fun o e=>up _ _ D.i1z e) (a2E.keep fun o e=>up _ _ D.i2z e) new fun c o c1 c2 c3 c4 e=>up c o c1 (keepE c o c2 c3 c4 (keepA c o c1 e))
theorem jpr {b1 b2:Bool}{z TI TO i1 i2 l1 l2:Addr}{i:Nat}{xs ys:Array Value}{u v:Value}{Q:Option Value->Shared->Prop}(hh:A.handled=none)(D:ZipApart z TI TO i1 i2 l1 l2)
  (oz:IsZip s.heap z TI TO .none) (oi:IsPair s.heap TI (.ref i1) (.ref i2)) (oo:IsPair s.heap TO u v) (a1:iAt b1 s.heap i1 l1 i) (a2:iAt b2 s.heap i2 l2 i) (s1:sAt b1 s.heap l1 xs) (s2:sAt b2 s.heap l2 ys) (ee:xs[i]?=none∨ys[i]?=none)
  (q:∀h',(∀c o,c≠z->c≠TO->c≠i1->c≠i2->s.heap.get? c=some o->h'.get? c=some o)->Q none {s with heap:=h'}) :
  wpAny (model prog w) A (pyNext (.ref z)) Q E s:=by
 have ty:s.TypeIs (.ref z) "zip":=⟨_,oz,rfl⟩
 have hh1:A.in1.handled=none:=hh
 unfold pyNext
 refine wpAny_bind (wpAny_attempt (wpAny_callSpecial?_slot (name:=Str.ofString "__next__") ty F.slot_zip_next (wpAny_call_entry F.slot_zip_next ty F.entry_zip_next ?_ (F.args_zip_next_1 _))))
 have raised:∀(hX hY:Heap) (e:Addr),IsZip hX z TI TO .ellipsis->(∃o,hX.get? e=some o/\o.cls=.type "StopIteration")->(∀c o,c≠z->c≠TO->c≠i1->c≠i2->s.heap.get? c=some o->hX.get? c=some o)->Heap.SameBut z hX hY ->
   (∃o,hY.get? e=some o/\o.cls=.type "StopIteration")/\∀c o,c≠z->c≠TO->c≠i1->c≠i2->s.heap.get? c=some o->hY.get? c=some o:=fun hX hY e zX ⟨o,ho,hc⟩ kX kY=>by
  have ne:e≠z:=fun r=>by
   rw[r,zX]at ho
   cases ho
   simp at hc
  exact⟨⟨o,kY.extBut _ _ ne ho,hc⟩,fun c o c1 c2 c3 c4 r=>kY.extBut _ _ c1 (kX c o c1 c2 c3 c4 r)⟩
 change wpAny _ _ (field (.ref z) 2 >>=_) _ _ _
 refine wpAny_bind (wpAny_field oz rfl (x:=.bool false) rfl ?_)
 change wpAny _ _ (field (.ref z) 3 >>=_) _ _ _
 refine wpAny_bind (wpAny_field oz rfl (x:=.ref TI) rfl (wpAny_bind (wpAny_seqItems oi rfl ?_)))
 change wpAny _ _ (Builtin.SmallTypes.ownedTupleIsFree (.ref z) >>=_) _ _ _
 refine wpAny_bind (wpAny_bind (wpAny_field oz rfl (x:=.none) rfl (wpAny_pure ?_)))
 rw[if_pos rfl]
 refine wpAny_bind (wpAny_rule (wpAny_bind (wpAny_field oz rfl (x:=.ref TO) rfl (wpAny_bind (wpAny_setField_rec oz (by simp) fun hA zA kA=>wpAny_bind ?_)))))
 have zA':IsZip hA z TI TO .ellipsis:=zA
 have oA:IsPair hA TO u v:=kA.extBut _ _ D.TOz oo
 have a1A:iAt b1 hA i1 l1 i:=a1.keep fun o e=>kA.extBut _ _ D.i1z e
 have a2A:iAt b2 hA i2 l2 i:=a2.keep fun o e=>kA.extBut _ _ D.i2z e
 have s1A:sAt b1 hA l1 xs:=s1.keep fun o e=>kA.extBut _ _ D.l1z e
 have s2A:sAt b2 hA l2 ys:=s2.keep fun o e=>kA.extBut _ _ D.l2z e
 simp only[List.zipIdx_cons,List.zipIdx_nil,List.forIn_cons,List.forIn_nil]
 refine wpAny_bind (wpAny_bind (wpAny_onRaise ?_))
 change wpAny _ _ (Builtin.SmallTypes.nextOf (.ref i1) >>=_) _ _ _
 by_cases ex:xs[i]?=none
 ·refine wpAny_bind (jff hh1 a1A s1A ex fun hX e kX he=>?_)
  have zX:IsZip hX z TI TO .ellipsis:=kX _ _ D.i1z.symm zA'
  refine wpAny_setField_rec zX (by simp) fun hY _ kY=>?_
  obtain⟨⟨o,ho,hc⟩,kk⟩:=raised hX hY e zX he (fun c o c1 _ c3 _ r=>kX _ _ c3 (kA.extBut _ _ c1 r)) kY
  exact wpAny_bind (wpAny_isInstance (T:="StopIteration") (b:=true) ⟨o,ho,hc⟩ isSubtype_stop (wpAny_pure (q _ kk)))
 ·have ey:ys[i]?=none:=ee.resolve_left ex
  obtain⟨x,ex'⟩:∃x,xs[i]?=some x:=Option.ne_none_iff_exists'.mp ex
  refine wpAny_bind (jsS a1A s1A ex' fun hB a1B kB=>wpAny_pure ?_)
  have oB:IsPair hB TO u v:=kB.extBut _ _ D.TOi1 oA
  refine wpAny_bind (wpAny_seqItems oB rfl (wpAny_bind (wpAny_updateSeq_pair oB fun hC oC kC=>wpAny_bind (wpAny_letGo (wpAny_pure ?_)))))
  have a2C:iAt b2 hC i2 l2 i:=(a2A.keep fun o e=>kB.extBut _ _ D.i12.symm e).keep fun o e=>kC.extBut _ _ D.TOi2.symm e
  have s2C:sAt b2 hC l2 ys:=(s2A.keep fun o e=>kB.extBut _ _ D.l2i1 e).keep fun o e=>kC.extBut _ _ D.l2TO e
  refine wpAny_bind (wpAny_bind (wpAny_onRaise ?_))
  change wpAny _ _ (Builtin.SmallTypes.nextOf (.ref i2) >>=_) _ _ _
  refine wpAny_bind (jff hh1 a2C s2C ey fun hX e kX he=>?_)
  have zX:IsZip hX z TI TO .ellipsis:=kX _ _ D.i2z.symm (kC.extBut _ _ D.TOz.symm (kB.extBut _ _ D.i1z.symm zA'))
  refine wpAny_setField_rec zX (by simp) fun hY _ kY=>?_
  obtain⟨⟨o,ho,hc⟩,kk⟩:=raised hX hY e zX he (fun c o c1 c2 c3 c4 r=>kX _ _ c4 (kC.extBut _ _ c2 (kB.extBut _ _ c3 (kA.extBut _ _ c1 r)))) kY
  exact wpAny_bind (wpAny_isInstance (T:="StopIteration") (b:=true) ⟨o,ho,hc⟩ isSubtype_stop (wpAny_pure (q _ kk)))
end
end _L2
namespace _L2
open PySem PySem.Spec PyProof.Rows
noncomputable def SqB (b:Bool)(K:PySem.W.Frag)(H:Hp)(a:Addr)(xs:List V):Prop:=match b with|false=>SqL K H a xs|true=>SqT K H a xs
section
variable {X:Cx} {pins:List (Addr×Obj)} {σ:_L2.St} {H:Hp} {s:Shared} {a:Addr} {xs ys:List V} {b:Bool}
theorem Inv.sqb (I:Inv X pins σ H s)(h:SqB b X.K H a xs):∃its:List Value,jaZ xs its/\sAt b s.heap a its.toArray/\xs.length<=sizeLine:=by
 cases b
 ·obtain⟨its,v,p,z⟩:=I.list h
  exact⟨its,v,p.isList,z⟩
 ·obtain⟨its,v,p,z⟩:=I.tuple h
  exact⟨its,v,p,z⟩
theorem Inv.sqb_inj (I:Inv X pins σ H s)(h:SqB b X.K H a xs)(h':SqB b X.K H a ys):xs=ys:=by
 cases b
 ·exact I.list_inj h h'
 ·exact I.tuple_inj h h'
end
noncomputable def jw5 (b:Bool)(K:PySem.W.Frag)(a:Addr):It:=
 ⟨fun i H=>∃xs x,SqB b K H a xs/\xs[i]?=some x,fun i H x H'=>∃p y,x=.ref p/\H p=none/\H'=upd H p (.tup [.int (i:Int),y])/\∀xs,SqB b K H a xs->xs[i]?=some y,fun i H=>∃xs,SqB b K H a xs/\xs.length=i⟩
noncomputable def jx (b1 b2:Bool)(K:PySem.W.Frag)(a b:Addr):It:=
 ⟨fun i H=>∃xs ys x y,SqB b1 K H a xs/\SqB b2 K H b ys/\xs[i]?=some x/\ys[i]?=some y,
  fun i H x H'=>∃p u v,x=.ref p/\H p=none/\H'=upd H p (.tup [u,v])/\(∀xs,SqB b1 K H a xs->xs[i]?=some u)/\∀ys,SqB b2 K H b ys->ys[i]?=some v,
  fun i H=>∃xs ys,SqB b1 K H a xs/\SqB b2 K H b ys/\(xs.length<=i∨ys.length<=i)⟩
theorem jkh {b:Bool}{P:Program}{w:World}{K:PySem.W.Frag}{elts:List Expr}{x1:Nat}{tpos:Pos}(a e it:Addr)(hne:e≠it)(hae:a≠e)(hai:a≠it):Turn P w K (.Tuple elts x1 tpos) (jw5 b K a) [e,it] e (fun i h=>(∃old,IsEnum h e it (i:Int) old)/\iAt b h it a i) where
 mem:=by simp
 obj:=fun i h st b hb=>by
  obtain⟨⟨old,he⟩,hi⟩:=st
  obtain⟨o,ho,hd⟩:=hi.obj
  rcases List.mem_cons.mp hb with z|z
  ·subst z
   exact⟨_,he,fun v z=>by
    have z':Data.fields _=Data.cell v:=z
    cases z'⟩
  ·have z':b=it:=by simpa using z
   subst z'
   exact⟨o,ho,hd⟩
 keep:=fun i h h' st k=>by
  obtain⟨⟨old,he⟩,hi⟩:=st
  exact⟨⟨old,k e (by simp) _ he⟩,hi.keep fun o q=>k it (by simp) o q⟩
 item:=by
  intro X hP hw hK hc i pins s σ H E I hf st hg
  subst hP hw hK
  obtain⟨xs,x,hq,hx⟩:=hg
  obtain⟨⟨old,he⟩,hit⟩:=st
  obtain⟨its,rv,p,hz⟩:=I.sqb hq
  obtain⟨u,hu,ru⟩:=rv.get hx
  have f1:=hf e (by simp)
  have f2:=hf it (by simp)
  have hlt:i<its.toArray.size:=by
   have:=(List.getElem?_eq_some_iff.mp hu).1
   simpa using this
  refine wpAny_pyNext_enum_itemD (jlG (prog:=X.prog) (w:=X.w) (A:=X.A.in1) (b:=b) (I.ok.hd hc) it a hai its.toArray) he ⟨hit,p⟩ hlt hne (by simp[hne,Ne.symm hae]) fun u' h1 tk hu' heo hst1 htup hsz kp=>?_
  have eu:u'=u:=by
   have hu2:its[i]?=some u':=by simpa using hu'
   rw[hu]at hu2
   exact(Option.some.inj hu2).symm
  subst eu
  obtain⟨hit1,_⟩:=hst1
  refine⟨_,rfl,wpAny_letOwnedTupleGo_enum heo fun h2 he2 sb2=>?_⟩
  have hen:s.heap.objs.size≠e:=Ne.symm (Nat.ne_of_lt (Heap.lt_size he))
  have hitn:s.heap.objs.size≠it:=by
   obtain⟨o,ho,_⟩:=hit.obj
   exact Ne.symm (Nat.ne_of_lt (Heap.lt_size ho))
  have kp2:∀b o,b∉[e,it]->s.heap.get? b=some o->h2.get? b=some o:=fun b o hb q=>by
   simp only[List.mem_cons,List.not_mem_nil,or_false,not_or]at hb
   exact(sb2.2 b hb.1).trans (kp b o hb.1 hb.2 q)
  have hnew:h2.get? s.heap.objs.size=some {cls:=.type "tuple",data:=.seq #[.int i tk,u']}:=(sb2.2 _ hen).trans htup
  have nt:∀b v,H b=some v->b∉[e,it]:=fun b v q hb=>by
   simp only[List.mem_cons,List.not_mem_nil,or_false]at hb
   rcases hb with z|z
   ·rw[z,f1.1]at q;cases q
   ·rw[z,f2.1]at q;cases q
  have hfr:=I.fresh
  have U:Un (frs X.stack) [e,it] H (upd H s.heap.objs.size (.tup [.int (i:Int),x])) s.heap h2:=
   {keep:=fun b o q _ _ hb=>kp2 b o hb q
    slot:=fun b o q _ _ hb=>⟨o.slots,kp2 b o hb q⟩
    free:=fun b o q n _=>by rw[jaj (Nat.ne_of_lt (Heap.lt_size q))];exact n
    there:=fun b o q hb=>⟨o,kp2 b o hb q⟩
    tups:=fun b xs q=>by rw[jaj (jak q hfr)];exact q
    frzs:=fun b o xs q=>by rw[jaj (jak q hfr)];exact q
    tbls:=fun b ps q=>⟨#[],by rw[jaj (jak q hfr),q];simp⟩}
  have hok:HOk X.prog X.w (upd H s.heap.objs.size (.tup [.int (i:Int),x])) h2:=fun b v q=>by
   by_cases hb:b=s.heap.objs.size
   ·subst hb
    rw[jaC]at q
    cases q
    exact⟨by show 2<=sizeLine;decide,[.int i tk,u'],.cons ⟨_,rfl⟩ (.cons ru .nil),_,hnew,rfl,_,rfl⟩
   ·rw[jaj hb]at q
    refine(I.hok b v q).stay (fun c v' hc' r=>kp2 c v' ?_ r) (fun c r=>by rw[jaj (jak r hfr)];exact r) fun c ys r=>by rw[jaj (jak r hfr)];exact r
    rcases hc' with z|z
    ·rw[z];exact nt b v q
    ·exact nt c _ z
  have I2:Inv X pins σ (upd H s.heap.objs.size (.tup [.int (i:Int),x])) {s with heap:=h2,toks:=tk+1}:=I.call' rfl U hok I.bare fun b hb=>by
   obtain⟨g0,g1,g2,g3,g4,g5⟩:=hf b hb
   exact⟨g3,g1,g4,g5⟩
  refine⟨.ref s.heap.objs.size,_,I2,rfl,⟨_,x,rfl,hfr,rfl,fun ys hy=>by rw[I.sqb_inj hy hq];exact hx⟩,⟨⟨u',?_⟩,?_⟩,fun b hb=>?_⟩
  ·have e1:((i+1:Nat):Int)=(i:Int)+1:=by omega
   rw[e1]
   exact he2
  ·exact hit1.keep fun o q=>(sb2.2 it (Ne.symm hne)).trans q
  ·rw[jaj (by
    simp only[List.mem_cons,List.not_mem_nil,or_false]at hb
    rcases hb with z|z
    ·rw[z];exact Ne.symm hen
    ·rw[z];exact Ne.symm hitn)]
   exact(hf b hb).1
 done:=by
  intro X hP hw hK hc i pins s σ H E I hf st hg
  subst hP hw hK
  obtain⟨xs,hq,hx⟩:=hg
  obtain⟨⟨old,he⟩,hit⟩:=st
  obtain⟨its,rv,p,hz⟩:=I.sqb hq
  obtain⟨f0,f1,f2,f3,f4,f5⟩:=hf it (by simp)
  have hl:=rv.length
  have e0:i=its.toArray.size:=by simp;omega
  exact wpAny_pyNext_enum_endD (jlG (prog:=X.prog) (w:=X.w) (A:=X.A.in1) (b:=b) (I.ok.hd hc) it a hai its.toArray) he ⟨e0▸hit,p⟩ fun h' eb=>⟨rfl,I.turned (t':=s.toks) (fun b o hb e=>eb b o hb e) f0 f1 f3 f4 f5⟩
 self:=fun _ _ _ _ _ st h=>by
  obtain⟨⟨old,he⟩,_⟩:=st
  exact wpAny_pyIter_enum he h
section
variable {X:Cx}
noncomputable def juF (K:PySem.W.Frag)(ta:TA):TI:=fun σ H R=>ta σ H fun vs H1=>∃a b,vs=[.ref a]/\(∃xs,SqB b K H1 a xs)/\R (jw5 b K a) H1
theorem jnq {a:Expr} {ta:TA} {p pos:Pos} {elts:List Expr} {x1:Nat} {tpos:Pos} (hg:Gl X "enumerate") (hm:X.mg "enumerate" =none) (ha:PA X [a] ta) (hs:starEach [a] X.env=[(false,eval a X.env)]:=by rfl):PI X (.Tuple elts x1 tpos) (.Call (.Name "enumerate" p) [a] [] pos) (juF X.K ta):=by
 intro pins s σ H R I h
 refine Call_ (jfQ I hg hm jhK (PyProof.Rows.callWith_type1 (thn (ha pos pins s σ H _ I h) fun us s1 ⟨vs,H1,I1,r1,q1⟩=>?_) hs rfl))
 obtain⟨l,b,e,⟨xs,hq⟩,q⟩:=q1
 subst e
 obtain⟨u,rfl,ru⟩:=r1.one
 cases ru
 obtain⟨its,rv,pl,hz⟩:=I1.sqb hq
 have ll:l<s1.heap.objs.size:=by obtain⟨_,e⟩:=pl.obj;exact Heap.lt_size e
 refine jiW pl fun h' he hit kp=>wpAny_pyIter_enum he ?_
 refine⟨s1.heap.objs.size+1,[s1.heap.objs.size+1,s1.heap.objs.size],_,_,H1,rfl,I1.kept (t':=s1.toks) kp,jkh l _ _ (Ne.symm (Nat.ne_of_lt (Nat.lt_succ_self _))) (Nat.ne_of_lt (Nat.lt_succ_of_lt ll)) (Nat.ne_of_lt ll),⟨⟨_,he⟩,hit⟩,fun b hb=>?_,q⟩
 have hb':b=s1.heap.objs.size+1∨b=s1.heap.objs.size:=by simpa using hb
 have hle:s1.heap.objs.size<=b:=by
  rcases hb' with z|z
  ·rw[z];exact Nat.le_succ _
  ·rw[z];exact Nat.le_refl _
 exact I1.fpOk hle (I1.hok.fresh hle)
end
theorem jmt {b1 b2:Bool}{P:Program}{w:World}{K:PySem.W.Frag}{elts:List Expr}{x1:Nat}{tpos:Pos}(a b z TI TO i1 i2:Addr)(D:ZipApart z TI TO i1 i2 a b) :
  Turn P w K (.Tuple elts x1 tpos) (jx b1 b2 K a b) [z,TI,TO,i1,i2] z (fun i h=>IsZip h z TI TO .none/\IsPair h TI (.ref i1) (.ref i2)/\(∃c d,IsPair h TO c d)/\iAt b1 h i1 a i/\iAt b2 h i2 b i) where
 mem:=by simp
 obj:=fun i h st c hc=>by
  obtain⟨hz,hTI,⟨_,_,hTO⟩,h1,h2⟩:=st
  obtain⟨o1,ho1,hd1⟩:=h1.obj
  obtain⟨o2,ho2,hd2⟩:=h2.obj
  simp only[List.mem_cons,List.not_mem_nil,or_false]at hc
  rcases hc with e|e|e|e|e
  ·subst e
   exact⟨_,hz,fun v q=>by have q':Data.fields _=Data.cell v:=q;cases q'⟩
  ·subst e
   exact⟨_,hTI,fun v q=>by have q':Data.seq _ _=Data.cell v:=q;cases q'⟩
  ·subst e
   exact⟨_,hTO,fun v q=>by have q':Data.seq _ _=Data.cell v:=q;cases q'⟩
  ·subst e
   exact⟨o1,ho1,hd1⟩
  ·subst e
   exact⟨o2,ho2,hd2⟩
 keep:=fun i h h' st k=>by
  obtain⟨hz,hTI,⟨c,d,hTO⟩,h1,h2⟩:=st
  exact⟨k z (by simp) _ hz,k TI (by simp) _ hTI,⟨c,d,k TO (by simp) _ hTO⟩,h1.keep fun o q=>k i1 (by simp) o q,h2.keep fun o q=>k i2 (by simp) o q⟩
 item:=by
  intro X hP hw hK hc i pins s σ H E I hf st hg
  subst hP hw hK
  obtain⟨xs,ys,x,y,hq1,hq2,hx,hy⟩:=hg
  obtain⟨hz,hTI,⟨c,d,hTO⟩,h1,h2⟩:=st
  obtain⟨its1,rv1,p1,_⟩:=I.sqb hq1
  obtain⟨its2,rv2,p2,_⟩:=I.sqb hq2
  obtain⟨u1,hu1,ru1⟩:=rv1.get hx
  obtain⟨u2,hu2,ru2⟩:=rv2.get hy
  have fz:=hf z (by simp)
  have fTI:=hf TI (by simp)
  have fTO:=hf TO (by simp)
  have f1:=hf i1 (by simp)
  have f2:=hf i2 (by simp)
  refine jlk D hz hTI hTO h1 h2 p1 p2 (x:=u1) (y:=u2) (by simpa using hu1) (by simpa using hu2) fun h3 hz3 hTO3 h13 h23 hT3 kp=>?_
  refine⟨_,rfl,wpAny_letOwnedTupleGo_zip hz3 fun h4 hz4 sb4=>?_⟩
  have hzn:s.heap.objs.size≠z:=Ne.symm (Nat.ne_of_lt (Heap.lt_size hz))
  have hTIn:s.heap.objs.size≠TI:=Ne.symm (Nat.ne_of_lt (Heap.lt_size hTI))
  have hTOn:s.heap.objs.size≠TO:=Ne.symm (Nat.ne_of_lt (Heap.lt_size hTO))
  have h1n:s.heap.objs.size≠i1:=by
   obtain⟨o,ho,_⟩:=h1.obj
   exact Ne.symm (Nat.ne_of_lt (Heap.lt_size ho))
  have h2n:s.heap.objs.size≠i2:=by
   obtain⟨o,ho,_⟩:=h2.obj
   exact Ne.symm (Nat.ne_of_lt (Heap.lt_size ho))
  have kp2:∀b o,b∉[z,TI,TO,i1,i2]->s.heap.get? b=some o->h4.get? b=some o:=fun b o hb q=>by
   simp only[List.mem_cons,List.not_mem_nil,or_false,not_or]at hb
   exact(sb4.2 b hb.1).trans (kp b o hb.1 hb.2.2.1 hb.2.2.2.1 hb.2.2.2.2 q)
  have hnew:h4.get? s.heap.objs.size=some {cls:=.type "tuple",data:=.seq #[u1,u2]}:=(sb4.2 _ hzn).trans hT3
  have nt:∀b v,H b=some v->b∉[z,TI,TO,i1,i2]:=fun b v q hb=>by
   simp only[List.mem_cons,List.not_mem_nil,or_false]at hb
   rcases hb with e|e|e|e|e
   ·rw[e,fz.1]at q;cases q
   ·rw[e,fTI.1]at q;cases q
   ·rw[e,fTO.1]at q;cases q
   ·rw[e,f1.1]at q;cases q
   ·rw[e,f2.1]at q;cases q
  have hfr:=I.fresh
  have U:Un (frs X.stack) [z,TI,TO,i1,i2] H (upd H s.heap.objs.size (.tup [x,y])) s.heap h4:=
   {keep:=fun b o q _ _ hb=>kp2 b o hb q
    slot:=fun b o q _ _ hb=>⟨o.slots,kp2 b o hb q⟩
    free:=fun b o q n _=>by rw[jaj (Nat.ne_of_lt (Heap.lt_size q))];exact n
    there:=fun b o q hb=>⟨o,kp2 b o hb q⟩
    tups:=fun b xs q=>by rw[jaj (jak q hfr)];exact q
    frzs:=fun b o xs q=>by rw[jaj (jak q hfr)];exact q
    tbls:=fun b ps q=>⟨#[],by rw[jaj (jak q hfr),q];simp⟩}
  have hok:HOk X.prog X.w (upd H s.heap.objs.size (.tup [x,y])) h4:=fun b v q=>by
   by_cases hb:b=s.heap.objs.size
   ·subst hb
    rw[jaC]at q
    cases q
    exact⟨by show 2<=sizeLine;decide,[u1,u2],.cons ru1 (.cons ru2 .nil),_,hnew,rfl,_,rfl⟩
   ·rw[jaj hb]at q
    refine(I.hok b v q).stay (fun c v' hc' r=>kp2 c v' ?_ r) (fun c r=>by rw[jaj (jak r hfr)];exact r) fun c ys r=>by rw[jaj (jak r hfr)];exact r
    rcases hc' with e|e
    ·rw[e];exact nt b v q
    ·exact nt c _ e
  have I2:Inv X pins σ (upd H s.heap.objs.size (.tup [x,y])) {s with heap:=h4}:=I.call' rfl U hok I.bare fun b hb=>by
   obtain⟨g0,g1,g2,g3,g4,g5⟩:=hf b hb
   exact⟨g3,g1,g4,g5⟩
  refine⟨.ref s.heap.objs.size,_,I2,rfl,⟨_,x,y,rfl,hfr,rfl,fun ys hy=>by rw[I.sqb_inj hy hq1];exact hx,fun ys hy'=>by rw[I.sqb_inj hy' hq2];exact hy⟩,⟨hz4,?_,⟨u1,u2,?_⟩,?_,?_⟩,fun b hb=>?_⟩
  ·exact(sb4.2 TI D.TIz).trans (kp TI _ D.TIz D.TITO D.TIi1 D.TIi2 hTI)
  ·exact(sb4.2 TO D.TOz).trans hTO3
  ·exact h13.keep fun o q=>(sb4.2 i1 D.i1z).trans q
  ·exact h23.keep fun o q=>(sb4.2 i2 D.i2z).trans q
  ·rw[jaj (by
    simp only[List.mem_cons,List.not_mem_nil,or_false]at hb
    rcases hb with e|e|e|e|e
    ·rw[e];exact Ne.symm hzn
    ·rw[e];exact Ne.symm hTIn
    ·rw[e];exact Ne.symm hTOn
    ·rw[e];exact Ne.symm h1n
    ·rw[e];exact Ne.symm h2n)]
   exact(hf b hb).1
 done:=by
  intro X hP hw hK hc i pins s σ H E I hf st hg
  subst hP hw hK
  obtain⟨xs,ys,hq1,hq2,hx⟩:=hg
  obtain⟨hz,hTI,⟨c,d,hTO⟩,h1,h2⟩:=st
  obtain⟨its1,rv1,p1,_⟩:=I.sqb hq1
  obtain⟨its2,rv2,p2,_⟩:=I.sqb hq2
  have hl1:=rv1.length
  have hl2:=rv2.length
  have fz:=hf z (by simp)
  have fTI:=hf TI (by simp)
  have fTO:=hf TO (by simp)
  have f1:=hf i1 (by simp)
  have f2:=hf i2 (by simp)
  refine jpr (I.ok.hd hc) D hz hTI hTO h1 h2 p1 p2 (by
   rcases hx with e|e
   ·left;simp;omega
   ·right;simp;omega) fun h4 kp=>⟨rfl,?_⟩
  have kp2:∀b o,b∉[z,TI,TO,i1,i2]->s.heap.get? b=some o->h4.get? b=some o:=fun b o hb q=>by
   simp only[List.mem_cons,List.not_mem_nil,or_false,not_or]at hb
   exact kp b o hb.1 hb.2.2.1 hb.2.2.2.1 hb.2.2.2.2 q
  have nt:∀b v,H b=some v->b∉[z,TI,TO,i1,i2]:=fun b v q hb=>by
   simp only[List.mem_cons,List.not_mem_nil,or_false]at hb
   rcases hb with e|e|e|e|e
   ·rw[e,fz.1]at q;cases q
   ·rw[e,fTI.1]at q;cases q
   ·rw[e,fTO.1]at q;cases q
   ·rw[e,f1.1]at q;cases q
   ·rw[e,f2.1]at q;cases q
  have U:Un (frs X.stack) [z,TI,TO,i1,i2] H H s.heap h4:=
   {keep:=fun b o q _ _ hb=>kp2 b o hb q
    slot:=fun b o q _ _ hb=>⟨o.slots,kp2 b o hb q⟩
    free:=fun b o q n _=>n
    there:=fun b o q hb=>⟨o,kp2 b o hb q⟩
    tups:=fun b xs q=>q
    frzs:=fun b o xs q=>q
    tbls:=fun b ps q=>⟨#[],by rw[q];simp⟩}
  have hok:HOk X.prog X.w H h4:=fun b v q=>by
   refine(I.hok b v q).stay (fun c v' hc' r=>kp2 c v' ?_ r) (fun c r=>r) fun c ys r=>r
   rcases hc' with e|e
   ·rw[e];exact nt b v q
   ·exact nt c _ e
  exact I.call' rfl U hok I.bare fun b hb=>by
   obtain⟨g0,g1,g2,g3,g4,g5⟩:=hf b hb
   exact⟨g3,g1,g4,g5⟩
 self:=fun _ _ _ _ _ st h=>wpAny_pyIter_zip st.1 h
section
variable {X:Cx}
noncomputable def jty (K:PySem.W.Frag)(ta:TA):TI:=fun σ H R=>ta σ H fun vs H1=>∃a b b1 b2,vs=[.ref a,.ref b]/\(∃xs,SqB b1 K H1 a xs)/\(∃ys,SqB b2 K H1 b ys)/\R (jx b1 b2 K a b) H1
theorem jp6 {a b:Expr} {ta:TA} {p pos:Pos} {elts:List Expr} {x1:Nat} {tpos:Pos} (hg:Gl X "zip") (hm:X.mg "zip" =none) (ha:PA X [a,b] ta) (hs:starEach [a,b] X.env=[(false,eval a X.env),(false,eval b X.env)]) (hs2:starEach [b] X.env=[(false,eval b X.env)]) :
  PI X (.Tuple elts x1 tpos) (.Call (.Name "zip" p) [a,b] [] pos) (jty X.K ta):=by
 intro pins s σ H R I h
 refine Call_ (jfQ I hg hm ju4 (PyProof.Rows.callWith_type1 (thn (ha pos pins s σ H _ I h) fun us s1 ⟨vs,H1,I1,r1,q1⟩=>?_) (by rw[hs,hs2]) (by rw[hs2];rfl)))
 obtain⟨l1,l2,b1,b2,e,⟨xs,hq1⟩,⟨ys,hq2⟩,q⟩:=q1
 subst e
 obtain⟨u1,u2,rfl,ru1,ru2⟩:=r1.two
 cases ru1
 cases ru2
 obtain⟨its1,rv1,p1,_⟩:=I1.sqb hq1
 obtain⟨its2,rv2,p2,_⟩:=I1.sqb hq2
 have a1:l1<s1.heap.objs.size:=by obtain⟨_,e⟩:=p1.obj;exact Heap.lt_size e
 have a2:l2<s1.heap.objs.size:=by obtain⟨_,e⟩:=p2.obj;exact Heap.lt_size e
 refine jkN p1 p2 fun h' hz hTI hTO h1 h2 kp=>wpAny_pyIter_zip hz ?_
 refine⟨s1.heap.objs.size+4,[s1.heap.objs.size+4,s1.heap.objs.size+2,s1.heap.objs.size+3,s1.heap.objs.size,s1.heap.objs.size+1],_,_,H1,rfl,I1.kept (t':=s1.toks) kp,jmt l1 l2 _ _ _ _ _ (zipApart_new a1 a2),⟨hz,hTI,⟨_,_,hTO⟩,h1,h2⟩,fun b hb=>?_,q⟩
 have hle:s1.heap.objs.size<=b:=by
  simp only[List.mem_cons,List.not_mem_nil,or_false]at hb
  rcases hb with e|e|e|e|e<;>rw[e]
  ·exact Nat.le_add_right _ 4
  ·exact Nat.le_add_right _ 2
  ·exact Nat.le_add_right _ 3
  ·exact Nat.le_refl _
  ·exact Nat.le_add_right _ 1
 exact I1.fpOk hle (I1.hok.fresh hle)
theorem jsu {a b:Expr} {t:TA} {p pos:Pos} {elts:List Expr} {x1:Nat} {tpos:Pos} (hg:jbI X.env.scope "zip" =true) (hm:X.mg "zip" =none) (ha:QA X [a,b] t) (hs:jai [a,b]=true:=by rfl):QI X (.Tuple elts x1 tpos) (.Call (.Name "zip" p) [a,b] [] pos) (jty X.K t):=by
 have h1:=hs
 unfold jai at h1
 simp only[List.all_cons,Bool.and_eq_true]at h1
 refine⟨jp6 (jan hg).1 hm ha.h ?_ (jaK h1.2.1)⟩
 rw[jaK h1.1,jaK h1.2.1]
 rfl
end
end _L2
namespace _L2
open PySem PySem.Spec PyProof.Rows
section
variable {κ:Type} [DecidableEq κ]
noncomputable def jkU (kvs:List (κ×V))(k:κ):Option V:=(kvs.find? fun kv=>decide (kv.1=k)).map (·.2)
noncomputable def ju7 (kvs:List (κ×V))(k:κ):List (κ×V):=kvs.filter fun kv=>decide (kv.1≠k)
theorem jhB {p:κ×V}{r:List (κ×V)}{k:κ}(e:p.1=k):jkU (p::r) k=some p.2:=by simp[jkU,List.find?_cons,e]
theorem jg9 {p:κ×V}{r:List (κ×V)}{k:κ}(e:¬ p.1=k):jkU (p::r) k=jkU r k:=by simp[jkU,List.find?_cons,e]
theorem jhH.isSome_eq {o:Option V}{u:Option Value}(r:jhH o u):o.isSome=u.isSome:=by
 cases o with
 |none=>cases u with
  |none=>rfl
  |some _=>exact(show False from r).elim
 |some _=>cases u with
  |none=>exact(show False from r).elim
  |some _=>rfl
theorem jhH.getD {o:Option V}{u:Option Value}{d:V}{d':Value}(r:jhH o u)(rd:ja0 d d'):ja0 (o.getD d) (u.getD d'):=by
 cases o with
 |none=>cases u with
  |none=>exact rd
  |some _=>exact(show False from r).elim
 |some _=>cases u with
  |none=>exact(show False from r).elim
  |some _=>exact r
theorem KV.val {kvs:List (κ×V)}{vs:List (κ×Value)}(r:KV kvs vs)(k:κ):jhH (jkU kvs k) (valueAt vs k):=by
 unfold KV at r
 induction r with
 |nil=>exact True.intro
 | @cons p q ps qs h t ih=>
  obtain⟨h1,h2⟩:=h
  by_cases e:p.1=k
  ·have e':q.1=k:=h1.symm.trans e
   have b:valueAt (q::qs) k=some q.2:=by simp[valueAt,List.find?_cons,e']
   rw[jhB e,b];exact h2
  ·have e':¬ q.1=k:=fun z=>e (h1.trans z)
   have b:valueAt (q::qs) k=valueAt qs k:=by simp[valueAt,List.find?_cons,e']
   rw[jg9 e,b];exact ih
theorem KV.any {kvs:List (κ×V)}{vs:List (κ×Value)}(r:KV kvs vs)(k:κ):(kvs.any fun kv=>decide (kv.1=k))=vs.any fun kv=>decide (kv.1=k):=by
 unfold KV at r
 induction r with
 |nil=>rfl
 |cons h t ih=>rw[List.any_cons,List.any_cons,ih,h.1]
theorem KV.drop {kvs:List (κ×V)}{vs:List (κ×Value)}(r:KV kvs vs)(k:κ):KV (ju7 kvs k) (without vs k):=by
 unfold KV at r ⊢
 unfold ju7 without
 induction r with
 |nil=>exact .nil
 | @cons p q ps qs h t ih=>
  obtain⟨h1,h2⟩:=h
  rw[List.filter_cons,List.filter_cons]
  by_cases e:p.1=k
  ·have a:¬ decide (p.1≠k)=true:=by simp[e]
   have b:¬ decide (q.1≠k)=true:=by simp[h1.symm.trans e]
   rw[if_neg a,if_neg b];exact ih
  ·have e':¬ q.1=k:=fun z=>e (h1.trans z)
   have a:decide (p.1≠k)=true:=by simp[e]
   have b:decide (q.1≠k)=true:=by simp[e']
   rw[if_pos a,if_pos b];exact .cons ⟨h1,h2⟩ ih
theorem KV.keys {kvs:List (κ×V)}{vs:List (κ×Value)}(r:KV kvs vs):kvs.map (·.1)=vs.map (·.1):=by
 unfold KV at r
 induction r with
 |nil=>rfl
 |cons h t ih=>rw[List.map_cons,List.map_cons,ih,h.1]
theorem KV.length {kvs:List (κ×V)}{vs:List (κ×Value)}(r:KV kvs vs):kvs.length=vs.length:=Paired.length r
end
theorem joB {P:Program}{w:World}{k:Key}{u:Value}(r:ja0 (kV k) u):(jcj P w).is k u=true:=by
 cases k with
 |inl i=>obtain⟨t,e⟩:=(show ∃t,u=Value.int i t from r);subst e;exact jiM P w i t
 |inr x=>obtain⟨t,e⟩:=(show ∃t,u=Value.str x t from r);subst e;exact jjb P w x t
theorem jhY {P:Program}{w:World}:∀{ks:List Key} {us:List Value},jaZ (ks.map kV) us->ItemsAre (jcj P w) ks us
 |[],_,r=>by rw[List.map_nil]at r;cases r;exact .nil
 |k::ks,_,r=>by
  rw[List.map_cons]at r
  cases r with
  |cons h t=>exact .cons (joB h) (jhY t)
noncomputable abbrev KT (H:Hp):List (List Key×V)->List (List Key×Addr×Value)->Prop:=Paired fun p q=>p.1=q.1/\H q.2.1=some (.tup (p.1.map kV))/\ja0 p.2 q.2.2
theorem KT.val {H:Hp}{kvs:List (List Key×V)}{xs:List (List Key×Addr×Value)}(r:KT H kvs xs)(k:List Key):jhH (jkU kvs k) ((atKey xs k).map (·.2)):=by
 induction r with
 |nil=>exact True.intro
 | @cons p q ps qs h t ih=>
  obtain⟨h1,_,h2⟩:=h
  by_cases e:p.1=k
  ·have e':q.1=k:=h1.symm.trans e
   have b:atKey (q::qs) k=some q.2:=by simp[atKey,List.find?_cons,e']
   rw[jhB e,b];exact h2
  ·have e':¬ q.1=k:=fun z=>e (h1.trans z)
   have b:atKey (q::qs) k=atKey qs k:=by simp[atKey,List.find?_cons,e']
   rw[jg9 e,b];exact ih
theorem KT.keeps {H H':Hp}{kvs:List (List Key×V)}{xs:List (List Key×Addr×Value)}(r:KT H kvs xs)(ht:∀b ys,H b=some (.tup ys)->H' b=some (.tup ys)):KT H' kvs xs:=
 Paired.mapP r fun _ _ z=>⟨z.1,ht _ _ z.2.1,z.2.2⟩
section
variable {P:Program} {w:World} {H:Hp} {h:Heap} {a:Addr}
theorem jub {u:HO}(ok:HOk P w H h)(e:Rd H a u):jbX P w H h a u:=e.ok ok
theorem jnM {kvs:List (Key×V)}(ok:HOk P w H h)(e:Rd H a (.dK kvs)):kvs.length<=sizeLine/\(a==sysModules)=false/\∃vs,KV kvs vs/\h.DictOf (jcj P w) a vs:=
 show jbX P w H h a (.dK kvs)from jub ok e
theorem jjK {ks:List Key}(ok:HOk P w H h)(e:H a=some (.tup (ks.map kV))):(tupleKind (jcj P w)).is h ks a:=by
 obtain⟨_,its,r,o,h1,h2,n,h3⟩:=(show jbX P w H h a (.tup (ks.map kV))from ok a _ e)
 exact⟨o,its.toArray,n,h1,h2,h3,by simpa using jhY r⟩
theorem joZ {kvs:List (List Key×V)}(ok:HOk P w H h)(e:Rd H a (.dT kvs)):kvs.length<=sizeLine/\(a==sysModules)=false /\
  ∃xs,KT H kvs xs/\h.DictOfH (tupleKind (jcj P w)) a xs:=by
 obtain⟨z,y,xs,r,o,es,ep,h1,h2,h3,h4,h5⟩:=(show jbX P w H h a (.dT kvs)from jub ok e)
 refine⟨z,y,xs,r,o,es,ep,h1,h2,h3,h4,fun x hx=>?_,h5⟩
 have all:∀{l:List (List Key×V)} {m:List (List Key×Addr×Value)},KT H l m->∀x∈m,(tupleKind (jcj P w)).is h x.1 x.2.1:=by
  intro l m q
  induction q with
  |nil=>intro x hx;exact nomatch hx
  | @cons p q ps qs hq t ih=>
   intro x hx
   rcases List.mem_cons.mp hx with e|hx
   ·subst e
    exact jjK ok (by rw[<- hq.1];exact hq.2.1)
   ·exact ih x hx
 exact all r x hx
end
noncomputable def jsK (H:Hp)(a:Addr)(y:V)(r:Option V):Prop:=
 (∃kvs k,Rd H a (.dK kvs)/\y=kV k/\r=jkU kvs k)∨∃kvs k b,Rd H a (.dT kvs)/\y=.ref b/\H b=some (.tup (k.map kV))/\r=jkU kvs k
section
variable {X:Cx} {pins:List (Addr×Obj)} {σ:St} {H:Hp} {s:Shared} {a:Addr} {y v:V} {u r:Value} {o:Option V} {A:Around} {E:Value->Shared->Prop}
theorem jm4 {Q:Value->Shared->Prop}(hu:A.units+1<cLine)(I:Inv X pins σ H s)(g:jsK H a y (some v))(ry:ja0 y u)(h:∀w' s',Inv X pins σ H s'->ja0 v w'->Q w' s') :
  wpAny (model X.prog X.w) A (getItem (.ref a) u) Q E s:=by
 rcases g with⟨kvs,k,e,ey,l⟩|⟨kvs,k,b,e,ey,eb,l⟩
 ·subst ey
  obtain⟨z,hd,vs,rel,dd⟩:=jnM I.hok e
  obtain⟨w',hw,rw'⟩:=jhH.some_of (v:=v) (o:=valueAt vs k) (by rw[l];exact rel.val k)
  exact wpAny_getItem_of (joB ry) dd.mapOf hw (h w' _ (I.tok _) rw')
 ·subst ey
  cases(show u=Value.ref b from ry)
  obtain⟨z,hd,xs,rel,dd⟩:=joZ I.hok e
  obtain⟨w',hw,rw'⟩:=jhH.some_of (v:=v) (o:=(atKey xs k).map (·.2)) (by rw[l];exact rel.val k)
  obtain⟨p,hp,hp2⟩:=Option.map_eq_some_iff.mp hw
  refine wpAny_getItem_heap (tupleKind_room_in1 hu) (jjK I.hok eb) dd hp ?_
  rw[hp2]
  exact h w' _ (I.tok _) rw'
theorem jxL {Q:Value->Shared->Prop}(hu:A.units+1<cLine)(I:Inv X pins σ H s)(g:jsK H a y o)(ry:ja0 y u)(h:∀s',Inv X pins σ H s'->Q (.bool o.isSome) s') :
  wpAny (model X.prog X.w) A (compareOp .In u (.ref a)) Q E s:=by
 rcases g with⟨kvs,k,e,ey,l⟩|⟨kvs,k,b,e,ey,eb,l⟩
 ·subst ey
  obtain⟨z,hd,vs,rel,dd⟩:=jnM I.hok e
  refine wpAny_in_of (joB ry) hd dd.mapOf ?_
  rw[<- (rel.val k).isSome_eq,<- l]
  exact h _ (I.tok _)
 ·subst ey
  cases(show u=Value.ref b from ry)
  obtain⟨z,hd,xs,rel,dd⟩:=joZ I.hok e
  refine wpAny_in_heap (tupleKind_room_in1 hu) (jjK I.hok eb) hd dd ?_
  have q:=(rel.val k).isSome_eq
  rw[Option.isSome_map]at q
  rw[<- q,<- l]
  exact h _ (I.tok _)
theorem jqq {Q:Value->Shared->Prop}(hu:A.units+1<cLine)(I:Inv X pins σ H s)(g:jsK H a y o)(ry:ja0 y u)(h:∀s',Inv X pins σ H s'->Q (.bool (!o.isSome)) s') :
  wpAny (model X.prog X.w) A (compareOp .NotIn u (.ref a)) Q E s:=by
 rcases g with⟨kvs,k,e,ey,l⟩|⟨kvs,k,b,e,ey,eb,l⟩
 ·subst ey
  obtain⟨z,hd,vs,rel,dd⟩:=jnM I.hok e
  refine wpAny_notIn_of (joB ry) hd dd.mapOf ?_
  rw[<- (rel.val k).isSome_eq,<- l]
  exact h _ (I.tok _)
 ·subst ey
  cases(show u=Value.ref b from ry)
  obtain⟨z,hd,xs,rel,dd⟩:=joZ I.hok e
  refine wpAny_notIn_heap (tupleKind_room_in1 hu) (jjK I.hok eb) hd dd ?_
  have q:=(rel.val k).isSome_eq
  rw[Option.isSome_map]at q
  rw[<- q,<- l]
  exact h _ (I.tok _)
end
section
variable {X:Cx} {pins:List (Addr×Obj)} {σ:St} {H:Hp} {s:Shared} {a:Addr} {kvs:List (Key×V)} {k:Key} {u:Value} {A:Around} {E:Value->Shared->Prop}
end
theorem jiD {X:Cx}{pins:List (Addr×Obj)}{σ:St}{H:Hp}{s:Shared}{a:Addr}{y:V}{o:Option V}(I:Inv X pins σ H s)(g:jsK H a y o):s.TypeIs (.ref a) "dict":=by
 rcases g with⟨kvs,k,e,_,_⟩|⟨kvs,k,b,e,_,_,_⟩
 ·obtain⟨_,_,vs,_,dd⟩:=jnM I.hok e
  exact dd.typeIs
 ·obtain⟨_,_,xs,_,dd⟩:=joZ I.hok e
  exact dd.typeIs
section
variable {X:Cx} {o i e value:Expr} {pos pos' tpos:Pos} {td ty tv:TE}
end
section
variable {X:Cx} {pos:Pos}
end
structure M1 (X:Cx) (o:Expr) (m:Str) (apos:Pos) (e:Expr) (cpos:Pos):Prop where
 base:attributeBase o m X.env (eval o X.env)=eval o X.env
 few:((backTo cpos (starEach [e] X.env)).all (fun x=>!x.1)&&(backToKw cpos (keywordEach [] X.env)).all (fun x=>x.1.isSome)
  && decide (([e]:List Expr).length+([]:List Keyword).length+(if([]:List Keyword).isEmpty then 0 else 1)<30))=true
 line:(apos.endLine==cpos.line)=true
 trees:backTo cpos (starEach [e] X.env)=[(false,eval e X.env)]
structure M2 (X:Cx) (o:Expr) (m:Str) (apos:Pos) (e f:Expr) (cpos:Pos):Prop where
 base:attributeBase o m X.env (eval o X.env)=eval o X.env
 few:((backTo cpos (starEach [e,f] X.env)).all (fun x=>!x.1)&&(backToKw cpos (keywordEach [] X.env)).all (fun x=>x.1.isSome)
  && decide (([e,f]:List Expr).length+([]:List Keyword).length+(if([]:List Keyword).isEmpty then 0 else 1)<30))=true
 line:(apos.endLine==cpos.line)=true
 trees:backTo cpos (starEach [e,f] X.env)=[(false,eval e X.env),(false,eval f X.env)]
section
variable {X:Cx} {pins:List (Addr×Obj)} {σ:St} {H:Hp} {s:Shared} {a:Addr} {y d:V} {u r:Value} {o:Option V} {A:Around} {E:Value->Shared->Prop}
end
section
variable {X:Cx} {o e f:Expr} {apos cpos:Pos} {td ty tx:TE}
end
section
variable {X:Cx} {pins:List (Addr×Obj)} {σ:St} {H:Hp} {s:Shared} {a:Addr} {kvs:List (Key×V)} {A:Around} {E:Value->Shared->Prop}
end
section
variable {X:Cx} {pins:List (Addr×Obj)} {σ:St} {H:Hp} {s:Shared} {a:Addr} {y:V} {u:Value} {A:Around} {E:Value->Shared->Prop}
end
end _L2
namespace _L2
open PySem PySem.Spec PyProof.Rows
noncomputable def jim (kvs:List (Str×V))(z:Str):Option V:=(kvs.find? fun p=>decide (p.1=z)).map (·.2)
noncomputable def jxg (p:Str×V)(e:DictEntry):Prop:=(∃t,e.key=.str p.1 t)/\ja0 p.2 e.val
structure MD (K:PySem.W.Frag) (W:World) (a:Addr) (kvs:List (Str×V)):Prop where
 ex:∃(es:Array DictEntry) (m:Nat),K.lookup a=some ⟨.type "dict",none,.dict es m,#[]⟩/\PySem.W.KeysLit W.params es.toList/\Paired jxg kvs es.toList
 lo:(a==sysModules)=false
theorem jj0 (z:Str):∀{kvs:List (Str×V)} {l:List DictEntry},Paired jxg kvs l->jhH (jim kvs z) ((l.find? fun e=>Value.isStrOf z e.key).map (·.val))
 |_,_,.nil=>True.intro
 |p::kvs,e::l,.cons h t=>by
  obtain⟨⟨tk,hk⟩,hv⟩:=h
  have e1:Value.isStrOf z e.key=decide (p.1=z):=by rw[hk];rfl
  by_cases c:p.1=z
  ·have a1:jim (p::kvs) z=some p.2:=by simp[jim,List.find?_cons,c]
   have a2:((e::l).find? fun e=>Value.isStrOf z e.key)=some e:=by rw[List.find?_cons,e1,decide_eq_true c]
   rw[a1,a2]
   exact hv
  ·have a1:jim (p::kvs) z=jim kvs z:=by simp[jim,List.find?_cons,c]
   have a2:((e::l).find? fun e=>Value.isStrOf z e.key)=l.find? fun e=>Value.isStrOf z e.key:=by rw[List.find?_cons,e1,decide_eq_false c]
   rw[a1,a2]
   exact jj0 z t
section
variable {X:Cx} {pins:List (Addr×Obj)} {σ:_L2.St} {H:Hp} {s:Shared} {a:Addr} {kvs:List (Str×V)}
theorem MD.map (I:Inv X pins σ H s)(h:MD X.K X.w a kvs):∃f:Str->Option Value,s.heap.MapOf (strKind X.prog X.w) a f/\∀z,jhH (jim kvs z) (f z):=by
 obtain⟨⟨es,m,hl,hk,hp⟩,_⟩:=h
 refine⟨_,PySem.W.mapOf_K (prog:=X.prog) I.kIn hl hk,fun z=>?_⟩
 obtain⟨l⟩:=es
 show jhH (jim kvs z) ((Array.find? (fun e=>Value.isStrOf z e.key) l.toArray).map (·.val))
 rw[List.find?_toArray]
 exact jj0 z hp
theorem MD.ty (I:Inv X pins σ H s)(h:MD X.K X.w a kvs):s.TypeIs (.ref a) "dict"/\∀b,Value.ref a=.ref b->∃ob,s.heap.get? b=some ob/\ob.dict=none:=by
 obtain⟨⟨es,m,hl,_⟩,_⟩:=h
 have g:=I.kIn _ _ hl
 refine⟨⟨_,g,rfl⟩,fun b q=>?_⟩
 cases q
 exact⟨_,g,rfl⟩
end
section
variable {X:Cx}
noncomputable def jsx:R2:=fun x y H Q=>∃a v,x=.ref a/\jsK H a y (some v)/\Q v H
theorem jwi (hu:X.A.units+1<cLine):IxR X jsx:=by
 intro value slice pins s σ H x y v u Q I rx ry h hs
 obtain⟨a,r,rfl,g,q⟩:=h
 cases rx
 exact tail_any (jiD I g) slot_dict_getitem.lookup (jm4 hu I g ry fun w' s' I' rw'=>⟨r,H,I',rw',q⟩) hs
noncomputable def jp8 (neg:Bool):R2:=fun x y H Q=>∃a o,y=.ref a/\jsK H a x o/\Q (.bl (if neg then !o.isSome else o.isSome)) H
theorem jq4 (hu:X.A.units+1<cLine):OpR X (compareOp .In) (jp8 false):=by
 intro pins s σ H x y v u Q I rx ry h
 obtain⟨a,o,rfl,g,q⟩:=h
 cases ry
 exact jxL hu I g rx fun s' I'=>⟨.bl o.isSome,H,I',rfl,q⟩
theorem jku (hu:X.A.units+1<cLine):OpR X (compareOp .NotIn) (jp8 true):=by
 intro pins s σ H x y v u Q I rx ry h
 obtain⟨a,o,rfl,g,q⟩:=h
 cases ry
 exact jqq hu I g rx fun s' I'=>⟨.bl (!o.isSome),H,I',rfl,q⟩
noncomputable def jxt (neg:Bool):R2:=fun x y H Q=>∃c d,x=.bl c/\y=.bl d/\Q (.bl (if neg then c !=d else c==d)) H
theorem js6:OpR X (compareOp .Is) (jxt false):=by
 intro pins s σ H x y v u Q I rx ry h
 obtain⟨c,d,rfl,rfl,q⟩:=h
 cases rx
 cases ry
 exact is_bool ⟨.bl (c==d),H,I,rfl,q⟩
theorem jk2:OpR X (compareOp .IsNot) (jxt true):=by
 intro pins s σ H x y v u Q I rx ry h
 obtain⟨c,d,rfl,rfl,q⟩:=h
 cases rx
 cases ry
 exact isnot_bool ⟨.bl (c !=d),H,I,rfl,q⟩
end
end _L2
namespace _L2
open PySem PySem.Spec PyProof.Rows
noncomputable abbrev jcn (led:Bool):Obj:={cls:=.type "set",dict:=none,data:=.set #[] 0 (.fresh 0 0 led)}
section
variable {P:Program} {W:World} {B:Around} {E:Value->Shared->Prop} {s:Shared} {l:Addr} {zs:List Str} {its:List Value} {b:Bool}
theorem jrj (hh:B.handled=none)(it l:Addr)(hne:l≠it)(items:Array Value):Walks P W B it [it,l] [it] items.size (fun i v=>items[i]?=some v) (fun i h=>iAt b h it l i/\sAt b h l items):=by
 cases b
 ·exact Walks.list hh it l hne items
 ·exact Walks.tuple hh it l hne items
theorem jkk {D:Addr}{led:Bool}{R:Result->Shared->Prop}(hh:B.handled=none)(hS:s.heap.get? D=some (jcn led))(hl:sAt b s.heap l its.toArray)(hD:D≠l)(hi:jaZ (zs.map V.str) its)(hb:zs.length+1<scanBound)
  (k:∀g tk,g.SetOf (strKind P W) D (fun y=>decide (y∈ddS zs)) (ddS zs).length->(∀c o,c≠D->s.heap.get? c=some o->g.get? c=some o)->R (.ok (.ret .none)) {s with heap:=g,toks:=tk}) :
  codeAny (model P W) B (.builtin "set.update.loop" ⟨[.ref D,.ref s.heap.objs.size],[]⟩) R {s with heap:=s.heap.push (jdF b l)}:=by
 have hlen:=hi.length
 rw[List.length_map]at hlen
 have hlt:l<s.heap.objs.size:=let⟨_,e⟩:=hl.obj;Heap.lt_size e
 have hDt:D<s.heap.objs.size:=Heap.lt_size hS
 have W1:=jrj (P:=P) (W:=W) (b:=b) (show B.in1.handled=none by simp[hh]) s.heap.objs.size l (Nat.ne_of_lt hlt) its.toArray
 have ez:its.toArray.size=zs.length:=by rw[List.size_toArray];exact hlen.symm
 rw[ez]at W1
 refine jnL (zs:=zs) W1 D (by
   simp only[List.mem_cons,List.not_mem_nil,or_false,not_or]
   exact⟨Nat.ne_of_lt hDt,hD⟩) (fun i v hv=>?_) hb (zs.length - 0) 0 _ rfl (Nat.zero_le _) ⟨jfg (Heap.get?_push_size _ rfl),sAt.keep hl fun o e=>Heap.get?_push_of_some _ e⟩ ?_ fun g tk' kp hS'=>k g tk' hS' fun c o hc e=>kp c o hc (by simpa using Nat.ne_of_lt (Heap.lt_size e)) (Heap.get?_push_of_some _ e)
 ·have hv':its[i]?=some v:=by simpa using hv
  have hi':i<zs.length:=by rw[hlen];exact(List.getElem?_eq_some_iff.mp hv').1
  obtain⟨u',hu,t,ru⟩:=hi.get (i:=i) (x:=V.str zs[i]) (by simp[hi'])
  rw[hv']at hu
  cases hu
  exact⟨zs[i],t,by simp[hi'],ru⟩
 ·have q:=(PyProof.Rows.setObjOf_fresh (knd:=strKind P W) led).setOf (Heap.get?_push_of_some (jdF b l) hS) (by unfold scanBound;omega)
  have ef:(fun y=>decide (y∈ddS (zs.take 0)))=fun _=>false:=by
   funext y
   simp[ddS]
  rw[ef]
  exact q
theorem jkd {D:Addr}{led:Bool}{Q:Fin->Shared->Prop}(hh:B.handled=none)(hS:s.heap.get? D=some (jcn led))(hl:sAt b s.heap l its.toArray)(hD:D≠l)(hi:jaZ (zs.map V.str) its)(hb:zs.length+1<scanBound)
  (k:∀g tk,g.SetOf (strKind P W) D (fun y=>decide (y∈ddS zs)) (ddS zs).length->(∀c o,c≠D->s.heap.get? c=some o->g.get? c=some o)->Q (.done (.ret .none)) {s with heap:=g,toks:=tk}) :
  wpAny (model P W) B (Builtin.«set.__init__» ⟨[.ref D,.ref l],[]⟩) Q E s:=by
 obtain⟨hp,g0,dr,tk,os⟩:=s
 have hT:(⟨hp,g0,dr,tk,os⟩:Shared).TypeIs (.ref D) "set":=⟨_,hS,rfl⟩
 have fin:wpAny (model P W) B (runValue (.builtin "set.update.loop" ⟨[.ref D,.ref hp.objs.size],[]⟩)) (fun _ s'=>Q (.done (.ret .none)) s') E ⟨hp.push (jdF b l),g0,dr,tk,os⟩:=
  wpAny_runValue (jkk (s:=⟨hp,g0,dr,tk,os⟩) (B:=B) hh hS hl hD hi hb fun g tk' hS' kp=>k g tk' hS' kp)
 have hl0:=hl
 cases b
 all_goals
  obtain⟨⟨c,dd,dt,sl⟩,hol,hc,n,hd⟩:=hl
  cases hc
  cases hd
  have f1:=F.sub_list_set
  have f2:=F.sub_list_frozenset
  have f3:(Value.type "list" ==Value.type "dict")=false:=by decide
  have f4:=F.sub_tuple_set
  have f5:=F.sub_tuple_frozenset
  have f6:(Value.type "tuple" ==Value.type "dict")=false:=by decide
  unfold Builtin.«set.__init__» noKeywords Builtin.Frozenset.updateFrom
  generalize hPI:pyIter=PI
  wp_walk
  subst hPI
  exact jih hl0 (wpAny_bind (wpAny_mono fin (fun _ s' q=>wpAny_pure (wpAny_pure q)) fun _ _ e=>e))
theorem jkR {Q:Value->Shared->Prop}(hh:B.handled=none)(hl:sAt b s.heap l its.toArray)(hi:jaZ (zs.map V.str) its)(hb:zs.length+1<scanBound)
  (k:∀(g:Heap) (tk:Nat),g.SetOf (strKind P W) s.heap.objs.size (fun y=>decide (y∈ddS zs)) (ddS zs).length->(∀c o,s.heap.get? c=some o->g.get? c=some o)->Q (.ref s.heap.objs.size) {s with heap:=g,toks:=tk}) :
  wpAny (model P W) B (call (.type "set") [.ref l]) Q E s:=by
 have hlt:l<s.heap.objs.size:=let⟨_,e⟩:=hl.obj;Heap.lt_size e
 obtain⟨c,tl,g1⟩:=F.called_set.mro
 have g2:=F.called_set.made
 have g3:=F.called_set.sub
 have g4:=F.called_set.notType
 have g5:=F.called_set.canCreate
 have g6:=F.typeCall_set_1 (.ref l)
 have body:∀(led:Bool) (C:Around),C.handled=none->codeAny (model P W) C (.call (.builtin "set.__init__") ⟨[.ref s.heap.objs.size,.ref l],[]⟩) (wants (fun r s2=>r=.none/\Q (.ref s.heap.objs.size) s2) E) {s with heap:=s.heap.push (jcn led)}  :=fun led C hC=>by
  have hS:(s.heap.push (jcn led)).get? s.heap.objs.size=some (jcn led):=Heap.get?_push_size _ rfl
  refine codeAny_call_builtin F.called_set.init.plain F.entry_set_init (check_set_init_1 (s:={s with heap:=s.heap.push (jcn led)}) ⟨_,hS,rfl⟩ ?_)
  exact jkd (s:={s with heap:=s.heap.push (jcn led)}) (by simp[hC]) hS (sAt.keep hl fun o e=>Heap.get?_push_of_some _ e) (Nat.ne_of_gt hlt) hi hb fun g tk hS' kp=>⟨rfl,k g tk hS' fun c o e=>kp c o (Nat.ne_of_lt (Heap.lt_size e)) (Heap.get?_push_of_some _ e)⟩
 refine wpAny_call (codeAny_of_tree ?_)
 show wpAny _ _ (callAny (.type "set") ⟨[.ref l],[]⟩) _ _ _
 refine wpAny_pure ⟨Code.quiet_builtin _ (by decide +kernel),codeAny_builtin F.entry_type_call ?_⟩
 rw[Around.under_plain (weight_type_call_type "set" [.ref l] []) rfl]
 wp_walk
 refine codeAny_mono (code_set_new_1 (.ref l) (E:=E) (Q₁:=fun x s1=>∃led,x=.ref s.heap.objs.size/\s1={s with heap:=s.heap.push (jcn led)}) fun led=>⟨led,rfl,rfl⟩) fun r s1 hr=>?_
 match r,hr with
 |.error e,hr=>exact hr
 |.ok (.ret x),hr=>
  obtain⟨led,rfl,rfl⟩:=hr
  have hS:(s.heap.push (jcn led)).get? s.heap.objs.size=some (jcn led):=Heap.get?_push_size _ rfl
  have hT:Shared.TypeIs {s with heap:=s.heap.push (jcn led)} (.ref s.heap.objs.size) "set":=⟨_,hS,rfl⟩
  have i1:=F.called_set.init.lookup
  have i2:=F.called_set.init.bind (.ref s.heap.objs.size)
  wp_walk
  refine codeAny_mono (body led _ (by simp[hh])) fun r2 s2 hr2=>?_
  match r2,hr2 with
  |.error e,hr2=>exact hr2
  |.ok (.ret y),hr2=>
   obtain⟨rfl,q⟩:=hr2
   wp_walk
   exact q
end
section
variable {X:Cx}
noncomputable def jtZ (K:PySem.W.Frag)(P:Program)(w:World):List V->Hp->VK->Prop:=fun xs H Q=>∃(p:Addr) (ys:List Str),xs=[.ref p]/\(SqL K H p (ys.map V.str)∨SqT K H p (ys.map V.str))/\ys.length<=1000/\∀l,H l=none->Q (.ref l) (upd H l (juL P w l (ddS ys).length))
theorem jmR (hc:X.calm=true):jbR X (.type "set") (jtZ X.K X.prog X.w):=by
 intro pins s σ H xs us Q I r h
 obtain⟨p,ys,rfl,hq,hz,q⟩:=h
 obtain⟨u,rfl,rx⟩:=jgd r
 cases rx
 have fin:∀(b:Bool) (its:List Value),jaZ (ys.map V.str) its->sAt b s.heap p its.toArray->wpAny (model X.prog X.w) X.A (call (.type "set") [.ref p]) (EP X pins σ Q) X.xe s:=fun b its rv pl=>by
  refine jkR (I.ok.hd hc) pl rv (by unfold scanBound;omega) fun h' tk hS kp=>?_
  refine⟨.ref s.heap.objs.size,_,I.laid (t':=tk) (o:=juL X.prog X.w s.heap.objs.size (ddS ys).length) kp (Nat.le_refl _) ⟨⟨_,hS⟩,?_,?_⟩,rfl,q _ I.fresh⟩
  ·obtain⟨o,_,_,_,ho,_⟩:=hS
   exact⟨o,ho⟩
  ·rintro g1 g2 ⟨S,o,es,ep,t,ho,rest⟩ k
   exact⟨S,o,es,ep,t,k o ho,rest⟩
 rcases hq with hq|hq
 ·obtain⟨its,rv,pl,_⟩:=I.list hq
  exact fin false its rv pl.isList
 ·obtain⟨its,rv,pl,_⟩:=I.tuple hq
  exact fin true its rv pl
noncomputable def jlm (K:PySem.W.Frag)(P:Program)(w:World):List V->Hp->VK->Prop:=fun vs H Q=>jtZ K P w vs H fun x H2=>∃(p:Addr) (n:Nat),[x]=[.ref p]/\H2 p=some (juL P w p n)/\n<=1000/\Q (.int n) H2
theorem jl7 {a:Expr} {ta:TA} {p1 p2 p3 p4:Pos} (hc:X.calm=true) (hg1:jbI X.env.scope "len" =true) (hm1:X.mg "len" =none) (hg2:jbI X.env.scope "set" =true) (hm2:X.mg "set" =none) (ha:PA X [a] ta) (hs:jax a=true) :
  PE X (.Call (.Name "len" p1) [.Call (.Name "set" p2) [a] [] p3] [] p4) (fun σ H Q=>ta σ H fun vs H1=>jlm X.K X.prog X.w vs H1 Q):=by
 have h1:=(jmH (jmR hc) hg2 hm2 jt2 ⟨ha⟩ (by unfold jai;simp[hs]):QE X (.Call (.Name "set" p2) [a] [] p3) _)
 have h2:=(jnR jhz hg1 hm1 jpC (jqU h1 jtT):QE X (.Call (.Name "len" p1) [.Call (.Name "set" p2) [a] [] p3] [] p4) _)
 exact h2.h
end
end _L2
namespace _L2
open PySem PySem.Spec PyProof.Rows
section
variable {prog:Program} {w:World} {A:Around} {E:Value->Shared->Prop} {s:Shared}
theorem joQ {M:Model}{a:Addr}{o:Obj}{Q:Option Obj->Shared->Prop}(ho:s.heap.get? a=some o)(q:Q (some o) s):wpAny M A (loadIfAlive a) Q E s:=fun Γ p _=>by
 unfold loadIfAlive
 rw[Sem.wp_loadIfAlive,ho]
 exact q
noncomputable def jsU (h:Heap)(z TI TO:Addr):Prop:=∃(T:Addr) (fl:Bool) (o:Obj),T≠z/\h.get? z=some {cls:=.type "zip",dict:=none,data:=.fields #[rawInt T,.bool fl,.bool false,.ref TI,.ref TO],slots:=#[]}/\h.get? T=some o
noncomputable def jxH (h:Heap)(z TI TO:Addr):Prop:=IsZip h z TI TO .none∨jsU h z TI TO
theorem jjs {z TI TO:Addr}{Q:Bool->Shared->Prop}(h:jsU s.heap z TI TO)(q:∀h',jsU h' z TI TO->(∀c o,c≠z->s.heap.get? c=some o->h'.get? c=some o)->h'.objs.size=s.heap.objs.size->Q false {s with heap:=h'}) :
  wpAny (model prog w) A (Builtin.SmallTypes.ownedTupleIsFree (.ref z)) Q E s:=by
 obtain⟨T,fl,o,hne,hz,hT⟩:=h
 unfold Builtin.SmallTypes.ownedTupleIsFree
 refine wpAny_bind (wpAny_field hz rfl (x:=rawInt T) rfl ?_)
 show wpAny _ _ (loadIfAlive (T:Int).toNat >>=_) _ _ _
 rw[Int.toNat_natCast]
 refine wpAny_bind (joQ hT ?_)
 show wpAny _ _ (field (.ref z) 1 >>=_) _ _ _
 refine wpAny_bind (wpAny_field hz rfl (x:=.bool fl) rfl ?_)
 cases fl with
 |true=>exact wpAny_pure (q s.heap ⟨T,true,o,hne,hz,hT⟩ (fun _ _ _ e=>e) rfl)
 |false=>
  refine wpAny_bind ?_
  show wpAny _ _ (setField (.ref z) 1 (.bool true)) _ _ _
  exact wpAny_setField_rec hz (by simp) fun h' hz' kz=>wpAny_pure (q h' ⟨T,true,o,hne,hz',kz.extBut _ _ hne hT⟩ (fun c o n e=>kz.extBut _ _ n e) kz.1)
theorem jrF {b1 b2:Bool}{z TI TO i1 i2 l1 l2:Addr}{i:Nat}{xs ys:Array Value}{x y:Value}{Q:Option Value->Shared->Prop}(D:ZipApart z TI TO i1 i2 l1 l2)
  (oz:jsU s.heap z TI TO) (oi:IsPair s.heap TI (.ref i1) (.ref i2)) (a1:iAt b1 s.heap i1 l1 i) (a2:iAt b2 s.heap i2 l2 i) (s1:sAt b1 s.heap l1 xs) (s2:sAt b2 s.heap l2 ys) (ex:xs[i]?=some x) (ey:ys[i]?=some y)
  (q:∀h',jsU h' z TI TO->iAt b1 h' i1 l1 (i+1)->iAt b2 h' i2 l2 (i+1)->IsPair h' s.heap.objs.size x y ->
   (∀c o,c≠z->c≠i1->c≠i2->s.heap.get? c=some o->h'.get? c=some o)->Q (some (.ref s.heap.objs.size)) {s with heap:=h'}) :
  wpAny (model prog w) A (pyNext (.ref z)) Q E s:=by
 obtain⟨T,fl,oT,hne,hz,hT⟩:=id oz
 have ty:s.TypeIs (.ref z) "zip":=⟨_,hz,rfl⟩
 unfold pyNext
 refine wpAny_bind (wpAny_attempt (wpAny_callSpecial?_slot (name:=Str.ofString "__next__") ty F.slot_zip_next (wpAny_call_entry F.slot_zip_next ty F.entry_zip_next ?_ (F.args_zip_next_1 _))))
 have fin:∀(w1:Value) (t:Shared),Q (some w1) t->wpAny (model prog w) A (pure (some w1)) Q E t:=fun _ _ z=>wpAny_pure z
 change wpAny _ _ (field (.ref z) 2 >>=_) _ _ _
 refine wpAny_bind (wpAny_field hz rfl (x:=.bool false) rfl ?_)
 change wpAny _ _ (field (.ref z) 3 >>=_) _ _ _
 refine wpAny_bind (wpAny_field hz rfl (x:=.ref TI) rfl (wpAny_bind (wpAny_seqItems oi rfl ?_)))
 change wpAny _ _ (Builtin.SmallTypes.ownedTupleIsFree (.ref z) >>=_) _ _ _
 refine wpAny_bind (jjs oz fun hA zA kA nA=>?_)
 rw[if_neg Bool.false_ne_true]
 have a1A:iAt b1 hA i1 l1 i:=a1.keep fun o e=>kA _ _ D.i1z e
 have a2A:iAt b2 hA i2 l2 i:=a2.keep fun o e=>kA _ _ D.i2z e
 have s1A:sAt b1 hA l1 xs:=s1.keep fun o e=>kA _ _ D.l1z e
 have s2A:sAt b2 hA l2 ys:=s2.keep fun o e=>kA _ _ D.l2z e
 simp only[List.forIn_toArray,List.forIn_cons,List.forIn_nil]
 refine wpAny_bind (wpAny_bind (wpAny_bind (wpAny_holding ?_)))
 change wpAny _ _ (Builtin.SmallTypes.nextOf (.ref i1) >>=_) _ _ _
 refine wpAny_bind (jsS a1A s1A ex fun hB a1B kB=>wpAny_pure (wpAny_pure ?_))
 have a2B:iAt b2 hB i2 l2 i:=a2A.keep fun o e=>kB.extBut _ _ D.i12.symm e
 have s2B:sAt b2 hB l2 ys:=s2A.keep fun o e=>kB.extBut _ _ D.l2i1 e
 refine wpAny_bind (wpAny_bind (wpAny_holding ?_))
 change wpAny _ _ (Builtin.SmallTypes.nextOf (.ref i2) >>=_) _ _ _
 refine wpAny_bind (jsS a2B s2B ey fun hC a2C kC=>wpAny_pure (wpAny_pure (wpAny_pure ?_)))
 refine wpAny_bind (wpAny_newTuple ?_ (by show 2<=sizeLine;decide))
 have nC:hC.objs.size=s.heap.objs.size:=by rw[kC.1,kB.1,nA]
 have kAC:∀c o,c≠i1->c≠i2->hA.get? c=some o->hC.get? c=some o:=fun c o c1 c2 e=>kC.extBut _ _ c2 (kB.extBut _ _ c1 e)
 refine wpAny_pure ⟨_,rfl,fin _ _ ?_⟩
 change Q (some (.ref hC.objs.size)) {s with heap:=hC.push {cls:=.type "tuple",data:=.seq #[x,y]}}
 have new:(hC.push {cls:=.type "tuple",data:=.seq #[x,y]}).get? hC.objs.size=some {cls:=.type "tuple",data:=.seq #[x,y]}:=Heap.get?_push_size _ rfl
 rw[nC]at new ⊢
 have up:∀c o,hC.get? c=some o->(hC.push {cls:=.type "tuple",data:=.seq #[x,y]}).get? c=some o:=fun c o e=>Heap.get?_push_of_some _ e
 obtain⟨T',fl',o',hne',hz',hT'⟩:=zA
 refine q _ ?_ ((a1B.keep fun o e=>kC.extBut _ _ D.i12 e).keep fun o e=>up _ _ e) (a2C.keep fun o e=>up _ _ e) new fun c o c1 c2 c3 e=>up _ _ (kAC _ _ c2 c3 (kA _ _ c1 e))
 have zC:=up _ _ (kAC _ _ D.i1z.symm D.i2z.symm hz')
 by_cases e1:T'=i1
 ·obtain⟨o1,ho1,_⟩:=((a1B.keep fun o e=>kC.extBut _ _ D.i12 e).keep fun o e=>up _ _ e).obj
  exact⟨T',fl',o1,hne',zC,by rw[e1];exact ho1⟩
 ·by_cases e2:T'=i2
  ·obtain⟨o2,ho2,_⟩:=(a2C.keep fun o e=>up _ _ e).obj
   exact⟨T',fl',o2,hne',zC,by rw[e2];exact ho2⟩
  ·exact⟨T',fl',o',hne',zC,up _ _ (kAC _ _ e1 e2 hT')⟩
theorem jt0 {b1 b2:Bool}{z TI TO i1 i2 l1 l2:Addr}{i:Nat}{xs ys:Array Value}{Q:Option Value->Shared->Prop}(hh:A.handled=none)(D:ZipApart z TI TO i1 i2 l1 l2)
  (oz:jsU s.heap z TI TO) (oi:IsPair s.heap TI (.ref i1) (.ref i2)) (a1:iAt b1 s.heap i1 l1 i) (a2:iAt b2 s.heap i2 l2 i) (s1:sAt b1 s.heap l1 xs) (s2:sAt b2 s.heap l2 ys) (ex:xs[i]?=none)
  (q:∀h',(∀c o,c≠z->c≠i1->c≠i2->s.heap.get? c=some o->h'.get? c=some o)->Q none {s with heap:=h'}) :
  wpAny (model prog w) A (pyNext (.ref z)) Q E s:=by
 obtain⟨T,fl,oT,hne,hz,hT⟩:=id oz
 have ty:s.TypeIs (.ref z) "zip":=⟨_,hz,rfl⟩
 have hh1:A.in1.handled=none:=hh
 unfold pyNext
 refine wpAny_bind (wpAny_attempt (wpAny_callSpecial?_slot (name:=Str.ofString "__next__") ty F.slot_zip_next (wpAny_call_entry F.slot_zip_next ty F.entry_zip_next ?_ (F.args_zip_next_1 _))))
 change wpAny _ _ (field (.ref z) 2 >>=_) _ _ _
 refine wpAny_bind (wpAny_field hz rfl (x:=.bool false) rfl ?_)
 change wpAny _ _ (field (.ref z) 3 >>=_) _ _ _
 refine wpAny_bind (wpAny_field hz rfl (x:=.ref TI) rfl (wpAny_bind (wpAny_seqItems oi rfl ?_)))
 change wpAny _ _ (Builtin.SmallTypes.ownedTupleIsFree (.ref z) >>=_) _ _ _
 refine wpAny_bind (jjs oz fun hA zA kA nA=>?_)
 rw[if_neg Bool.false_ne_true]
 have a1A:iAt b1 hA i1 l1 i:=a1.keep fun o e=>kA _ _ D.i1z e
 have s1A:sAt b1 hA l1 xs:=s1.keep fun o e=>kA _ _ D.l1z e
 simp only[List.forIn_toArray,List.forIn_cons,List.forIn_nil]
 refine wpAny_bind (wpAny_bind (wpAny_bind (wpAny_holding ?_)))
 change wpAny _ _ (Builtin.SmallTypes.nextOf (.ref i1) >>=_) _ _ _
 refine wpAny_bind (jff hh1 a1A s1A ex fun hX e kX he=>?_)
 obtain⟨o,ho,hc⟩:=he
 exact wpAny_bind (wpAny_isInstance (T:="StopIteration") (b:=true) ⟨o,ho,hc⟩ isSubtype_stop (wpAny_pure (q _ fun c o c1 c2 _ e=>kX _ _ c2 (kA _ _ c1 e))))
end
section
variable {prog:Program} {w:World} {A:Around} {E:Value->Shared->Prop} {s:Shared} {z:Addr} {vs:Array Value}
end
section
variable {prog:Program} {w:World} {A:Around} {R:Result->Shared->Prop}
structure ZipAt (b1 b2:Bool) (z TI TO i1 i2 l1 l2:Addr) (xs ys:Array Value) (i:Nat) (h:Heap):Prop where
 zs:jxH h z TI TO
 ti:IsPair h TI (.ref i1) (.ref i2)
 to:∃c d,IsPair h TO c d
 a1:iAt b1 h i1 l1 i
 a2:iAt b2 h i2 l2 i
 s1:sAt b1 h l1 xs
 s2:sAt b2 h l2 ys
theorem ZipAt.keep {b1 b2:Bool}{z TI TO i1 i2 l1 l2:Addr}{xs ys:Array Value}{i:Nat}{h h':Heap}{D:Addr}(Z:ZipAt b1 b2 z TI TO i1 i2 l1 l2 xs ys i h)(hz:z≠D)(h2:TI≠D)(h3:TO≠D)(h4:i1≠D)(h5:i2≠D)(h6:l1≠D)(h7:l2≠D)(hD:∃o,h'.get? D=some o)(k:∀c o,c≠D->h.get? c=some o->h'.get? c=some o):ZipAt b1 b2 z TI TO i1 i2 l1 l2 xs ys i h':=by
 refine⟨?_,k _ _ h2 Z.ti,let⟨c,d,e⟩:=Z.to;⟨c,d,k _ _ h3 e⟩,Z.a1.keep fun o e=>k _ _ h4 e,Z.a2.keep fun o e=>k _ _ h5 e,Z.s1.keep fun o e=>k _ _ h6 e,Z.s2.keep fun o e=>k _ _ h7 e⟩
 rcases Z.zs with e|⟨T,fl,o,hne,e,hT⟩
 ·exact .inl (k _ _ hz e)
 ·by_cases c:T=D
  ·obtain⟨o',ho'⟩:=hD
   exact .inr ⟨T,fl,o',hne,k _ _ hz e,by rw[c];exact ho'⟩
  ·exact .inr ⟨T,fl,o,hne,k _ _ hz e,k _ _ c hT⟩
theorem ZipAt.next {E:Value->Shared->Prop}{s:Shared}{b1 b2:Bool}{z TI TO i1 i2 l1 l2:Addr}{xs ys:Array Value}{i:Nat}{x y:Value}{Q:Option Value->Shared->Prop}(D:ZipApart z TI TO i1 i2 l1 l2)(Z:ZipAt b1 b2 z TI TO i1 i2 l1 l2 xs ys i s.heap)(ex:xs[i]?=some x)(ey:ys[i]?=some y)
  (q:∀h',ZipAt b1 b2 z TI TO i1 i2 l1 l2 xs ys (i+1) h'->IsPair h' s.heap.objs.size x y->(∀c o,c≠z->c≠TO->c≠i1->c≠i2->s.heap.get? c=some o->h'.get? c=some o)->Q (some (.ref s.heap.objs.size)) {s with heap:=h'}) :
  wpAny (model prog w) A (pyNext (.ref z)) Q E s:=by
 obtain⟨c,d,hTO⟩:=Z.to
 have hzn:s.heap.objs.size≠z:=by
  rcases Z.zs with e|⟨T,fl,o,hne,e,hT⟩<;>exact Ne.symm (Nat.ne_of_lt (Heap.lt_size e))
 rcases Z.zs with e|e
 ·refine jlk D e Z.ti hTO Z.a1 Z.a2 Z.s1 Z.s2 ex ey fun h' z' o' a1' a2' p' k'=>?_
  exact q h' ⟨.inr ⟨s.heap.objs.size,false,_,hzn,z',p'⟩,k' _ _ D.TIz D.TITO D.TIi1 D.TIi2 Z.ti,⟨_,_,o'⟩,a1',a2',Z.s1.keep fun o e=>k' _ _ D.l1z D.l1TO D.l1i1 D.l1i2 e,Z.s2.keep fun o e=>k' _ _ D.l2z D.l2TO D.l2i1 D.l2i2 e⟩ p' k'
 ·refine jrF D e Z.ti Z.a1 Z.a2 Z.s1 Z.s2 ex ey fun h' z' a1' a2' p' k'=>?_
  exact q h' ⟨.inr z',k' _ _ D.TIz D.TIi1 D.TIi2 Z.ti,⟨c,d,k' _ _ D.TOz D.TOi1 D.TOi2 hTO⟩,a1',a2',Z.s1.keep fun o e=>k' _ _ D.l1z D.l1i1 D.l1i2 e,Z.s2.keep fun o e=>k' _ _ D.l2z D.l2i1 D.l2i2 e⟩ p' fun c o c1 _ c3 c4 e=>k' c o c1 c3 c4 e
theorem ZipAt.stop {E:Value->Shared->Prop}{s:Shared}{b1 b2:Bool}{z TI TO i1 i2 l1 l2:Addr}{xs ys:Array Value}{i:Nat}{Q:Option Value->Shared->Prop}(hh:A.handled=none)(D:ZipApart z TI TO i1 i2 l1 l2)(Z:ZipAt b1 b2 z TI TO i1 i2 l1 l2 xs ys i s.heap)(ex:xs[i]?=none)
  (q:∀h',(∀c o,c≠z->c≠TO->c≠i1->c≠i2->s.heap.get? c=some o->h'.get? c=some o)->Q none {s with heap:=h'}) :
  wpAny (model prog w) A (pyNext (.ref z)) Q E s:=by
 obtain⟨c,d,hTO⟩:=Z.to
 rcases Z.zs with e|e
 ·exact jpr hh D e Z.ti hTO Z.a1 Z.a2 Z.s1 Z.s2 (.inl ex) q
 ·exact jt0 hh D e Z.ti Z.a1 Z.a2 Z.s1 Z.s2 ex fun h' k=>q h' fun c o c1 _ c3 c4 e=>k c o c1 c3 c4 e
end
section
variable {prog:Program} {w:World} {A:Around} {E:Value->Shared->Prop} {s:Shared}
end
section
variable {X:Cx}
end
end _L2
namespace _L2
open PySem PySem.Spec PyProof.Rows
section
variable {X:Cx}
noncomputable def jsW:List V->Hp->VK->Prop:=fun xs H Q=>∃z n,xs=[.str z]/\PySem.intText? z=some n/\z.length<=640/\Q (.int n) H
theorem jlc:jbR X (.type "int") jsW:=by
 intro pins s σ H xs us Q I r h
 obtain⟨z,n,rfl,hn,hz,q⟩:=h
 obtain⟨u,rfl,t,rfl⟩:=jgd r
 exact PySem.W.KIN.call_text hn hz ⟨.int n,H,I.tok _,⟨_,rfl⟩,q⟩
end
end _L2
namespace _L2
open PySem PySem.Spec PyProof.Rows
section
variable {X:Cx}
end
end _L2
namespace _L2
open PySem PySem.Spec PyProof.Rows
section
variable {X:Cx}
noncomputable def jwI (n:Nat)(lo st:Int):List Nat:=sliceRange (max 0 (min lo n)) n st
noncomputable def jsY:R2:=fun x y H Q=>∃z n,x=.str z/\y=.int n/\0<=n/\n<=1000/\z.length<=1000/\Q (.str (Txt.mul z n)) H
theorem jqQ:OpR X (binaryOp .Mult) jsY:=by
 intro pins s σ H x y v u Q I rx ry h
 obtain⟨z,n,rfl,rfl,h0,h1,h2,q⟩:=h
 obtain⟨t,rfl⟩:=rx
 obtain⟨t',rfl⟩:=ry
 have hm:z.length*n.toNat<=1000*1000:=Nat.mul_le_mul h2 (by omega)
 refine PySem.SB.mul ⟨?_,fun hn _=>?_,fun _ _=>?_⟩ fun t2 k=>⟨.str _,H,I.tok _,⟨_,rfl⟩,q⟩
 ·have e1:decide (n < -(2 ^ 63:Int))=false:=decide_eq_false (by omega)
  have e2:decide (n ≥ 2 ^ 63)=false:=decide_eq_false (by omega)
  rw[e1,e2]
  rfl
 ·have hz:(z.length:Int)*n<=2 ^ 63 - 1:=by
   have e:(z.length:Int)*n=((z.length*n.toNat:Nat):Int):=by rw[Int.natCast_mul,Int.toNat_of_nonneg h0]
   rw[e]
   omega
  have:=Int.le_ediv_of_mul_le (show(0:Int)<n by omega) hz
  omega
 ·refine decide_eq_false ?_
  have:(1000*1000:Nat)<=sizeLine:=by decide
  omega
end
end _L2
namespace _L2
open PySem PySem.Spec PyProof.Rows
structure Fly (P:Program) (w:World) (outer:List Env) (H:Hp) (s:Shared) (B:Heap) (a0:Value) (a:Addr) (cls:Value) (H':Hp) (s':Shared):Prop where
 os:s'.os=s.os
 bare:AllBare s'.gens
 fly:Heap.FlyingW B outer a cls a0 s'.heap
 hok:HOk P w H' B
 keep:∀b o,s.heap.get? b=some o->H b=none->b∉frs outer->B.get? b=some o
 slot:∀b o,s.heap.get? b=some o->b∈frs outer->∃sl,s'.heap.get? b=some {o with slots:=sl}
 free:∀b o,s.heap.get? b=some o->H b=none->H' b=none
 there:∀b o,s.heap.get? b=some o->b∉frs outer->∃o',B.get? b=some o'
 tups:∀b xs,H b=some (.tup xs)->H' b=some (.tup xs)
 frzs:∀b o u,H b=some (.frz o u)->H' b=some (.frz o u)
 tbls:∀b ps,H b=some (.tbl ps)->∃more,H' b=some (.tbl (ps++more))
noncomputable def CX1 (P:Program)(w:World):CXT:=fun outer H s E e s'=>∃B a0 a C H',e=.ref a/\Fly P w outer H s B a0 a (.ref C) H' s'/\E (.ref C) none H'
section
variable {P:Program} {w:World} {outer:List Env} {H H':Hp} {s s':Shared} {B:Heap} {a0 cls:Value} {a:Addr}
theorem Fly.un (f:Fly P w outer H s B a0 a cls H' s'):Un (frs outer) [] H H' s.heap s'.heap where
 keep:=fun b o e n hb _=>f.fly.1 b o (f.keep b o e n hb)
 slot:=fun b o e _ hb _=>f.slot b o e hb
 free:=fun b o e n _=>f.free b o e n
 there:=fun b o e _=>by
  by_cases hb:b∈frs outer
  ·obtain⟨sl,q⟩:=f.slot b o e hb
   exact⟨_,q⟩
  ·obtain⟨o',q⟩:=f.there b o e hb
   exact⟨o',f.fly.1 b o' q⟩
 tups:=f.tups
 frzs:=f.frzs
 tbls:=f.tbls
theorem Fly.hok' (f:Fly P w outer H s B a0 a cls H' s'):HOk P w H' s'.heap:=f.hok.kept fun b u e=>f.fly.1 b u e
end
section
variable {X:Cx} {pins:List (Addr×Obj)} {σ:St} {H H':Hp} {s s':Shared} {B:Heap} {a0 cls:Value} {a:Addr}
theorem Fly.inv (f:Fly X.prog X.w X.stack H s B a0 a cls H' s')(I:Inv X pins σ H s):Inv X pins σ H' s':=
 I.call' f.os f.un f.hok' f.bare (fun b z=>absurd z (by simp))
end
theorem juP {P:Program}{w:World}{K:PySem.W.Frag}{mg:Str->Option Value}{base:Heap}{N:List Str}{qual:Str}{scope:Scope}{f:Addr}{cd:Value}{A:Around}{outer:List Env}{s0:Shared}{H0:Hp}{E:XK} :
  jf0 (CX1 P w) (jiZ (CX1 P w) P w K mg base N qual scope f cd A outer s0 H0 E) E:=by
 intro pins σ H s e s' I hx
 obtain⟨B,a0,a,C,H',rfl,fl,hE⟩:=hx
 have fl':=fl
 show wpAny _ _ (leaving _ (.ref a)) _ _ s'
 have hfr:=I.ok.frames
 refine wpAny_leaves_onW hfr rfl fl.fly fun h' hfl hsm=>?_
 have hlt:∀b o,s0.heap.get? b=some o->b≠s0.heap.objs.size:=fun b o e=>Nat.ne_of_lt (Heap.lt_size e)
 have hst:∀b o,s0.heap.get? b=some o->b∉frs outer->b∉frs (envOfC qual scope s0.heap.objs.size f cd::outer):=fun b o e hb hm=>by
  rcases List.mem_cons.mp (show b∈s0.heap.objs.size::frs outer from hm)with q|q
  ·exact hlt b o e q
  ·exact hb q
 refine⟨B,a0,a,C,H',rfl,⟨fl.os.trans I.os,fl.bare,hfl,fl.hok,fun b o e n hb=>?_,fun b o e hb=>?_,fun b o e n=>?_,fun b o e hb=>?_,fun b xs e=>?_,fun b o u e=>?_,fun b ps e=>?_⟩,hE⟩
 ·exact fl.keep b o (I.base.keep b o e n hb (by intro z;cases z)) (I.base.free b o e n (by intro z;cases z)) (hst b o e hb)
 ·obtain⟨sl,q⟩:=I.base.slot b o e (I.ok.frf b hb) hb (by intro z;cases z)
  obtain⟨sl2,q2⟩:=fl.slot b _ q (show b∈s0.heap.objs.size::frs outer from .tail _ hb)
  have nf:∀vs,({o with slots:=sl}:Obj).data≠.fields vs:=by
   obtain⟨_,o',q',nf⟩:=I.ok.funs.mem hb
   have q2:s0.heap.get? b=some o':=q'
   rw[e]at q2
   cases q2
   exact nf
  obtain⟨sl3,q3⟩:=hsm b _ q2 nf
  exact⟨sl3,q3⟩
 ·obtain⟨o',q⟩:=I.base.there b o e (by intro z;cases z)
  have n':=I.base.free b o e n (by intro z;cases z)
  exact fl.free b o' q n'
 ·obtain⟨o',q⟩:=I.base.there b o e (by intro z;cases z)
  exact fl.there b o' q (hst b o e hb)
 ·exact fl.tups b xs (I.base.tups b xs e)
 ·exact fl.frzs b o u (I.base.frzs b o u e)
 ·obtain⟨m1,q1⟩:=I.base.tbls b ps e
  obtain⟨m2,q2⟩:=fl.tbls b _ q1
  exact⟨m1++m2,by rw[q2,Array.append_assoc]⟩
noncomputable abbrev juI:List Value:=[.type "ValueError",.type "Exception",.type "BaseException",.type "object"]
structure ExcC (K:PySem.W.Frag) (C:Addr):Prop where
 ex:∃(tl:List Value) (N:Addr) (nm q:Str) (bs:List Value) (hd:Bool) (sn:List Str) (sub:List Value) (ab:Bool) (col:Option Bool) (dd:Option Addr) (k0 k1 k2 k3 k5:Option Value),
  K.lookup C=some (excClassObj nm q C N bs tl hd sn sub ab col dd k0 k1 k2 k3 k5 "ValueError.__new__")/\PySem.W.tailIn K juI tl=true/\PySem.W.nsOkIn K N=true/\PySem.W.nsIn K N "__init__" =some none
theorem jkf {P:Program}{w:World}{H:Hp}{h:Heap}{l:List Addr}(ok:HOk P w H h)(hl:∀b∈l,H b=none):HOk P w H (PySem.W.hideAll h l):=fun a o e=>
 (ok a o e).stay (fun b u hb q=>PySem.W.hideAll_get l q fun hm=>by
  have:=hl b hm
  rcases hb with rfl|hb
  ·rw[e]at this;cases this
  ·rw[hb]at this;cases this) (fun _ q=>q) fun _ _ q=>q
section
variable {P:Program} {w:World} {K:PySem.W.Frag} {mg:Str->Option Value} {base:Heap} {N:List Str} {qual:Str} {scope:Scope} {f:Addr} {cd:Value} {A:Around} {outer:List Env} {s0:Shared} {H0:Hp} {E:XK}
theorem jsk {pins:List (Addr×Obj)}{σ:St}{H:Hp}{s:Shared}{C e:Addr}{vs:List Value}{h1:Heap}(I:Inv (jiZ (CX1 P w) P w K mg base N qual scope f cd A outer s0 H0 E) pins σ H s)
  (mk:Heap.MadeExcOf s.heap h1 e (.ref C) vs) (hE:E (.ref C) none H):(jiZ (CX1 P w) P w K mg base N qual scope f cd A outer s0 H0 E).xe (.ref e) {s with heap:=h1}:=by
 show wpAny _ _ (leaving _ (.ref e)) _ _ _
 have hlt:∀b o,s0.heap.get? b=some o->b≠s0.heap.objs.size:=fun b o e=>Nat.ne_of_lt (Heap.lt_size e)
 have hst:∀b o,s0.heap.get? b=some o->b∉frs outer->b∉frs (envOfC qual scope s0.heap.objs.size f cd::outer):=fun b o e hb hm=>by
  rcases List.mem_cons.mp (show b∈s0.heap.objs.size::frs outer from hm)with q|q
  ·exact hlt b o e q
  ·exact hb q
 have hin:∀env∈(envOfC qual scope s0.heap.objs.size f cd::outer),∀b,env.frame=some b->b∈frs (envOfC qual scope s0.heap.objs.size f cd::outer):=fun env he b hb=>List.mem_filterMap.mpr ⟨env,he,hb⟩
 refine wpAny_leaves_madeW (base:=PySem.W.hideAll s.heap (frs (envOfC qual scope s0.heap.objs.size f cd::outer))) I.ok.frames rfl (fun b o q=>PySem.W.of_hideAll _ q) (PySem.W.funFrames_hide I.stack hin) mk fun h' t fl _ _ sm=>?_
 refine⟨_,_,e,C,H,rfl,⟨I.os,I.bare,fl,jkf I.hok I.stkFree,fun b o q n hb=>?_,fun b o q hb=>?_,fun b o q n=>?_,fun b o q hb=>?_,I.base.tups,I.base.frzs,I.base.tbls⟩,hE⟩
 ·exact PySem.W.hideAll_get _ (I.base.keep b o q n hb (by intro z;cases z)) (hst b o q hb)
 ·obtain⟨sl,q1⟩:=I.base.slot b o q (I.ok.frf b hb) hb (by intro z;cases z)
  have nf:∀vs,({o with slots:=sl}:Obj).data≠.fields vs:=by
   obtain⟨_,o',q',nf⟩:=I.ok.funs.mem hb
   have q2:s0.heap.get? b=some o':=q'
   rw[q]at q2
   cases q2
   exact nf
  obtain⟨sl3,q3⟩:=sm b _ (mk.keeps b _ q1) nf
  exact⟨sl3,q3⟩
 ·exact I.base.free b o q n (by intro z;cases z)
 ·obtain⟨o',q'⟩:=I.base.there b o q (by intro z;cases z)
  exact⟨o',PySem.W.hideAll_get _ q' (hst b o q hb)⟩
theorem joU {x:Str}{C:Addr}{np cpos pos:Pos}{e:Expr}{es:List Expr}{t:TA}(hC:ExcC K C)(hg:Gl (jiZ (CX1 P w) P w K mg base N qual scope f cd A outer s0 H0 E) x)(hm:mg x=some (.ref C))
  (ha:PA (jiZ (CX1 P w) P w K mg base N qual scope f cd A outer s0 H0 E) (e::es) t) (hdb:(x==("__debug__" : Str))=false:=by decide)
  (he:starEach (e::es) (envOfC qual scope s0.heap.objs.size f cd)=(false,eval e (envOfC qual scope s0.heap.objs.size f cd))::starEach es (envOfC qual scope s0.heap.objs.size f cd):=by rfl)
  (hpl:(backTo cpos (starEach es (envOfC qual scope s0.heap.objs.size f cd))).any (·.1)=false:=by rfl) :
  PS (jiZ (CX1 P w) P w K mg base N qual scope f cd A outer s0 H0 E) (.Raise (some (.Call (.Name x np) (e::es) [] cpos)) none pos) (fun _ σ H=>t σ H fun vs H1=>vs.length<=sizeLine/\E (.ref C) none H1):=by
 intro pins s σ H D I h
 obtain⟨tl,Nc,nm,q,bs,hd,sn,sub,ab,col,dd,k0,k1,k2,k3,k5,lk,ht,hok,hni⟩:=hC.ex
 have KX:=I.kIn
 have T:=PySem.W.tail_of_in KX ht
 refine wpAny_Raise_call_subT (C:=C) (nm:=nm) (q:=q) (N:=Nc) (bs:=bs) (bm:=tl) (hdct:=hd) (sn:=sn) (sub:=sub) (ab:=ab) (col:=col) (dd:=dd) (k0:=k0) (k1:=k1) (k2:=k2) (k3:=k3) (k5:=k5)
  PySem.F.excBase_ValueError (mN:=base.nsMap Nc) (T.hasType (by decide +kernel)) (I.ok.hd rfl)
  (by show(backTo cpos (starEach (e::es) (envOfC qual scope s0.heap.objs.size f cd))).any (·.1)=false;rw[he];show(false||(backTo cpos (starEach es (envOfC qual scope s0.heap.objs.size f cd))).any (·.1))=false;rw[hpl];rfl)
  (PySem.W.nsMap_none_of_in I.mod.kin hok hni) (jeN I hg hm ⟨rfl,?_⟩ hdb)
 have ha':=ha cpos pins s σ H _ I h
 show wpAny _ _ (evalArgs (.ref C) true (backTo cpos (starEach (e::es) (envOfC qual scope s0.heap.objs.size f cd))) []) _ _ s
 replace ha':wpAny _ _ (spliced (backTo cpos (starEach (e::es) (envOfC qual scope s0.heap.objs.size f cd)))) _ _ s:=ha'
 rw[he]at ha' ⊢
 refine Calls.evalArgs_plain (thn ha' fun us s1 hu=>?_)
 obtain⟨vs,H1,I1,r,hz,hE⟩:=hu
 have K1:=I1.kIn
 exact⟨rfl,by rw[<- r.length];exact hz,K1 _ _ lk,Heap.Ns.keeps (.of_isNs (PySem.W.isNs_of_in I.mod.kin hok)) I1.bk,PySem.W.tail_of_in K1 ht,fun h' e mk=>jsk I1 mk hE⟩
end
end _L2
namespace _L2
open PySem PySem.W PySem.Spec PySem.Calls PyProof.Rows Builtin Builtin.ObjectAttr Builtin.Getset_descriptor
structure ExcA (K:Frag) (C:Addr):Prop where
 ga:findIn K (.ref C) "__getattribute__" =some (some (.builtin "BaseException.__getattribute__"))
 gt:findIn K (.ref C) "__getattr__" =some none
 cl:findIn K (.ref C) "__class__" =some (some (.builtin "object.__class__"))
 gs:specialIn K (.builtin "object.__class__") "__get__" =some (some (.builtin "getset_descriptor.__get__"))
 tk:takesIn K (.builtin "object.__class__")=some true
 mo:mroIn K C (.type "object")=some true
 mb:mroIn K C (.type "BaseException")=some true
section
variable {prog:Program} {w:World} {A:Around} {E:Value->Shared->Prop} {s:Shared} {K:Frag} {x C:Addr} {o:Obj}
theorem jdB {M:Model}{h:Heap}(e:h.get? x=some o)(hc:o.cls=.ref C):Looks M h (typeOf (.ref x)) (.ref C):=hc▸(Looks.ld e).andThen .now
theorem jrG {R:Result->Shared->Prop}(X:K.In s.heap)(he:s.heap.get? x=some o)(hc:o.cls=.ref C)(a:ExcA K C)(h:R (.ok (.ret (.ref C))) s) :
  codeAny (model prog w) A (.call (.builtin "getset_descriptor.__get__") ⟨[.builtin "object.__class__",.ref x,.ref C],[]⟩) R s:=by
 have LT:=jdB (M:=model prog w) he hc
 have LM:=looks_mroIn (M:=model prog w) X a.mo
 obtain⟨hp,g,d,t,os⟩:=s
 refine codeAny_call_builtin KF.slot_gs.plain KF.entry_gs ?_
 refine KF.slot_gs.check _ _ _ _ _ _ _ _ KF.type_class (KF.args_gs _ _ _) ?_
 unfold Builtin.«getset_descriptor.__get__»
 unfold descrGet
 rw[dga_obj]
 refine wpAny_bind (wpAny_pure ?_)
 unfold descrGetter
 unfold descrCheckInstance
 unfold descrNameAndClass
 unfold isInstance
 simp only[KF.owner_class]
 repeat lk
 refine⟨Code.quiet_builtin _ (by decide +kernel),?_⟩
 refine codeAny_builtin KF.entry_class ?_
 unfold Builtin.«object.__class__»
 unfold shownTypeOf
 repeat lk
 exact h
theorem jiP {M:Model} {h:Heap} {v:Value} {r:Option Value} (X:K.In h) (e:specialIn K v "__get__" =some r):Looks M h (getOf (some v)) r:=looks_specialIn X e
theorem jof {M:Model}{h:Heap}(X:K.In h)(a:ExcA K C):Looks M h (find (.ref x) (.ref C) "__class__") (.bind (.builtin "getset_descriptor.__get__") (.builtin "object.__class__")):=by
 have L1:=looks_findIn (M:=M) X a.cl
 have _L2:=jiP (M:=M) X a.gs
 have _L3:=looks_takesIn (M:=M) X a.tk
 intro A' Q' E' s' k q
 have L1:=L1.keeps k
 have _L2:=_L2.keeps k
 have _L3:=_L3.keeps k
 obtain⟨hp,g,d,t,os⟩:=s'
 unfold find
 refine wpAny_bind (L1.here ?_)
 refine wpAny_bind (_L2.here ?_)
 unfold dataDescriptor?
 refine wpAny_bind (wpAny_bind (_L3.here ?_))
 repeat lk
 exact q
theorem juR {R:Result->Shared->Prop}{tk:Tok}(X:K.In s.heap)(he:s.heap.get? x=some o)(hc:o.cls=.ref C)(a:ExcA K C)(h:R (.ok (.ret (.ref C))) s) :
  codeAny (model prog w) A (.call (.builtin "BaseException.__getattribute__") ⟨[.ref x,.str "__class__" tk],[]⟩) R s:=by
 have LT:=jdB (M:=model prog w) he hc
 have LB:=looks_mroIn (M:=model prog w) X a.mb
 have LF:=jof (x:=x) (M:=model prog w) X a
 have hk:builtinKind "BaseException.__getattribute__" =some .slot:=by decide +kernel
 have hs:splitId "BaseException.__getattribute__" =some ("BaseException","__getattribute__"):=by decide +kernel
 have hp:∀Q:Unit->Shared->Prop,Q () s->wpAny (model prog w) A.in1 (checkBuiltinCall "BaseException.__getattribute__" ⟨[.ref x,.str "__class__" tk],[]⟩) Q (fun e s'=>R (.error e) s') s:=by
  intro Q q
  have ha:=PySem.F.args_bexc_ga (.ref x) (.str "__class__" tk)
  obtain⟨hh,g,d,t,os⟩:=s
  simp only[checkBuiltinCall,hk,hs]
  unfold isInstance
  repeat lk
  exact q
 refine codeAny_call_builtin PySem.F.excAttr_ValueError.ga.plain PySem.F.entry_bexc_ga (hp _ ?_)
 obtain⟨hh,g,d,t,os⟩:=s
 unfold Builtin.«object.__getattribute__»
 refine wpAny_bind (wpAny_pure ?_)
 refine wpAny_bind (wpAny_pure ?_)
 refine wpAny_bind (LT.here ?_)
 refine wpAny_bind (LF.here ?_)
 refine wpAny_bind (wpAny_holding (wpAny_call (jrG X he hc a ?_)))
 exact wpAny_pure h
theorem jms {Q:Option Value->Shared->Prop}(X:K.In s.heap)(he:s.heap.get? x=some o)(hc:o.cls=.ref C)(a:ExcA K C)(h:Q (some (.ref C)) {s with toks:=s.toks+1}) :
  wpAny (model prog w) A (getAttr? (.ref x) "__class__") Q E s:=by
 have LT:=jdB (M:=model prog w) he hc
 have LG:=looks_findIn (M:=model prog w) X a.ga
 have LH:=looks_findIn (M:=model prog w) X a.gt
 have hb:=PySem.F.excAttr_ValueError.ga.bind (.ref x)
 have hn:(onTheHeap (.ref C)&&Value.builtin "BaseException.__getattribute__" ==Value.builtin "object.__getattribute__")=false:=by rw[show(Value.builtin "BaseException.__getattribute__" ==Value.builtin "object.__getattribute__")=false from by decide +kernel];rfl
 obtain⟨hh,g,d,t,os⟩:=s
 unfold getAttr? getAttrBy? getAttrBy
 refine wpAny_bind (wpAny_mkText (wpAny_bind (wpAny_attempt (wpAny_holding (wpAny_bind (LT.at (wpAny_bind (LG.at ?_))))))))
 dsimp only
 rw[hn]
 simp only[Bool.false_eq_true,if_false]
 unfold getAttrByItsOwn hookBefore
 rw[if_pos (show onTheHeap (.ref C)=true from rfl)]
 refine wpAny_bind (LH.at ?_)
 unfold callGetattribute boundAndCalled
 rw[if_neg (by simp),hb]
 refine wpAny_bind (wpAny_attempt (wpAny_holding (wpAny_bind (wpAny_pure (wpAny_call (juR (s:=⟨hh,g,d,t+1,os⟩) X he hc a ?_))))))
 exact wpAny_pure (wpAny_pure h)
end
end _L2
namespace _L2
open PySem PySem.Spec PyProof.Rows
theorem jjV {K:PySem.W.Frag}{x C:Addr}(c:ExcC K C)(a:ExcA K C)(it:PySem.W.kitCls K (.ref C) (.ref C)=some true):PySem.W.KitX K (.ref x) (.ref C) (fun h=>∃o,h.get? x=some o/\o.cls=.ref C) where
 ty:=fun _ _ _ ⟨_,e,hc⟩=>jdB e hc
 it:=fun M _ X _=>(PySem.W.kit_cls (M:=M) X it).2.1
 ne:=fun h tp dd its n sl X htp=>by
  obtain⟨tl,Nc,nm,q,bs,hd,sn,sub,ab,col,dd',k0,k1,k2,k3,k5,lk,_⟩:=c.ex
  refine Bool.eq_false_iff.mpr fun q=>?_
  have e:C=tp:=Value.ref.inj (beq_iff_eq.mp q)
  subst e
  have z:=congrArg Obj.data (Option.some.inj ((X _ _ lk).symm.trans htp))
  exact Data.noConfusion z
 ca:=fun X ⟨_,e,hc⟩ k=>jms X e hc a k
section
variable {X:Cx} {pins:List (Addr×Obj)} {σ:St} {H:Hp} {s:Shared}
noncomputable def jsL:V->Option Value
 |.ref a=>some (.ref a)
 |.ty n=>some (.type n)
 |_=>none
theorem jjf {v:V}{u c:Value}(h:jsL v=some c)(r:ja0 v u):u=c:=by
 cases v<;>first|(cases h;done)|(cases h;exact r)
theorem jor {a C:Addr}{oe:Obj}(hp:(a,oe)∈X.pn)(hc:oe.cls=.ref C)(c:ExcC X.K C)(ea:ExcA X.K C)(it:PySem.W.kitCls X.K (.ref C) (.ref C)=some true) :
  jbR X (.builtin "isinstance") (fun xs H Q=>∃v u b,xs=[.ref a,v]/\jsL v=some u/\PySem.W.kitOne X.K (.ref C) u=some b/\Q (.bl b) H):=by
 intro pins s σ H xs us Q I r h
 obtain⟨v,u,b,rfl,hv,hk,q⟩:=h
 obtain⟨u1,u2,rfl,r1,r2⟩:=jnb r
 cases(show u1=Value.ref a from r1)
 cases jjf hv r2
 have he:=(I.pin (a,oe) (List.mem_append_left _ hp)).1
 exact PySem.W.kia_one (jjV c ea it) I.kIn ⟨oe,he,hc⟩ hk (by intro q;cases q) fun tk=>⟨.bl b,H,I.tok tk,rfl,q⟩
theorem jg4:∀{cs:List V} {us ts:List Value},cs.mapM jsL=some ts->jaZ cs us->us=ts
 |[],_,ts,e,.nil=>by
  rw[List.mapM_nil]at e
  exact(Option.some.inj e)
 |c::cs,_,ts,e,.cons r t=>by
  rw[List.mapM_cons]at e
  obtain⟨u,h1,e⟩:=Option.bind_eq_some_iff.mp e
  obtain⟨us',h2,e⟩:=Option.bind_eq_some_iff.mp e
  cases Option.some.inj e
  rw[jg4 h2 t,jjf h1 r]
theorem jmm {a C:Addr}{oe:Obj}(hp:(a,oe)∈X.pn)(hc:oe.cls=.ref C)(c:ExcC X.K C)(ea:ExcA X.K C)(it:PySem.W.kitCls X.K (.ref C) (.ref C)=some true) :
  jbR X (.builtin "isinstance") (fun xs H Q=>∃(p:Addr) (cs:List V) (ts:List Value) (b:Bool),xs=[.ref a,.ref p]/\SqT X.K H p cs/\cs.mapM jsL=some ts/\PySem.W.kitAny X.K (.ref C) ts=some b/\Q (.bl b) H):=by
 intro pins s σ H xs us Q I r h
 obtain⟨p,cs,ts,b,rfl,hsq,hv,hk,q⟩:=h
 obtain⟨u1,u2,rfl,r1,r2⟩:=jnb r
 cases(show u1=Value.ref a from r1)
 cases(show u2=Value.ref p from r2)
 have he:=(I.pin (a,oe) (List.mem_append_left _ hp)).1
 obtain⟨its,rv,ht,_⟩:=I.tuple hsq
 cases jg4 hv rv
 obtain⟨⟨cc,d,dt,sl⟩,ho,hcc,n,hd⟩:=ht
 simp only at hcc hd
 subst hcc hd
 exact PySem.W.kia_tup (jjV c ea it) I.kIn ⟨oe,he,hc⟩ ho hk (by intro q;cases q) fun tk=>⟨.bl b,H,I.tok tk,rfl,q⟩
end
theorem jbX.here {P:Program}{w:World}{H:Hp}{h:Heap}{a:Addr}{o:HO}(x:jbX P w H h a o):∃u,h.get? a=some u:=by
 induction o with
 |lst xs=>obtain⟨_,_,_,_,e⟩:=x;exact⟨_,e⟩
 |tup xs=>obtain⟨_,_,_,_,e,_⟩:=x;exact⟨_,e⟩
 |dK kvs=>obtain⟨_,_,_,_,_,_,_,e,_⟩:=x;exact⟨_,e⟩
 |dT kvs=>obtain⟨_,_,_,_,_,_,_,e,_⟩:=x;exact⟨_,e⟩
 |set S n=>obtain⟨_,_,_,_,e,_⟩:=x;exact⟨_,e⟩
 |ins C dx fs=>obtain⟨_,_,_,e,_⟩:=x;exact⟨_,e⟩
 |own y=>obtain⟨_,e⟩:=x;exact⟨_,e⟩
 |xd fs=>obtain⟨_,⟨_,_,_,e,_⟩,_⟩:=x;exact⟨_,e⟩
 |rng lo hi=>obtain⟨_,_,_,e⟩:=x;exact⟨_,e⟩
 |frz ob u _=>obtain⟨e,_⟩:=x;exact⟨_,e⟩
 |tbl ps=>exact⟨_,show h.get? a=some _ from x⟩
 |met f y=>exact⟨_,show h.get? a=some _ from x⟩
 |ext φ=>obtain⟨_,e,_⟩:=x;exact e
noncomputable abbrev Cx.hand (X:Cx) (a:Addr) (oe:Obj):Cx:={X with A:=X.A.mark (some (.ref a)),calm:=false,pn:=(a,oe)::X.pn,xe:=fun _ _=>False}
section
variable {X:Cx} {pins:List (Addr×Obj)} {σ:St} {H H':Hp} {s s':Shared} {B:Heap} {a0:Value} {a:Addr} {oe:Obj}
theorem Inv.hand (I:Inv X pins σ H s)(e:s.heap.get? a=some oe)(n:H a=none)(nl:a≠X.env.locals)(nf:a∉X.fs)(nc:∀v,oe.data≠.cell v):Inv (X.hand a oe) pins σ H s:=by
 obtain⟨ok,os,bare,base,loc,cell,free,freeC,pin,hok,len⟩:=I
 refine⟨⟨ok.mod,ok.kind,ok.glob,ok.blt,ok.above,ok.inj,ok.has,ok.cab,(by intro z;cases z),ok.frames,ok.stk,ok.exf,ok.bs,ok.bsz,ok.noex,ok.exfs,ok.funs,ok.frf⟩,os,bare,base,loc,cell,free,freeC,fun p hp=>?_,hok,len⟩
 rcases List.mem_cons.mp (show p∈(a,oe)::(X.pn++pins)from hp)with rfl|hp
 ·exact⟨e,n,nl,nf,nc⟩
 ·exact pin p hp
theorem Inv.unhand (I:Inv (X.hand a oe) pins σ H s)(ok:X.Ok):Inv X pins σ H s:=
 ⟨ok,I.os,I.bare,I.base,I.loc,I.cell,I.free,I.freeC,fun p hp=>I.pin p (show p∈(a,oe)::(X.pn++pins)from .tail _ hp),I.hok,I.len⟩
theorem Fly.later {outer:List Env}{P:Program}{w:World}{cls:Value}{h5:Heap}(f:Fly P w outer H s B a0 a cls H' s')(nf:∀b o,s.heap.get? b=some o->b∈frs outer->∀vs,o.data≠.fields vs)
  (fl:Heap.FlyingW B outer a cls a0 h5) (sm:s'.heap.UpToSlots h5):Fly P w outer H s B a0 a cls H' {s' with heap:=h5}:=
 ⟨f.os,f.bare,fl,f.hok,f.keep,fun b o e hb=>by
  obtain⟨sl,q⟩:=f.slot b o e hb
  obtain⟨sl2,q2⟩:=sm b _ q (nf b o e hb)
  exact⟨sl2,q2⟩,f.free,f.there,f.tups,f.frzs,f.tbls⟩
theorem Inv.unbound {i:Nat}{n:Str}{v:Option Value}{m:Str->Option Value}{h':Heap}{t':Nat}(I:Inv X pins σ H s)(hN:X.N.Nodup)(hi:X.N[i]?=some n)
  (hn:s.heap.Ns X.env.locals m) (hl:∀(i:Nat) (x:Str) (v:V),X.N[i]?=some x->σ[i]?=some (some v)->Vis X.env.scope x->∃u,ja0 v u/\jxf X.env s.heap m x u)
  (hn':h'.Ns X.env.locals (fun y=>if y=n then v else m y)) (hs:Heap.SameBut X.env.locals s.heap h'):Inv X pins (σ.set i none) H {s with heap:=h',toks:=t'}:=by
 have lt:∀b o,X.s₀.heap.get? b=some o->b≠X.env.locals:=fun b o e=>Nat.ne_of_lt (Nat.lt_of_lt_of_le (Heap.lt_size e) I.ok.above)
 refine⟨I.ok,I.os,I.bare,⟨fun b o e n hb hx=>?_,fun b o e n hb hx=>?_,I.base.free,fun b o e hx=>?_,I.base.tups,I.base.frzs,I.base.tbls⟩,⟨_,hn',fun j y v' e1 e2 e3=>?_⟩,fun y c e=>?_,I.free,I.freeC,fun p hp=>?_,fun b ob e=>?_,by simpa using I.len⟩
 ·exact(hs.2 b (lt b o e)).trans (I.base.keep b o e n hb hx)
 ·obtain⟨sl,e1⟩:=I.base.slot b o e n hb hx
  exact⟨sl,(hs.2 b (lt b o e)).trans e1⟩
 ·obtain⟨o',e1⟩:=I.base.there b o e hx
  exact⟨o',(hs.2 b (lt b o e)).trans e1⟩
 ·by_cases hj:j=i
  ·subst hj
   rw[List.getElem?_set_self' ]at e2
   cases q:σ[j]? with
   |none=>rw[q]at e2;cases e2
   |some z=>rw[q]at e2;cases e2
  ·rw[List.getElem?_set_ne (Ne.symm hj)]at e2
   obtain⟨u',r',q⟩:=hl j y v' e1 e2 e3
   refine⟨u',r',?_⟩
   rcases q with⟨k,e⟩|⟨k,c,e,z⟩
   ·refine .inl ⟨k,?_⟩
    have:y≠n:=fun e=>hj (jhk hN e1 (e▸hi))
    simp[this,e]
   ·exact .inr ⟨k,c,e,z.sameBut hs (I.cne y c e)⟩
 ·obtain⟨w',z⟩:=I.cell y c e
  exact⟨w',z.sameBut hs (I.cne y c e)⟩
 ·obtain⟨e,n,ne,nf,d⟩:=I.pin p hp
  exact⟨(hs.2 p.1 ne).trans e,n,ne,nf,d⟩
 ·refine(I.hok b ob e).stay (fun c w' hc q=>(hs.2 c ?_).trans q) (fun _ q=>q) fun _ _ q=>q
  rintro rfl
  have hf:=I.free
  rcases hc with rfl|hc
  ·rw[hf]at e;cases e
  ·rw[hf]at hc;cases hc
theorem joA {k:Nat}{f:Addr}{fd:FuncData}{ps:List Str}{sp:Sp}{E:XK}{x:Str}{p pos:Pos}{e:Expr}{es:List Expr}{t:TA}{Q:VK}(F:FnOk X.prog X.w X.K X.mg X.base (CX1 X.prog X.w) k f fd ps sp)(hr:Room k X.A)(hg:Gl X x)(hm:X.mg x=some (.ref f))
  (hk:PySem.W.keepIn X.K (.ref f)=true) (hb:jeD X.K fd ps []) (ha:PA X.nox (e::es) t) (I:Inv X pins σ H s) (h:t σ H fun vs H1=>sp vs H1 Q E)
  (hdb:(x==("__debug__" : Str))=false:=by decide) (he:starEach (e::es) X.env=(false,eval e X.env)::starEach es X.env:=by rfl) (hpl:(backTo pos (starEach es X.env)).any (·.1)=false:=by rfl) :
  wpAny (model X.prog X.w) X.A (eval (.Call (.Name x p) (e::es) [] pos) X.env) (EP X pins σ Q) (fun v s'=>∃H1 s1,Inv X pins σ H1 s1/\CX1 X.prog X.w X.stack H1 s1 E v s') s:=by
 refine wpAny_Call_Name_kw (jeN I hg hm ?_ hdb)
 refine PySem.W.callWith_K (h₀:=X.base) I.ok.mod.kin hk (wpAny_mono (ha pos pins s σ H _ (I.wish _) h) (fun us s1 hu=>?_) fun _ _ z=>z.elim) he hpl
 obtain⟨vs,H1,I1',r,q⟩:=hu
 have I1:Inv X pins σ H1 s1:=I1'.unwish
 refine⟨I1.kIn,?_⟩
 have hl:us.length=ps.length:=by rw[<- r.length];exact F.len _ _ _ _ q
 have hb':=hb s1 us I1.kIn (by rw[List.append_nil];exact hl)
 rw[List.append_nil]at hb'
 refine wpAny_call (codeAny_mono (F.run X.A X.stack s1 H1 ⟨us,[]⟩ us vs Q E hr I1.env0 hb' r q) fun r s' hq=>?_)
 cases r with
 |error e=>exact⟨H1,s1,I1,hq⟩
 |ok fl=>
  cases fl with
  |ret u=>exact I1.after hq
  |next=>exact False.elim hq
  |brk=>exact False.elim hq
  |cont=>exact False.elim hq
theorem jkZ {C T:Addr}{i:Nat}{x n:Str}{np hpos:Pos}{b₀:Stmt}{suite:List Stmt}{ts:TS}{Q:Flow->Shared->Prop}{E:Value->Shared->Prop}(I:Inv X pins σ H s)(fl:Fly X.prog X.w X.stack H s B a0 a (.ref C) H' s')
  (hstk:X.stack=X.env::X.outer) (hfr:X.env.frame=some X.env.locals) (hN:X.N.Nodup) (hi:X.N[i]?=some n) (hn:X.env.scope.names.lookup n=some .local) (hg:Gl X x) (hm:X.mg x=some (.ref T)) (hx:PySem.W.exmOne X.K (.ref C) (.ref T)=some true)
  {W:St->Hp->Prop} (hs:∀oe:Obj,oe.cls=.ref C->PSs (X.hand a oe) (b₀::suite) ts) (hW:∀σ' H'' s4,Inv X pins σ' H'' s4->W σ' H''->Q .next s4)
  (ht:ts {nx:=fun σ' H''=>W (σ'.set i none) H'',rt:=fun _ _=>False} (σ.set i (some (.ref a))) H')
  (hdb:(x==("__debug__" : Str))=false:=by decide) :
  wpAny (model X.prog X.w) X.A (noteFrame (.ref a) X.env) (fun _ s₂=>wpAny (model X.prog X.w) X.A (setFlight (.ref a) none) (fun _ s₃=>
   wpAny (model X.prog X.w) X.A (handleBy (.ref a) X.env [.ExceptHandler (some (.Name x np)) (some n) (b₀::suite) hpos]) Q E s₃) E s₂) E s':=by
 have hfl:=fl.fly
 have nff:∀b o,s.heap.get? b=some o->b∈frs X.stack->∀vs,o.data≠.fields vs:=fun b o e hb=>by
  obtain⟨_,o',q',nf⟩:=I.stack.mem hb
  rw[e]at q'
  cases q'
  exact nf
 have hA:X.A.frames=some (X.env::X.outer):=by rw[I.ok.frames,hstk]
 rw[hstk]at hfl
 refine wpAny_looks_onW hA hfr hfl fun h4 held4 sm4=>?_
 refine wpAny_landsW held4 fun h5 fly5 sm5=>?_
 rw[<- hstk]at fly5
 have f5:=fl.later nff fly5 (sm4.trans sm5)
 have I5:=f5.inv I
 have inB:∀b,B.get? b=none->H' b=none:=fun b hb=>by
  cases q:H' b with
  |none=>rfl
  |some o=>
   obtain⟨u,e⟩:=(fl.hok b o q).here
   rw[hb]at e
   cases e
 have hand:∀{h:Heap},Heap.FlyingW B X.stack a (.ref C) a0 h->Inv X pins σ H' {s' with heap:=h}->∃oe,oe.cls=.ref C/\h.get? a=some oe/\Inv (X.hand a oe) pins σ H' {s' with heap:=h}:=fun {h} ff II=>by
  obtain⟨oe,vs,he,hc,hd,_⟩:=ff.first
  refine⟨oe,hc,he,II.hand he (inB a ff.2.1) ?_ ?_ fun v q=>?_⟩
  ·intro z
   obtain⟨m,hns,_⟩:=II.loc
   obtain⟨oL,_,_,hoL,hdL,_⟩:=hns
   rw[<- z]at hoL
   have:=Option.some.inj (he.symm.trans hoL)
   rw[<- this,hd]at hdL
   cases hdL
  ·intro z
   have hz:a∈frs X.stack:=by rw[hstk];exact(show a∈frs (X.env::X.outer)from by unfold frs;rw[List.filterMap_cons,hfr];exact .tail _ z)
   obtain⟨_,o',q',nf⟩:=II.stack.mem hz
   have:=Option.some.inj (he.symm.trans q')
   rw[<- this]at nf
   exact nf vs hd
  ·rw[hd]at q;cases q
 obtain⟨oe5,hc5,he5,J5⟩:=hand fly5 I5
 refine wpAny_handleBy_cons (codeAny_handlers_test ?_) (by intro q;cases q)
 refine jeN J5 hg hm ?_ hdb
 refine(PySem.W.exm_one J5.kIn (jdB he5 hc5) hx).here ?_
 show codeAny (model X.prog X.w) (X.A.mark (some (.ref a))) (.handlers (.ref a) [.ExceptHandler none (some n) (b₀::suite) hpos] X.env) _ _
 refine codeAny_handlers_suite_as ?_
 refine lands_againW fly5 fun h6 fly6 sm6=>?_
 have f6:=f5.later nff fly6 sm6
 have I6:=f6.inv I
 obtain⟨oe6,hc6,he6,J6⟩:=hand fly6 I6
 refine jeh (X:=X.hand a oe6) (v:=.ref a) J6 hN hi (.inl hn) rfl (fun s7 J7=>?_) (.inr hn)
 refine wpAny_mono (hs oe6 hc6 pins s7 _ _ _ J7 ht) (fun f s8 h8=>?_) fun _ _ z=>z.elim
 cases f with
 |next=>
  obtain⟨σ',H'',J8,q⟩:=h8
  have I8:=J8.unhand I.ok
  obtain⟨m,hns,hl⟩:=I8.loc
  refine wpAny_nameGoes_keeps hn hns (by rw[I.ok.kind];rfl) fun h' v hn' hsame=>?_
  exact hW _ _ _ (I8.unbound hN hi hns hl hn' hsame) q
 |brk=>obtain⟨_,_,_,z⟩:=h8;exact z.elim
 |cont=>obtain⟨_,_,_,z⟩:=h8;exact z.elim
 |ret u=>obtain⟨_,_,_,_,_,z⟩:=h8;exact z.elim
theorem jpQ {k:Nat}{f:Addr}{fd:FuncData}{ps:List Str}{sp:Sp}{g x n:Str}{T:Addr}{i:Nat}{p cpos epos np hpos pos:Pos}{e:Expr}{es:List Expr}{t:TA}{b₀:Stmt}{suite:List Stmt}{PC:Addr->Prop}{ts:Addr->Addr->TS}
  (F:FnOk X.prog X.w X.K X.mg X.base (CX1 X.prog X.w) k f fd ps sp) (hr:Room k X.A) (hgg:Gl X g) (hmg:X.mg g=some (.ref f)) (hk:PySem.W.keepIn X.K (.ref f)=true) (hb:jeD X.K fd ps []) (ha:PA X.nox (e::es) t)
  (hstk:X.stack=X.env::X.outer) (hfr:X.env.frame=some X.env.locals) (hN:X.N.Nodup) (hi:X.N[i]?=some n) (hn:X.env.scope.names.lookup n=some .local) (hg:Gl X x) (hm:X.mg x=some (.ref T))
  (hs:∀(C a:Addr) (oe:Obj),PC C->oe.cls=.ref C->PSs (X.hand a oe) (b₀::suite) (ts C a))
  (hdb:(x==("__debug__" : Str))=false:=by decide) (hdg:(g==("__debug__" : Str))=false:=by decide)
  (he:starEach (e::es) X.env=(false,eval e X.env)::starEach es X.env:=by rfl) (hpl:(backTo cpos (starEach es X.env)).any (·.1)=false:=by rfl)
  (hsw:swapsWith (.Call (.Name g p) (e::es) [] cpos) none epos.line X.env=pure false:=by rfl) :
  PS X (.Try [.Expr (.Call (.Name g p) (e::es) [] cpos) epos] [.ExceptHandler (some (.Name x np)) (some n) (b₀::suite) hpos] [] [] pos)
   (fun D σ H=>t σ H fun vs H1=>sp vs H1 (fun _ H'=>D.nx σ H') (fun cls _ H'=>∃C,cls=.ref C/\PC C/\PySem.W.exmOne X.K (.ref C) (.ref T)=some true /\
    ∀a,ts C a {nx:=fun σ' H''=>D.nx (σ'.set i none) H'',rt:=fun _ _=>False} (σ.set i (some (.ref a))) H')):=by
 intro pins s σ H D I h
 refine wpAny_Try_except ?_
 have hq:interactive X.env=false:=I.quiet
 refine wpAny_execs_cons (wpAny_Expr_any (wpAny_mono (joA F hr hgg hmg hk hb ha I h hdg he hpl) (fun v s1 h1=>?_) fun v s' h1=>?_) hq hsw)
 ·obtain⟨x1,H1,I1,_,q⟩:=h1
  exact wpAny_execs_nil (wpAny_execs_nil ⟨σ,H1,I1,q⟩)
 ·obtain⟨H1,s1,I1,B,a0,a,C,H',rfl,fl,C',hC,hP,hx,hw⟩:=h1
  cases hC
  exact jkZ (W:=D.nx) I1 fl hstk hfr hN hi hn hg hm hx (fun oe hc=>hs C a oe hP hc) (fun σ' H'' s4 I4 q=>⟨σ',H'',I4,q⟩) (hw a) hdb
end
end _L2
namespace _L2
open PySem PySem.Spec PyProof.Rows
noncomputable def KP:List Str->List Value->List (Value×Value)->Prop
 |[],[],[]=>True
 |k::ks,u::us,(kv,v)::r=>(∃t,kv=.str k t)/\v=u/\KP ks us r
 |_,_,_=>False
theorem KP.len:∀{ks:List Str} {us:List Value} {r:List (Value×Value)},KP ks us r->us.length=ks.length
 |[],[],[],_=>rfl
 |k::ks,u::us,(kv,v)::r,h=>congrArg Nat.succ (KP.len h.2.2)
 |[],[],_::_,h=>h.elim
 |[],_::_,_,h=>h.elim
 |_::_,[],_,h=>h.elim
 |_::_,_::_,[],h=>h.elim
section
variable {X:Cx}
end
end _L2
namespace HT
open PySem PySem.Spec PyProof.Rows
section
variable {prog:Program} {w:World} {A:Around} {E:Value->Shared->Prop} {s:Shared}
theorem cat_none {t b:Addr}{ws:List Value}{Q:Value->Shared->Prop}(ht:IsTup s.heap t ([]:List Value).toArray)(hb:IsTup s.heap b ws.toArray)(h:Q (.ref b) s):wpAny (model prog w) A (binaryOp .Add (.ref t) (.ref b)) Q E s:=by
 obtain⟨⟨cls,dd,data,sl⟩,ho,hc,n,hd⟩:=id ht
 obtain⟨⟨cls2,dd2,data2,sl2⟩,ho2,hc2,n2,hd2⟩:=id hb
 simp only at hc hd hc2 hd2
 subst hc hd hc2 hd2
 exact concat_meets ⟨_,ho,rfl⟩ ⟨_,ho2,rfl⟩ noFill_tuple_add seq_tuple_add PySem.F.slot_tuple_add PySem.F.entry_tuple_add (PySem.F.args_tuple_add_2 _ _)
   (tuple_addW0 t b ([]:List Value).toArray ws.toArray n n2 dd dd2 sl sl2 rfl) ⟨ho,ho2,h⟩
theorem getItem_whole {t sl:Addr}{items:Array Value}{vl vu:Value}{lo hi:Option Int}{Q:Value->Shared->Prop}(ht:IsTup s.heap t items)(hs:s.heap.IsSliceOf sl vl vu .none)(pl:IsPart vl lo)(pu:IsPart vu hi)
  (hw:sIx items.size 0 lo=0/\sIx items.size items.size hi=items.size) (h:Q (.ref t) s):wpAny (model prog w) A (getItem (.ref t) (.ref sl)) Q E s:=by
 obtain⟨os,hos,hcs,hds⟩:=id hs
 have hTs:s.TypeIs (.ref sl) "slice":=⟨os,hos,hcs⟩
 unfold getItem
 try with_reducible refine wpAny_holding ?_
 first|refine wpAny_bind (wpAny_pure ?_)|skip
 refine wpAny_bind (wpAny_sequenceKey ht.typeIs (by decide) ?_)
 refine wpAny_bind (wpAny_callSpecial?_slot (name:=Str.ofString "__getitem__") ht.typeIs PyProof.Rows.slot_tuple_getitem
  (wpAny_call_entry PyProof.Rows.slot_tuple_getitem ht.typeIs entry_tuple_getitem ?_ (args_tuple_getitem _ _)))
 show wpAny _ _ (Builtin.Tuple.tupleItemsOf (.ref t) >>=_) _ _ s
 refine wpAny_bind (tupleItemsOf_ ht ?_)
 refine wpAny_bind (wpAny_typeOf hTs ?_)
 rw[if_pos (by decide)]
 refine wpAny_bind (jdd hs pl pu ?_)
 have hyes:(((sIx items.size 0 lo:Nat):Int)==0&&(1:Int)==1&&(sIx items.size items.size hi - sIx items.size 0 lo)==items.size)=true:=by
  rw[hw.1,hw.2];simp
 show wpAny _ _ (if(((sIx items.size 0 lo:Nat):Int)==0&&(1:Int)==1&&(sIx items.size items.size hi - sIx items.size 0 lo)==items.size)=true then _ else _) _ _ s
 rw[if_pos hyes]
 have hT:=ht.typeIs
 unfold Builtin.Tuple.tupleIsExact
 refine wpAny_bind (wpAny_bind (wpAny_typeOf hT (wpAny_pure ?_)))
 rw[if_pos (by decide)]
 first
  |exact wpAny_bind (wpAny_rule (wpAny_pure ⟨_,rfl,wpAny_pure h⟩))
  |exact wpAny_bind (wpAny_pure (wpAny_pure ⟨_,rfl,wpAny_pure h⟩))
theorem je8:fillsNumberSlot (.type "tuple") "mul" =pure false:=
 PySem.fillsNumberSlot_seq (id:="tuple.__mul__") (r:=some (.builtin "tuple.__rmul__")) PySem.F.slot_tuple_mul.lookup (by decide +kernel) PySem.F.slot_tuple_rmul.lookup (by decide +kernel)
theorem jlH:seqRepeat? (.type "tuple")=pure (some (.builtin "tuple.__mul__")):=by
 have e1:=PySem.seqSlot_of (T:="tuple") (name:="__mul__") (id:="tuple.__mul__") PySem.F.slot_tuple_mul.lookup (by decide +kernel)
 have e2:=PySem.seqSlot_of (T:="tuple") (name:="__rmul__") (id:="tuple.__rmul__") PySem.F.slot_tuple_rmul.lookup (by decide +kernel)
 unfold seqRepeat?
 rw[e1,e2]
 rfl
theorem jkJ (a:Int)(t:Tok)(l:Addr)(items:Array Value)(n:Nat)(dd:Option Addr)(sl:Array (Option Value)) :
  Meets (Builtin.«int.__rmul__» ⟨[.int a t,.ref l],[]⟩) (fun _ R s=>s.heap.get? l=some ⟨.type "tuple",dd,.seq items n,sl⟩/\R (.ok (.ret Value.notImplemented)) s):=
 .of_wp fun prog w A R s h=>by
  obtain⟨hp,g,d,tk,os⟩:=s
  obtain⟨hl,h⟩:=h
  wp_walk
  exact⟨_,rfl,h⟩
theorem jnd (l:Addr)(items:Array Value)(n:Nat)(dd:Option Addr)(sl:Array (Option Value))(k:Int)(u:Tok)(h1:1<k)(h2:k<1000)(hne:items.isEmpty=false)(hz:items.size<=1000) :
  Meets (Builtin.«tuple.__mul__» ⟨[.ref l,.int k u],[]⟩) (fun _ R s=>s.heap.get? l=some ⟨.type "tuple",dd,.seq items n,sl⟩ /\
   R (.ok (.ret (.ref s.heap.objs.size))) {s with heap:=s.heap.push {cls:=.type "tuple",data:=.seq ((List.replicate k.toNat items).foldl (· ++ ·) #[])}}):=
 .of_wp fun prog w A R s h=>by
  obtain⟨hp,g,d,tk,os⟩:=s
  obtain⟨hl,h⟩:=h
  have f1:typeLookup (.type "int") (Str.ofString "__index__")=pure (some (.builtin "int.__index__")):=PySem.F.slot_int_index.lookup
  have c1:(decide (k < -(2 ^ 63))||decide (k ≥ 2 ^ 63))=false:=by
   rw[Bool.or_eq_false_iff];exact⟨decide_eq_false (by omega),decide_eq_false (by omega)⟩
  have c2:(items.isEmpty||k==1)=false:=by
   rw[hne,Bool.false_or];exact beq_eq_false_iff_ne.mpr (by omega)
  have c3:(decide (k<=0)||items.isEmpty)=false:=by
   rw[hne,Bool.or_false];exact decide_eq_false (by omega)
  have ht:IsTup hp l items:=⟨_,hl,rfl,n,rfl⟩
  have hT:(⟨hp,g,d,tk,os⟩:Shared).TypeIs (.ref l) "tuple":=⟨_,hl,rfl⟩
  show wpAny _ _ (asIndex (.int k u) >>=_) _ _ _
  refine wpAny_bind (?_:wpAny _ _ (asIndex (.int k u)) _ _ _)
  have ai:∀{B:Around} {E':Value->Shared->Prop} {Q':Int->Shared->Prop},Q' k ⟨hp,g,d,tk,os⟩->wpAny (model prog w) B (asIndex (.int k u)) Q' E' ⟨hp,g,d,tk,os⟩:=fun q=>by
   wp_walk
   exact q
  refine ai ?_
  rw[if_neg (by rw[c1];exact Bool.false_ne_true)]
  refine wpAny_bind (tupleItemsOf_ ht ?_)
  rw[if_neg (by rw[c2];exact Bool.false_ne_true)]
  have hm:(items.size:Int)*k<=1000000:=by
   have h3:(items.size:Int)*k<=(items.size:Int)*1000:=Int.mul_le_mul_of_nonneg_left (by omega) (by omega)
   omega
  have c4:¬ ((items.size:Int)*k > (2 ^ 63 - 1) / 8):=by omega
  have c5:Builtin.Tuple.tupleTooMany ((items.size:Int)*k)=false:=decide_eq_false (by rw[sizeLine_eq];omega)
  dsimp only
  rw[if_neg (by rw[c3];exact Bool.false_ne_true),if_neg c4,if_neg (by rw[c5];exact Bool.false_ne_true)]
  have hsz:sizeOk (.seq (List.foldl (fun x1 x2=>x1++x2) #[] (List.replicate k.toNat items))):=by
   show(List.foldl (fun x1 x2=>x1++x2) #[] (List.replicate k.toNat items)).size<=sizeLine
   have:=_L2.foldl_rep items.toList k.toNat []
   rw[List.nil_append]at this
   have e:(List.foldl (fun x1 x2=>x1++x2) #[] (List.replicate k.toNat items))=(List.replicate k.toNat items.toList).flatten.toArray:=this
   rw[e,List.size_toArray,_L2.len_rep,Array.length_toList,sizeLine_eq]
   have h4:k.toNat*items.size<=1000*1000:=Nat.mul_le_mul (by omega) hz
   omega
  exact wpAny_bind (m:=Builtin.Tuple.tupleExact _) (wpAny_newObj_type (wpAny_pure ⟨_,rfl,h⟩) hsz)
theorem mul_tup {t:Addr}{vs:List Value}{k:Int}{u:Tok}{Q:Value->Shared->Prop}(ht:IsTup s.heap t vs.toArray)(h1:1<k)(h2:k<1000)(hv:vs≠[])(hz:vs.length<=1000)
  (h:Q (.ref s.heap.objs.size) {s with heap:=s.heap.push {cls:=.type "tuple",data:=.seq (List.replicate k.toNat vs).flatten.toArray}}):wpAny (model prog w) A (binaryOp .Mult (.ref t) (.int k u)) Q E s:=by
 have hT:=ht.typeIs
 obtain⟨⟨cls,dd,data,sl⟩,ho,hc,n,hd⟩:=id ht
 simp only at hc hd
 subst hc hd
 have hne:vs.toArray.isEmpty=false:=by cases vs with
  |nil=>exact absurd rfl hv
  |cons a r=>rfl
 refine wpAny_binaryOp_repeat_ref (T:="tuple") (U:="int") (by decide) hT (fun s'=>typeIs_int s' k u) je8 PySem.F.fills_int_mul PySem.F.slot_int_rmul jlH PySem.F.slot_int_index.lookup
  (call_meets PySem.F.slot_int_rmul (typeIs_int s k u) PySem.F.entry_int_rmul (PySem.F.args_int_rmul_2 _ _) (jkJ k u t vs.toArray n dd sl) ⟨ho,rfl,hT,
   call_meets PySem.F.slot_tuple_mul hT PySem.F.entry_tuple_mul (PySem.F.args_tuple_mul_2 _ _) (jnd t vs.toArray n dd sl k u h1 h2 hne (by rw[List.size_toArray];exact hz)) ⟨ho,?_⟩⟩)
 have e:=_L2.foldl_rep vs k.toNat []
 rw[List.nil_append]at e
 replace e:(List.foldl (fun x1 x2=>x1++x2) #[] (List.replicate k.toNat vs.toArray))=(List.replicate k.toNat vs).flatten.toArray:=e
 rw[e]
 exact h
end
end HT
namespace _L2
open PySem PySem.Spec PyProof.Rows
section
variable {X:Cx}
noncomputable def ju1 (K:PySem.W.Frag):R2:=fun x y H Q=>∃a b ys,x=.ref a/\y=.ref b/\SqT K H a []/\SqT K H b ys/\Q (.ref b) H
theorem jrx:OpR X (binaryOp .Add) (ju1 X.K):=by
 intro pins s σ H x y v u Q I rx ry h
 obtain⟨a,b,ys,rfl,rfl,ha,hb,q⟩:=h
 cases rx
 cases ry
 obtain⟨its,r1,p1,_⟩:=I.tuple ha
 obtain⟨its2,r2,p2,_⟩:=I.tuple hb
 cases r1
 exact HT.cat_none p1 p2 ⟨.ref b,H,I,rfl,q⟩
noncomputable def jxb (K:PySem.W.Frag):V->Option Int->Option Int->Hp->VK->Prop:=fun x lo hi H Q=>∃a xs,x=.ref a/\SqT K H a xs/\(HT.sIx xs.length 0 lo=0/\HT.sIx xs.length xs.length hi=xs.length)/\Q (.ref a) H
theorem jnl:SlR X (jxb X.K):=by
 intro pins s σ H x v vl vu lo hi sl Q I rx hs pl pu h
 obtain⟨a,xs,rfl,hx,hw,q⟩:=h
 cases rx
 obtain⟨its,r,ht,hz⟩:=I.tuple hx
 have hlen:its.toArray.size=xs.length:=by rw[List.size_toArray];exact r.length.symm
 refine⟨"tuple",_,PyProof.Rows.slot_tuple_getitem.lookup,ht.typeIs,?_⟩
 exact HT.getItem_whole ht hs pl pu (by rw[hlen];exact hw) ⟨.ref a,H,I,rfl,q⟩
noncomputable def jvi (K:PySem.W.Frag):R2:=fun x y H Q=>∃a xs k,x=.ref a/\y=.int k/\SqT K H a xs/\xs≠[]/\xs.length<=1000/\1<k/\k<1000/\∀p,H p=none->Q (.ref p) (upd H p (.tup (List.replicate k.toNat xs).flatten))
theorem jqe:OpR X (binaryOp .Mult) (jvi X.K):=by
 intro pins s σ H x y v u Q I rx ry h
 obtain⟨a,xs,k,rfl,rfl,ha,hne,hl,h1,h2,q⟩:=h
 cases rx
 obtain⟨t,rfl⟩:=ry
 obtain⟨its,r,ht,hz⟩:=I.tuple ha
 refine HT.mul_tup ht h1 h2 (fun z=>hne (r.nil_iff.mp z)) (by rw[<- r.length];exact hl) ?_
 refine⟨.ref s.heap.objs.size,_,I.laid (t':=s.toks) (o:=.tup (List.replicate k.toNat xs).flatten) (fun b ob q=>Heap.get?_push_of_some _ q) (Nat.le_refl _) ?_,rfl,q _ (I.hok.fresh (Nat.le_refl _))⟩
 refine⟨?_,_,r.rep k.toNat,IsTup.new _ _⟩
 rw[len_rep,sizeLine_eq]
 have h4:k.toNat*xs.length<=1000*1000:=Nat.mul_le_mul (by omega) hl
 omega
end
end _L2
namespace _L3
open PySem PySem.Spec PyProof.Rows _L2
set_option genInjectivity true in
inductive D where
 |non|bl (b:Bool)|int (i:Int)|str (x:Str)|ty (n:String)
 |tup (ds:List D)|lst (ds:List D)|scr (ds:List D)
 |dK (ks:List Key) (vs:List D)|dT (ks:List (List Key)) (vs:List D)|dF (ks:List Key) (vs:List D)
 |obj (C:Addr) (fs:List Str) (ds:List D)
 |cel (n:Nat)
inductive Cl where
 |lst (ds:List D)
 |dK (ks:List Key) (vs:List D)|dT (ks:List (List Key)) (vs:List D)
 |obj (C:Addr) (fs:List Str) (ds:List D)
noncomputable abbrev M:=List (Option Cl)
set_option genInjectivity true in
inductive Out (α:Type) where
 |ok (a:α) (μ:M)|exc (x:D) (μ:M)|bad
noncomputable def Out.bind {α β:Type}(o:Out α)(f:α->M->Out β):Out β:=
 match o with
 |.ok a μ=>f a μ
 |.exc x μ=>.exc x μ
 |.bad=>.bad
theorem Out.bind_ok {α β:Type}{o:Out α}{f:α->M->Out β}{b:β}{μ:M}(h:o.bind f=.ok b μ):∃a μ1,o=.ok a μ1/\f a μ1=.ok b μ:=by
 cases o with
 |ok a μ1=>exact⟨a,μ1,rfl,h⟩
 |exc x μ1=>cases h
 |bad=>cases h
structure Wd where
 Z:Hp
 γ:Nat->Addr
section
variable (K:PySem.W.Frag) (w:Wd) (n:Nat)
mutual
noncomputable def Den:D->V->Prop
 |.non,v=>v=.non
 |.bl b,v=>v=.bl b
 |.int i,v=>v=.int i
 |.str x,v=>v=.str x
 |.ty t,v=>v=.ty t
 |.tup ds,v=>∃a xs,v=.ref a/\SqT K w.Z a xs/\DenL ds xs
 |.lst ds,v=>∃a xs,v=.ref a/\w.Z a=some (.lst xs)/\DenL ds xs
 |.scr ds,v=>∃a xs,v=.ref a/\SqL K w.Z a xs/\DenL ds xs
 |.dK ks vs,v=>∃a xs,v=.ref a/\ks.length=vs.length/\w.Z a=some (.dK (ks.zip xs))/\DenL vs xs
 |.dT ks vs,v=>∃a xs,v=.ref a/\ks.length=vs.length/\w.Z a=some (.dT (ks.zip xs))/\DenL vs xs
 |.dF ks vs,v=>∃a o es ep xs,v=.ref a/\ks.length=vs.length/\o.data=.dict es ep/\w.Z a=some (.frz o (.dK (ks.zip xs)))/\DenL vs xs
 |.obj C fs ds,v=>∃a dx xs,v=.ref a/\fs.length=ds.length/\w.Z a=some (.ins C dx (fs.zip xs))/\DenL ds xs
 |.cel k,v=>k<n/\v=.ref (w.γ k)
noncomputable def DenL:List D->List V->Prop
 |[],vs=>vs=[]
 |d::ds,vs=>∃v ws,vs=v::ws/\Den d v/\DenL ds ws
end
noncomputable def Holds (H:Hp)(a:Addr):Cl->Prop
 |.lst ds=>∃xs,H a=some (.lst xs)/\DenL K w n ds xs
 |.dK ks vs=>∃xs,ks.length=vs.length/\H a=some (.dK (ks.zip xs))/\DenL K w n vs xs
 |.dT ks vs=>∃xs,ks.length=vs.length/\H a=some (.dT (ks.zip xs))/\DenL K w n vs xs
 |.obj C fs ds=>∃dx xs,fs.length=ds.length/\H a=some (.ins C dx (fs.zip xs))/\DenL K w n ds xs
end
structure Ext (w w':Wd) (n n':Nat):Prop where
 z:jeB w.Z w'.Z
 g:∀i,i<n->w'.γ i=w.γ i
 le:n<=n'
theorem Ext.refl (w:Wd)(n:Nat):Ext w w n n:=⟨jeB.refl _,fun _ _=>rfl,Nat.le_refl _⟩
theorem Ext.trans {w w1 w2:Wd}{n n1 n2:Nat}(a:Ext w w1 n n1)(b:Ext w1 w2 n1 n2):Ext w w2 n n2:=
 ⟨a.z.trans b.z,fun i hi=>(b.g i (Nat.lt_of_lt_of_le hi a.le)).trans (a.g i hi),Nat.le_trans a.le b.le⟩
section
variable {K:PySem.W.Frag} {w w':Wd} {n n':Nat}
theorem jaF:∀{ds:List D} {xs:List V},DenL K w n ds xs↔Paired (Den K w n) ds xs
 |[],xs=>by
  unfold DenL
  exact⟨fun h=>by subst h;exact .nil,fun h=>by cases h;rfl⟩
 |d::ds,xs=>by
  unfold DenL
  constructor
  ·rintro⟨v,ws,rfl,h1,h2⟩
   exact .cons h1 (jaF.mp h2)
  ·intro h
   cases h with
   |cons h1 h2=>exact⟨_,_,rfl,h1,jaF.mpr h2⟩
mutual
theorem Den.mono (e:Ext w w' n n'):∀{d:D} {v:V},Den K w n d v->Den K w' n' d v
 |.non,_,h=>by unfold Den at h ⊢;exact h
 |.bl _,_,h=>by unfold Den at h ⊢;exact h
 |.int _,_,h=>by unfold Den at h ⊢;exact h
 |.str _,_,h=>by unfold Den at h ⊢;exact h
 |.ty _,_,h=>by unfold Den at h ⊢;exact h
 |.tup ds,_,h=>by
  unfold Den at h ⊢
  obtain⟨a,xs,h1,h2,h3⟩:=h
  exact⟨a,xs,h1,e.z.tup h2,DenL.mono e h3⟩
 |.lst ds,_,h=>by
  unfold Den at h ⊢
  obtain⟨a,xs,h1,h2,h3⟩:=h
  exact⟨a,xs,h1,e.z _ _ h2,DenL.mono e h3⟩
 |.scr ds,_,h=>by
  unfold Den at h ⊢
  obtain⟨a,xs,h1,h2,h3⟩:=h
  exact⟨a,xs,h1,e.z.seq h2,DenL.mono e h3⟩
 |.dK ks vs,_,h=>by
  unfold Den at h ⊢
  obtain⟨a,xs,h1,h2,h3,h4⟩:=h
  exact⟨a,xs,h1,h2,e.z _ _ h3,DenL.mono e h4⟩
 |.dT ks vs,_,h=>by
  unfold Den at h ⊢
  obtain⟨a,xs,h1,h2,h3,h4⟩:=h
  exact⟨a,xs,h1,h2,e.z _ _ h3,DenL.mono e h4⟩
 |.dF ks vs,_,h=>by
  unfold Den at h ⊢
  obtain⟨a,o,es,ep,xs,h1,h2,h3,h4,h5⟩:=h
  exact⟨a,o,es,ep,xs,h1,h2,h3,e.z _ _ h4,DenL.mono e h5⟩
 |.obj C fs ds,_,h=>by
  unfold Den at h ⊢
  obtain⟨a,dx,xs,h1,h2,h3,h4⟩:=h
  exact⟨a,dx,xs,h1,h2,e.z _ _ h3,DenL.mono e h4⟩
 |.cel k,_,h=>by
  unfold Den at h ⊢
  exact⟨Nat.lt_of_lt_of_le h.1 e.le,by rw[e.g k h.1];exact h.2⟩
theorem DenL.mono (e:Ext w w' n n'):∀{ds:List D} {xs:List V},DenL K w n ds xs->DenL K w' n' ds xs
 |[],_,h=>by unfold DenL at h ⊢;exact h
 |d::ds,_,h=>by
  unfold DenL at h ⊢
  obtain⟨v,ws,h1,h2,h3⟩:=h
  exact⟨v,ws,h1,Den.mono e h2,DenL.mono e h3⟩
end
theorem Holds.mono {H H':Hp}{a:Addr}{c:Cl}(e:Ext w w' n n')(ha:H' a=H a)(h:Holds K w n H a c):Holds K w' n' H' a c:=by
 cases c with
 |lst ds=>obtain⟨xs,h1,h2⟩:=h;exact⟨xs,ha.trans h1,h2.mono e⟩
 |dK ks vs=>obtain⟨xs,h0,h1,h2⟩:=h;exact⟨xs,h0,ha.trans h1,h2.mono e⟩
 |dT ks vs=>obtain⟨xs,h0,h1,h2⟩:=h;exact⟨xs,h0,ha.trans h1,h2.mono e⟩
 |obj C fs ds=>obtain⟨dx,xs,h0,h1,h2⟩:=h;exact⟨dx,xs,h0,ha.trans h1,h2.mono e⟩
theorem Holds.some {H:Hp}{a:Addr}{c:Cl}(h:Holds K w n H a c):∃o,H a=some o:=by
 cases c with
 |lst ds=>obtain⟨xs,h1,h2⟩:=h;exact⟨_,h1⟩
 |dK ks vs=>obtain⟨xs,h0,h1,h2⟩:=h;exact⟨_,h1⟩
 |dT ks vs=>obtain⟨xs,h0,h1,h2⟩:=h;exact⟨_,h1⟩
 |obj C fs ds=>obtain⟨dx,xs,h0,h1,h2⟩:=h;exact⟨_,h1⟩
end
structure Rep (K:PySem.W.Frag) (w:Wd) (μ:M) (H:Hp):Prop where
 sub:jeB w.Z H
 liv:∀k c,μ[k]?=some (some c)->w.Z (w.γ k)=none/\Holds K w μ.length H (w.γ k) c
 inj:∀i j ci cj,μ[i]?=some (some ci)->μ[j]?=some (some cj)->w.γ i=w.γ j->i=j
section
variable {K:PySem.W.Frag} {w:Wd} {μ:M} {H:Hp}
theorem Rep.znone (R:Rep K w μ H){p:Addr}(hp:H p=none):w.Z p=none:=R.sub.free hp
theorem Rep.ne (R:Rep K w μ H){p:Addr}(hp:H p=none){k:Nat}{c:Cl}(h:μ[k]?=some (some c)):w.γ k≠p:=fun e=>by
 obtain⟨o,ho⟩:=(R.liv k c h).2.some
 rw[e,hp]at ho
 cases ho
theorem Rep.frz (R:Rep K w μ H){p:Addr}(hp:H p=none)(o:HO):Rep K ⟨upd w.Z p o,w.γ⟩ μ (upd H p o)/\Ext w ⟨upd w.Z p o,w.γ⟩ μ.length μ.length:=by
 have ex:Ext w ⟨upd w.Z p o,w.γ⟩ μ.length μ.length:=⟨(jeB.refl _).upd (R.znone hp),fun _ _=>rfl,Nat.le_refl _⟩
 refine⟨⟨fun b u h=>?_,fun k c h=>?_,R.inj⟩,ex⟩
 ·replace h:upd w.Z p o b=some u:=h
  by_cases e:b=p
  ·subst e
   rw[jaC]at h ⊢
   exact h
  ·rw[jaj e]at h ⊢
   exact R.sub _ _ h
 ·have hne:=R.ne hp h
  exact⟨by show upd w.Z p o (w.γ k)=none;rw[jaj hne];exact(R.liv k c h).1,(R.liv k c h).2.mono ex (jaj hne)⟩
theorem Rep.cell (R:Rep K w μ H){p:Addr}(hp:H p=none)(o:HO)(c:Cl)(hc:∀w':Wd,Ext w w' μ.length (μ.length+1)->Holds K w' (μ.length+1) (upd H p o) p c) :
  ∃w':Wd,Rep K w' (μ++[some c]) (upd H p o)/\Ext w w' μ.length (μ.length+1)/\w'.γ μ.length=p:=by
 have ex:Ext w ⟨w.Z,fun i=>if i=μ.length then p else w.γ i⟩ μ.length (μ.length+1):=⟨jeB.refl _,fun i hi=>if_neg (Nat.ne_of_lt hi),Nat.le_succ _⟩
 have hcases:∀(k:Nat) (d:Cl),(μ++[some c])[k]?=some (some d)->(k<μ.length/\μ[k]?=some (some d))∨(k=μ.length/\d=c):=fun k d h=>by
  by_cases hk:k<μ.length
  ·exact .inl ⟨hk,by rwa [List.getElem?_append_left hk]at h⟩
  ·rw[List.getElem?_append_right (by omega)]at h
   have hk0:k - μ.length=0:=by
    cases e:k - μ.length with
    |zero=>rfl
    |succ m=>rw[e]at h;simp at h
   rw[hk0]at h
   exact .inr ⟨by omega,by simpa using h.symm⟩
 refine⟨_,⟨?_,?_,?_⟩,ex,if_pos rfl⟩
 ·intro b u h
  have hb:b≠p:=jak (R.sub _ _ h) hp
  rw[jaj hb]
  exact R.sub _ _ h
 ·intro k d h
  have hlen:(μ++[some c]).length=μ.length+1:=by simp
  rw[hlen]
  rcases hcases k d h with⟨hk,h'⟩|⟨rfl,rfl⟩
  ·have hne:=R.ne hp h'
   have hg:(if k=μ.length then p else w.γ k)=w.γ k:=if_neg (Nat.ne_of_lt hk)
   show w.Z (if k=μ.length then p else w.γ k)=none/\Holds K _ _ _ (if k=μ.length then p else w.γ k) d
   rw[hg]
   exact⟨(R.liv k d h').1,(R.liv k d h').2.mono ex (jaj hne)⟩
  ·show w.Z (if μ.length=μ.length then p else w.γ μ.length)=none/\Holds K _ _ _ (if μ.length=μ.length then p else w.γ μ.length) d
   rw[if_pos rfl]
   exact⟨R.znone hp,hc _ ex⟩
 ·intro i j ci cj hi hj e
  have e':(if i=μ.length then p else w.γ i)=(if j=μ.length then p else w.γ j):=e
  rcases hcases i ci hi with⟨hi',h1⟩|⟨rfl,_⟩<;>rcases hcases j cj hj with⟨hj',h2⟩|⟨rfl,_⟩
  ·rw[if_neg (Nat.ne_of_lt hi'),if_neg (Nat.ne_of_lt hj')]at e'
   exact R.inj i j ci cj h1 h2 e'
  ·rw[if_neg (Nat.ne_of_lt hi'),if_pos rfl]at e'
   exact absurd e' (R.ne hp h1)
  ·rw[if_pos rfl,if_neg (Nat.ne_of_lt hj')]at e'
   exact absurd e'.symm (R.ne hp h2)
  ·rfl
theorem Rep.put (R:Rep K w μ H){k:Nat}{c0 c:Cl}(hk:μ[k]?=some (some c0))(o:HO)(hc:Holds K w μ.length (upd H (w.γ k) o) (w.γ k) c):Rep K w (μ.set k (some c)) (upd H (w.γ k) o):=by
 have hkl:k<μ.length:=(List.getElem?_eq_some_iff.mp hk).1
 have hz:=(R.liv k c0 hk).1
 have hcases:∀(j:Nat) (d:Cl),(μ.set k (some c))[j]?=some (some d)->(j=k/\d=c)∨(j≠k/\μ[j]?=some (some d)):=fun j d h=>by
  by_cases e:j=k
  ·subst e
   rw[List.getElem?_set_self hkl]at h
   exact .inl ⟨rfl,by simpa using h.symm⟩
  ·rw[List.getElem?_set_ne (fun z=>e z.symm)]at h
   exact .inr ⟨e,h⟩
 refine⟨fun b u h=>?_,fun j d h=>?_,fun i j ci cj hi hj e=>?_⟩
 ·have hb:b≠w.γ k:=fun z=>by rw[z,hz]at h;cases h
  rw[jaj hb]
  exact R.sub _ _ h
 ·rw[List.length_set]
  rcases hcases j d h with⟨rfl,rfl⟩|⟨hne,h'⟩
  ·exact⟨hz,hc⟩
  ·have:w.γ j≠w.γ k:=fun z=>hne (R.inj j k d c0 h' hk z)
   exact⟨(R.liv j d h').1,(R.liv j d h').2.mono (Ext.refl _ _) (jaj this)⟩
 ·have l1:∃c',μ[i]?=some (some c'):=by
   rcases hcases i ci hi with⟨rfl,_⟩|⟨_,h⟩
   ·exact⟨_,hk⟩
   ·exact⟨_,h⟩
  have l2:∃c',μ[j]?=some (some c'):=by
   rcases hcases j cj hj with⟨rfl,_⟩|⟨_,h⟩
   ·exact⟨_,hk⟩
   ·exact⟨_,h⟩
  exact R.inj i j _ _ l1.choose_spec l2.choose_spec e
end
noncomputable abbrev S3:=List (Option D)
noncomputable def jxI (K:PySem.W.Frag)(w:Wd)(n:Nat)(o:Option D)(x:Option V):Prop:=∀d,o=some d->∃v,x=some v/\Den K w n d v
noncomputable abbrev jb1 (K:PySem.W.Frag) (w:Wd) (n:Nat) (ρ:S3) (σ:_L2.St):Prop:=Paired (jxI K w n) ρ σ
section
variable {K:PySem.W.Frag} {w w':Wd} {n n':Nat}
theorem jb1.mono (e:Ext w w' n n'):∀{ρ:S3} {σ:_L2.St},jb1 K w n ρ σ->jb1 K w' n' ρ σ
 |_,_,.nil=>.nil
 |_,_,.cons h t=>.cons (fun d hd=>let⟨v,h1,h2⟩:=h d hd;⟨v,h1,h2.mono e⟩) (jb1.mono e t)
theorem jb1.get:∀{ρ:S3} {σ:_L2.St} {i:Nat} {d:D},jb1 K w n ρ σ->ρ[i]?=some (some d)->∃v,σ[i]?=some (some v)/\Den K w n d v
 |_,_,0,d,.cons h t,e=>by
  obtain⟨v,h1,h2⟩:=h d (by simpa using e)
  exact⟨v,by simp[h1],h2⟩
 |_,_,i+1,d,.cons h t,e=>by
  obtain⟨v,h1,h2⟩:=jb1.get (i:=i) (d:=d) t (by simpa using e)
  exact⟨v,by simpa using h1,h2⟩
 |_,_,_,_,.nil,e=>by simp at e
theorem jb1.set {d:D}{v:V}(hd:Den K w n d v):∀{ρ:S3} {σ:_L2.St} (i:Nat),jb1 K w n ρ σ->jb1 K w n (ρ.set i (some d)) (σ.set i (some v))
 |_,_,_,.nil=>.nil
 |_,_,0,.cons _ t=>.cons (fun d' e=>by cases e;exact⟨v,rfl,hd⟩) t
 |_,_,i+1,.cons h t=>.cons h (jb1.set hd i t)
theorem jb1.drop1:∀{ρ:S3} {σ:_L2.St} (i:Nat),jb1 K w n ρ σ->jb1 K w n (ρ.set i none) σ
 |_,_,_,.nil=>.nil
 |_,_,0,.cons _ t=>.cons (fun d' e=>by cases e) t
 |_,_,i+1,.cons h t=>.cons h (jb1.drop1 i t)
noncomputable def forget (fg:List Nat)(ρ:S3):S3:=fg.foldl (fun r i=>r.set i none) ρ
theorem jb1.forget:∀(fg:List Nat) {ρ:S3} {σ:_L2.St},jb1 K w n ρ σ->jb1 K w n (forget fg ρ) σ
 |[],_,_,h=>h
 |i::fg,_,_,h=>jb1.forget fg (h.drop1 i)
theorem jb1.blank:∀(k:Nat) {ρ:S3} {σ:_L2.St},jb1 K w n ρ σ->jb1 K w n (List.replicate k none++ρ) (List.replicate k none++σ)
 |0,_,_,h=>h
 |k+1,_,_,h=>by
  rw[List.replicate_succ,List.replicate_succ]
  exact .cons (fun d e=>by cases e) (jb1.blank k h)
theorem jb1.start {vs:List V}{ds:List D}(h:DenL K w n ds vs)(m:Nat):jb1 K w n (ds.map some++List.replicate m none) (vs.map some++List.replicate m none):=by
 have h':=jaF.mp h
 clear h
 induction h' with
 |nil=>
  have:=jb1.blank (K:=K) (w:=w) (n:=n) m (Paired.nil:jb1 K w n [] [])
  simpa using this
 |cons r t ih=>exact .cons (fun d e=>by cases e;exact⟨_,rfl,r⟩) ih
end
noncomputable def T3E (K:PySem.W.Frag)(r:S3->M->Out D):TE:=fun σ H Q=>∃(w:Wd) (μ:M) (ρ:S3) (d:D) (μ':M),Rep K w μ H/\jb1 K w μ.length ρ σ/\r ρ μ=.ok d μ'/\∀w' H' v,Ext w w' μ.length μ'.length->Rep K w' μ' H'->Den K w' μ'.length d v->Q v H'
noncomputable def T3T (K:PySem.W.Frag)(r:S3->M->Out Bool):TT:=fun σ H Q=>∃(w:Wd) (μ:M) (ρ:S3) (b:Bool) (μ':M),Rep K w μ H/\jb1 K w μ.length ρ σ/\r ρ μ=.ok b μ'/\∀w' H',Ext w w' μ.length μ'.length->Rep K w' μ' H'->Q b H'
noncomputable def T3A (K:PySem.W.Frag)(r:S3->M->Out (List D)):TA:=fun σ H Q=>∃(w:Wd) (μ:M) (ρ:S3) (ds:List D) (μ':M),Rep K w μ H/\jb1 K w μ.length ρ σ/\r ρ μ=.ok ds μ'/\∀w' H' vs,Ext w w' μ.length μ'.length->Rep K w' μ' H'->DenL K w' μ'.length ds vs->Q vs H'
set_option genInjectivity true in
inductive Fl where
 |nx (ρ:S3)|rt (d:D)|bk (ρ:S3)|ct (ρ:S3)
noncomputable def jwe (K:PySem.W.Frag)(w:Wd)(n:Nat)(H:Hp)(E:Ends):Fl->Prop
 |.nx ρ=>∀σ,jb1 K w n ρ σ->E.nx σ H
 |.rt d=>∀v,Den K w n d v->E.rt v H
 |.bk ρ=>∀σ,jb1 K w n ρ σ->E.bk σ H
 |.ct ρ=>∀σ,jb1 K w n ρ σ->E.ct σ H
noncomputable def T3S (K:PySem.W.Frag)(r:S3->M->Out Fl):TS:=fun E σ H=>∃(w:Wd) (μ:M) (ρ:S3) (fl:Fl) (μ':M),Rep K w μ H/\jb1 K w μ.length ρ σ/\r ρ μ=.ok fl μ'/\∀w' H',Ext w w' μ.length μ'.length->Rep K w' μ' H'->jwe K w' μ'.length H' E fl
noncomputable abbrev Fn:=List D->M->Out D
noncomputable def jdi (K:PySem.W.Frag)(np:Nat)(F:Fn):Sp:=fun vs H Q _=>vs.length=np/\∃(w:Wd) (μ:M) (ds:List D) (d:D) (μ':M),Rep K w μ H/\DenL K w μ.length ds vs/\F ds μ=.ok d μ'/\∀w' H' v,Ext w w' μ.length μ'.length->Rep K w' μ' H'->Den K w' μ'.length d v->Q v H'
end _L3
namespace _L3
open PySem PySem.Spec PyProof.Rows _L2
inductive Tg where|nm (i:Nat)|tp (is:List Nat)
inductive IK where|seq|enm|zip|rng1|rng2|str|items
inductive Md where|raw|frz|new
inductive Bi where|len|sum|min2|max2|list|tuple|int|all|isT (n:String)|isT2 (n m:String)|listRange|str|lenSet|dictZip
inductive Mt where|append|extend|join|split
inductive E where
 |var (i:Nat)|cst (d:D)
 |bin (op:Operator) (m:Bool) (a b:E)
 |neg (a:E)|not_ (a:E)|and_ (a b:E)|or_ (a b:E)
 |cmp (op:CmpOp) (a b:E)|chain (o1 o2:CmpOp) (a b c:E)
 |isN (a:E)|notN (a:E)
 |ife (c a b:E)
 |tup (es:List E)|lst (m:Bool) (es:List E)
 |ix (a b:E)|sl (m:Bool) (a:E) (lo hi:List E)|stp (m:Bool) (a:E) (lo st:List E)
 |fld (a:E) (i:Nat) (f:Str)
 |call (f:Nat) (md:Md) (es:List E)
 |bi (b:Bi) (m:Bool) (es:List E)
 |mt (b:Mt) (o:E) (es:List E)
 |comp (m:Bool) (own:Nat) (tg:Tg) (ik:IK) (es:List E) (ifs:List E) (elt:E)
 |gl (f:Nat)|gget (f:Nat) (a d:E)|gin (neg:Bool) (f:Nat) (a:E)|gix (f:Nat) (a:E)
inductive S where
 |asg (tg:Tg) (e:E)|par (i j:Nat) (a b:E)|unp (is:List Nat) (e:E)|setF (o:E) (i:Nat) (f:Str) (e:E)|setI (o i e:E)|ex (e:E)
 |ite (c:E) (a b:List S)
 |for_ (tg:Tg) (ik:IK) (es:List E) (body:List S) (fg:List Nat)
 |ret (e:E)|retN|pass|never
inductive Dat where
 |cst (d:D)|dct (kvs:List (Str×D))|cls (C:Addr) (k:Nat) (fs:List Str)
structure FnE where
 name:Str
 ps:List Str
 lv:Nat
 F:Fn
 dat:Option Dat
noncomputable def jeS (μ:M):D->Option (List D)
 |.lst ds=>some ds
 |.scr ds=>some ds
 |.cel k=>match μ[k]? with
  |some (some (.lst ds))=>some ds
  |_=>none
 |_=>none
noncomputable def jfX (μ:M):D->Option (List D)
 |.tup ds=>some ds
 |d=>jeS μ d
noncomputable def mkL (m:Bool)(ds:List D)(μ:M):Out D:=if m then .ok (.cel μ.length) (μ++[some (.lst ds)])else .ok (.lst ds) μ
noncomputable def cutD (ds:List D)(lo hi:Option Int):List D:=(ds.drop (HT.sIx ds.length 0 lo)).take (HT.sIx ds.length ds.length hi - HT.sIx ds.length 0 lo)
noncomputable def jis:D->Option V
 |.non=>some .non
 |.bl b=>some (.bl b)
 |.int i=>some (.int i)
 |.str x=>some (.str x)
 |_=>none
noncomputable abbrev jnZ (i j:Int):Prop:=(-18446744073709551616<i/\i<18446744073709551616)∨(-18446744073709551616<j/\j<18446744073709551616)
noncomputable abbrev jva (_ j:Int):Prop:=0<j/\j<18446744073709551616
noncomputable abbrev jwH (_ j:Int):Prop:=0<j
noncomputable abbrev jtl (i j:Int):Prop:=0<=j/\j<=1000000/\i.natAbs<18446744073709551616
noncomputable def jsR (C:Int->Int->Prop)(f:Int->Int->Int)(a b:D)(μ:M):Out D:=
 match a,b with
 |.int i,.int j=>@ite _ (C i j) (Classical.propDecidable _) (.ok (.int (f i j)) μ) .bad
 |_,_=>.bad
noncomputable def jwJ (m:Bool)(a b:D)(μ:M):Out D:=
 match a,b with
 |.int i,.int j=>.ok (.int (i+j)) μ
 |.str x,.str y=>@ite _ (x.length+y.length<=sizeLine) (Classical.propDecidable _) (.ok (.str (x++y)) μ) .bad
 |.tup xs,.tup ys=>@ite _ (xs.length+ys.length<=sizeLine) (Classical.propDecidable _) (.ok (.tup (xs++ys)) μ) .bad
 |a,b=>match jeS μ a,jeS μ b with
  |some xs,some ys=>@ite _ (xs.length+ys.length<=sizeLine) (Classical.propDecidable _) (mkL m (xs++ys) μ) .bad
  |_,_=>.bad
noncomputable def jwD (a b:D)(μ:M):Out D:=
 match a,b with
 |.int i,.int j=>@ite _ (jnZ i j) (Classical.propDecidable _) (.ok (.int (i*j)) μ) .bad
 |.str z,.int n=>if 0<=n/\n<=1000/\z.length<=1000 then .ok (.str (Txt.mul z n)) μ else .bad
 |.tup ds,.int n=>if 1<n/\n<1000/\ds≠[]/\ds.length<=1000 then .ok (.tup (List.replicate n.toNat ds).flatten) μ else .bad
 |_,_=>.bad
noncomputable def jjL (op:Operator)(m:Bool):D->D->M->Out D:=
 match op with
 |.Add=>jwJ m
 |.Sub=>jsR (fun _ _=>True) (· - ·)
 |.Mult=>jwD
 |.FloorDiv=>jsR jva (· / ·)
 |.Mod=>jsR jwH (· % ·)
 |.Pow=>jsR jtl (fun i j=>i ^ j.toNat)
 |_=>fun _ _ _=>.bad
noncomputable def jkT (f:D->D->Option Bool):List D->List D->Option Bool
 |x::xs,y::ys=>match f x y,jkT f xs ys with
  |some a,some b=>some (a&&b)
  |_,_=>none
 |_,_=>some true
noncomputable def eqN (f:D->D->Option Bool)(μ:M)(a b:D):Option Bool:=
 match a,b with
 |.tup xs,.tup ys=>(jkT f xs ys).map (· && xs.length==ys.length)
 |a,b=>match jeS μ a,jeS μ b with
  |some xs,some ys=>if xs.length=ys.length then jkT f xs ys else some false
  |_,_=>none
noncomputable def eqD (μ:M):Nat->D->D->Option Bool
 |0,_,_=>none
 |n+1,a,b=>match jis a,jis b with
  |some x,some y=>some (eqV x y)
  |_,_=>eqN (eqD μ n) μ a b
noncomputable def jkl (μ:M)(a b:D):Option Bool:=
 match jis a,jis b with
 |some x,some y=>if jvA x y=true then some (decide (x=y))else none
 |_,_=>eqN (eqD μ 8) μ a b
noncomputable def jvB (x:V):List D->Option Bool
 |[]=>some false
 |d::ds=>match jis d,jvB x ds with
  |some y,some r=>some (eqV y x||r)
  |_,_=>none
noncomputable def jwu:D->Option Key
 |.int i=>some (.inl i)
 |.str x=>some (.inr x)
 |_=>none
noncomputable def jkO (μ:M):D->Option (List Key×List D)
 |.dK ks vs=>some (ks,vs)
 |.dF ks vs=>some (ks,vs)
 |.cel c=>match μ[c]? with
  |some (some (.dK ks vs))=>some (ks,vs)
  |_=>none
 |_=>none
noncomputable def jkW (k:Key):List Key->List D->Option D
 |g::ks,d::ds=>if g=k then some d else jkW k ks ds
 |_,_=>none
noncomputable def inD (μ:M)(a b:D):Option Bool:=
 match jfX μ b with
 |some ds=>match jis a with
  |some x=>jvB x ds
  |none=>none
 |none=>match jwu a,jkO μ b with
  |some k,some (ks,vs)=>some (jkW k ks vs).isSome
  |_,_=>none
noncomputable def joJ (op:CmpOp)(a b:D)(μ:M):Option Bool:=
 match op with
 |.Eq=>jkl μ a b
 |.NotEq=>(jkl μ a b).map (!·)
 |.Lt=>match a,b with
  |.int i,.int j=>some (decide (i<j))
  |.str i,.str j=>some (decide (i.cps.toList<j.cps.toList))
  |_,_=>none
 |.LtE=>match a,b with
  |.int i,.int j=>some (decide (i<=j))
  |.str i,.str j=>some (!decide (j.cps.toList<i.cps.toList))
  |_,_=>none
 |.Gt=>match a,b with
  |.int i,.int j=>some (decide (j<i))
  |_,_=>none
 |.GtE=>match a,b with
  |.int i,.int j=>some (decide (j<=i))
  |_,_=>none
 |.In=>inD μ a b
 |.NotIn=>(inD μ a b).map (!·)
 |.Is=>match a,b with
  |.bl c,.bl d=>some (c==d)
  |_,_=>none
 |.IsNot=>match a,b with
  |.bl c,.bl d=>some (c !=d)
  |_,_=>none
noncomputable def je5 (op:CmpOp)(a b:D)(μ:M):Out D:=
 match joJ op a b μ with
 |some r=>.ok (.bl r) μ
 |none=>.bad
noncomputable def jvD (μ:M):D->Option Bool
 |.non=>some false
 |.bl b=>some b
 |.int i=>some (i !=0)
 |.str y=>@ite _ (y.length<=sizeLine) (Classical.propDecidable _) (some ((y.length:Int) !=0)) none
 |.tup ds=>some (!ds.isEmpty)
 |d=>(jeS μ d).map (!·.isEmpty)
noncomputable def jvL (a:D)(k:Key)(μ:M):Out D:=
 match jkO μ a with
 |some (ks,vs)=>match jkW k ks vs with
  |some d=>.ok d μ
  |none=>.bad
 |none=>.bad
noncomputable def ixD (a b:D)(μ:M):Out D:=
 match b with
 |.int i=>match a with
  |.str z=>@ite _ (z.length<=sizeLine) (Classical.propDecidable _) (match atI z.cps.toList i with
    |some c=>.ok (.str ⟨#[c]⟩) μ
    |none=>.bad) .bad
  |a=>match jfX μ a with
   |some ds=>match atI ds i with
    |some d=>.ok d μ
    |none=>.bad
   |none=>jvL a (.inl i) μ
 |.str k=>jvL a (.inr k) μ
 |_=>.bad
noncomputable def slD (m:Bool)(a:D)(lo hi:Option Int)(μ:M):Out D:=
 match a with
 |.str z=>@ite _ (z.length<=sizeLine) (Classical.propDecidable _) (.ok (.str (Txt.slice z lo hi)) μ) .bad
 |.tup ds=>.ok (.tup (cutD ds lo hi)) μ
 |a=>match jeS μ a with
  |some ds=>mkL m (cutD ds lo hi) μ
  |none=>.bad
noncomputable def jxq (m:Bool)(a:D)(lo st:Option Int)(μ:M):Out D:=
 match lo,st with
 |some i,some k=>if 0<=i/\0<k then match jeS μ a with
   |some ds=>mkL m ((jwI ds.length i k).filterMap (ds[·]?)) μ
   |none=>.bad
  else .bad
 |_,_=>.bad
noncomputable def jn (f:Str):List Str->List D->Option D
 |g::fs,d::ds=>if f=g then some d else jn f fs ds
 |_,_=>none
open Classical in
noncomputable def jvE (C:Addr)(f:Str)(a:D)(μ:M):Out D:=
 match a with
 |.obj C' fs ds=>match(if C'=C then jn f fs ds else none)with
  |some d=>.ok d μ
  |none=>.bad
 |.cel k=>match μ[k]? with
  |some (some (.obj C' fs ds))=>match(if C'=C then jn f fs ds else none)with
   |some d=>.ok d μ
   |none=>.bad
  |_=>.bad
 |_=>.bad
noncomputable def jgo (f:Str):List Str->List Str
 |[]=>[f]
 |g::r=>if g=f then g::r else g::jgo f r
noncomputable def jd9 {α:Type}(f:Str)(d:α):List Str->List α->List α
 |[],_=>[d]
 |g::r,x::xs=>if g=f then d::xs else x::jd9 f d r xs
 |_::_,[]=>[]
open Classical in
noncomputable def jvN (C:Addr)(f:Str)(d x:D)(μ:M):Option M:=
 match x with
 |.cel k=>match μ[k]? with
  |some (some (.obj C' fs ds))=>if C'=C/\fs.length<1000 then some (μ.set k (some (.obj C' (jgo f fs) (jd9 f d fs ds))))else none
  |_=>none
 |_=>none
noncomputable def jri:List D->Option (List Bool)
 |[]=>some []
 |.bl i::ds=>(jri ds).map (i :: ·)
 |_=>none
noncomputable def jgq:List D->Option (List Str)
 |[]=>some []
 |.str i::ds=>(jgq ds).map (i :: ·)
 |_=>none
noncomputable def tyD (μ:M):D->Option String
 |.non=>some "NoneType"
 |.bl _=>some "bool"
 |.int _=>some "int"
 |.str _=>some "str"
 |.tup _=>some "tuple"
 |.scr _=>none
 |d=>(jeS μ d).map fun _=>"list"
noncomputable def jsQ (n t:String):Option Bool:=
 if n = "int" then some (t = "int" ||t = "bool")
 else if n = "bool"∨n = "str"∨n = "tuple"∨n = "list"∨n = "dict" then some (t=n)
 else none
noncomputable def jwG (ds:List D)(μ:M):Out D:=
 match ds with
 |[.str z]=>@ite _ (z.length<=sizeLine) (Classical.propDecidable _) (.ok (.int z.length) μ) .bad
 |[d]=>match jfX μ d with
  |some xs=>.ok (.int xs.length) μ
  |none=>.bad
 |_=>.bad
noncomputable def jvX (ds:List D)(μ:M):Out D:=
 match ds with
 |[.int i,.int j]=>.ok (.int (if j<i then j else i)) μ
 |_=>.bad
noncomputable def jwa (ds:List D)(μ:M):Out D:=
 match ds with
 |[.int i,.int j]=>.ok (.int (if j > i then j else i)) μ
 |_=>.bad
noncomputable def jsw (m:Bool)(ds:List D)(μ:M):Out D:=
 match ds with
 |[d]=>match jfX μ d with
  |some xs=>mkL m xs μ
  |none=>.bad
 |_=>.bad
noncomputable def jk0 (ds:List D)(μ:M):Out D:=
 match ds with
 |[d]=>match jfX μ d with
  |some xs=>.ok (.tup xs) μ
  |none=>.bad
 |_=>.bad
noncomputable def jmq (ds:List D)(μ:M):Out D:=
 match ds with
 |[.int i]=>.ok (.int i) μ
 |[.bl k]=>.ok (.int (if k then 1 else 0)) μ
 |[.str z]=>match PySem.intText? z with
  |some n=>if z.length<=640 then .ok (.int n) μ else .bad
  |none=>.bad
 |_=>.bad
noncomputable def jvO (ds:List D)(μ:M):Out D:=
 match ds with
 |[d]=>match jeS μ d with
  |some xs=>match jri xs with
   |some bs=>.ok (.bl (bs.all id)) μ
   |none=>.bad
  |none=>.bad
 |_=>.bad
noncomputable def jvP (n:String)(ds:List D)(μ:M):Out D:=
 match ds with
 |[d]=>match tyD μ d with
  |some t=>match jsQ n t with
   |some r=>.ok (.bl r) μ
   |none=>.bad
  |none=>.bad
 |_=>.bad
noncomputable def jnF (n m t:String):Option Bool:=
 match jsQ n t with
 |some true=>some true
 |some false=>jsQ m t
 |none=>none
noncomputable def jro (n m:String)(ds:List D)(μ:M):Out D:=
 match ds with
 |[d]=>match tyD μ d with
  |some t=>match jnF n m t with
   |some b=>.ok (.bl b) μ
   |none=>.bad
  |none=>.bad
 |_=>.bad
noncomputable def jh (ds:List D)(μ:M):Out D:=
 match ds with
 |[d]=>match jfX μ d with
  |some xs=>match jgq xs with
   |some zs=>if zs.length<=1000 then .ok (.int (ddS zs).length) μ else .bad
   |none=>.bad
  |none=>.bad
 |_=>.bad
noncomputable def biD (b:Bi)(m:Bool):List D->M->Out D:=
 match b with
 |.len=>jwG
 |.sum=>fun _ _=>.bad
 |.min2=>jvX
 |.max2=>jwa
 |.list=>jsw m
 |.tuple=>jk0
 |.int=>jmq
 |.all=>jvO
 |.isT n=>jvP n
 |.isT2 n m=>jro n m
 |.listRange=>fun _ _=>.bad
 |.str=>fun _ _=>.bad
 |.lenSet=>jh
 |.dictZip=>fun _ _=>.bad
noncomputable def jkX (b:Mt)(o:D)(μ:M):Bool:=
 match b,o with
 |.join,.str _=>true
 |.join,_=>false
 |.split,.str _=>true
 |.split,_=>false
 |_,.cel k=>match μ[k]? with
  |some (some (.lst _))=>true
  |_=>false
 |_,_=>false
noncomputable def jm9 (o:D)(ds:List D)(μ:M):Out D:=
 match o,ds with
 |.cel k,[d]=>match μ[k]? with
  |some (some (.lst xs))=>@ite _ (xs.length<sizeLine) (Classical.propDecidable _) (.ok .non (μ.set k (some (.lst (xs++[d]))))) .bad
  |_=>.bad
 |_,_=>.bad
noncomputable def jnI (o:D)(ds:List D)(μ:M):Out D:=
 match o,ds with
 |.str z,[d]=>match jeS μ d with
  |some xs=>match jgq xs with
   |some ys=>@ite _ ((ys.map (·.length)).sum+ys.length*z.length<=16777216) (Classical.propDecidable _) (.ok (.str (Txt.join z ys)) μ) .bad
   |none=>.bad
  |none=>.bad
 |_,_=>.bad
noncomputable def mtD (b:Mt):D->List D->M->Out D:=
 match b with
 |.append=>jm9
 |.extend=>fun _ _ _=>.bad
 |.join=>jnI
 |.split=>fun _ _ _=>.bad
noncomputable def jmg:List Nat->List D->S3->Option S3
 |[],[],ρ=>some ρ
 |i::is,d::ds,ρ=>jmg is ds (ρ.set i (some d))
 |_,_,_=>none
noncomputable def jiR (tg:Tg)(d:D)(ρ:S3):Option S3:=
 match tg,d with
 |.nm i,d=>some (ρ.set i (some d))
 |.tp is,.tup ds=>jmg is ds ρ
 |_,_=>none
noncomputable def jjN:List D->List D->List D
 |x::xs,y::ys=>.tup [x,y]::jjN xs ys
 |_,_=>[]
noncomputable def jfd:Nat->List D->List D
 |k,x::xs=>.tup [.int (k:Int),x]::jfd (k+1) xs
 |_,[]=>[]
noncomputable def jv2 (ds:List D)(μ:M):Option (List D):=
 match ds with
 |[d]=>jfX μ d
 |_=>none
noncomputable def jpT (ds:List D)(μ:M):Option (List D):=
 match ds with
 |[d]=>(jfX μ d).map (jfd 0)
 |_=>none
noncomputable def jl2 (ds:List D)(μ:M):Option (List D):=
 match ds with
 |[d,d']=>match jfX μ d,jfX μ d' with
  |some xs,some ys=>some (jjN xs ys)
  |_,_=>none
 |_=>none
noncomputable def jjw (ds:List D)(_:M):Option (List D):=
 match ds with
 |[.int j]=>@ite _ (-(2 ^ 62)<=j/\j<2 ^ 62) (Classical.propDecidable _) (some ((List.range j.toNat).map fun(k:Nat)=>.int (k:Int))) none
 |_=>none
noncomputable def jjX (ds:List D)(_:M):Option (List D):=
 match ds with
 |[.int i,.int j]=>@ite _ (-(2 ^ 62)<=i/\i<2 ^ 62/\-(2 ^ 62)<=j/\j<2 ^ 62) (Classical.propDecidable _) (some ((List.range (j - i).toNat).map fun(k:Nat)=>.int (i+(k:Int)))) none
 |_=>none
noncomputable def jqE (ds:List D)(_:M):Option (List D):=
 match ds with
 |[.str z]=>some (z.cps.toList.map fun c=>.str ⟨#[c]⟩)
 |_=>none
noncomputable def jvs:Key->D
 |.inl i=>.int i
 |.inr x=>.str x
noncomputable def jxo:List Key->List D->List D
 |k::ks,d::ds=>.tup [jvs k,d]::jxo ks ds
 |_,_=>[]
noncomputable def jr5 (ds:List D)(_:M):Option (List D):=
 match ds with
 |[.dF ks vs]=>some (jxo ks vs)
 |_=>none
noncomputable def itD (ik:IK):List D->M->Option (List D):=
 match ik with
 |.seq=>jv2
 |.enm=>jpT
 |.zip=>jl2
 |.rng1=>jjw
 |.rng2=>jjX
 |.str=>jqE
 |.items=>jr5
noncomputable def jdr (ik:IK)(ds:List D)(xs:List D)(μ:M):Bool:=@decide (itD ik ds μ=some xs) (Classical.propDecidable _)
noncomputable def jdg (ok:M->Bool)(tg:Tg)(cond:S3->M->Out Bool)(elt:S3->M->Out D)(ρ:S3):List D->M->Out (List D)
 |[],μ=>if ok μ then .ok [] μ else .bad
 |d::ds,μ=>if ok μ then match jiR tg d ρ with
   |some ρ1=>(cond ρ1 μ).bind fun b μ1=>if b then(elt ρ1 μ1).bind fun y μ2=>(jdg ok tg cond elt ρ ds μ2).bind fun ys μ3=>.ok (y::ys) μ3 else jdg ok tg cond elt ρ ds μ1
   |none=>.bad
  else .bad
noncomputable def jdh (ok:M->Bool)(tg:Tg)(body:S3->M->Out Fl)(fg:List Nat):List D->S3->M->Out Fl
 |[],ρ,μ=>if ok μ then .ok (.nx (forget fg ρ)) μ else .bad
 |d::ds,ρ,μ=>if ok μ then match jiR tg d ρ with
   |some ρ1=>match body ρ1 μ with
    |.ok (.nx ρ2) μ2=>jdh ok tg body fg ds (forget fg ρ2) μ2
    |.ok (.ct ρ2) μ2=>jdh ok tg body fg ds (forget fg ρ2) μ2
    |.ok (.bk ρ2) μ2=>.ok (.nx (forget fg ρ2)) μ2
    |.ok (.rt d) μ2=>.ok (.rt d) μ2
    |.exc x μ2=>.exc x μ2
    |.bad=>.bad
   |none=>.bad
  else .bad
mutual
noncomputable def jbP (h:Nat->Option D):D->Option D
 |.tup ds=>(frzGs h ds).map .tup
 |.lst ds=>(frzGs h ds).map .lst
 |.scr ds=>(frzGs h ds).map .scr
 |.dK ks vs=>(frzGs h vs).map (.dK ks)
 |.dT ks vs=>(frzGs h vs).map (.dT ks)
 |.dF ks vs=>(frzGs h vs).map (.dF ks)
 |.obj C fs ds=>(frzGs h ds).map (.obj C fs)
 |.cel k=>h k
 |.non=>some .non
 |.bl b=>some (.bl b)
 |.int i=>some (.int i)
 |.str x=>some (.str x)
 |.ty n=>some (.ty n)
noncomputable def frzGs (h:Nat->Option D):List D->Option (List D)
 |[]=>some []
 |d::ds=>match jbP h d,frzGs h ds with
  |some e,some es=>some (e::es)
  |_,_=>none
end
noncomputable def jhI (μ:M)(n0:Nat)(keep:List Nat):Nat->Nat->Option D
 |f,k=>if k<n0 then some (.cel k)else if k∈keep then none else
  match f with
  |0=>none
  |f+1=>match μ[k]? with
   |some (some (.lst ds))=>(frzGs (jhI μ n0 keep f) ds).map .lst
   |some (some (.dK ks vs))=>(frzGs (jhI μ n0 keep f) vs).map (.dK ks)
   |some (some (.dT ks vs))=>(frzGs (jhI μ n0 keep f) vs).map (.dT ks)
   |some (some (.obj C fs ds))=>(frzGs (jhI μ n0 keep f) ds).map (.obj C fs)
   |_=>none
noncomputable def jle (μ:M)(n0:Nat)(d:D):Option D:=jbP (jhI μ n0 [] 4) d
noncomputable def jpu:D->List Nat
 |.cel k=>[k]
 |.tup ds=>ds.filterMap fun d=>match d with
  |.cel k=>some k
  |_=>none
 |_=>[]
noncomputable def jnP (n0:Nat)(ks:List Nat)(k:Nat):Option D:=(ks.idxOf? k).map fun j=>.cel (n0+j)
noncomputable def jkQ (μ:M)(n0:Nat)(ks:List Nat):List Nat->Option (List (List D))
 |[]=>some []
 |k::r=>match μ[k]? with
  |some (some (.lst ds))=>match frzGs (jhI μ n0 ks 4) ds,jkQ μ n0 ks r with
   |some c,some cs=>some (c::cs)
   |_,_=>none
  |_=>none
noncomputable def js7 (μ:M)(n0:Nat)(ks:List Nat):D->Option D
 |.cel k=>jnP n0 ks k
 |d=>jbP (jhI μ n0 ks 4) d
noncomputable def jjm (μ:M)(n0:Nat)(ks:List Nat):List D->Option (List D)
 |[]=>some []
 |d::ds=>match js7 μ n0 ks d,jjm μ n0 ks ds with
  |some e,some es=>some (e::es)
  |_,_=>none
noncomputable def jxn (μ:M)(n0:Nat)(d:D):Option (D×List (List D)):=
 if(jpu d).Nodup/\∀k∈jpu d,n0<=k then
  match jkQ μ n0 (jpu d) (jpu d)with
  |some cs=>match d with
   |.cel k=>(jnP n0 (jpu d) k).map fun d'=>(d',cs)
   |.tup ds=>(jjm μ n0 (jpu d) ds).map fun es=>(.tup es,cs)
   |_=>none
  |none=>none
 else none
open Classical in
noncomputable def jaO (md:Md)(F:Fn)(ds:List D)(μ:M):Out D:=
 match md with
 |.raw=>F ds μ
 |.frz=>match F ds μ with
  |.ok d μ'=>if μ'.take μ.length=μ then match jle μ' μ.length d with
    |some d'=>.ok d' μ
    |none=>.bad
   else .bad
  |.exc x μ'=>if μ'.take μ.length=μ then match jle μ' μ.length x with
    |some x'=>.exc x' μ
    |none=>.bad
   else .bad
  |.bad=>.bad
 |.new=>match F ds μ with
  |.ok d μ'=>if μ'.take μ.length=μ then match jxn μ' μ.length d with
    |some (d',cs)=>.ok d' (μ++cs.map fun xs=>some (.lst xs))
    |none=>.bad
   else .bad
  |.exc x μ'=>if μ'.take μ.length=μ then match jle μ' μ.length x with
    |some x'=>.exc x' μ
    |none=>.bad
   else .bad
  |.bad=>.bad
noncomputable def jfS (G:List FnE)(f:Nat):Option Dat:=(G[f]?).bind (·.dat)
noncomputable def jjd (z:Str):List (Str×D)->Option D
 |[]=>none
 |p::r=>if p.1=z then some p.2 else jjd z r
noncomputable def glD (o:Option Dat)(μ:M):Out D:=
 match o with
 |some (.cst d)=>.ok d μ
 |_=>.bad
noncomputable def jsP (o:Option Dat)(f:Str)(x:D)(μ:M):Out D:=
 match o with
 |some (.cls C _ _)=>jvE C f x μ
 |_=>.bad
noncomputable def jvV (o:Option Dat)(f:Str)(d x:D)(μ:M):Option M:=
 match o with
 |some (.cls C _ _)=>jvN C f d x μ
 |_=>none
noncomputable def jrI (o:Option Dat)(x y:D)(μ:M):Out D:=
 match o,x with
 |some (.dct kvs),.str z=>.ok ((jjd z kvs).getD y) μ
 |_,_=>.bad
noncomputable def jwd (neg:Bool)(o:Option Dat)(x:D)(μ:M):Out D:=
 match o,x with
 |some (.dct kvs),.str z=>.ok (.bl (if neg then !(jjd z kvs).isSome else(jjd z kvs).isSome)) μ
 |_,_=>.bad
noncomputable def jxs (o:Option Dat)(x:D)(μ:M):Out D:=
 match o,x with
 |some (.dct kvs),.str z=>match jjd z kvs with
  |some d=>.ok d μ
  |none=>.bad
 |_,_=>.bad
noncomputable def jhu (G:List FnE)(f:Nat)(md:Md)(ds:List D)(μ:M):Out D:=
 match G[f]? with
 |some g=>jaO md g.F ds μ
 |none=>.bad
noncomputable def ji5 (o:Out (List D)):Out (Option Int):=o.bind fun ds μ=>match ds with
 |[]=>.ok none μ
 |[.int i]=>.ok (some i) μ
 |_=>.bad
noncomputable def toB (r:S3->M->Out D)(ρ:S3)(μ:M):Out Bool:=(r ρ μ).bind fun d μ1=>match jvD μ1 d with
 |some b=>.ok b μ1
 |none=>.bad
structure Ev where
 v:S3->M->Out D
 t:S3->M->Out Bool
noncomputable def Ev.of (v:S3->M->Out D):Ev:=⟨v,toB v⟩
noncomputable section
variable (G:List FnE)
mutual
noncomputable def ev:E->Ev
 |.var i=>.of fun ρ μ=>match ρ[i]? with
  |some (some d)=>.ok d μ
  |_=>.bad
 |.cst d=>.of fun _ μ=>.ok d μ
 |.bin op m a b=>.of fun ρ μ=>((ev a).v ρ μ).bind fun x μ1=>((ev b).v ρ μ1).bind fun y μ2=>jjL op m x y μ2
 |.neg a=>.of fun ρ μ=>((ev a).v ρ μ).bind fun x μ1=>match x with
  |.int i=>.ok (.int (-i)) μ1
  |_=>.bad
 |.not_ a=>⟨fun ρ μ=>((ev a).v ρ μ).bind fun x μ1=>match x with
  |.bl c=>.ok (.bl (!c)) μ1
  |_=>.bad,fun ρ μ=>((ev a).t ρ μ).bind fun c μ1=>.ok (!c) μ1⟩
 |.and_ a b=>⟨fun ρ μ=>((ev a).v ρ μ).bind fun x μ1=>match x with
  |.bl c=>if c then(ev b).v ρ μ1 else .ok (.bl false) μ1
  |_=>.bad,fun ρ μ=>((ev a).t ρ μ).bind fun c μ1=>if c then(ev b).t ρ μ1 else .ok false μ1⟩
 |.or_ a b=>⟨fun ρ μ=>((ev a).v ρ μ).bind fun x μ1=>match x with
  |.bl c=>if c then .ok (.bl true) μ1 else(ev b).v ρ μ1
  |_=>.bad,fun ρ μ=>((ev a).t ρ μ).bind fun c μ1=>if c then .ok true μ1 else(ev b).t ρ μ1⟩
 |.cmp op a b=>.of fun ρ μ=>((ev a).v ρ μ).bind fun x μ1=>((ev b).v ρ μ1).bind fun y μ2=>je5 op x y μ2
 |.chain o1 o2 a b c=>.of fun ρ μ=>((ev a).v ρ μ).bind fun x μ1=>((ev b).v ρ μ1).bind fun y μ2=>(je5 o1 x y μ2).bind fun z μ3=>match z with
  |.bl k=>if k then((ev c).v ρ μ3).bind fun u μ4=>je5 o2 y u μ4 else .ok (.bl false) μ3
  |_=>.bad
 |.isN a=>.of fun ρ μ=>((ev a).v ρ μ).bind fun x μ1=>match x with
  |.non=>.ok (.bl true) μ1
  |_=>.ok (.bl false) μ1
 |.notN a=>.of fun ρ μ=>((ev a).v ρ μ).bind fun x μ1=>match x with
  |.non=>.ok (.bl false) μ1
  |_=>.ok (.bl true) μ1
 |.ife c a b=>.of fun ρ μ=>((ev c).t ρ μ).bind fun k μ1=>if k then(ev a).v ρ μ1 else(ev b).v ρ μ1
 |.tup es=>.of fun ρ μ=>(evL es ρ μ).bind fun ds μ1=>if ds.length<=sizeLine then .ok (.tup ds) μ1 else .bad
 |.lst m es=>.of fun ρ μ=>(evL es ρ μ).bind fun ds μ1=>if ds.length<=sizeLine then mkL m ds μ1 else .bad
 |.ix a b=>.of fun ρ μ=>((ev a).v ρ μ).bind fun x μ1=>((ev b).v ρ μ1).bind fun y μ2=>ixD x y μ2
 |.sl m a lo hi=>.of fun ρ μ=>((ev a).v ρ μ).bind fun x μ1=>(ji5 (evL lo ρ μ1)).bind fun l μ2=>(ji5 (evL hi ρ μ2)).bind fun h μ3=>slD m x l h μ3
 |.stp m a lo st=>.of fun ρ μ=>((ev a).v ρ μ).bind fun x μ1=>(ji5 (evL lo ρ μ1)).bind fun l μ2=>(ji5 (evL st ρ μ2)).bind fun h μ3=>jxq m x l h μ3
 |.fld a i f=>.of fun ρ μ=>((ev a).v ρ μ).bind fun x μ1=>jsP (jfS G i) f x μ1
 |.call f md es=>.of fun ρ μ=>(evL es ρ μ).bind fun ds μ1=>jhu G f md ds μ1
 |.bi b m es=>.of fun ρ μ=>(evL es ρ μ).bind fun ds μ1=>biD b m ds μ1
 |.mt b o es=>.of fun ρ μ=>((ev o).v ρ μ).bind fun x μ1=>if jkX b x μ1 then(evL es ρ μ1).bind fun ds μ2=>mtD b x ds μ2 else .bad
 |.comp m own tg ik es ifs elt=>.of fun ρ μ=>(evL es ρ μ).bind fun ds μ1=>match itD ik ds μ1 with
  |some xs=>if xs.length<=sizeLine then(jdg (jdr ik ds xs) tg (evTs ifs) (ev elt).v (List.replicate own none++ρ) xs μ1).bind fun ys μ2=>mkL m ys μ2 else .bad
  |none=>.bad
 |.gl f=>.of fun _ μ=>glD (jfS G f) μ
 |.gget f a d=>.of fun ρ μ=>((ev a).v ρ μ).bind fun x μ1=>((ev d).v ρ μ1).bind fun y μ2=>jrI (jfS G f) x y μ2
 |.gin neg f a=>.of fun ρ μ=>((ev a).v ρ μ).bind fun x μ1=>jwd neg (jfS G f) x μ1
 |.gix f a=>.of fun ρ μ=>((ev a).v ρ μ).bind fun x μ1=>jxs (jfS G f) x μ1
noncomputable def evL:List E->S3->M->Out (List D)
 |[],_,μ=>.ok [] μ
 |e::es,ρ,μ=>((ev e).v ρ μ).bind fun d μ1=>(evL es ρ μ1).bind fun ds μ2=>.ok (d::ds) μ2
noncomputable def evTs:List E->S3->M->Out Bool
 |[],_,μ=>.ok true μ
 |[e],ρ,μ=>(ev e).t ρ μ
 |_,_,_=>.bad
end
mutual
noncomputable def run:S->S3->M->Out Fl
 |.asg tg e,ρ,μ=>((ev G e).v ρ μ).bind fun d μ1=>match jiR tg d ρ with
  |some ρ1=>.ok (.nx ρ1) μ1
  |none=>.bad
 |.par i j a b,ρ,μ=>((ev G a).v ρ μ).bind fun x μ1=>((ev G b).v ρ μ1).bind fun y μ2=>.ok (.nx ((ρ.set i (some x)).set j (some y))) μ2
 |.unp is e,ρ,μ=>((ev G e).v ρ μ).bind fun d μ1=>match(jeS μ1 d).bind fun ds=>jmg is ds ρ with
  |some ρ1=>.ok (.nx ρ1) μ1
  |none=>.bad
 |.setF o i f e,ρ,μ=>((ev G e).v ρ μ).bind fun d μ1=>((ev G o).v ρ μ1).bind fun x μ2=>match jvV (jfS G i) f d x μ2 with
  |some μ3=>.ok (.nx ρ) μ3
  |none=>.bad
 |.setI o i e,ρ,μ=>.bad
 |.ex e,ρ,μ=>((ev G e).v ρ μ).bind fun _ μ1=>.ok (.nx ρ) μ1
 |.ite c a b,ρ,μ=>((ev G c).t ρ μ).bind fun k μ1=>if k then runs a ρ μ1 else runs b ρ μ1
 |.for_ tg ik es body fg,ρ,μ=>(evL G es ρ μ).bind fun ds μ1=>match itD ik ds μ1 with
  |some xs=>jdh (jdr ik ds xs) tg (runs body) fg xs ρ μ1
  |none=>.bad
 |.ret e,ρ,μ=>((ev G e).v ρ μ).bind fun d μ1=>.ok (.rt d) μ1
 |.retN,_,μ=>.ok (.rt .non) μ
 |.pass,ρ,μ=>.ok (.nx ρ) μ
 |.never,_,_=>.bad
noncomputable def runs:List S->S3->M->Out Fl
 |[],ρ,μ=>.ok (.nx ρ) μ
 |s::ss,ρ,μ=>match run s ρ μ with
  |.ok (.nx ρ1) μ1=>runs ss ρ1 μ1
  |r=>r
end
noncomputable def fnOf (np nl:Nat)(body:List S):Fn:=fun ds μ=>if ds.length=np then match runs G body (ds.map some++List.replicate nl none) μ with
  |.ok (.rt d) μ1=>.ok d μ1
  |.ok (.nx _) μ1=>.ok .non μ1
  |.ok _ _=>.bad
  |.exc x μ1=>.exc x μ1
  |.bad=>.bad
 else .bad
end
end _L3
namespace _L3
open PySem PySem.Spec PyProof.Rows _L2
section
variable {K:PySem.W.Frag} {w:Wd} {μ:M} {H:Hp} {n:Nat}
theorem jcr {d:D}{v x:V}(h:Den K w n d v)(e:jis d=some x):v=x/\jd3 v=true:=by
 cases d<;>simp only[jis,Option.some.injEq]at e<;>first|(subst e;unfold Den at h;subst h;exact⟨rfl,rfl⟩)|cases e
theorem jbh {d:D}{v:V}{ds:List D}(R:Rep K w μ H)(h:Den K w μ.length d v)(e:jeS μ d=some ds):∃a xs,v=.ref a/\SqL K H a xs/\DenL K w μ.length ds xs:=by
 cases d with
 |lst xs=>
  simp only[jeS,Option.some.injEq]at e
  subst e
  unfold Den at h
  obtain⟨a,xs,h1,h2,h3⟩:=h
  exact⟨a,xs,h1,SqL.of (R.sub _ _ h2),h3⟩
 |scr xs=>
  simp only[jeS,Option.some.injEq]at e
  subst e
  unfold Den at h
  obtain⟨a,xs,h1,h2,h3⟩:=h
  exact⟨a,xs,h1,R.sub.seq h2,h3⟩
 |cel k=>
  simp only[jeS]at e
  split at e
  ·rename_i ys hk
   cases e
   unfold Den at h
   obtain⟨xs,h1,h2⟩:=(R.liv k _ hk).2
   exact⟨_,xs,h.2,SqL.of h1,h2⟩
  ·cases e
 |_=>cases e
theorem jbY {ds:List D}{v:V}(R:Rep K w μ H)(h:Den K w μ.length (.tup ds) v):∃a xs,v=.ref a/\SqT K H a xs/\DenL K w μ.length ds xs:=by
 unfold Den at h
 obtain⟨a,xs,h1,h2,h3⟩:=h
 exact⟨a,xs,h1,R.sub.tup h2,h3⟩
theorem jfC {d:D}{v:V}{ds:List D}(R:Rep K w μ H)(h:Den K w μ.length d v)(e:jfX μ d=some ds):∃a xs,v=.ref a/\(SqL K H a xs∨SqT K H a xs)/\DenL K w μ.length ds xs:=by
 unfold jfX at e
 split at e
 ·cases e
  obtain⟨a,xs,h1,h2,h3⟩:=jbY R h
  exact⟨a,xs,h1,.inr h2,h3⟩
 ·obtain⟨a,xs,h1,h2,h3⟩:=jbh R h e
  exact⟨a,xs,h1,.inl h2,h3⟩
theorem jae {ds:List D}{xs:List V}(h:DenL K w n ds xs):ds.length=xs.length:=(jaF.mp h).length
theorem jdK:∀{ds:List D} {xs:List V} {i:Nat} {d:D},DenL K w n ds xs->ds[i]?=some d->∃v,xs[i]?=some v/\Den K w n d v:=by
 intro ds xs i d h e
 have h':=jaF.mp h
 clear h
 induction h' generalizing i with
 |nil=>simp at e
 |cons r t ih=>
  cases i with
  |zero=>
   simp only[List.getElem?_cons_zero,Option.some.injEq]at e
   subst e
   exact⟨_,rfl,r⟩
  |succ i=>simpa using ih (i:=i) (by simpa using e)
theorem jev {α β:Type}{F:α->β->Prop}:∀{us ws:List α} {xs ys:List β},Paired F us xs->Paired F ws ys->Paired F (us++ws) (xs++ys)
 |_,_,_,_,.nil,s=>s
 |_,_,_,_,.cons r t,s=>.cons r (jev t s)
theorem jfB {α β:Type}{F:α->β->Prop}:∀{us:List α} {xs:List β} (k:Nat),Paired F us xs->Paired F (us.take k) (xs.take k)
 |_,_,0,_=>by simp;exact .nil
 |_,_,_+1,.nil=>.nil
 |_,_,k+1,.cons r t=>.cons r (jfB k t)
theorem jfL {α β:Type}{F:α->β->Prop}:∀{us:List α} {xs:List β} (k:Nat),Paired F us xs->Paired F (us.drop k) (xs.drop k)
 |_,_,0,h=>h
 |_,_,_+1,.nil=>.nil
 |_,_,k+1,.cons r t=>jfL k t
theorem DenL.append {ds es:List D}{xs ys:List V}(h:DenL K w n ds xs)(k:DenL K w n es ys):DenL K w n (ds++es) (xs++ys):=jaF.mpr (jev (jaF.mp h) (jaF.mp k))
theorem DenL.cut {ds:List D}{xs:List V}(h:DenL K w n ds xs)(lo hi:Option Int):DenL K w n (cutD ds lo hi) (jpP xs lo hi):=by
 unfold cutD jpP
 rw[jae h]
 exact jaF.mpr (jfB _ (jfL _ (jaF.mp h)))
theorem DenL.one {d:D}{v:V}(h:Den K w n d v):DenL K w n [d] [v]:=jaF.mpr (.cons h .nil)
theorem jjn:∀{ds:List D} {xs:List V} {ns:List Bool},DenL K w n ds xs->jri ds=some ns->xs=ns.map V.bl
 |[],xs,ns,h,e=>by
  cases e
  unfold DenL at h
  exact h
 |.bl i::ds,xs,ns,h,e=>by
  unfold DenL at h
  obtain⟨v,ws,rfl,h1,h2⟩:=h
  unfold Den at h1
  unfold jri at e
  cases e2:jri ds with
  |none=>rw[e2]at e;cases e
  |some ms=>
   rw[e2]at e
   cases e
   rw[h1,jjn h2 e2]
   rfl
 |.non::_,_,_,_,e|.int _::_,_,_,_,e|.str _::_,_,_,_,e|.ty _::_,_,_,_,e|.tup _::_,_,_,_,e|.lst _::_,_,_,_,e|.scr _::_,_,_,_,e|.dK _ _::_,_,_,_,e|.dT _ _::_,_,_,_,e|.dF _ _::_,_,_,_,e|.obj _ _ _::_,_,_,_,e|.cel _::_,_,_,_,e=>by cases e
theorem jfM:∀{ds:List D} {xs:List V} {ns:List Str},DenL K w n ds xs->jgq ds=some ns->xs=ns.map V.str
 |[],xs,ns,h,e=>by
  cases e
  unfold DenL at h
  exact h
 |.str i::ds,xs,ns,h,e=>by
  unfold DenL at h
  obtain⟨v,ws,rfl,h1,h2⟩:=h
  unfold Den at h1
  unfold jgq at e
  cases e2:jgq ds with
  |none=>rw[e2]at e;cases e
  |some ms=>
   rw[e2]at e
   cases e
   rw[h1,jfM h2 e2]
   rfl
 |.non::_,_,_,_,e|.bl _::_,_,_,_,e|.int _::_,_,_,_,e|.ty _::_,_,_,_,e|.tup _::_,_,_,_,e|.lst _::_,_,_,_,e|.scr _::_,_,_,_,e|.dK _ _::_,_,_,_,e|.dT _ _::_,_,_,_,e|.dF _ _::_,_,_,_,e|.obj _ _ _::_,_,_,_,e|.cel _::_,_,_,_,e=>by cases e
noncomputable abbrev jhg (K:PySem.W.Frag) (w:Wd) (n:Nat) (d:D) (μ':M) (Q:VK):Prop:=∀w' H' v,Ext w w' n μ'.length->Rep K w' μ' H'->Den K w' μ'.length d v->Q v H'
theorem jdG {Q:VK}{d:D}{p:Addr}{o:HO}(R:Rep K w μ H)(q:jhg K w μ.length d μ Q)(hp:H p=none)(hd:∀w',Ext w w' μ.length μ.length->w'.Z p=some o->Den K w' μ.length d (.ref p)):Q (.ref p) (upd H p o):=by
 obtain⟨R',x⟩:=R.frz hp o
 exact q _ _ _ x R' (hd _ x jaC)
theorem jah {Q:VK}{d:D}{v:V}(R:Rep K w μ H)(q:jhg K w μ.length d μ Q)(h:Den K w μ.length d v):Q v H:=q w H v (Ext.refl _ _) R h
theorem jfI {m:Bool}{ds:List D}{xs:List V}{d:D}{μ':M}{Q:VK}(R:Rep K w μ H)(h:DenL K w μ.length ds xs)(e:mkL m ds μ=.ok d μ')(q:jhg K w μ.length d μ' Q):∀p,H p=none->Q (.ref p) (upd H p (.lst xs)):=by
 intro p hp
 cases m with
 |false=>
  simp only[mkL,Bool.false_eq_true,if_false]at e
  cases e
  exact jdG R q hp fun w' x hz=>by unfold Den;exact⟨p,xs,rfl,hz,h.mono x⟩
 |true=>
  simp only[mkL,if_true]at e
  cases e
  obtain⟨w',R',x,hg⟩:=R.cell hp (.lst xs) (.lst ds) (fun w' x=>⟨xs,jaC,h.mono x⟩)
  have hl:(μ++[some (Cl.lst ds)]).length=μ.length+1:=by simp
  refine q w' _ _ (by rw[hl];exact x) R' ?_
  unfold Den
  exact⟨by rw[hl];exact Nat.lt_succ_self _,by rw[hg]⟩
end
theorem imE {X:Cx}{e:Expr}{t t':TE}(h:PE X e t)(k:∀σ H Q,t' σ H Q->t σ H Q):PE X e t':=fun pins s σ H Q I hw=>h pins s σ H Q I (k σ H Q hw)
theorem imT {X:Cx}{e:Expr}{t t':TT}(h:PT X e t)(k:∀σ H Q,t' σ H Q->t σ H Q):PT X e t':=fun pins s σ H Q I hw=>h pins s σ H Q I (k σ H Q hw)
theorem imW {X:Cx}{e:Expr}{t t':TT}(h:PW X e t)(k:∀σ H Q,t' σ H Q->t σ H Q):PW X e t':=fun wh pins s σ H Q I hw=>h wh pins s σ H Q I (k σ H Q hw)
theorem imA {X:Cx}{e:List Expr}{t t':TA}(h:PA X e t)(k:∀σ H Q,t' σ H Q->t σ H Q):PA X e t':=fun pos pins s σ H Q I hw=>h pos pins s σ H Q I (k σ H Q hw)
theorem imS {X:Cx}{e:Stmt}{t t':TS}(h:PS X e t)(k:∀E σ H,t' E σ H->t E σ H):PS X e t':=fun pins s σ H Q I hw=>h pins s σ H Q I (k Q σ H hw)
theorem jtJ {X:Cx}{e:List Stmt}{t t':TS}(h:PSs X e t)(k:∀E σ H,t' E σ H->t E σ H):PSs X e t':=fun pins s σ H Q I hw=>h pins s σ H Q I (k Q σ H hw)
section
variable {K:PySem.W.Frag}
noncomputable def jlY (K:PySem.W.Frag)(f:D->D->M->Out D)(r:R2):Prop:=∀(w:Wd) (μ:M) (H:Hp) (d1 d2 d:D) (μ':M) (v1 v2:V) (Q:VK),Rep K w μ H->Den K w μ.length d1 v1->Den K w μ.length d2 v2->f d1 d2 μ=.ok d μ'->jhg K w μ.length d μ' Q->r v1 v2 H Q
theorem jn4 {f:D->D->M->Out D}{r:R2}{ra rb:S3->M->Out D}(hs:jlY K f r){σ:_L2.St}{H:Hp}{Q:VK} :
  T3E K (fun ρ μ=>(ra ρ μ).bind fun x μ1=>(rb ρ μ1).bind fun y μ2=>f x y μ2) σ H Q->tOp r (T3E K ra) (T3E K rb) σ H Q:=by
 rintro⟨w,μ,ρ,d,μ',R,S,e,q⟩
 obtain⟨x,μ1,e1,e⟩:=Out.bind_ok e
 obtain⟨y,μ2,e2,e⟩:=Out.bind_ok e
 exact⟨w,μ,ρ,x,μ1,R,S,e1,fun w1 H1 v1 x1 R1 d1=>⟨w1,μ1,ρ,y,μ2,R1,S.mono x1,e2,fun w2 H2 v2 x2 R2 d2=>hs w2 μ2 H2 x y d μ' v1 v2 Q R2 (d1.mono x2) d2 e fun w3 H3 v x3 R3 d3=>q w3 H3 v ((x1.trans x2).trans x3) R3 d3⟩⟩
theorem jn5 {f:D->M->Out D}{r:V->Hp->VK->Prop}{ra:S3->M->Out D}(hs:∀(w:Wd) (μ:M) (H:Hp) (d1 d:D) (μ':M) (v1:V) (Q:VK),Rep K w μ H->Den K w μ.length d1 v1->f d1 μ=.ok d μ'->jhg K w μ.length d μ' Q->r v1 H Q){σ:_L2.St}{H:Hp}{Q:VK} :
  T3E K (fun ρ μ=>(ra ρ μ).bind fun x μ1=>f x μ1) σ H Q->T3E K ra σ H fun x H1=>r x H1 Q:=by
 rintro⟨w,μ,ρ,d,μ',R,S,e,q⟩
 obtain⟨x,μ1,e1,e⟩:=Out.bind_ok e
 exact⟨w,μ,ρ,x,μ1,R,S,e1,fun w1 H1 v1 x1 R1 d1=>hs w1 μ1 H1 x d μ' v1 Q R1 d1 e fun w3 H3 v x3 R3 d3=>q w3 H3 v (x1.trans x3) R3 d3⟩
end
end _L3
namespace _L3
open PySem PySem.Spec PyProof.Rows _L2
section
variable {K:PySem.W.Frag} {X:Cx}
theorem jgQ {C:Int->Int->Prop}{f:Int->Int->Int}:jlY K (jsR C f) (rI C fun i j=>.int (f i j)):=by
 intro w μ H d1 d2 d μ' v1 v2 Q R h1 h2 e q
 unfold jsR at e
 split at e
 ·split at e
  ·rename_i hc
   cases e
   unfold Den at h1 h2
   exact⟨_,_,h1,h2,hc,jah R q (by unfold Den;rfl)⟩
  ·cases e
 ·cases e
noncomputable def js8 (K:PySem.W.Frag):R2:=fun x y H Q=>rI0 (fun i j=>.int (i+j)) x y H Q∨(∃i j,x=.str i/\y=.str j/\i.length+j.length<=sizeLine/\Q (.str (i++j)) H)∨(ju1 K x y H Q∨jvm K x y H Q)∨jt9 K x y H Q
theorem jqx:OpR X (binaryOp .Add) (js8 X.K):=jvf.or (jkc.or ((jrx.or jrJ).or jqW))
theorem jsi {m:Bool}:jlY K (jwJ m) (js8 K):=by
 intro w μ H d1 d2 d μ' v1 v2 Q R h1 h2 e q
 unfold jwJ at e
 split at e
 ·cases e
  unfold Den at h1 h2
  exact .inl ⟨_,_,h1,h2,jah R q (by unfold Den;rfl)⟩
 ·split at e
  ·rename_i hc
   cases e
   unfold Den at h1 h2
   exact .inr (.inl ⟨_,_,h1,h2,hc,jah R q (by unfold Den;rfl)⟩)
  ·cases e
 ·split at e
  ·rename_i hc
   cases e
   obtain⟨a,us,rfl,s1,l1⟩:=jbY R h1
   obtain⟨b,ws,rfl,s2,l2⟩:=jbY R h2
   by_cases hu:us=[]
   ·subst hu
    cases jaF.mp l1
    rw[List.nil_append]at q
    exact .inr (.inr (.inl (.inl ⟨a,b,ws,rfl,rfl,s1,s2,jah R q h2⟩)))
   refine .inr (.inr (.inl (.inr ⟨a,b,us,ws,rfl,rfl,s1,s2,hu,by rw[<- jae l1,<- jae l2];exact hc,fun z=>?_,fun z p hp=>?_⟩)))
   ·subst z
    cases jaF.mp l2
    rw[List.append_nil]at q
    exact jah R q h1
   ·exact jdG R q hp fun w' x hz=>by unfold Den;exact⟨p,_,rfl,SqT.of hz,(l1.append l2).mono x⟩
  ·cases e
 ·split at e
  ·rename_i xs ys e1 e2
   split at e
   ·rename_i hc
    obtain⟨a,us,rfl,s1,l1⟩:=jbh R h1 e1
    obtain⟨b,ws,rfl,s2,l2⟩:=jbh R h2 e2
    exact .inr (.inr (.inr ⟨a,b,us,ws,rfl,rfl,s1,s2,by rw[<- jae l1,<- jae l2];exact hc,jfI R (l1.append l2) e q⟩))
   ·cases e
  ·cases e
noncomputable def jwz (K:PySem.W.Frag):R2:=fun x y H Q=>rI jnZ (fun i j=>.int (i*j)) x y H Q∨jsY x y H Q∨jvi K x y H Q
theorem jj9 {w:Wd}{n:Nat}{ds:List D}{xs:List V}(h:DenL K w n ds xs):∀k:Nat,DenL K w n (List.replicate k ds).flatten (List.replicate k xs).flatten
 |0=>by unfold DenL;rfl
 |k+1=>by
  rw[List.replicate_succ,List.replicate_succ,List.flatten_cons,List.flatten_cons]
  exact h.append (jj9 h k)
theorem jp9:jlY K jwD (jwz K):=by
 intro w μ H d1 d2 d μ' v1 v2 Q R h1 h2 e q
 unfold jwD at e
 split at e
 ·split at e
  ·rename_i hc
   cases e
   unfold Den at h1 h2
   exact .inl ⟨_,_,h1,h2,hc,jah R q (by unfold Den;rfl)⟩
  ·cases e
 ·split at e
  ·rename_i hc
   cases e
   unfold Den at h1 h2
   exact .inr (.inl ⟨_,_,h1,h2,hc.1,hc.2.1,hc.2.2,jah R q (by unfold Den;rfl)⟩)
  ·cases e
 ·split at e
  ·rename_i hc
   cases e
   obtain⟨a,us,rfl,s1,l1⟩:=jbY R h1
   unfold Den at h2
   refine .inr (.inr ⟨a,us,_,rfl,h2,s1,fun z=>?_,by rw[<- jae l1];exact hc.2.2.2,hc.1,hc.2.1,fun p hp=>?_⟩)
   ·subst z
    cases jaF.mp l1
    exact hc.2.2.1 rfl
   ·exact jdG R q hp fun w' x hz=>by unfold Den;exact⟨p,_,rfl,SqT.of hz,(jj9 l1 _).mono x⟩
  ·cases e
 ·cases e
theorem jlx:OpR X (binaryOp .FloorDiv) (rI jva fun i j=>.int (i / j)):=opI fun i j _ _ _ _ _ hc q=>by
 have h1:(0:Int)<j:=hc.1
 have h2:j<18446744073709551616:=hc.2
 have h3:j.natAbs.log2<64:=(Nat.log2_lt (by omega)).mpr (by omega)
 exact floordiv_int (by omega) (by rw[Int.fdiv_eq_ediv_of_nonneg i (by omega)];exact q) (.inl (PyProof.noPylong_of_log2 (by omega)))
theorem ji1 {f:Value->Value->Sem Value}{r r':R2}(h:OpR X f r)(k:∀x y H Q,r' x y H Q->r x y H Q):OpR X f r':=fun pins s σ H x y v u Q I rx ry q=>h pins s σ H x y v u Q I rx ry (k _ _ _ _ q)
theorem joM:OpR X (binaryOp .Mult) (rI jnZ fun i j=>.int (i*j)):=ji1 jtC fun x y H Q ⟨i,j,h1,h2,hc,q⟩=>⟨i,j,h1,h2,by unfold jnZ at hc;unfold jvJ;omega,q⟩
theorem jnV:OpR X (binaryOp .Pow) (rI jtl fun i j=>.int (i ^ j.toNat)):=ji1 jue fun x y H Q ⟨i,j,h1,h2,hc,q⟩=>⟨i,j,h1,h2,⟨hc.1,hc.2.1,by have:=hc.2.2;omega⟩,q⟩
theorem jvy {op:Operator}{m:Bool}:∃r,OpR X (binaryOp op) r/\jlY X.K (jjL op m) r:=by
 cases op with
 |Add=>exact⟨_,jqx,jsi⟩
 |Sub=>exact⟨_,ji1 juC fun x y H Q ⟨i,j,h1,h2,_,q⟩=>⟨i,j,h1,h2,q⟩,jgQ⟩
 |Mult=>exact⟨_,(joM).or (jqQ.or jqe),jp9⟩
 |FloorDiv=>exact⟨_,jlx,jgQ⟩
 |Mod=>exact⟨_,jtr,jgQ⟩
 |Pow=>exact⟨_,jnV,jgQ⟩
 |_=>exact⟨fun _ _ _ _=>False,fun _ _ _ _ _ _ _ _ _ _ _ _ h=>h.elim,fun _ _ _ _ _ _ _ _ _ _ _ _ _ e _=>by cases e⟩
theorem jk7 {A:Around}{s:Shared}{w:Wd}{n:Nat}{f:D->D->Option Bool}(hf:∀d1 d2 x y u v b,Den K w n d1 x->Den K w n d2 y->ja0 x u->ja0 y v->f d1 d2=some b->SeqAt.EqAt A s u v b) :
  ∀{ds es:List D} {xs ys:List V} {us vs:List Value} {b:Bool},DenL K w n ds xs->DenL K w n es ys->jaZ xs us->jaZ ys vs->jkT f ds es=some b ->
   ∃g:Nat->Bool,(∀(j:Nat) (h1:j<us.length) (h2:j<vs.length),SeqAt.EqAt A s us[j] vs[j] (g j))/\(List.range (min us.length vs.length)).all g=b:=by
 intro ds es xs ys us vs b h1 h2 r1 r2
 have p1:=jaF.mp h1
 have p2:=jaF.mp h2
 clear h1 h2
 induction p1 generalizing es ys us vs b with
 |nil=>
  intro e
  cases r1
  simp only[jkT,Option.some.injEq]at e
  subst e
  exact⟨fun _=>true,fun j h=>absurd h (by simp),by simp⟩
 |cons k1 t1 ih=>
  intro e
  cases p2 with
  |nil=>
   cases r2
   simp only[jkT,Option.some.injEq]at e
   subst e
   exact⟨fun _=>true,fun j _ h=>absurd h (by simp),by simp⟩
  |cons k2 t2=>
   cases r1 with
   |cons q1 q1'=>
    cases r2 with
    |cons q2 q2'=>
     simp only[jkT]at e
     split at e
     ·rename_i a c ea ec
      cases e
      obtain⟨g,hg,hb⟩:=ih q1' q2' t2 ec
      refine⟨fun j=>match j with|0=>a|j+1=>g j,fun j j1 j2=>?_,?_⟩
      ·cases j with
       |zero=>exact hf _ _ _ _ _ _ _ k1 k2 q1 q2 ea
       |succ j=>exact hg j (Nat.lt_of_succ_lt_succ j1) (Nat.lt_of_succ_lt_succ j2)
      ·rw[<- hb,List.length_cons,List.length_cons,Nat.add_min_add_right,List.range_succ_eq_map,List.all_cons,List.all_map]
       rfl
     ·cases e
section
variable {pins:List (Addr×Obj)} {σ:_L2.St} {H:Hp} {s:Shared} {w:Wd} {μ:M}
theorem jrd (I:Inv X pins σ H s){a:Addr}{xs ys:List V}(h:SqT X.K H a xs)(k:SqT X.K H a ys):xs=ys:=by
 obtain⟨its,rv,p,_⟩:=I.tuple h
 obtain⟨its2,rv2,p2,_⟩:=I.tuple k
 obtain⟨o,g1,_,n1,d1⟩:=p
 obtain⟨o2,g2,_,n2,d2⟩:=p2
 rw[g1]at g2
 cases g2
 rw[d1]at d2
 have e:its=its2:=by
  injection d2 with e _
  simpa using e
 subst e
 exact jaZ.inj rv rv2
theorem jqG (I:Inv X pins σ H s){a:Addr}{xs ys:List V}(h:SqL X.K H a xs)(k:SqL X.K H a ys):xs=ys:=by
 obtain⟨its,rv,p,_⟩:=I.list h
 obtain⟨its2,rv2,p2,_⟩:=I.list k
 obtain⟨o,n1,g1,_,_,d1⟩:=p
 obtain⟨o2,n2,g2,_,_,d2⟩:=p2
 rw[g1]at g2
 cases g2
 rw[d1]at d2
 have e:its=its2:=by
  injection d2 with e _
  simpa using e
 subst e
 exact jaZ.inj rv rv2
theorem jhT {f:D->D->Option Bool}{n:Nat}(hf:∀d1 d2 x b,Den X.K w n d1 x->Den X.K w n d2 x->f d1 d2=some b->b=true):∀{ds es:List D} {xs:List V} {b:Bool},DenL X.K w n ds xs->DenL X.K w n es xs->jkT f ds es=some b->b=true:=by
 intro ds es xs b h1 h2
 have p1:=jaF.mp h1
 have p2:=jaF.mp h2
 clear h1 h2
 induction p1 generalizing es b with
 |nil=>
  intro e
  simp only[jkT,Option.some.injEq]at e
  exact e.symm
 |cons k1 t1 ih=>
  intro e
  cases p2 with
  |cons k2 t2=>
   simp only[jkT]at e
   split at e
   ·rename_i a c ea ec
    cases e
    rw[hf _ _ _ _ k1 k2 ea,ih t2 ec]
    rfl
   ·cases e
theorem jjz (I:Inv X pins σ H s)(R:Rep X.K w μ H){f:D->D->Option Bool}(hf:∀d1 d2 x b,Den X.K w μ.length d1 x->Den X.K w μ.length d2 x->f d1 d2=some b->b=true){d1 d2:D}{x:V}{b:Bool}(h1:Den X.K w μ.length d1 x)(h2:Den X.K w μ.length d2 x)(e:eqN f μ d1 d2=some b):b=true:=by
 unfold eqN at e
 split at e
 ·rename_i xs ys
  obtain⟨a,us,e1,s1,l1⟩:=jbY R h1
  obtain⟨c,ws,e2,s2,l2⟩:=jbY R h2
  rw[e1]at e2
  cases e2
  have:=jrd I s1 s2
  subst this
  cases e3:jkT f xs ys with
  |none=>rw[e3]at e;cases e
  |some k=>
   rw[e3]at e
   cases e
   rw[jhT hf l1 l2 e3,jae l1,jae l2]
   simp
 ·split at e
  ·rename_i xs ys q1 q2
   obtain⟨a,us,e1,s1,l1⟩:=jbh R h1 q1
   obtain⟨c,ws,e2,s2,l2⟩:=jbh R h2 q2
   rw[e1]at e2
   cases e2
   have:=jqG I s1 s2
   subst this
   rw[if_pos (by rw[jae l1,jae l2])]at e
   exact jhT hf l1 l2 e
  ·cases e
theorem jjG (I:Inv X pins σ H s)(R:Rep X.K w μ H):∀(n:Nat) (d1 d2:D) (x:V) (b:Bool),Den X.K w μ.length d1 x->Den X.K w μ.length d2 x->eqD μ n d1 d2=some b->b=true
 |0,_,_,_,_,_,_,e=>by cases e
 |n+1,d1,d2,x,b,h1,h2,e=>by
  unfold eqD at e
  split at e
  ·rename_i x' y' e1 e2
   cases e
   obtain⟨q1,f1⟩:=jcr h1 e1
   obtain⟨q2,f2⟩:=jcr h2 e2
   rw[<- q1,<- q2]
   exact jjD f1
  ·exact jjz I R (jjG I R n) h1 h2 e
theorem jmK (I:Inv X pins σ H s)(R:Rep X.K w μ H){A:Around}{f:D->D->Option Bool}(hu:A.units<cLine)(hf:∀d1 d2 x y u v b,Den X.K w μ.length d1 x->Den X.K w μ.length d2 y->ja0 x u->ja0 y v->f d1 d2=some b->SeqAt.EqAt A.in1 s u v b)
  {d1 d2:D} {x y:V} {b:Bool} (h1:Den X.K w μ.length d1 x) (h2:Den X.K w μ.length d2 y) (e:eqN f μ d1 d2=some b) :
  ∃a c,x=.ref a/\y=.ref c/\SeqAt.RcAt A s (.ref a) (.ref c) b/\SeqAt.RcNeAt A s (.ref a) (.ref c) (!b):=by
 unfold eqN at e
 split at e
 ·rename_i xs ys
  obtain⟨a,us,rfl,s1,l1⟩:=jbY R h1
  obtain⟨c,ws,rfl,s2,l2⟩:=jbY R h2
  cases e3:jkT f xs ys with
  |none=>rw[e3]at e;cases e
  |some k=>
   rw[e3]at e
   cases e
   obtain⟨its,rv,p,_⟩:=I.tuple s1
   obtain⟨its2,rv2,p2,_⟩:=I.tuple s2
   obtain⟨g,hg,hk⟩:=jk7 hf l1 l2 rv rv2 e3
   have hj:∀j (h1:j<its.toArray.size) (h2:j<its2.toArray.size),SeqAt.EqAt A.in1 s its.toArray[j] its2.toArray[j] (g j):=fun j h1 h2=>by
    have:=hg j (by simpa using h1) (by simpa using h2)
    simpa using this
   have t1:=SeqAt.RcAt.tuples (A:=A) (e:=g) (show s.heap.IsTuple a its.toArray from p) (show s.heap.IsTuple c its2.toArray from p2) hu hj
   have t2:=SeqAt.RcNeAt.tuples (A:=A) (e:=g) (show s.heap.IsTuple a its.toArray from p) (show s.heap.IsTuple c its2.toArray from p2) hu hj
   have el:(its.toArray.size==its2.toArray.size)=(xs.length==ys.length):=by
    rw[List.size_toArray,List.size_toArray,<- rv.length,<- rv2.length,jae l1,jae l2]
   have ek:(List.range (min its.toArray.size its2.toArray.size)).all g=k:=by simpa using hk
   rw[el,ek]at t1 t2
   exact⟨a,c,rfl,rfl,t1,t2⟩
 ·split at e
  ·rename_i xs ys q1 q2
   obtain⟨a,us,rfl,s1,l1⟩:=jbh R h1 q1
   obtain⟨c,ws,rfl,s2,l2⟩:=jbh R h2 q2
   obtain⟨its,rv,p,_⟩:=I.list s1
   obtain⟨its2,rv2,p2,_⟩:=I.list s2
   have z1:its.toArray.size=xs.length:=by rw[List.size_toArray,<- rv.length,jae l1]
   have z2:its2.toArray.size=ys.length:=by rw[List.size_toArray,<- rv2.length,jae l2]
   split at e
   ·rename_i hl
    obtain⟨g,hg,hk⟩:=jk7 hf l1 l2 rv rv2 e
    have hj:∀j (h1:j<its.toArray.size) (h2:j<its2.toArray.size),SeqAt.EqAt A.in1 s its.toArray[j] its2.toArray[j] (g j):=fun j h1 h2=>by
     have:=hg j (by simpa using h1) (by simpa using h2)
     simpa using this
    have t1:=SeqAt.RcAt.lists (A:=A) (e:=g) p.isList p2.isList (by rw[z1,z2,hl]) hu hj
    have t2:=SeqAt.RcNeAt.lists (A:=A) (e:=g) p.isList p2.isList (by rw[z1,z2,hl]) hu hj
    have ek:(List.range its.toArray.size).all g=b:=by
     have:min its.length its2.length=its.toArray.size:=by
      rw[<- List.size_toArray,<- List.size_toArray,z1,z2,hl,Nat.min_self]
     rw[this]at hk
     exact hk
    rw[ek]at t1 t2
    exact⟨a,c,rfl,rfl,t1,t2⟩
   ·rename_i hl
    cases e
    have hne:(its.toArray.size !=its2.toArray.size)=true:=by
     rw[z1,z2]
     simp[hl]
    exact⟨a,c,rfl,rfl,SeqAt.RcAt.lists_lengths (A:=A) p.isList p2.isList hne hu,SeqAt.RcNeAt.lists_lengths (A:=A) p.isList p2.isList hne hu⟩
  ·cases e
theorem jlu (I:Inv X pins σ H s)(R:Rep X.K w μ H):∀(n:Nat) {A:Around} (d1 d2:D) (x y:V) (u v:Value) (b:Bool),A.units+n<cLine ->
  Den X.K w μ.length d1 x->Den X.K w μ.length d2 y->ja0 x u->ja0 y v->eqD μ n d1 d2=some b->SeqAt.EqAt A s u v b
 |0,A,d1,d2,x,y,u,v,b,hu,h1,h2,r1,r2,e=>by cases e
 |n+1,A,d1,d2,x,y,u,v,b,hu,h1,h2,r1,r2,e=>by
  have hu1:A.units<cLine:=by omega
  unfold eqD at e
  split at e
  ·rename_i x' y' e1 e2
   cases e
   obtain⟨rfl,f1⟩:=jcr h1 e1
   obtain⟨rfl,f2⟩:=jcr h2 e2
   exact jl0 r1 r2 f1 f2
  ·obtain⟨a,c,rfl,rfl,t1,_⟩:=jmK I R hu1 (fun d1 d2 x y u v b=>jlu I R n (A:=A.in1) d1 d2 x y u v b (by rw[Around.in1_units];omega)) h1 h2 e
   cases r1
   cases r2
   by_cases hne:a=c
   ·subst hne
    rw[jjz I R (jjG I R n) h1 h2 e]
    exact SeqAt.EqAt.same _
   ·exact SeqAt.EqAt.of_refs hne t1
end
noncomputable def jv6 (K:PySem.W.Frag)(ne:Bool):R2:=fun x y H Q=>(jvA x y=true/\Q (.bl (if ne then !decide (x=y)else decide (x=y))) H)∨∃w μ d1 d2 b,Rep K w μ H/\Den K w μ.length d1 x/\Den K w μ.length d2 y/\eqN (eqD μ 8) μ d1 d2=some b/\Q (.bl (if ne then !b else b)) H
theorem js5 (hu:X.A.units+16<cLine):OpR X (compareOp .Eq) (jv6 X.K false):=by
 intro pins s σ H x y v u Q I rx ry h
 rcases h with⟨hs,q⟩|⟨w,μ,d1,d2,b,R,h1,h2,e,q⟩
 ·exact jwO pins s σ H x y v u Q I rx ry ⟨hs,q⟩
 ·obtain⟨a,c,rfl,rfl,t1,_⟩:=jmK I R (A:=X.A) (by omega) (fun d1 d2 x y u v b=>jlu I R 8 (A:=X.A.in1) d1 d2 x y u v b (by rw[Around.in1_units];omega)) h1 h2 e
  cases rx
  cases ry
  exact t1 _ _ _ _ ⟨.bl b,H,I,rfl,q⟩
theorem jvd (hu:X.A.units+16<cLine):OpR X (compareOp .NotEq) (jv6 X.K true):=by
 intro pins s σ H x y v u Q I rx ry h
 rcases h with⟨hs,q⟩|⟨w,μ,d1,d2,b,R,h1,h2,e,q⟩
 ·exact jv7 pins s σ H x y v u Q I rx ry ⟨hs,q⟩
 ·obtain⟨a,c,rfl,rfl,_,t2⟩:=jmK I R (A:=X.A) (by omega) (fun d1 d2 x y u v b=>jlu I R 8 (A:=X.A.in1) d1 d2 x y u v b (by rw[Around.in1_units];omega)) h1 h2 e
  cases rx
  cases ry
  exact t2 _ _ _ _ ⟨.bl (!b),H,I,rfl,q⟩
theorem jhe {op:CmpOp}{a b d:D}{μ μ':M}(e:je5 op a b μ=.ok d μ'):∃r,joJ op a b μ=some r/\d=.bl r/\μ'=μ:=by
 unfold je5 at e
 split at e
 ·rename_i r hr
  cases e
  exact⟨r,hr,rfl,rfl⟩
 ·cases e
theorem juf {w:Wd}{n:Nat}{x:V}:∀{ds:List D} {xs:List V} {b:Bool},DenL K w n ds xs->jvB x ds=some b->xs.all jd3=true/\inV x xs=b:=by
 intro ds xs b h
 have p:=jaF.mp h
 clear h
 induction p generalizing b with
 |nil=>
  intro e
  cases e
  exact⟨rfl,rfl⟩
 |cons k t ih=>
  intro e
  simp only[jvB]at e
  split at e
  ·rename_i y r e1 e2
   cases e
   obtain⟨q,f⟩:=jcr k e1
   obtain⟨i1,i2⟩:=ih e2
   refine⟨by rw[List.all_cons,f,i1];rfl,?_⟩
   unfold inV at i2 ⊢
   rw[List.any_cons,i2,q]
  ·cases e
theorem jjk {w:Wd}{μ:M}{H:Hp}{d:D}{v:V}{ks:List Key}{vs:List D}(R:Rep K w μ H)(h:Den K w μ.length d v)(e:jkO μ d=some (ks,vs)):∃a xs,v=.ref a/\ks.length=vs.length/\Rd H a (.dK (ks.zip xs))/\DenL K w μ.length vs xs:=by
 cases d with
 |dK ks' vs'=>
  simp only[jkO,Option.some.injEq,Prod.mk.injEq]at e
  obtain⟨rfl,rfl⟩:=e
  unfold Den at h
  obtain⟨a,xs,h1,h2,h3,h4⟩:=h
  exact⟨a,xs,h1,h2,.inl (R.sub _ _ h3),h4⟩
 |dF ks' vs'=>
  simp only[jkO,Option.some.injEq,Prod.mk.injEq]at e
  obtain⟨rfl,rfl⟩:=e
  unfold Den at h
  obtain⟨a,o,es,ep,xs,h1,h2,h3,h4,h5⟩:=h
  exact⟨a,xs,h1,h2,.inr ⟨o,R.sub _ _ h4⟩,h5⟩
 |cel k=>
  simp only[jkO]at e
  split at e
  ·rename_i ks' vs' hk
   simp only[Option.some.injEq,Prod.mk.injEq]at e
   obtain⟨rfl,rfl⟩:=e
   unfold Den at h
   obtain⟨xs,h0,h1,h2⟩:=(R.liv k _ hk).2
   exact⟨_,xs,h.2,h0,.inl h1,h2⟩
  ·cases e
 |_=>cases e
theorem jgX {w:Wd}{n:Nat}(k:Key):∀{ks:List Key} {vs:List D} {xs:List V},DenL K w n vs xs->ks.length=vs.length->(∀d,jkW k ks vs=some d->∃v,jkU (ks.zip xs) k=some v/\Den K w n d v)/\(jkW k ks vs=none->jkU (ks.zip xs) k=none)
 |[],vs,xs,h,hl=>⟨fun d e=>(by cases e),fun _=>rfl⟩
 |g::ks,[],xs,h,hl=>by cases hl
 |g::ks,d::vs,xs,h,hl=>by
  unfold DenL at h
  obtain⟨v,ws,rfl,h1,h2⟩:=h
  obtain⟨i1,i2⟩:=jgX k h2 (by simpa using hl)
  rw[List.zip_cons_cons]
  by_cases c:g=k
  ·have a1:jkW k (g::ks) (d::vs)=some d:=by unfold jkW;rw[if_pos c]
   rw[a1,jhB (p:=(g,v)) c]
   exact⟨fun d' e=>by cases e;exact⟨v,rfl,h1⟩,fun e=>by cases e⟩
  ·have a1:jkW k (g::ks) (d::vs)=jkW k ks vs:=by rw[jkW,if_neg c]
   rw[a1,jg9 (p:=(g,v)) c]
   exact⟨i1,i2⟩
theorem jts {w:Wd}{n:Nat}{d:D}{v:V}{k:Key}(h:Den K w n d v)(e:jwu d=some k):v=kV k:=by
 cases d<;>simp only[jwu,Option.some.injEq]at e<;>first|(subst e;unfold Den at h;exact h)|cases e
theorem jpO {neg:Bool}:jlY K (fun a b μ=>match(inD μ a b).map (fun r=>if neg then !r else r)with
  |some r=>.ok (.bl r) μ
  |none=>.bad) (fun x y H Q=>rIn K neg x y H Q∨jp8 neg x y H Q):=by
 intro w μ H d1 d2 d μ' v1 v2 Q R h1 h2 e q
 dsimp only at e
 cases e0:inD μ d1 d2 with
 |none=>rw[e0]at e;cases e
 |some r=>
  rw[e0]at e
  cases e
  unfold inD at e0
  split at e0
  ·rename_i ds e2
   split at e0
   ·rename_i x e1
    obtain⟨q1,f1⟩:=jcr h1 e1
    obtain⟨a,xs,rfl,s2,l2⟩:=jfC R h2 e2
    obtain⟨i1,i2⟩:=juf l2 e0
    exact .inl ⟨a,xs,rfl,s2,f1,i1,by rw[q1,i2];exact jah R q (by unfold Den;rfl)⟩
   ·cases e0
  ·split at e0
   ·rename_i k ks vs e1 e2
    cases e0
    obtain⟨a,xs,rfl,hl,hz,l2⟩:=jjk R h2 e2
    obtain⟨i1,i2⟩:=jgX k l2 hl
    have es:(jkU (ks.zip xs) k).isSome=(jkW k ks vs).isSome:=by
     cases hg:jkW k ks vs with
     |none=>rw[i2 hg];rfl
     |some d=>
      obtain⟨v,hv,_⟩:=i1 d hg
      rw[hv]
      rfl
    exact .inr ⟨a,_,rfl,.inl ⟨_,k,hz,jts h1 e1,rfl⟩,by rw[es];exact jah R q (by unfold Den;rfl)⟩
   ·cases e0
theorem jcs {f:D->D->M->Out D}{r:R2}(h:∀(w:Wd) (μ:M) (H:Hp) (d1 d2:D) (b:Bool) (v1 v2:V) (Q:VK),Rep K w μ H->Den K w μ.length d1 v1->Den K w μ.length d2 v2->f d1 d2 μ=.ok (.bl b) μ->Q (.bl b) H->r v1 v2 H Q)(hb:∀d1 d2 d μ μ',f d1 d2 μ=.ok d μ'->∃b,d=.bl b/\μ'=μ):jlY K f r:=by
 intro w μ H d1 d2 d μ' v1 v2 Q R h1 h2 e q
 obtain⟨b,rfl,rfl⟩:=hb _ _ _ _ _ e
 exact h w μ' H d1 d2 b v1 v2 Q R h1 h2 e (jah R q (by unfold Den;rfl))
theorem jdv {op:CmpOp}:∀d1 d2 d μ μ',je5 op d1 d2 μ=.ok d μ'->∃b,d=.bl b/\μ'=μ:=fun _ _ _ _ _ e=>let⟨r,_,h1,h2⟩:=jhe e;⟨r,h1,h2⟩
theorem jeU {op:CmpOp}{a b:D}{μ:M}{r:Bool}(e:je5 op a b μ=.ok (.bl r) μ):joJ op a b μ=some r:=by
 obtain⟨r',h,h1,_⟩:=jhe e
 cases h1
 exact h
theorem jl5 {w:Wd}{μ:M}{H:Hp}{d1 d2:D}{b:Bool}{v1 v2:V}{Q:VK}(ne:Bool)(R:Rep K w μ H)(h1:Den K w μ.length d1 v1)(h2:Den K w μ.length d2 v2)(e:jkl μ d1 d2=some b)(q:Q (.bl (if ne then !b else b)) H):jv6 K ne v1 v2 H Q:=by
 unfold jkl at e
 split at e
 ·rename_i x y e1 e2
  split at e
  ·rename_i hs
   cases e
   obtain⟨rfl,_⟩:=jcr h1 e1
   obtain⟨rfl,_⟩:=jcr h2 e2
   exact .inl ⟨hs,q⟩
  ·cases e
 ·exact .inr ⟨w,μ,d1,d2,b,R,h1,h2,e,q⟩
theorem jl6 {op:CmpOp}(hu:X.A.units+16<cLine):∃r,OpR X (compareOp op) r/\jlY X.K (je5 op) r:=by
 cases op with
 |Eq=>exact⟨_,js5 hu,jcs (fun w μ H d1 d2 b v1 v2 Q R h1 h2 e q=>jl5 false R h1 h2 (jeU e) q) jdv⟩
 |NotEq=>
  refine⟨_,jvd hu,jcs (fun w μ H d1 d2 b v1 v2 Q R h1 h2 e q=>?_) jdv⟩
  have e':(jkl μ d1 d2).map (!·)=some b:=jeU e
  cases e2:jkl μ d1 d2 with
  |none=>rw[e2]at e';cases e'
  |some c=>
   rw[e2]at e'
   cases e'
   exact jl5 true R h1 h2 e2 q
 |Lt=>
  refine⟨_,(jww.or jlB),jcs (fun w μ H d1 d2 b v1 v2 Q R h1 h2 e q=>?_) jdv⟩
  have e':=jeU e
  simp only[joJ]at e'
  split at e'
  ·cases e'
   unfold Den at h1 h2
   exact .inl ⟨_,_,h1,h2,q⟩
  ·cases e'
   unfold Den at h1 h2
   exact .inr ⟨_,_,h1,h2,q⟩
  ·cases e'
 |LtE=>
  refine⟨_,(jv9.or jk3),jcs (fun w μ H d1 d2 b v1 v2 Q R h1 h2 e q=>?_) jdv⟩
  have e':=jeU e
  simp only[joJ]at e'
  split at e'
  ·cases e'
   unfold Den at h1 h2
   exact .inl ⟨_,_,h1,h2,q⟩
  ·cases e'
   unfold Den at h1 h2
   exact .inr ⟨_,_,h1,h2,q⟩
  ·cases e'
 |Gt=>
  refine⟨_,jwk,jcs (fun w μ H d1 d2 b v1 v2 Q R h1 h2 e q=>?_) jdv⟩
  have e':=jeU e
  simp only[joJ]at e'
  split at e'
  ·cases e'
   unfold Den at h1 h2
   exact⟨_,_,h1,h2,q⟩
  ·cases e'
 |GtE=>
  refine⟨_,jv4,jcs (fun w μ H d1 d2 b v1 v2 Q R h1 h2 e q=>?_) jdv⟩
  have e':=jeU e
  simp only[joJ]at e'
  split at e'
  ·cases e'
   unfold Den at h1 h2
   exact⟨_,_,h1,h2,q⟩
  ·cases e'
 |In=>
  refine⟨_,jlA.or (jq4 (by omega)),fun w μ H d1 d2 d μ' v1 v2 Q R h1 h2 e q=>jpO (neg:=false) w μ H d1 d2 d μ' v1 v2 Q R h1 h2 ?_ q⟩
  obtain⟨r,hr,h3,h4⟩:=jhe e
  have hr':inD μ d1 d2=some r:=hr
  dsimp only
  rw[hr',h3,h4]
  rfl
 |NotIn=>
  refine⟨_,jhV.or (jku (by omega)),fun w μ H d1 d2 d μ' v1 v2 Q R h1 h2 e q=>jpO (neg:=true) w μ H d1 d2 d μ' v1 v2 Q R h1 h2 ?_ q⟩
  obtain⟨r,hr,h3,h4⟩:=jhe e
  have hr':(inD μ d1 d2).map (!·)=some r:=hr
  dsimp only
  rw[h3,h4]
  cases e2:inD μ d1 d2 with
  |none=>rw[e2]at hr';cases hr'
  |some c=>
   rw[e2]at hr'
   cases hr'
   rfl
 |Is=>
  refine⟨_,js6,jcs (fun w μ H d1 d2 b v1 v2 Q R h1 h2 e q=>?_) jdv⟩
  have e':=jeU e
  simp only[joJ]at e'
  split at e'
  ·cases e'
   unfold Den at h1 h2
   exact⟨_,_,h1,h2,q⟩
  ·cases e'
 |IsNot=>
  refine⟨_,jk2,jcs (fun w μ H d1 d2 b v1 v2 Q R h1 h2 e q=>?_) jdv⟩
  have e':=jeU e
  simp only[joJ]at e'
  split at e'
  ·cases e'
   unfold Den at h1 h2
   exact⟨_,_,h1,h2,q⟩
  ·cases e'
theorem joz {w:Wd}{n:Nat}{ds:List D}{xs:List V}{i:Int}{d:D}(h:DenL K w n ds xs)(e:atI ds i=some d):∃v,atI xs i=some v/\Den K w n d v:=by
 unfold atI at e ⊢
 rw[jae h]at e
 cases e2:ixN xs.length i with
 |none=>rw[e2]at e;cases e
 |some j=>
  rw[e2]at e
  exact jdK h e
theorem jkY {w:Wd}{μ μ':M}{H:Hp}{d1 d:D}{v1 v2:V}{k:Key}{Q:VK}(R:Rep K w μ H)(h1:Den K w μ.length d1 v1)(hk:v2=kV k)(e:jvL d1 k μ=.ok d μ')(q:jhg K w μ.length d μ' Q):jsx v1 v2 H Q:=by
 unfold jvL at e
 split at e
 ·rename_i ks vs e2
  split at e
  ·rename_i d' hd
   obtain⟨a,xs,rfl,hl,hz,l2⟩:=jjk R h1 e2
   obtain⟨v,hv,hdv⟩:=(jgX k l2 hl).1 d' hd
   cases e
   exact⟨a,v,rfl,.inl ⟨_,k,hz,hk,hv.symm⟩,jah R q hdv⟩
  ·cases e
 ·cases e
theorem jwP:jlY K ixD (fun x y H Q=>rIx K x y H Q∨jsx x y H Q):=by
 intro w μ H d1 d2 d μ' v1 v2 Q R h1 h2 e q
 unfold ixD at e
 split at e
 ·rename_i i
  unfold Den at h2
  split at e
  ·rename_i z
   unfold Den at h1
   split at e
   ·rename_i hz
    split at e
    ·rename_i c hc
     cases e
     exact .inl (.inr (.inr ⟨z,i,c,h1,h2,hz,hc,jah R q (by unfold Den;rfl)⟩))
    ·cases e
   ·cases e
  ·split at e
   ·rename_i ds hs
    split at e
    ·rename_i d' hd
     cases e
     obtain⟨a,xs,rfl,s1,l1⟩:=jfC R h1 hs
     obtain⟨v,e1,e2⟩:=joz l1 hd
     rcases s1 with s1|s1
     ·exact .inl (.inl ⟨a,xs,i,v,rfl,h2,s1,e1,jah R q e2⟩)
     ·exact .inl (.inr (.inl ⟨a,xs,i,v,rfl,h2,s1,e1,jah R q e2⟩))
    ·cases e
   ·exact .inr (jkY R h1 (k:=.inl i) h2 e q)
 ·rename_i k
  unfold Den at h2
  exact .inr (jkY R h1 (k:=.inr k) h2 e q)
 ·cases e
noncomputable def jxe (K:PySem.W.Frag):V->Option Int->Option Int->Hp->VK->Prop:=fun x lo hi H Q=>jw7 x lo hi H Q∨(jxb K x lo hi H Q∨jxp K x lo hi H Q)∨jw8 K x lo hi H Q
theorem jti:SlR X (jxe X.K):=juG.or ((jnl.or juZ).or jr9)
theorem jtD {m:Bool}{w:Wd}{μ μ':M}{H:Hp}{d1 d:D}{v1:V}{lo hi:Option Int}{Q:VK}(R:Rep K w μ H)(h1:Den K w μ.length d1 v1)(e:slD m d1 lo hi μ=.ok d μ')(q:jhg K w μ.length d μ' Q):jxe K v1 lo hi H Q:=by
 unfold slD at e
 split at e
 ·split at e
  ·rename_i hz
   cases e
   unfold Den at h1
   exact .inl ⟨_,h1,hz,jah R q (by unfold Den;rfl)⟩
  ·cases e
 ·cases e
  obtain⟨a,us,rfl,s1,l1⟩:=jbY R h1
  by_cases hw:HT.sIx us.length 0 lo=0/\HT.sIx us.length us.length hi=us.length
  ·refine .inr (.inl (.inl ⟨a,us,rfl,s1,hw,jah R q ?_⟩))
   have hw':=hw
   rw[<- jae l1]at hw'
   unfold cutD
   rw[hw'.1,hw'.2,List.drop_zero,Nat.sub_zero,List.take_length]
   exact h1
  ·refine .inr (.inl (.inr ⟨a,us,rfl,s1,hw,fun p hp=>?_⟩))
   exact jdG R q hp fun w' x hz=>by unfold Den;exact⟨p,_,rfl,SqT.of hz,(l1.cut lo hi).mono x⟩
 ·split at e
  ·rename_i ds hs
   obtain⟨a,us,rfl,s1,l1⟩:=jbh R h1 hs
   exact .inr (.inr ⟨a,us,rfl,s1,jfI R (l1.cut lo hi) e q⟩)
  ·cases e
theorem jfn {w:Wd}{n:Nat}{ds:List D}{xs:List V}(h:DenL K w n ds xs):ds.isEmpty=xs.isEmpty:=by
 cases jaF.mp h<;>rfl
theorem jqy {w:Wd}{μ:M}{H:Hp}{d:D}{v:V}{b:Bool}(R:Rep K w μ H)(h:Den K w μ.length d v)(e:jvD μ d=some b):jsX K v H b:=by
 unfold jvD at e
 split at e
 ·cases e;unfold Den at h;subst h;rfl
 ·cases e;unfold Den at h;subst h;rfl
 ·cases e;unfold Den at h;subst h;rfl
 ·split at e
  ·rename_i hz
   cases e;unfold Den at h;subst h;exact⟨hz,rfl⟩
  ·cases e
 ·cases e
  obtain⟨a,us,rfl,s1,l1⟩:=jbY R h
  exact .inr (.inl ⟨us,s1,by rw[jfn l1]⟩)
 ·cases e2:jeS μ d with
  |none=>rw[e2]at e;cases e
  |some ds=>
   rw[e2]at e
   cases e
   obtain⟨a,us,rfl,s1,l1⟩:=jbh R h e2
   exact .inl ⟨us,s1,by show(!ds.isEmpty)=_;rw[jfn l1]⟩
end
end _L3
namespace _L3
open PySem PySem.Spec PyProof.Rows _L2
section
variable {K:PySem.W.Frag} {X:Cx}
theorem jvx {σ:_L2.St}{H:Hp}{Q:List V->Hp->Prop}:T3A K (fun _ μ=>.ok [] μ) σ H Q->jxl σ H Q:=by
 rintro⟨w,μ,ρ,ds,μ',R,S,e,q⟩
 cases e
 exact q w H [] (Ext.refl _ _) R (by unfold DenL;rfl)
theorem jqK {r1:S3->M->Out D}{r2:S3->M->Out (List D)}{σ:_L2.St}{H:Hp}{Q:List V->Hp->Prop} :
  T3A K (fun ρ μ=>(r1 ρ μ).bind fun d μ1=>(r2 ρ μ1).bind fun ds μ2=>.ok (d::ds) μ2) σ H Q->jlz (T3E K r1) (T3A K r2) σ H Q:=by
 rintro⟨w,μ,ρ,d,μ',R,S,e,q⟩
 obtain⟨x,μ1,e1,e⟩:=Out.bind_ok e
 obtain⟨ys,μ2,e2,e⟩:=Out.bind_ok e
 cases e
 exact⟨w,μ,ρ,x,μ1,R,S,e1,fun w1 H1 v1 x1 R1 d1=>⟨w1,μ1,ρ,ys,_,R1,S.mono x1,e2,fun w2 H2 vs x2 R2 d2=>q w2 H2 (v1::vs) (x1.trans x2) R2 (by unfold DenL;exact⟨v1,vs,rfl,d1.mono x2,d2⟩)⟩⟩
noncomputable def jkn (K:PySem.W.Frag)(f:List D->M->Out D)(r:List V->Hp->VK->Prop):Prop:=∀(w:Wd) (μ:M) (H:Hp) (ds:List D) (d:D) (μ':M) (vs:List V) (Q:VK),Rep K w μ H->DenL K w μ.length ds vs->f ds μ=.ok d μ'->jhg K w μ.length d μ' Q->r vs H Q
theorem jfv {f:List D->M->Out D}{r:List V->Hp->VK->Prop}{rl:S3->M->Out (List D)}(hs:jkn K f r){σ:_L2.St}{H:Hp}{Q:VK} :
  T3E K (fun ρ μ=>(rl ρ μ).bind fun ds μ1=>f ds μ1) σ H Q->T3A K rl σ H fun vs H1=>r vs H1 Q:=by
 rintro⟨w,μ,ρ,d,μ',R,S,e,q⟩
 obtain⟨ds,μ1,e1,e⟩:=Out.bind_ok e
 exact⟨w,μ,ρ,ds,μ1,R,S,e1,fun w1 H1 vs x1 R1 d1=>hs w1 μ1 H1 ds d μ' vs Q R1 d1 e fun w3 H3 v x3 R3 d3=>q w3 H3 v (x1.trans x3) R3 d3⟩
theorem jjc {w:Wd}{n:Nat}{d:D}{vs:List V}(h:DenL K w n [d] vs):∃v,vs=[v]/\Den K w n d v:=by
 unfold DenL at h
 obtain⟨v,ws,rfl,h1,h2⟩:=h
 unfold DenL at h2
 subst h2
 exact⟨v,rfl,h1⟩
theorem jvH {w:Wd}{n:Nat}{d e:D}{vs:List V}(h:DenL K w n [d,e] vs):∃v u,vs=[v,u]/\Den K w n d v/\Den K w n e u:=by
 unfold DenL at h
 obtain⟨v,ws,rfl,h1,h2⟩:=h
 obtain⟨u,rfl,h3⟩:=jjc h2
 exact⟨v,u,rfl,h1,h3⟩
theorem jsj:jkn K (fun ds μ=>if ds.length<=sizeLine then .ok (.tup ds) μ else .bad) (fun xs H Q=>xs.length<=sizeLine/\∀p,H p=none->Q (.ref p) (upd H p (.tup xs))):=by
 intro w μ H ds d μ' vs Q R h e q
 dsimp only at e
 split at e
 ·rename_i hl
  cases e
  refine⟨by rw[<- jae h];exact hl,fun p hp=>?_⟩
  exact jdG R q hp fun w' x hz=>by unfold Den;exact⟨p,_,rfl,SqT.of hz,h.mono x⟩
 ·cases e
theorem jrh {m:Bool}:jkn K (fun ds μ=>if ds.length<=sizeLine then mkL m ds μ else .bad) (fun xs H Q=>xs.length<=sizeLine/\∀p,H p=none->Q (.ref p) (upd H p (.lst xs))):=by
 intro w μ H ds d μ' vs Q R h e q
 dsimp only at e
 split at e
 ·rename_i hl
  exact⟨by rw[<- jae h];exact hl,jfI R h e q⟩
 ·cases e
noncomputable abbrev jwh (K:PySem.W.Frag):List V->Hp->VK->Prop:=fun xs H Q=>(∃p ys,xs=[.ref p]/\(SqL K H p ys∨SqT K H p ys)/\Q (.int ys.length) H)∨∃z,xs=[.str z]/\z.length<=sizeLine/\Q (.int z.length) H
theorem jpR:jkn K jwG (jwh K):=by
 intro w μ H ds d μ' vs Q R h e q
 unfold jwG at e
 split at e
 ·split at e
  ·rename_i hz
   cases e
   obtain⟨v,rfl,h1⟩:=jjc h
   unfold Den at h1
   subst h1
   exact .inr ⟨_,rfl,hz,jah R q (by unfold Den;rfl)⟩
  ·cases e
 ·split at e
  ·rename_i xs hs
   cases e
   obtain⟨v,rfl,h1⟩:=jjc h
   obtain⟨a,ys,rfl,s1,l1⟩:=jfC R h1 hs
   exact .inl ⟨a,ys,rfl,s1,by rw[<- jae l1];exact jah R q (by unfold Den;rfl)⟩
  ·cases e
 ·cases e
theorem jq1:jkn K jvX (fun xs H Q=>∃i j,xs=[.int i,.int j]/\Q (.int (if j<i then j else i)) H):=by
 intro w μ H ds d μ' vs Q R h e q
 unfold jvX at e
 split at e
 ·cases e
  obtain⟨v,u,rfl,h1,h2⟩:=jvH h
  unfold Den at h1 h2
  subst h1 h2
  exact⟨_,_,rfl,jah R q (by unfold Den;rfl)⟩
 ·cases e
theorem jqm:jkn K jwa (fun xs H Q=>∃i j,xs=[.int i,.int j]/\Q (.int (if j > i then j else i)) H):=by
 intro w μ H ds d μ' vs Q R h e q
 unfold jwa at e
 split at e
 ·cases e
  obtain⟨v,u,rfl,h1,h2⟩:=jvH h
  unfold Den at h1 h2
  subst h1 h2
  exact⟨_,_,rfl,jah R q (by unfold Den;rfl)⟩
 ·cases e
theorem jn0 {m:Bool}:jkn K (jsw m) (fun xs H Q=>∃p ys,xs=[.ref p]/\(SqL K H p ys∨SqT K H p ys)/\∀l,H l=none->Q (.ref l) (upd H l (.lst ys))):=by
 intro w μ H ds d μ' vs Q R h e q
 unfold jsw at e
 split at e
 ·split at e
  ·rename_i xs hs
   obtain⟨v,rfl,h1⟩:=jjc h
   obtain⟨a,ys,rfl,s1,l1⟩:=jfC R h1 hs
   exact⟨a,ys,rfl,s1,jfI R l1 e q⟩
  ·cases e
 ·cases e
theorem jm6:jkn K jk0 (fun xs H Q=>∃p ys,xs=[.ref p]/\((SqL K H p ys/\∀l,H l=none->Q (.ref l) (upd H l (.tup ys)))∨(SqT K H p ys/\Q (.ref p) H))):=by
 intro w μ H ds d μ' vs Q R h e q
 unfold jk0 at e
 split at e
 ·rename_i d0
  split at e
  ·rename_i xs hs
   cases e
   obtain⟨v,rfl,h1⟩:=jjc h
   unfold jfX at hs
   split at hs
   ·cases hs
    obtain⟨a,ys,rfl,s1,l1⟩:=jbY R h1
    exact⟨a,ys,rfl,.inr ⟨s1,jah R q h1⟩⟩
   ·obtain⟨a,ys,rfl,s1,l1⟩:=jbh R h1 hs
    exact⟨a,ys,rfl,.inl ⟨s1,fun p hp=>jdG R q hp fun w' x hz=>by unfold Den;exact⟨p,_,rfl,SqT.of hz,l1.mono x⟩⟩⟩
  ·cases e
 ·cases e
theorem jlX:jkn K jmq (fun xs H Q=>((∃i,xs=[.int i]/\Q (.int i) H)∨∃k,xs=[.bl k]/\Q (.int (if k then 1 else 0)) H)∨jsW xs H Q):=by
 intro w μ H ds d μ' vs Q R h e q
 unfold jmq at e
 split at e
 ·cases e
  obtain⟨v,rfl,h1⟩:=jjc h
  unfold Den at h1
  subst h1
  exact .inl (.inl ⟨_,rfl,jah R q (by unfold Den;rfl)⟩)
 ·cases e
  obtain⟨v,rfl,h1⟩:=jjc h
  unfold Den at h1
  subst h1
  exact .inl (.inr ⟨_,rfl,jah R q (by unfold Den;rfl)⟩)
 ·split at e
  ·rename_i n hn
   split at e
   ·rename_i hz
    cases e
    obtain⟨v,rfl,h1⟩:=jjc h
    unfold Den at h1
    subst h1
    exact .inr ⟨_,n,rfl,hn,hz,jah R q (by unfold Den;rfl)⟩
   ·cases e
  ·cases e
 ·cases e
theorem jrQ (hc:X.calm=true):jkn X.K jvO (fun xs H Q=>X.calm=true/\∃(p:Addr) (bs:List Bool),xs=[.ref p]/\SqL X.K H p (bs.map V.bl)/\Q (.bl (bs.all id)) H):=by
 intro w μ H ds d μ' vs Q R h e q
 unfold jvO at e
 split at e
 ·split at e
  ·rename_i xs hs
   split at e
   ·rename_i ns hn
    cases e
    obtain⟨v,rfl,h1⟩:=jjc h
    obtain⟨a,ys,rfl,s1,l1⟩:=jbh R h1 hs
    have:=jjn l1 hn
    subst this
    exact⟨hc,a,ns,rfl,s1,jah R q (by unfold Den;rfl)⟩
   ·cases e
  ·cases e
 ·cases e
theorem jj8 {μ:M}{d:D}{t:String}(e:tyD μ d=some t):(d=.non/\t = "NoneType")∨(∃b,d=.bl b/\t = "bool")∨(∃i,d=.int i/\t = "int")∨(∃x,d=.str x/\t = "str")∨(∃ds,d=.tup ds/\t = "tuple")∨(∃ds,jeS μ d=some ds/\t = "list"):=by
 cases d with
 |non=>cases e;exact .inl ⟨rfl,rfl⟩
 |bl b=>cases e;exact .inr (.inl ⟨b,rfl,rfl⟩)
 |int i=>cases e;exact .inr (.inr (.inl ⟨i,rfl,rfl⟩))
 |str x=>cases e;exact .inr (.inr (.inr (.inl ⟨x,rfl,rfl⟩)))
 |tup ds=>cases e;exact .inr (.inr (.inr (.inr (.inl ⟨ds,rfl,rfl⟩))))
 |scr ds=>cases e
 |lst ds=>cases e;exact .inr (.inr (.inr (.inr (.inr ⟨ds,rfl,rfl⟩))))
 |cel k=>
  simp only[tyD]at e
  cases e2:jeS μ (.cel k)with
  |none=>rw[e2]at e;cases e
  |some ds=>rw[e2]at e;cases e;exact .inr (.inr (.inr (.inr (.inr ⟨ds,rfl,rfl⟩))))
 |_=>cases e
theorem jjU {n t:String} {b:Bool} (ht:t = "NoneType"∨t = "bool"∨t = "int"∨t = "str"∨t = "tuple"∨t = "list") (e:jsQ n t=some b):PySem.W.kitOne K (.type t) (.type n)=some b:=by
 unfold jsQ at e
 split at e
 ·rename_i hn
  subst hn
  rcases ht with rfl|rfl|rfl|rfl|rfl|rfl<;>(cases e;rfl)
 ·split at e
  ·rename_i hn
   rcases hn with rfl|rfl|rfl|rfl|rfl<;>rcases ht with rfl|rfl|rfl|rfl|rfl|rfl<;>(cases e;rfl)
  ·cases e
noncomputable def jwM (K:PySem.W.Frag)(n:String):List V->Hp->VK->Prop:=fun xs H Q=>∃(x:V) (w:Wd) (μ:M) (d:D) (t:String) (b:Bool),xs=[x,.ty n]/\Rep K w μ H/\Den K w μ.length d x/\tyD μ d=some t/\jsQ n t=some b/\Q (.bl b) H
theorem jo5 {n:String}:jbR X (.builtin "isinstance") (jwM X.K n):=by
 intro pins s σ H xs us Q I r h
 obtain⟨x,w,μ,d,t,b,rfl,R,hd,ht,hb,q⟩:=h
 obtain⟨u,u2,rfl,ru,ru2⟩:=r.two
 cases(show u2=Value.type n from ru2)
 have hk:∀hh,PySem.W.kitOne X.K (.type t) (.type n)=some b:=fun hh=>jjU hh hb
 have fin:∀tk,EP X pins σ Q (.bool b) {s with toks:=tk}:=fun tk=>⟨.bl b,H,I.tok tk,rfl,q⟩
 rcases jj8 ht with⟨rfl,rfl⟩|⟨k,rfl,rfl⟩|⟨i,rfl,rfl⟩|⟨y,rfl,rfl⟩|⟨ds,rfl,rfl⟩|⟨ds,e,rfl⟩
 ·unfold Den at hd
  subst hd
  exact jeg I ru .non (hk (by simp)) fin
 ·unfold Den at hd
  subst hd
  exact jeg I ru (.bl k) (hk (by simp)) fin
 ·unfold Den at hd
  subst hd
  exact jeg I ru (.int i) (hk (by simp)) fin
 ·unfold Den at hd
  subst hd
  exact jeg I ru (.str y) (hk (by simp)) fin
 ·obtain⟨a,xs,rfl,s1,_⟩:=jbY R hd
  cases ru
  obtain⟨its,_,p,_⟩:=I.tuple s1
  obtain⟨o,h1,h2,_⟩:=p
  exact PySem.W.kia_one PySem.W.kitx_tuple I.kIn ⟨o,h1,h2⟩ (hk (by simp)) (fun z=>nomatch z) fin
 ·obtain⟨a,xs,rfl,s1,_⟩:=jbh R hd e
  cases ru
  obtain⟨its,_,p,_⟩:=I.list s1
  obtain⟨o,n1,h1,h2,_⟩:=p
  exact PySem.W.kia_one PySem.W.kitx_list I.kIn ⟨o,h1,h2⟩ (hk (by simp)) (fun z=>nomatch z) fin
theorem jqn {n:String}{w:Wd}{μ μ':M}{H:Hp}{ds:List D}{d:D}{vs:List V}{Q:VK}(R:Rep K w μ H)(h:DenL K w μ.length ds vs)(e:jvP n ds μ=.ok d μ')(q:jhg K w μ.length d μ' Q):jwM K n (vs++[.ty n]) H Q:=by
 unfold jvP at e
 split at e
 ·rename_i d0
  split at e
  ·rename_i t ht
   split at e
   ·rename_i r hr
    cases e
    obtain⟨v,rfl,h1⟩:=jjc h
    exact⟨v,w,μ,d0,t,r,rfl,R,h1,ht,hr,jah R q (by unfold Den;rfl)⟩
   ·cases e
  ·cases e
 ·cases e
theorem jso {n m t:String} {b:Bool} (ht:t = "NoneType"∨t = "bool"∨t = "int"∨t = "str"∨t = "tuple"∨t = "list") (e:jnF n m t=some b):PySem.W.kitAny K (.type t) [.type n,.type m]=some b:=by
 unfold jnF at e
 split at e
 ·rename_i h
  cases e
  have k:=jjU (K:=K) ht h
  unfold PySem.W.kitAny
  rw[k]
 ·rename_i h
  have k:=jjU (K:=K) ht h
  have k2:=jjU (K:=K) ht e
  unfold PySem.W.kitAny
  rw[k]
  unfold PySem.W.kitAny
  dsimp only
  rw[k2]
  cases b<;>rfl
 ·cases e
noncomputable def jt8 (K:PySem.W.Frag)(n m:String):List V->Hp->VK->Prop:=fun xs H Q=>∃(x:V) (p:Addr) (w:Wd) (μ:M) (d:D) (t:String) (b:Bool),xs=[x,.ref p]/\SqT K H p [.ty n,.ty m]/\Rep K w μ H/\Den K w μ.length d x/\tyD μ d=some t/\jnF n m t=some b/\Q (.bl b) H
theorem jlO {n m:String}:jbR X (.builtin "isinstance") (jt8 X.K n m):=by
 intro pins s σ H xs us Q I r h
 obtain⟨x,p,w,μ,d,t,b,rfl,hsq,R,hd,ht,hb,q⟩:=h
 obtain⟨u,u2,rfl,ru,ru2⟩:=r.two
 cases(show u2=Value.ref p from ru2)
 have hk:∀hh,PySem.W.kitAny X.K (.type t) [.type n,.type m]=some b:=fun hh=>jso hh hb
 have fin:∀tk,EP X pins σ Q (.bool b) {s with toks:=tk}:=fun tk=>⟨.bl b,H,I.tok tk,rfl,q⟩
 obtain⟨its,rv,hp,_⟩:=I.tuple hsq
 cases jg4 (show [V.ty n,V.ty m].mapM jsL=some [.type n,.type m]from rfl) rv
 obtain⟨⟨cc,dd,dt,sl⟩,ho,hcc,nn,hdd⟩:=hp
 simp only at hcc hdd
 subst hcc hdd
 rcases jj8 ht with⟨rfl,rfl⟩|⟨k,rfl,rfl⟩|⟨i,rfl,rfl⟩|⟨y,rfl,rfl⟩|⟨ds,rfl,rfl⟩|⟨ds,e,rfl⟩
 ·unfold Den at hd
  subst hd
  cases(show u=Value.none from ru)
  exact PySem.W.kia_tup PySem.W.kitx_none I.kIn True.intro ho (hk (by simp)) (fun z=>nomatch z) fin
 ·unfold Den at hd
  subst hd
  cases(show u=Value.bool k from ru)
  exact PySem.W.kia_tup PySem.W.kitx_bool I.kIn True.intro ho (hk (by simp)) (fun z=>nomatch z) fin
 ·unfold Den at hd
  subst hd
  obtain⟨tt,z⟩:=(show ∃t,u=Value.int i t from ru)
  cases z
  exact PySem.W.kia_tup PySem.W.kitx_int I.kIn True.intro ho (hk (by simp)) (fun z=>nomatch z) fin
 ·unfold Den at hd
  subst hd
  obtain⟨tt,z⟩:=(show ∃t,u=Value.str y t from ru)
  cases z
  exact PySem.W.kia_tup PySem.W.kitx_str I.kIn True.intro ho (hk (by simp)) (fun z=>nomatch z) fin
 ·obtain⟨a,xs,rfl,s1,_⟩:=jbY R hd
  cases ru
  obtain⟨its2,_,p2,_⟩:=I.tuple s1
  obtain⟨o,h1,h2,_⟩:=p2
  exact PySem.W.kia_tup PySem.W.kitx_tuple I.kIn ⟨o,h1,h2⟩ ho (hk (by simp)) (fun z=>nomatch z) fin
 ·obtain⟨a,xs,rfl,s1,_⟩:=jbh R hd e
  cases ru
  obtain⟨its2,_,p2,_⟩:=I.list s1
  obtain⟨o,n1,h1,h2,_⟩:=p2
  exact PySem.W.kia_tup PySem.W.kitx_list I.kIn ⟨o,h1,h2⟩ ho (hk (by simp)) (fun z=>nomatch z) fin
noncomputable def jwB (K:PySem.W.Frag)(f:D->List D->M->Out D)(r:V->List V->Hp->VK->Prop):Prop:=∀(w:Wd) (μ:M) (H:Hp) (o:D) (x:V) (ds:List D) (d:D) (μ':M) (vs:List V) (Q:VK),Rep K w μ H->Den K w μ.length o x->DenL K w μ.length ds vs->f o ds μ=.ok d μ'->jhg K w μ.length d μ' Q->r x vs H Q
theorem Rep.putL {w:Wd}{μ:M}{H:Hp}{k:Nat}{ds es:List D}{ys:List V}(R:Rep K w μ H)(hk:μ[k]?=some (some (.lst ds)))(h:DenL K w μ.length es ys):Rep K w (μ.set k (some (.lst es))) (upd H (w.γ k) (.lst ys)):=R.put hk (.lst ys) ⟨ys,jaC,h⟩
theorem jo4 {w:Wd}{μ:M}{H':Hp}{k:Nat}{c:Cl}{d:D}{v:V}{Q:VK}(R:Rep K w (μ.set k (some c)) H')(q:jhg K w μ.length d (μ.set k (some c)) Q)(h:Den K w μ.length d v):Q v H':=by
 have hl:(μ.set k (some c)).length=μ.length:=List.length_set
 exact q w H' v (by rw[hl];exact Ext.refl _ _) R (by rw[hl];exact h)
theorem jmx:jwB K jm9 rAppend:=by
 intro w μ H o x ds d μ' vs Q R h1 h2 e q
 unfold jm9 at e
 split at e
 ·rename_i k d0
  split at e
  ·rename_i xs hk
   split at e
   ·rename_i hz
    cases e
    obtain⟨v,rfl,h3⟩:=jjc h2
    unfold Den at h1
    obtain⟨ys,g1,g2⟩:=(R.liv k _ hk).2
    refine⟨w.γ k,ys,v,h1.2,rfl,g1,by rw[<- jae g2];exact hz,?_⟩
    exact jo4 (R.putL hk (g2.append (DenL.one h3))) q (by unfold Den;rfl)
   ·cases e
  ·cases e
 ·cases e
theorem jnm:jwB K jnI (jtv K):=by
 intro w μ H o x ds d μ' vs Q R h1 h2 e q
 unfold jnI at e
 split at e
 ·split at e
  ·rename_i xs hs
   split at e
   ·rename_i ys hy
    split at e
    ·rename_i hz
     cases e
     obtain⟨v,rfl,h3⟩:=jjc h2
     unfold Den at h1
     obtain⟨a,us,rfl,s1,l1⟩:=jbh R h3 hs
     have:=jfM l1 hy
     subst this
     exact⟨_,a,ys,h1,rfl,s1,hz,jah R q (by unfold Den;rfl)⟩
    ·cases e
   ·cases e
  ·cases e
 ·cases e
theorem jlR {f:D->List D->M->Out D}{ok:D->M->Bool}{T:String}{r:V->List V->Hp->VK->Prop}{ro:S3->M->Out D}{rl:S3->M->Out (List D)}(hs:jwB K f r)(ht:∀(w:Wd) (μ:M) (H:Hp) (o:D) (x:V),Rep K w μ H->Den K w μ.length o x->ok o μ=true->tyV K T x H){σ:_L2.St}{H:Hp}{Q:VK} :
  T3E K (fun ρ μ=>(ro ρ μ).bind fun x μ1=>if ok x μ1 then(rl ρ μ1).bind fun ds μ2=>f x ds μ2 else .bad) σ H Q->tBM K T r (T3E K ro) (T3A K rl) σ H Q:=by
 rintro⟨w,μ,ρ,d,μ',R,S,e,q⟩
 obtain⟨x,μ1,e1,e⟩:=Out.bind_ok e
 split at e
 ·rename_i hok
  obtain⟨ds,μ2,e2,e⟩:=Out.bind_ok e
  exact⟨w,μ,ρ,x,μ1,R,S,e1,fun w1 H1 v1 x1 R1 d1=>⟨ht w1 μ1 H1 x v1 R1 d1 hok,⟨w1,μ1,ρ,ds,μ2,R1,S.mono x1,e2,fun w2 H2 vs x2 R2 d2=>hs w2 μ2 H2 x v1 ds d μ' vs Q R2 (d1.mono x2) d2 e fun w3 H3 v x3 R3 d3=>q w3 H3 v ((x1.trans x2).trans x3) R3 d3⟩⟩⟩
 ·cases e
theorem jhQ {b:Mt}{w:Wd}{μ:M}{H:Hp}{o:D}{x:V}(hb:b=.append∨b=.extend)(R:Rep K w μ H)(h:Den K w μ.length o x)(e:jkX b o μ=true):tyV K "list" x H:=by
 cases o with
 |cel k=>
  have e':(match μ[k]? with|some (some (.lst _))=>true|_=>false)=true:=by
   rcases hb with rfl|rfl<;>exact e
  split at e'
  ·rename_i ds hk
   unfold Den at h
   obtain⟨ys,g1,g2⟩:=(R.liv k _ hk).2
   rw[h.2]
   exact .inl ⟨rfl,ys,SqL.of g1⟩
  ·cases e'
 |_=>rcases hb with rfl|rfl<;>cases e
theorem jnp {w:Wd}{μ:M}{H:Hp}{o:D}{x:V}(h:Den K w μ.length o x)(e:jkX .join o μ=true):tyV K "str" x H:=by
 cases o with
 |str z=>
  unfold Den at h
  subst h
  rfl
 |_=>cases e
end
end _L3
namespace _L3
open PySem PySem.Spec PyProof.Rows _L2
section
variable {K:PySem.W.Frag} {X:Cx}
noncomputable def jxD (K:PySem.W.Frag)(tl:TE):TI:=fun σ H R=>tl σ H fun x H1=>∃a,x=.ref a/\((∃xs,SqL K H1 a xs/\R (Itl K a) H1)∨∃xs,SqT K H1 a xs/\R (Itt K a) H1)
theorem jt {tg e:Expr}{te:TE}(h:PE X e te):PI X tg e (jxD X.K te):=by
 intro pins s σ H R I hw
 refine thn (h pins s σ H _ I hw) fun v s1 ⟨x,H1,I1,r1,q1⟩=>?_
 obtain⟨a,e,q⟩:=q1
 subst e
 cases r1
 rcases q with⟨xs,hq,q⟩|⟨xs,hq,q⟩
 ·obtain⟨its,rv,p,hz⟩:=I1.list hq
  refine wpAny_pyIter_list p.isList ?_
  refine⟨s1.heap.objs.size,[s1.heap.objs.size],_,_,H1,rfl,I1.kept (t':=s1.toks) fun b o e=>Heap.get?_push_of_some _ e,jl a _,⟨_,Heap.get?_push_size _ rfl,rfl,rfl⟩,fun b hb=>?_,q⟩
  have e:b=s1.heap.objs.size:=by simpa using hb
  subst e
  exact I1.fpOk (Nat.le_refl _) (I1.hok.fresh (Nat.le_refl _))
 ·obtain⟨its,rv,p,hz⟩:=I1.tuple hq
  refine wpAny_pyIter_tuple (show s1.heap.IsTuple a its.toArray from p) ?_
  refine⟨s1.heap.objs.size,[s1.heap.objs.size],_,_,H1,rfl,I1.kept (t':=s1.toks) fun b o e=>Heap.get?_push_of_some _ e,jkx a _,⟨_,Heap.get?_push_size _ rfl,rfl,rfl⟩,fun b hb=>?_,q⟩
  have e:b=s1.heap.objs.size:=by simpa using hb
  subst e
  exact I1.fpOk (Nat.le_refl _) (I1.hok.fresh (Nat.le_refl _))
theorem imI {tg it:Expr}{t t':TI}(h:PI X tg it t)(k:∀σ H R,t' σ H R->t σ H R):PI X tg it t':=fun pins s σ H R I hw=>h pins s σ H R I (k σ H R hw)
noncomputable def jrw (K:PySem.W.Frag)(w:Wd)(n:Nat)(ok:M->Bool)(xs:List D)(J:It):Prop:=∀(w2:Wd) (μ2:M) (H2:Hp),Ext w w2 n μ2.length->Rep K w2 μ2 H2->ok μ2=true ->
 J.stop xs.length H2/\∀i d,xs[i]?=some d->J.go i H2/\∀x H3,J.yld i H2 x H3->∃w3,Ext w2 w3 μ2.length μ2.length/\Rep K w3 μ2 H3/\Den K w3 μ2.length d x
noncomputable def T3I (K:PySem.W.Frag)(ik:IK)(r:S3->M->Out (List D)):TI:=fun σ H R=>∃(w:Wd) (μ:M) (ρ:S3) (ds:List D) (μ1:M) (xs:List D),Rep K w μ H/\jb1 K w μ.length ρ σ/\r ρ μ=.ok ds μ1/\itD ik ds μ1=some xs /\
 ∀w' H' J,Ext w w' μ.length μ1.length->Rep K w' μ1 H'->jrw K w' μ1.length (jdr ik ds xs) xs J->R J H'
theorem jex {ik:IK}{ds xs:List D}{μ:M}:jdr ik ds xs μ=true↔itD ik ds μ=some xs:=by
 unfold jdr
 exact @decide_eq_true_iff _ (Classical.propDecidable _)
theorem js2 {w:Wd}{n:Nat}{ok:M->Bool}{xs:List D}{a:Addr}(h:∀(w2:Wd) (μ2:M) (H2:Hp),Ext w w2 n μ2.length->Rep K w2 μ2 H2->ok μ2=true->∃ys,SqL K H2 a ys/\DenL K w2 μ2.length xs ys):jrw K w n ok xs (Itl K a):=by
 intro w2 μ2 H2 x2 R2 hk
 obtain⟨ys,s1,l1⟩:=h w2 μ2 H2 x2 R2 hk
 refine⟨⟨ys,s1,by rw[<- jae l1];exact Nat.le_refl _⟩,fun i d hd=>?_⟩
 obtain⟨v,e1,e2⟩:=jdK l1 hd
 refine⟨⟨ys,v,s1,e1⟩,fun x H3 y=>?_⟩
 obtain⟨rfl,y⟩:=y
 have:=y ys s1
 rw[e1]at this
 cases this
 exact⟨w2,Ext.refl _ _,R2,e2⟩
theorem juE {w:Wd}{n:Nat}{ok:M->Bool}{xs:List D}{a:Addr}(h:∀(w2:Wd) (μ2:M) (H2:Hp),Ext w w2 n μ2.length->Rep K w2 μ2 H2->ok μ2=true->∃ys,SqT K H2 a ys/\DenL K w2 μ2.length xs ys):jrw K w n ok xs (Itt K a):=by
 intro w2 μ2 H2 x2 R2 hk
 obtain⟨ys,s1,l1⟩:=h w2 μ2 H2 x2 R2 hk
 refine⟨⟨ys,s1,by rw[<- jae l1];exact Nat.le_refl _⟩,fun i d hd=>?_⟩
 obtain⟨v,e1,e2⟩:=jdK l1 hd
 refine⟨⟨ys,v,s1,e1⟩,fun x H3 y=>?_⟩
 obtain⟨rfl,y⟩:=y
 have:=y ys s1
 rw[e1]at this
 cases this
 exact⟨w2,Ext.refl _ _,R2,e2⟩
theorem jpI {r:S3->M->Out D}{ρ:S3}{μ μ1:M}{ds:List D}(e:((r ρ μ).bind fun d μ1=>(Out.ok [] μ1).bind fun ds μ2=>.ok (d::ds) μ2)=.ok ds μ1):∃d,ds=[d]/\r ρ μ=.ok d μ1:=by
 obtain⟨d,μ2,e1,e⟩:=Out.bind_ok e
 cases e
 exact⟨d,rfl,e1⟩
theorem jrl {tg it:Expr}{r:S3->M->Out D}(h:PE X it (T3E X.K r)):PI X tg it (T3I X.K .seq (fun ρ μ=>(r ρ μ).bind fun d μ1=>(Out.ok [] μ1).bind fun ds μ2=>.ok (d::ds) μ2)):=by
 refine imI (jt h) fun σ H R=>?_
 rintro⟨w,μ,ρ,ds,μ1,xs,Rp,S,e,ei,q⟩
 obtain⟨d,rfl,e1⟩:=jpI e
 refine⟨w,μ,ρ,d,μ1,Rp,S,e1,fun w1 H1 v x1 R1 d1=>?_⟩
 have ei':jfX μ1 d=some xs:=ei
 by_cases ht:∃ds,d=.tup ds
 ·obtain⟨ds,rfl⟩:=ht
  cases ei'
  obtain⟨a,ys,rfl,s1,l1⟩:=jbY R1 d1
  refine⟨a,rfl,.inr ⟨ys,s1,q w1 H1 _ x1 R1 (juE fun w2 μ2 H2 x2 R2 hk=>?_)⟩⟩
  obtain⟨a',ys',ea,s2,l2⟩:=jbY R2 (d1.mono x2)
  cases ea
  exact⟨ys',s2,l2⟩
 ·have hL:∀μ,jfX μ d=jeS μ d:=fun μ=>by
   cases d with
   |tup ds=>exact absurd ⟨ds,rfl⟩ ht
   |_=>rfl
  rw[hL]at ei'
  obtain⟨a,ys,rfl,s1,l1⟩:=jbh R1 d1 ei'
  refine⟨a,rfl,.inl ⟨ys,s1,q w1 H1 _ x1 R1 (js2 fun w2 μ2 H2 x2 R2 hk=>?_)⟩⟩
  have e2:jfX μ2 d=some xs:=jex.mp hk
  rw[hL]at e2
  obtain⟨a',ys',ea,s2,l2⟩:=jbh R2 (d1.mono x2) e2
  cases ea
  exact⟨ys',s2,l2⟩
theorem jlh:∀{ds:List D} {k i:Nat} {d:D},(jfd k ds)[i]?=some d->∃x,ds[i]?=some x/\d=.tup [.int ((k+i:Nat):Int),x]
 |[],_,_,_,e=>by simp[jfd]at e
 |x::ds,k,0,d,e=>by
  simp only[jfd,List.getElem?_cons_zero,Option.some.injEq]at e
  exact⟨x,rfl,e.symm⟩
 |x::ds,k,i+1,d,e=>by
  simp only[jfd,List.getElem?_cons_succ]at e
  obtain⟨y,h1,h2⟩:=jlh e
  exact⟨y,by simpa using h1,by rw[h2];congr 4;omega⟩
theorem jla:∀(ds:List D) (k:Nat),(jfd k ds).length=ds.length
 |[],_=>rfl
 |x::ds,k=>by simp[jfd,jla ds]
noncomputable def jxj:D->Bool
 |.tup _=>true
 |_=>false
theorem jeP {w:Wd}{μ:M}{H:Hp}{d:D}{v:V}{ds:List D}(R:Rep K w μ H)(h:Den K w μ.length d v)(e:jfX μ d=some ds):∃a xs,v=.ref a/\SqB (jxj d) K H a xs/\DenL K w μ.length ds xs:=by
 by_cases ht:∃ds,d=.tup ds
 ·obtain⟨es,rfl⟩:=ht
  cases e
  exact jbY R h
 ·have hL:jfX μ d=jeS μ d/\jxj d=false:=by
   cases d with
   |tup ds=>exact absurd ⟨ds,rfl⟩ ht
   |_=>exact⟨rfl,rfl⟩
  rw[hL.1]at e
  rw[hL.2]
  exact jbh R h e
theorem jqD {elts:List Expr} {x1:Nat} {tpos p pos:Pos} {a:Expr} {r:S3->M->Out (List D)} (hg:jbI X.env.scope "enumerate" =true) (hm:X.mg "enumerate" =none) (ha:PA X [a] (T3A X.K r)) (hs:jax a=true) :
  PI X (.Tuple elts x1 tpos) (.Call (.Name "enumerate" p) [a] [] pos) (T3I X.K .enm r):=by
 refine imI (jnq (jan hg).1 hm ha (jaK hs)) fun σ H R=>?_
 rintro⟨w,μ,ρ,ds,μ1,xs,Rp,S,e,ei,q⟩
 refine⟨w,μ,ρ,ds,μ1,Rp,S,e,fun w1 H1 vs x1 R1 d1=>?_⟩
 replace ei:jpT ds μ1=some xs:=ei
 unfold jpT at ei
 split at ei
 case h_2=>cases ei
 rename_i d
 cases e0:jfX μ1 d with
 |none=>rw[e0]at ei;cases ei
 |some ys0=>
  rw[e0]at ei
  cases ei
  obtain⟨v,rfl,h1⟩:=jjc d1
  obtain⟨a,ys,rfl,s1,l1⟩:=jeP R1 h1 e0
  refine⟨a,_,rfl,⟨ys,s1⟩,q w1 H1 _ x1 R1 ?_⟩
  intro w2 μ2 H2 x2 R2 hk
  have e2:(jfX μ2 d).map (jfd 0)=some (jfd 0 ys0):=jex.mp hk
  cases e3:jfX μ2 d with
  |none=>rw[e3]at e2;cases e2
  |some zs=>
   rw[e3]at e2
   have hz:jfd 0 zs=jfd 0 ys0:=by simpa using e2
   obtain⟨a',ys',ea,s2,l2⟩:=jeP R2 (h1.mono x2) e3
   cases ea
   rw[<- hz]
   refine⟨⟨ys',s2,by rw[<- jae l2,<- jla zs 0]⟩,fun i d' hd=>?_⟩
   obtain⟨x0,g1,rfl⟩:=jlh hd
   obtain⟨u,u1,u2⟩:=jdK l2 g1
   refine⟨⟨ys',u,s2,u1⟩,fun x H3 y=>?_⟩
   obtain⟨p,y0,rfl,hn,rfl,y⟩:=y
   have:=y ys' s2
   rw[u1]at this
   cases this
   obtain⟨R3,x3⟩:=R2.frz hn (.tup [.int (i:Int),u])
   refine⟨_,x3,R3,?_⟩
   unfold Den
   refine⟨p,_,rfl,SqT.of jaC,?_⟩
   unfold DenL
   exact⟨_,_,rfl,by unfold Den;simp,DenL.one (u2.mono x3)⟩
noncomputable def jhp:Expr->Bool
 |.Call _ as _ _=>!as.isEmpty
 |_=>true
theorem joN {e:Expr}{f:Str}{env:Env}(h:jhp e=true):attributeBase e f env (eval e env)=eval e env:=by
 cases e with
 |Call g as ks p=>
  cases as with
  |nil=>cases h
  |cons a as=>cases g<;>rfl
 |_=>rfl
theorem jmY:∀{xs ys:List D} {i:Nat} {d:D},(jjN xs ys)[i]?=some d->∃x y,xs[i]?=some x/\ys[i]?=some y/\d=.tup [x,y]
 |[],_,_,_,e=>by simp[jjN]at e
 |_::_,[],_,_,e=>by simp[jjN]at e
 |x::xs,y::ys,0,d,e=>by
  simp only[jjN,List.getElem?_cons_zero,Option.some.injEq]at e
  exact⟨x,y,rfl,rfl,e.symm⟩
 |x::xs,y::ys,i+1,d,e=>by
  simp only[jjN,List.getElem?_cons_succ]at e
  obtain⟨a,b,h1,h2,h3⟩:=jmY e
  exact⟨a,b,by simpa using h1,by simpa using h2,h3⟩
theorem jlT:∀(xs ys:List D),(jjN xs ys).length=min xs.length ys.length
 |[],_=>by simp[jjN]
 |_::_,[]=>by simp[jjN]
 |x::xs,y::ys=>by simp only[jjN,List.length_cons,jlT xs ys,Nat.add_min_add_right]
theorem jqS {elts:List Expr} {x1:Nat} {tpos p pos:Pos} {a b:Expr} {r:S3->M->Out (List D)} (hg:jbI X.env.scope "zip" =true) (hm:X.mg "zip" =none) (ha:PA X [a,b] (T3A X.K r)) (hs:jai [a,b]=true) :
  PI X (.Tuple elts x1 tpos) (.Call (.Name "zip" p) [a,b] [] pos) (T3I X.K .zip r):=by
 refine imI (jsu hg hm ⟨ha⟩ hs).h fun σ H R=>?_
 rintro⟨w,μ,ρ,ds,μ1,xs,Rp,S,e,ei,q⟩
 refine⟨w,μ,ρ,ds,μ1,Rp,S,e,fun w1 H1 vs x1 R1 d1=>?_⟩
 replace ei:jl2 ds μ1=some xs:=ei
 unfold jl2 at ei
 split at ei
 case h_2=>cases ei
 rename_i d d'
 split at ei
 case h_2=>cases ei
 rename_i us ws e1 e2
 cases ei
 obtain⟨v,u,rfl,h1,h2⟩:=jvH d1
 obtain⟨a,ys,rfl,s1,l1⟩:=jeP R1 h1 e1
 obtain⟨b,zs,rfl,s2,l2⟩:=jeP R1 h2 e2
 refine⟨a,b,_,_,rfl,⟨ys,s1⟩,⟨zs,s2⟩,q w1 H1 _ x1 R1 ?_⟩
 intro w2 μ2 H2 x2 R2 hk
 have e3:jl2 [d,d'] μ2=some (jjN us ws):=jex.mp hk
 simp only[jl2]at e3
 split at e3
 case h_2=>cases e3
 rename_i us' ws' e4 e5
 have hz:jjN us' ws'=jjN us ws:=by simpa using e3
 obtain⟨a',ys',ea,s3,l3⟩:=jeP R2 (h1.mono x2) e4
 obtain⟨b',zs',eb,s4,l4⟩:=jeP R2 (h2.mono x2) e5
 cases ea
 cases eb
 rw[<- hz]
 refine⟨⟨ys',zs',s3,s4,?_⟩,fun i d' hd=>?_⟩
 ·rw[jlT,jae l3,jae l4]
  omega
 ·obtain⟨x0,y0,g1,g2,rfl⟩:=jmY hd
  obtain⟨p1,p2,p3⟩:=jdK l3 g1
  obtain⟨q1,q2,q3⟩:=jdK l4 g2
  refine⟨⟨ys',zs',p1,q1,s3,s4,p2,q2⟩,fun x H3 y=>?_⟩
  obtain⟨p,u0,v0,rfl,hn,rfl,y1,y2⟩:=y
  have t1:=y1 ys' s3
  have t2:=y2 zs' s4
  rw[p2]at t1
  rw[q2]at t2
  cases t1
  cases t2
  obtain⟨R3,x3⟩:=R2.frz hn (.tup [p1,q1])
  refine⟨_,x3,R3,?_⟩
  unfold Den
  refine⟨p,_,rfl,SqT.of jaC,?_⟩
  unfold DenL
  exact⟨_,_,rfl,p3.mono x3,DenL.one (q3.mono x3)⟩
theorem jps {w:Wd}{n:Nat}{ok:M->Bool}{lo:Int}{m:Nat}:jrw K w n ok ((List.range m).map fun(k:Nat)=>.int (lo+(k:Int))) (Itr lo m):=by
 intro w2 μ2 H2 x2 R2 hk
 refine⟨(by show m<=_;simp),fun i d hd=>?_⟩
 have hi:i<m:=by
  have:=(List.getElem?_eq_some_iff.mp hd).1
  simpa using this
 have ed:d=.int (lo+(i:Int)):=by
  have:((List.range m).map fun(k:Nat)=>D.int (lo+(k:Int)))[i]?=some (.int (lo+(i:Int))):=by simp[hi]
  rw[this]at hd
  exact(Option.some.inj hd).symm
 subst ed
 refine⟨hi,fun x H3 y=>?_⟩
 obtain⟨rfl,rfl⟩:=y
 exact⟨w2,Ext.refl _ _,R2,by unfold Den;rfl⟩
theorem jqp {tg:Expr} {p pos:Pos} {a:Expr} {r:S3->M->Out (List D)} (hg:jbI X.env.scope "range" =true) (hm:X.mg "range" =none) (ha:PA X [a] (T3A X.K r)) (hs:jax a=true) :
  PI X tg (.Call (.Name "range" p) [a] [] pos) (T3I X.K .rng1 r):=by
 refine imI (jkL hg hm ha hs) fun σ H R=>?_
 rintro⟨w,μ,ρ,ds,μ1,xs,Rp,S,e,ei,q⟩
 refine⟨w,μ,ρ,ds,μ1,Rp,S,e,fun w1 H1 vs x1 R1 d1=>?_⟩
 replace ei:jjw ds μ1=some xs:=ei
 unfold jjw at ei
 split at ei
 case h_2=>cases ei
 rename_i j
 split at ei
 case isFalse=>cases ei
 rename_i hj
 obtain⟨v,rfl,h1⟩:=jjc d1
 unfold Den at h1
 subst h1
 have e0:xs=(List.range j.toNat).map fun(k:Nat)=>D.int (0+(k:Int)):=by
  have:=Option.some.inj ei
  rw[<- this]
  congr 1
  funext k
  rw[Int.zero_add]
 refine⟨j,rfl,hj.1,hj.2,q w1 H1 _ x1 R1 ?_⟩
 rw[e0]
 exact jps
theorem jrv {tg:Expr} {p pos:Pos} {a b:Expr} {r:S3->M->Out (List D)} (hg:jbI X.env.scope "range" =true) (hm:X.mg "range" =none) (ha:PA X [a,b] (T3A X.K r)) (hs:jai [a,b]=true) :
  PI X tg (.Call (.Name "range" p) [a,b] [] pos) (T3I X.K .rng2 r):=by
 refine imI (jkr hg hm ha hs) fun σ H R=>?_
 rintro⟨w,μ,ρ,ds,μ1,xs,Rp,S,e,ei,q⟩
 refine⟨w,μ,ρ,ds,μ1,Rp,S,e,fun w1 H1 vs x1 R1 d1=>?_⟩
 replace ei:jjX ds μ1=some xs:=ei
 unfold jjX at ei
 split at ei
 case h_2=>cases ei
 rename_i i j
 split at ei
 case isFalse=>cases ei
 rename_i hj
 obtain⟨v,u,rfl,h1,h2⟩:=jvH d1
 unfold Den at h1 h2
 subst h1 h2
 cases ei
 exact⟨i,j,rfl,hj,q w1 H1 _ x1 R1 jps⟩
theorem jrE {tg it:Expr}{r:S3->M->Out D}(h:PE X it (T3E X.K r)):PI X tg it (T3I X.K .str (fun ρ μ=>(r ρ μ).bind fun d μ1=>(Out.ok [] μ1).bind fun ds μ2=>.ok (d::ds) μ2)):=by
 refine imI (jum h) fun σ H R=>?_
 rintro⟨w,μ,ρ,ds,μ1,xs,Rp,S,e,ei,q⟩
 obtain⟨d,rfl,e1⟩:=jpI e
 refine⟨w,μ,ρ,d,μ1,Rp,S,e1,fun w1 H1 v x1 R1 d1=>?_⟩
 replace ei:jqE [d] μ1=some xs:=ei
 unfold jqE at ei
 split at ei
 case h_2=>cases ei
 rename_i z hz
 cases hz
 cases ei
 unfold Den at d1
 subst d1
 refine⟨z,rfl,q w1 H1 _ x1 R1 ?_⟩
 intro w2 μ2 H2 x2 R2 hk
 refine⟨?_,fun i d hd=>?_⟩
 ·show z.cps.size<=_
  simp
 ·have hd':(z.cps.toList.map fun c=>D.str ⟨#[c]⟩)[i]?=some d:=hd
  rw[List.getElem?_map]at hd'
  cases e2:z.cps.toList[i]? with
  |none=>rw[e2]at hd';cases hd'
  |some c=>
   rw[e2]at hd'
   cases hd'
   have hi:i<z.cps.size:=by
    have:=(List.getElem?_eq_some_iff.mp e2).1
    simpa using this
   refine⟨hi,fun x H3 y=>?_⟩
   obtain⟨rfl,c',hc',rfl⟩:=y
   have:z.cps[i]?=some c:=by
    rw[<- Array.getElem?_toList]
    exact e2
   rw[this]at hc'
   cases hc'
   exact⟨w2,Ext.refl _ _,R2,by unfold Den;rfl⟩
noncomputable def jqk (K:PySem.W.Frag)(tg:Tg)(g:TG):Prop:=∀(w:Wd) (μ:M) (H:Hp) (ρ ρ':S3) (σ:_L2.St) (d:D) (v:V) (Q:_L2.St->Hp->Prop),Rep K w μ H->jb1 K w μ.length ρ σ->Den K w μ.length d v->jiR tg d ρ=some ρ'->(∀σ',jb1 K w μ.length ρ' σ'->Q σ' H)->g v σ H Q
theorem jfZ {α:Type}{xs:List α}{i:Nat}(h:i<xs.length):∃d,xs[i]?=some d/\xs.drop i=d::xs.drop (i+1):=⟨xs[i],by simp[h],List.drop_eq_getElem_cons h⟩
theorem jpe {ok:M->Bool}{tg:Tg}{cond:S3->M->Out Bool}{elt:S3->M->Out D}{ρ:S3}{xs ys:List D}{μ μ':M}(e:jdg ok tg cond elt ρ xs μ=.ok ys μ'):ok μ=true:=by
 cases xs<;>(unfold jdg at e;split at e<;>first|assumption|cases e)
noncomputable def jwA (K:PySem.W.Frag)(w1:Wd)(n1:Nat)(ok:M->Bool)(tg:Tg)(cond:S3->M->Out Bool)(elt:S3->M->Out D)(ρ:S3)(xs ys:List D)(μ2:M)(i:Nat)(vs:List V)(H:Hp):Prop:=
 i<=xs.length/\vs.length<=i/\∃(w2:Wd) (μ:M) (acc rest:List D),Ext w1 w2 n1 μ.length/\Rep K w2 μ H/\DenL K w2 μ.length acc vs/\jdg ok tg cond elt ρ (xs.drop i) μ=.ok rest μ2/\acc++rest=ys
theorem jng {ok:M->Bool}{tg:Tg}{g:TG}{cond:S3->M->Out Bool}{elt:S3->M->Out D}{ρ:S3}{σ:_L2.St}{J:It}{k:Nat}{m:Bool}{xs ys:List D}{w1:Wd}{μ1 μ2 μ3:M}{H1:Hp}{d:D}{Q:VK}(hT:jqk K tg g)(R1:Rep K w1 μ1 H1)(S1:jb1 K w1 μ1.length ρ σ)
  (hJ:jrw K w1 μ1.length ok xs J) (hz:xs.length<=sizeLine) (e:jdg ok tg cond elt (List.replicate k none++ρ) xs μ1=.ok ys μ2) (em:mkL m ys μ2=.ok d μ3) (q:jhg K w1 μ1.length d μ3 Q):Cmp J k g (T3T K cond) (T3E K elt) σ Q H1:=by
 refine⟨fun i n ys' H=>n=xs.length - i/\jwA K w1 μ1.length ok tg cond elt (List.replicate k none++ρ) xs ys μ2 i ys' H,
  ⟨xs.length,by simp,Nat.zero_le _,Nat.le_refl _,w1,μ1,[],ys,Ext.refl _ _,R1,by unfold DenL;rfl,e,rfl⟩,?_⟩
 rintro i n ys' H ⟨rfl,hi,hy,w2,μ,acc,rest,x2,R2,l2,ec,ea⟩
 have hok:=jpe ec
 obtain⟨hstop,hgo⟩:=hJ w2 μ H x2 R2 hok
 by_cases hlt:i<xs.length
 ·obtain⟨d0,hd0,hdr⟩:=jfZ hlt
  obtain⟨g1,g2⟩:=hgo i d0 hd0
  rw[hdr]at ec
  unfold jdg at ec
  rw[if_pos hok]at ec
  split at ec
  ·rename_i ρ1 has
   obtain⟨b,μa,eb,ec⟩:=Out.bind_ok ec
   refine .inr ⟨g1,by omega,fun y H'=>jwA K w1 μ1.length ok tg cond elt (List.replicate k none++ρ) xs ys μ2 (i+1) (ys'++[y]) H',jwA K w1 μ1.length ok tg cond elt (List.replicate k none++ρ) xs ys μ2 (i+1) ys',
    fun y H' r=>⟨xs.length - (i+1),by omega,rfl,r⟩,fun H' r=>⟨xs.length - (i+1),by omega,rfl,r⟩,fun x H3 hyl=>?_⟩
   obtain⟨w3,x3,R3,d3⟩:=g2 x H3 hyl
   refine hT w3 μ H3 _ ρ1 _ d0 x _ R3 ((S1.mono (x2.trans x3)).blank k) d3 has fun σ2 S2=>?_
   refine⟨w3,μ,ρ1,b,μa,R3,S2,eb,fun w4 H4 x4 R4=>?_⟩
   have x14:=(x2.trans x3).trans x4
   dsimp only
   cases b with
   |false=>
    rw[if_neg Bool.false_ne_true]
    rw[if_neg Bool.false_ne_true]at ec
    exact⟨hlt,by omega,w4,μa,acc,rest,x14,R4,l2.mono (x3.trans x4),ec,ea⟩
   |true=>
    rw[if_pos rfl]
    rw[if_pos rfl]at ec
    obtain⟨y,μb,ey,ec⟩:=Out.bind_ok ec
    obtain⟨zs,μc,ez,ec⟩:=Out.bind_ok ec
    cases ec
    refine⟨w4,μa,ρ1,y,μb,R4,S2.mono x4,ey,fun w5 H5 v5 x5 R5 d5=>?_⟩
    exact⟨hlt,by simp;omega,w5,μb,acc++[y],zs,x14.trans x5,R5,(l2.mono ((x3.trans x4).trans x5)).append (DenL.one d5),ez,by rw[List.append_assoc];exact ea⟩
  ·cases ec
 ·have ei:i=xs.length:=by omega
  subst ei
  rw[List.drop_length]at ec
  unfold jdg at ec
  rw[if_pos hok]at ec
  cases ec
  rw[List.append_nil]at ea
  subst ea
  exact .inl ⟨hstop,jfI R2 l2 em fun w3 H3 v x3 R3 d3=>q w3 H3 v (x2.trans x3) R3 d3⟩
theorem jp4 {ok:M->Bool}{tg:Tg}{body:S3->M->Out Fl}{fg:List Nat}{xs:List D}{ρ:S3}{μ μ':M}{fl:Fl}(e:jdh ok tg body fg xs ρ μ=.ok fl μ'):ok μ=true:=by
 cases xs<;>(unfold jdh at e;split at e<;>first|assumption|cases e)
noncomputable def jw3 (K:PySem.W.Frag)(w1:Wd)(n1:Nat)(ok:M->Bool)(tg:Tg)(body:S3->M->Out Fl)(fg:List Nat)(xs:List D)(fl:Fl)(μ2:M)(i:Nat)(σ:_L2.St)(H:Hp):Prop:=
 i<=xs.length/\∃(w2:Wd) (μ:M) (ρ':S3),Ext w1 w2 n1 μ.length/\Rep K w2 μ H/\jb1 K w2 μ.length ρ' σ/\jdh ok tg body fg (xs.drop i) ρ' μ=.ok fl μ2
theorem jsd {ok:M->Bool}{tg:Tg}{g:TG}{body:S3->M->Out Fl}{fg:List Nat}{ρ:S3}{σ:_L2.St}{J:It}{xs:List D}{w1:Wd}{μ1 μ2:M}{H1:Hp}{fl:Fl}{E:Ends}(hT:jqk K tg g)(R1:Rep K w1 μ1 H1)(S1:jb1 K w1 μ1.length ρ σ)
  (hJ:jrw K w1 μ1.length ok xs J) (e:jdh ok tg body fg xs ρ μ1=.ok fl μ2) (q:∀w' H',Ext w1 w' μ1.length μ2.length->Rep K w' μ2 H'->jwe K w' μ2.length H' E fl):Lop J g (T3S K body) E σ H1:=by
 refine⟨fun i n σ' H=>n=xs.length - i/\jw3 K w1 μ1.length ok tg body fg xs fl μ2 i σ' H,
  ⟨xs.length,by simp,Nat.zero_le _,w1,μ1,ρ,Ext.refl _ _,R1,S1,e⟩,?_⟩
 rintro i n σ' H ⟨rfl,hi,w2,μ,ρ',x2,R2,S2,ef⟩
 have hok:=jp4 ef
 obtain⟨hstop,hgo⟩:=hJ w2 μ H x2 R2 hok
 by_cases hlt:i<xs.length
 ·obtain⟨d0,hd0,hdr⟩:=jfZ hlt
  obtain⟨g1,g2⟩:=hgo i d0 hd0
  rw[hdr]at ef
  unfold jdh at ef
  rw[if_pos hok]at ef
  split at ef
  ·rename_i ρ1 has
   refine .inr ⟨g1,jw3 K w1 μ1.length ok tg body fg xs fl μ2 (i+1),
    fun σ'' H' r=>⟨xs.length - (i+1),by omega,rfl,r⟩,fun x H3 hyl=>?_⟩
   obtain⟨w3,x3,R3,d3⟩:=g2 x H3 hyl
   refine hT w3 μ H3 _ ρ1 _ d0 x _ R3 (S2.mono x3) d3 has fun σ2 S3'=>?_
   split at ef
   ·rename_i ρ2 μa eb
    refine⟨w3,μ,ρ1,.nx ρ2,μa,R3,S3',eb,fun w4 H4 x4 R4 σ4 S4=>?_⟩
    exact⟨hlt,w4,μa,_,(x2.trans x3).trans x4,R4,S4.forget fg,ef⟩
   ·rename_i ρ2 μa eb
    refine⟨w3,μ,ρ1,.ct ρ2,μa,R3,S3',eb,fun w4 H4 x4 R4 σ4 S4=>?_⟩
    exact⟨hlt,w4,μa,_,(x2.trans x3).trans x4,R4,S4.forget fg,ef⟩
   ·rename_i ρ2 μa eb
    cases ef
    refine⟨w3,μ,ρ1,.bk ρ2,_,R3,S3',eb,fun w4 H4 x4 R4 σ4 S4=>?_⟩
    exact q w4 H4 ((x2.trans x3).trans x4) R4 σ4 (S4.forget fg)
   ·rename_i d μa eb
    cases ef
    refine⟨w3,μ,ρ1,.rt d,_,R3,S3',eb,fun w4 H4 x4 R4 v4 d4=>?_⟩
    exact q w4 H4 ((x2.trans x3).trans x4) R4 v4 d4
   ·cases ef
   ·cases ef
  ·cases ef
 ·have ei:i=xs.length:=by omega
  subst ei
  rw[List.drop_length]at ef
  unfold jdh at ef
  rw[if_pos hok]at ef
  cases ef
  exact .inl ⟨hstop,q w2 H x2 R2 σ' (S2.forget fg)⟩
end
end _L3
namespace _L3
open PySem PySem.Spec PyProof.Rows _L2
mutual
noncomputable def Bel (n:Nat):D->Prop
 |.tup ds=>BelL n ds
 |.lst ds=>BelL n ds
 |.scr ds=>BelL n ds
 |.dK _ vs=>BelL n vs
 |.dT _ vs=>BelL n vs
 |.dF _ vs=>BelL n vs
 |.obj _ _ ds=>BelL n ds
 |.cel k=>k<n
 |.non=>True
 |.bl _=>True
 |.int _=>True
 |.str _=>True
 |.ty _=>True
noncomputable def BelL (n:Nat):List D->Prop
 |[]=>True
 |d::ds=>Bel n d/\BelL n ds
end
section
variable {K:PySem.W.Frag}
mutual
theorem jrp {w:Wd}{n:Nat}:∀{d:D} {v:V},Den K w n d v->Bel n d
 |.non,_,_=>by unfold Bel;trivial
 |.bl _,_,_=>by unfold Bel;trivial
 |.int _,_,_=>by unfold Bel;trivial
 |.str _,_,_=>by unfold Bel;trivial
 |.ty _,_,_=>by unfold Bel;trivial
 |.tup ds,_,h=>by unfold Den at h;unfold Bel;obtain⟨_,_,_,_,h⟩:=h;exact denL_bel h
 |.lst ds,_,h=>by unfold Den at h;unfold Bel;obtain⟨_,_,_,_,h⟩:=h;exact denL_bel h
 |.scr ds,_,h=>by unfold Den at h;unfold Bel;obtain⟨_,_,_,_,h⟩:=h;exact denL_bel h
 |.dK _ ds,_,h=>by unfold Den at h;unfold Bel;obtain⟨_,_,_,_,_,h⟩:=h;exact denL_bel h
 |.dT _ ds,_,h=>by unfold Den at h;unfold Bel;obtain⟨_,_,_,_,_,h⟩:=h;exact denL_bel h
 |.dF _ ds,_,h=>by unfold Den at h;unfold Bel;obtain⟨_,_,_,_,_,_,_,_,_,h⟩:=h;exact denL_bel h
 |.obj _ _ ds,_,h=>by unfold Den at h;unfold Bel;obtain⟨_,_,_,_,_,_,h⟩:=h;exact denL_bel h
 |.cel k,_,h=>by unfold Den at h;unfold Bel;exact h.1
theorem denL_bel {w:Wd}{n:Nat}:∀{ds:List D} {vs:List V},DenL K w n ds vs->BelL n ds
 |[],_,_=>by unfold BelL;trivial
 |d::ds,_,h=>by unfold DenL at h;unfold BelL;obtain⟨_,_,_,h1,h2⟩:=h;exact⟨jrp h1,denL_bel h2⟩
end
section
variable {w' w'':Wd} {n' n0 n'':Nat} (hz:jeB w'.Z w''.Z) (hg:∀i,i<n0->w''.γ i=w'.γ i) (hn:n0<=n'')
include hz hg hn
mutual
theorem jp3:∀{d:D} {v:V},Den K w' n' d v->Bel n0 d->Den K w'' n'' d v
 |.non,_,h,_=>by unfold Den at h ⊢;exact h
 |.bl _,_,h,_=>by unfold Den at h ⊢;exact h
 |.int _,_,h,_=>by unfold Den at h ⊢;exact h
 |.str _,_,h,_=>by unfold Den at h ⊢;exact h
 |.ty _,_,h,_=>by unfold Den at h ⊢;exact h
 |.tup ds,_,h,b=>by unfold Den at h ⊢;unfold Bel at b;obtain⟨a,xs,h1,h2,h3⟩:=h;exact⟨a,xs,h1,hz.tup h2,denL_shr h3 b⟩
 |.lst ds,_,h,b=>by unfold Den at h ⊢;unfold Bel at b;obtain⟨a,xs,h1,h2,h3⟩:=h;exact⟨a,xs,h1,hz _ _ h2,denL_shr h3 b⟩
 |.scr ds,_,h,b=>by unfold Den at h ⊢;unfold Bel at b;obtain⟨a,xs,h1,h2,h3⟩:=h;exact⟨a,xs,h1,hz.seq h2,denL_shr h3 b⟩
 |.dK _ ds,_,h,b=>by unfold Den at h ⊢;unfold Bel at b;obtain⟨a,xs,h1,h2,h3,h4⟩:=h;exact⟨a,xs,h1,h2,hz _ _ h3,denL_shr h4 b⟩
 |.dT _ ds,_,h,b=>by unfold Den at h ⊢;unfold Bel at b;obtain⟨a,xs,h1,h2,h3,h4⟩:=h;exact⟨a,xs,h1,h2,hz _ _ h3,denL_shr h4 b⟩
 |.dF _ ds,_,h,b=>by unfold Den at h ⊢;unfold Bel at b;obtain⟨a,o,es,ep,xs,h1,h2,h3,h4,h5⟩:=h;exact⟨a,o,es,ep,xs,h1,h2,h3,hz _ _ h4,denL_shr h5 b⟩
 |.obj _ _ ds,_,h,b=>by unfold Den at h ⊢;unfold Bel at b;obtain⟨a,dx,xs,h1,h2,h3,h4⟩:=h;exact⟨a,dx,xs,h1,h2,hz _ _ h3,denL_shr h4 b⟩
 |.cel k,_,h,b=>by unfold Den at h ⊢;unfold Bel at b;exact⟨Nat.lt_of_lt_of_le b hn,by rw[hg k b];exact h.2⟩
theorem denL_shr:∀{ds:List D} {vs:List V},DenL K w' n' ds vs->BelL n0 ds->DenL K w'' n'' ds vs
 |[],_,h,_=>by unfold DenL at h ⊢;exact h
 |d::ds,_,h,b=>by unfold DenL at h ⊢;unfold BelL at b;obtain⟨v,ws,h1,h2,h3⟩:=h;exact⟨v,ws,h1,jp3 h2 b.1,denL_shr h3 b.2⟩
end
end
theorem jaW {α β:Type}{o:Option α}{f:α->β}{b:β}(h:o.map f=some b):∃a,o=some a/\b=f a:=by
 cases o with
 |none=>cases h
 |some a=>exact⟨a,rfl,by cases h;rfl⟩
section
variable {w' w'':Wd} {n' n'':Nat} {h:Nat->Option D} (hz:jeB w'.Z w''.Z) (hk:∀k d',h k=some d'->k<n'->Den K w'' n'' d' (.ref (w'.γ k)))
include hz hk
mutual
theorem jj3:∀{d d':D} {v:V},jbP h d=some d'->Den K w' n' d v->Den K w'' n'' d' v
 |.non,_,_,e,q=>by unfold jbP at e;cases e;unfold Den at q ⊢;exact q
 |.bl _,_,_,e,q=>by unfold jbP at e;cases e;unfold Den at q ⊢;exact q
 |.int _,_,_,e,q=>by unfold jbP at e;cases e;unfold Den at q ⊢;exact q
 |.str _,_,_,e,q=>by unfold jbP at e;cases e;unfold Den at q ⊢;exact q
 |.ty _,_,_,e,q=>by unfold jbP at e;cases e;unfold Den at q ⊢;exact q
 |.tup ds,_,_,e,q=>by
  unfold jbP at e
  obtain⟨es,e1,rfl⟩:=jaW e
  unfold Den at q ⊢
  obtain⟨a,xs,h1,h2,h3⟩:=q
  exact⟨a,xs,h1,hz.tup h2,frzGs_den e1 h3⟩
 |.lst ds,_,_,e,q=>by
  unfold jbP at e
  obtain⟨es,e1,rfl⟩:=jaW e
  unfold Den at q ⊢
  obtain⟨a,xs,h1,h2,h3⟩:=q
  exact⟨a,xs,h1,hz _ _ h2,frzGs_den e1 h3⟩
 |.scr ds,_,_,e,q=>by
  unfold jbP at e
  obtain⟨es,e1,rfl⟩:=jaW e
  unfold Den at q ⊢
  obtain⟨a,xs,h1,h2,h3⟩:=q
  exact⟨a,xs,h1,hz.seq h2,frzGs_den e1 h3⟩
 |.dK ks ds,_,_,e,q=>by
  unfold jbP at e
  obtain⟨es,e1,rfl⟩:=jaW e
  unfold Den at q ⊢
  obtain⟨a,xs,h1,h2,h3,h4⟩:=q
  have h5:=frzGs_den e1 h4
  exact⟨a,xs,h1,by rw[h2,jae h4,jae h5],hz _ _ h3,h5⟩
 |.dT ks ds,_,_,e,q=>by
  unfold jbP at e
  obtain⟨es,e1,rfl⟩:=jaW e
  unfold Den at q ⊢
  obtain⟨a,xs,h1,h2,h3,h4⟩:=q
  have h5:=frzGs_den e1 h4
  exact⟨a,xs,h1,by rw[h2,jae h4,jae h5],hz _ _ h3,h5⟩
 |.dF ks ds,_,_,e,q=>by
  unfold jbP at e
  obtain⟨es,e1,rfl⟩:=jaW e
  unfold Den at q ⊢
  obtain⟨a,o,es,ep,xs,h1,h2,h3,h4,h5⟩:=q
  have h6:=frzGs_den e1 h5
  exact⟨a,o,es,ep,xs,h1,by rw[h2,jae h5,jae h6],h3,hz _ _ h4,h6⟩
 |.obj C fs ds,_,_,e,q=>by
  unfold jbP at e
  obtain⟨es,e1,rfl⟩:=jaW e
  unfold Den at q ⊢
  obtain⟨a,dx,xs,h1,h2,h3,h4⟩:=q
  have h5:=frzGs_den e1 h4
  exact⟨a,dx,xs,h1,by rw[h2,jae h4,jae h5],hz _ _ h3,h5⟩
 |.cel k,_,_,e,q=>by
  unfold jbP at e
  unfold Den at q
  rw[q.2]
  exact hk k _ e q.1
theorem frzGs_den:∀{ds es:List D} {vs:List V},frzGs h ds=some es->DenL K w' n' ds vs->DenL K w'' n'' es vs
 |[],_,_,e,q=>by unfold frzGs at e;cases e;unfold DenL at q ⊢;exact q
 |d::ds,_,_,e,q=>by
  unfold frzGs at e
  split at e
  ·rename_i e1 es1 q1 q2
   cases e
   unfold DenL at q ⊢
   obtain⟨v,ws,h1,h2,h3⟩:=q
   exact⟨v,ws,h1,jj3 q1 h2,frzGs_den q2 h3⟩
  ·cases e
end
end
theorem jk6 {w:Wd}{n:Nat}{H:Hp}{a:Addr}{c:Cl}(h:Holds K w n H a c):(match c with|.lst ds=>BelL n ds|.dK _ vs=>BelL n vs|.dT _ vs=>BelL n vs|.obj _ _ ds=>BelL n ds):=by
 cases c with
 |lst ds=>obtain⟨_,_,h⟩:=h;exact denL_bel h
 |dK ks vs=>obtain⟨_,_,_,h⟩:=h;exact denL_bel h
 |dT ks vs=>obtain⟨_,_,_,h⟩:=h;exact denL_bel h
 |obj C fs ds=>obtain⟨_,_,_,_,h⟩:=h;exact denL_bel h
theorem jir {μ:M}{n0:Nat}{ks:List Nat}:∀{r:List Nat} {cs:List (List D)},jkQ μ n0 ks r=some cs->r.length=cs.length/\∀(j k:Nat),r[j]?=some k->∃ds c,μ[k]?=some (some (.lst ds))/\frzGs (jhI μ n0 ks 4) ds=some c/\cs[j]?=some c
 |[],_,e=>by unfold jkQ at e;cases e;exact⟨rfl,fun j k h=>by simp at h⟩
 |k::r,_,e=>by
  unfold jkQ at e
  split at e
  ·rename_i ds hk
   split at e
   ·rename_i c cs e1 e2
    cases e
    obtain⟨i1,i2⟩:=jir e2
    refine⟨by rw[List.length_cons,List.length_cons,i1],fun j k' h=>?_⟩
    cases j with
    |zero=>
     simp only[List.getElem?_cons_zero,Option.some.injEq]at h
     subst h
     exact⟨ds,c,hk,e1,rfl⟩
    |succ j=>
     obtain⟨ds',c',g1,g2,g3⟩:=i2 j k' (by simpa using h)
     exact⟨ds',c',g1,g2,by simpa using g3⟩
   ·cases e
  ·cases e
theorem jjy:∀{l:List Nat} {i j k:Nat},l.Nodup->l[i]?=some k->l[j]?=some k->i=j
 |[],_,_,_,_,h,_=>by simp at h
 |x::l,0,0,_,_,_,_=>rfl
 |x::l,0,j+1,k,nd,h1,h2=>by
  simp only[List.getElem?_cons_zero,Option.some.injEq]at h1
  subst h1
  exact absurd (List.mem_of_getElem? (by simpa using h2)) (List.nodup_cons.mp nd).1
 |x::l,i+1,0,k,nd,h1,h2=>by
  simp only[List.getElem?_cons_zero,Option.some.injEq]at h2
  subst h2
  exact absurd (List.mem_of_getElem? (by simpa using h1)) (List.nodup_cons.mp nd).1
 |x::l,i+1,j+1,k,nd,h1,h2=>congrArg (· + 1) (jjy (i:=i) (j:=j) (k:=k) (List.nodup_cons.mp nd).2 (by simpa using h1) (by simpa using h2))
open Classical in
theorem jmo {w w':Wd}{μ μ':M}{H H':Hp}{keep:List Nat}{cs:List (List D)}(R:Rep K w μ H)(x:Ext w w' μ.length μ'.length)(R':Rep K w' μ' H')(ht:μ'.take μ.length=μ)(nd:keep.Nodup)(ge:∀k∈keep,μ.length<=k)
  (hc:jkQ μ' μ.length keep keep=some cs):∃w'':Wd,Ext w w'' μ.length (μ++cs.map fun xs=>some (Cl.lst xs)).length/\Rep K w'' (μ++cs.map fun xs=>some (Cl.lst xs)) H' /\
   (∀d d' v,Den K w' μ'.length d v->jbP (jhI μ' μ.length keep 4) d=some d'->Den K w'' (μ++cs.map fun xs=>some (Cl.lst xs)).length d' v) /\
   (∀k d',k<μ'.length->jnP μ.length keep k=some d'->Den K w'' (μ++cs.map fun xs=>some (Cl.lst xs)).length d' (.ref (w'.γ k)))/\jeB w'.Z w''.Z:=by
 obtain⟨kl,kg⟩:=jir hc
 have hlen:(μ++cs.map fun xs=>some (Cl.lst xs)).length=μ.length+cs.length:=by simp
 have hpre:∀i,i<μ.length->μ'[i]?=μ[i]?:=fun i hi=>by
  have:=congrArg (fun l=>l[i]?) ht
  simp only[List.getElem?_take,hi,if_true]at this
  exact this
 have hg:∀i,(if i<μ.length then w'.γ i else w'.γ (keep.getD (i - μ.length) 0))=(fun i=>if i<μ.length then w'.γ i else w'.γ (keep.getD (i - μ.length) 0)) i:=fun _=>rfl
 generalize hw:(⟨fun a=>match w'.Z a with
   |some o=>some o
   |none=>if(∃k c,μ.length<=k/\k∉keep/\μ'[k]?=some (some c)/\w'.γ k=a)then H' a else none,fun i=>if i<μ.length then w'.γ i else w'.γ (keep.getD (i - μ.length) 0)⟩:Wd)=w''
 have gLo:∀i,i<μ.length->w''.γ i=w'.γ i:=fun i hi=>by subst hw;exact if_pos hi
 have gHi:∀j k,keep[j]?=some k->w''.γ (μ.length+j)=w'.γ k:=fun j k hj=>by
  subst hw
  show(if μ.length+j<μ.length then _ else w'.γ (keep.getD (μ.length+j - μ.length) 0))=_
  rw[if_neg (by omega),Nat.add_sub_cancel_left]
  simp[hj]
 have zs:jeB w'.Z w''.Z:=fun a o h=>by
  subst hw
  show(match w'.Z a with|some o=>some o|none=>_)=some o
  rw[h]
 have zH:∀a o,w''.Z a=some o->H' a=some o:=fun a o h=>by
  subst hw
  replace h:(match w'.Z a with|some o=>some o|none=>if(∃k c,μ.length<=k/\k∉keep/\μ'[k]?=some (some c)/\w'.γ k=a)then H' a else none)=some o:=h
  cases e:w'.Z a with
  |some o'=>
   rw[e]at h
   cases h
   exact R'.sub _ _ e
  |none=>
   rw[e]at h
   dsimp only at h
   split at h
   ·exact h
   ·cases h
 have zF:∀k c,μ.length<=k->k∉keep->μ'[k]?=some (some c)->w''.Z (w'.γ k)=H' (w'.γ k):=fun k c h1 h2 h3=>by
  subst hw
  show(match w'.Z (w'.γ k)with|some o=>some o|none=>if(∃k' c,μ.length<=k'/\k'∉keep/\μ'[k']?=some (some c)/\w'.γ k'=w'.γ k)then H' (w'.γ k)else none)=_
  rw[(R'.liv k c h3).1]
  exact if_pos ⟨k,c,h1,h2,h3,rfl⟩
 have zN:∀j c,(j<μ.length∨j∈keep)->μ'[j]?=some (some c)->w''.Z (w'.γ j)=none:=fun j c h1 h3=>by
  subst hw
  show(match w'.Z (w'.γ j)with|some o=>some o|none=>if(∃k' c,μ.length<=k'/\k'∉keep/\μ'[k']?=some (some c)/\w'.γ k'=w'.γ j)then H' (w'.γ j)else none)=_
  rw[(R'.liv j c h3).1]
  refine if_neg ?_
  rintro⟨k,c',g1,g2,g3,g4⟩
  have:=R'.inj k j c' c g3 h3 g4
  subst this
  rcases h1 with h1|h1
  ·omega
  ·exact g2 h1
 have nle:μ.length<=(μ++cs.map fun xs=>some (Cl.lst xs)).length:=by rw[hlen];exact Nat.le_add_right _ _
 have fK:∀(f k:Nat) (d':D),jhI μ' μ.length keep f k=some d'->k<μ'.length->Den K w'' (μ++cs.map fun xs=>some (Cl.lst xs)).length d' (.ref (w'.γ k)):=by
  intro f
  induction f with
  |zero=>
   intro k d' e hk
   unfold jhI at e
   split at e
   ·rename_i h0
    cases e
    unfold Den
    exact⟨Nat.lt_of_lt_of_le h0 nle,by rw[gLo k h0]⟩
   ·split at e
    ·cases e
    ·cases e
  |succ f ih=>
   intro k d' e hk
   unfold jhI at e
   split at e
   ·rename_i h0
    cases e
    unfold Den
    exact⟨Nat.lt_of_lt_of_le h0 nle,by rw[gLo k h0]⟩
   ·rename_i h0
    split at e
    ·cases e
    ·rename_i h1
     dsimp only at e
     split at e
     ·rename_i ds hk'
      obtain⟨es,e1,rfl⟩:=jaW e
      obtain⟨xs,g1,g2⟩:=(R'.liv k _ hk').2
      have g3:=frzGs_den zs ih e1 g2
      unfold Den
      exact⟨_,xs,rfl,(zF k _ (by omega) h1 hk').trans g1,g3⟩
     ·rename_i ks ds hk'
      obtain⟨es,e1,rfl⟩:=jaW e
      obtain⟨xs,g0,g1,g2⟩:=(R'.liv k _ hk').2
      have g3:=frzGs_den zs ih e1 g2
      unfold Den
      exact⟨_,xs,rfl,by rw[g0,jae g2,jae g3],(zF k _ (by omega) h1 hk').trans g1,g3⟩
     ·rename_i ks ds hk'
      obtain⟨es,e1,rfl⟩:=jaW e
      obtain⟨xs,g0,g1,g2⟩:=(R'.liv k _ hk').2
      have g3:=frzGs_den zs ih e1 g2
      unfold Den
      exact⟨_,xs,rfl,by rw[g0,jae g2,jae g3],(zF k _ (by omega) h1 hk').trans g1,g3⟩
     ·rename_i C fs ds hk'
      obtain⟨es,e1,rfl⟩:=jaW e
      obtain⟨dx,xs,g0,g1,g2⟩:=(R'.liv k _ hk').2
      have g3:=frzGs_den zs ih e1 g2
      unfold Den
      exact⟨_,dx,xs,rfl,by rw[g0,jae g2,jae g3],(zF k _ (by omega) h1 hk').trans g1,g3⟩
     ·cases e
 have hcell:∀(i:Nat) (c:Cl),(μ++cs.map fun xs=>some (Cl.lst xs))[i]?=some (some c)->(i<μ.length/\μ'[i]?=some (some c))∨∃j k ds es,i=μ.length+j/\keep[j]?=some k/\μ'[k]?=some (some (.lst ds))/\frzGs (jhI μ' μ.length keep 4) ds=some es/\c=.lst es:=fun i c h=>by
  by_cases hi:i<μ.length
  ·rw[List.getElem?_append_left hi]at h
   exact .inl ⟨hi,by rw[hpre i hi];exact h⟩
  ·rw[List.getElem?_append_right (by omega),List.getElem?_map]at h
   cases e:cs[i - μ.length]? with
   |none=>rw[e]at h;cases h
   |some es=>
    rw[e]at h
    have hj:i - μ.length<keep.length:=by
     rw[kl]
     exact(List.getElem?_eq_some_iff.mp e).1
    obtain⟨ds,es',g1,g2,g3⟩:=kg (i - μ.length) keep[i - μ.length] (by simp[hj])
    rw[e]at g3
    cases g3
    exact .inr ⟨i - μ.length,_,ds,es,by omega,by simp[hj],g1,g2,by simpa using h.symm⟩
 refine⟨w'',⟨x.z.trans zs,fun i hi=>(gLo i hi).trans (x.g i hi),nle⟩,⟨fun a o h=>zH a o h,fun i c h=>?_,fun i j ci cj hi hj e=>?_⟩,fun d d' v hd e=>jj3 zs (fK 4) e hd,fun k d' hk e=>?_,zs⟩
 ·rcases hcell i c h with⟨hi,h'⟩|⟨j,k,ds,es,rfl,g1,g2,g3,rfl⟩
  ·rw[gLo i hi]
   refine⟨zN i c (.inl hi) h',?_⟩
   have b:=jk6 (R.liv i c (by rw[<- hpre i hi];exact h')).2
   have hh:=(R'.liv i c h').2
   cases c with
   |lst ds=>obtain⟨xs,g1,g2⟩:=hh;exact⟨xs,g1,denL_shr zs gLo nle g2 b⟩
   |dK ks vs=>obtain⟨xs,g0,g1,g2⟩:=hh;exact⟨xs,g0,g1,denL_shr zs gLo nle g2 b⟩
   |dT ks vs=>obtain⟨xs,g0,g1,g2⟩:=hh;exact⟨xs,g0,g1,denL_shr zs gLo nle g2 b⟩
   |obj C fs ds=>obtain⟨dx,xs,g0,g1,g2⟩:=hh;exact⟨dx,xs,g0,g1,denL_shr zs gLo nle g2 b⟩
  ·rw[gHi j k g1]
   have hk:k∈keep:=List.mem_of_getElem? g1
   obtain⟨xs,q1,q2⟩:=(R'.liv k _ g2).2
   exact⟨zN k _ (.inr hk) g2,xs,q1,frzGs_den zs (fK 4) g3 q2⟩
 ·rcases hcell i ci hi with⟨hi',h1⟩|⟨j1,k1,ds1,es1,rfl,a1,a2,_,_⟩<;>rcases hcell j cj hj with⟨hj',h2⟩|⟨j2,k2,ds2,es2,rfl,b1,b2,_,_⟩
  ·rw[gLo i hi',gLo j hj']at e
   exact R'.inj i j _ _ h1 h2 e
  ·rw[gLo i hi',gHi j2 k2 b1]at e
   have:=R'.inj i k2 _ _ h1 b2 e
   have:=ge k2 (List.mem_of_getElem? b1)
   omega
  ·rw[gHi j1 k1 a1,gLo j hj']at e
   have:=R'.inj k1 j _ _ a2 h2 e
   have:=ge k1 (List.mem_of_getElem? a1)
   omega
  ·rw[gHi j1 k1 a1,gHi j2 k2 b1]at e
   have hk:=R'.inj k1 k2 _ _ a2 b2 e
   subst hk
   rw[jjy nd a1 b1]
 ·unfold jnP at e
  obtain⟨j,e1,rfl⟩:=jaW e
  have hj:keep[j]?=some k:=by
   have:=List.idxOf?_eq_some_iff.mp e1
   obtain⟨h1,h2,_⟩:=this
   exact List.getElem?_eq_some_iff.mpr ⟨h1,by simpa using h2⟩
  unfold Den
  refine⟨?_,by rw[gHi j k hj]⟩
  rw[hlen,<- kl]
  have:=(List.getElem?_eq_some_iff.mp hj).1
  omega
end
end _L3
namespace _L3
open PySem PySem.Spec PyProof.Rows _L2
structure Stt where
 N:List Str
 sc:Scope
 cmp:Bool
noncomputable def jc2:List Str:=["len","sum","min","max","list","tuple","int","all","isinstance","range","str","enumerate","zip","bool","dict","set"]
noncomputable def jh9 (c:Stt)(i:Nat)(e:Expr):Bool:=
 match e with
 |.Name x _=>if c.cmp then jop c.N c.sc i x else jfk c.N c.sc i x
 |_=>false
noncomputable def jou (c:Stt):List Nat->List Expr->Bool
 |[],[]=>true
 |i::is,e::es=>jh9 c i e&&jou c is es
 |_,_=>false
noncomputable def jcE (c:Stt)(tg:Tg)(e:Expr):Bool:=
 match tg,e with
 |.nm i,e=>jh9 c i e
 |.tp is,.Tuple es _ _=>jou c is es&&jai es
 |_,_=>false
noncomputable def jpy:Expr->Bool
 |.Tuple ..=>true
 |_=>false
noncomputable def jgB:Expr->Option Str
 |.Name x _=>some x
 |_=>none
theorem jes {e:Expr}{x:Str}(h:jgB e=some x):∃p,e=.Name x p:=by
 unfold jgB at h
 split at h
 ·cases h
  exact⟨_,rfl⟩
 ·cases h
noncomputable def je0:Expr->Option (Str×List Expr)
 |.Call f as ks _=>match ks with
  |[]=>match jgB f with
   |some x=>some (x,as)
   |none=>none
  |_=>none
 |_=>none
theorem jcG {e:Expr}{x:Str}{as:List Expr}(h:je0 e=some (x,as)):∃p q,e=.Call (.Name x p) as [] q:=by
 unfold je0 at h
 split at h
 ·split at h
  ·split at h
   ·rename_i y hy
    cases h
    obtain⟨p,rfl⟩:=jes hy
    exact⟨p,_,rfl⟩
   ·cases h
  ·cases h
 ·cases h
noncomputable def jcH (c:Stt)(ik:IK)(tg it:Expr):Option (List Expr):=
 match ik with
 |.seq=>some [it]
 |.str=>some [it]
 |.items=>none
 |.enm=>match je0 it with
  |some (x,[a])=>if x == "enumerate" && jbI c.sc "enumerate" && jax a&&jpy tg then some [a]else none
  |_=>none
 |.zip=>match je0 it with
  |some (x,[a,b])=>if x == "zip" && jbI c.sc "zip" && jai [a,b]&&jpy tg then some [a,b]else none
  |_=>none
 |.rng1=>match je0 it with
  |some (x,[a])=>if x == "range" && jbI c.sc "range" && jax a then some [a]else none
  |_=>none
 |.rng2=>match je0 it with
  |some (x,[a,b])=>if x == "range" && jbI c.sc "range" && jai [a,b]then some [a,b]else none
  |_=>none
noncomputable def jjR:Bi->Str
 |.len=>"len" |.sum=>"sum" |.min2=>"min" |.max2=>"max" |.list=>"list" |.tuple=>"tuple" |.int=>"int" |.all=>"all" |.isT _=>"isinstance" |.isT2 _ _=>"isinstance" |.listRange=>"list" |.str=>"str" |.lenSet=>"len" |.dictZip=>"dict"
noncomputable def jk5:Expr->Option (Str×Str)
 |.Tuple es _ _=>match es with
  |[a,b]=>match jgB a with
   |some x=>match jgB b with
    |some y=>some (x,y)
    |none=>none
   |none=>none
  |_=>none
 |_=>none
theorem jmk {e:Expr}{x y:Str}(h:jk5 e=some (x,y)):∃p q k r,e=.Tuple [.Name x p,.Name y q] k r:=by
 unfold jk5 at h
 split at h
 ·split at h
  ·split at h
   ·rename_i hx
    split at h
    ·rename_i hy
     cases h
     obtain⟨p,rfl⟩:=jes hx
     obtain⟨q,rfl⟩:=jes hy
     exact⟨_,_,_,_,rfl⟩
    ·cases h
   ·cases h
  ·cases h
 ·cases h
noncomputable def jdf (c:Stt)(b:Bi)(as:List Expr):Option (List Expr):=
 match b with
 |.isT n=>match as with
  |[a,t]=>match jgB t with
   |some x=>if x==Str.ofString n&&jbI c.sc x&&isTn n&&jax a then some [a]else none
   |none=>none
  |_=>none
 |.isT2 n m=>match as with
  |[a,t]=>match jk5 t with
   |some (x,y)=>if x==Str.ofString n&&y==Str.ofString m&&jbI c.sc x&&jbI c.sc y&&isTn n&&isTn m&&jax a then some [a]else none
   |none=>none
  |_=>none
 |.listRange=>none
 |.lenSet=>match as with
  |[e]=>match je0 e with
   |some (x,[a])=>if x == "set" && jbI c.sc "set" && jax a then some [a]else none
   |_=>none
  |_=>none
 |.dictZip=>none
 |_=>some as
where isTn (n:String):Bool:=n == "int" ||n == "bool" ||n == "str" ||n == "list" ||n == "tuple" ||n == "dict"
noncomputable def jjC:Mt->Str
 |.append=>"append" |.extend=>"extend" |.join=>"join" |.split=>"split"
noncomputable def jcg:Expr->List Str
 |.Name x _=>[x]
 |.Tuple es _ _=>es.filterMap fun e=>match e with
  |.Name x _=>some x
  |_=>none
 |_=>[]
noncomputable def jft (own N:List Str):List Str:=own++N.map fun x=>if own.contains x then Str.ofString "?" ++ x else x
noncomputable def jfm (c:Stt)(tg:Expr)(scope:Scope):Stt:=⟨jft (jcg tg) c.N,jf scope c.sc,true⟩
noncomputable def tst:Expr->Bool
 |.IfExp ..=>false
 |_=>true
noncomputable def jwR (d:D)(k:Const):Bool:=
 match d,k with
 |.int i,.int j=>i==j
 |.bl a,.bool b=>a==b
 |.non,.none=>true
 |.str x,.str y=>x==y
 |_,_=>false
noncomputable def jfh:Expr->Bool
 |.Slice ..=>false
 |_=>true
theorem jiG {b:Expr}(h:jfh b=true):jk9 b:=by
 intro o i
 cases b<;>first|rfl|cases h
noncomputable def jeR:Expr->Bool
 |.Constant k _ _=>match k with
  |.none=>true
  |_=>false
 |_=>false
theorem jgy {e:Expr}(h:jeR e=true):∃k p,e=.Constant .none k p:=by
 unfold jeR at h
 split at h
 ·split at h
  ·exact⟨_,_,rfl⟩
  ·cases h
 ·cases h
theorem jjZ {P:Str->Pos->Bool}{e:Expr}(h:(match e with
  |.Name x p=>P x p
  |_=>false)=true):∃x p,e=.Name x p/\P x p=true:=by
 split at h
 ·exact⟨_,_,rfl,h⟩
 ·cases h
theorem jmJ {P:Const->Nat->Pos->Bool}{e:Expr}(h:(match e with
  |.Constant k n p=>P k n p
  |_=>false)=true):∃k n p,e=.Constant k n p/\P k n p=true:=by
 split at h
 ·exact⟨_,_,_,rfl,h⟩
 ·cases h
theorem jqa {P:Expr->Operator->Expr->Pos->Bool}{e:Expr}(h:(match e with
  |.BinOp x o y p=>P x o y p
  |_=>false)=true):∃x o y p,e=.BinOp x o y p/\P x o y p=true:=by
 split at h
 ·exact⟨_,_,_,_,rfl,h⟩
 ·cases h
theorem jqZ {P:Expr->Bool}{e:Expr}(h:(match e with
  |.UnaryOp .USub x _=>P x
  |_=>false)=true):∃x p,e=.UnaryOp .USub x p/\P x=true:=by
 split at h
 ·exact⟨_,_,rfl,h⟩
 ·cases h
theorem jrk {P:Expr->Bool}{e:Expr}(h:(match e with
  |.UnaryOp .Not x _=>P x
  |_=>false)=true):∃x p,e=.UnaryOp .Not x p/\P x=true:=by
 split at h
 ·exact⟨_,_,rfl,h⟩
 ·cases h
theorem jr7 {P:Expr->Expr->Bool}{R:Expr->Expr->Expr->List Expr->Pos->Bool}{e:Expr}(h:(match e with
  |.BoolOp .And [x,y] _=>P x y
  |.BoolOp .And (x::y::z::rest) p=>R x y z rest p
  |_=>false)=true):(∃x y p,e=.BoolOp .And [x,y] p/\P x y=true)∨∃x y z rest p,e=.BoolOp .And (x::y::z::rest) p/\R x y z rest p=true:=by
 split at h
 ·exact .inl ⟨_,_,_,rfl,h⟩
 ·exact .inr ⟨_,_,_,_,_,rfl,h⟩
 ·cases h
theorem juJ {P:Expr->Expr->Bool}{R:Expr->Expr->Expr->List Expr->Pos->Bool}{e:Expr}(h:(match e with
  |.BoolOp .Or [x,y] _=>P x y
  |.BoolOp .Or (x::y::z::rest) p=>R x y z rest p
  |_=>false)=true):(∃x y p,e=.BoolOp .Or [x,y] p/\P x y=true)∨∃x y z rest p,e=.BoolOp .Or (x::y::z::rest) p/\R x y z rest p=true:=by
 split at h
 ·exact .inl ⟨_,_,_,rfl,h⟩
 ·exact .inr ⟨_,_,_,_,_,rfl,h⟩
 ·cases h
theorem jiK {P:Expr->CmpOp->Expr->Bool}{e:Expr}(h:(match e with
  |.Compare x [o] [y] _=>P x o y
  |_=>false)=true):∃x o y p,e=.Compare x [o] [y] p/\P x o y=true:=by
 split at h
 ·exact⟨_,_,_,_,rfl,h⟩
 ·cases h
theorem jlo {P:Expr->CmpOp->CmpOp->Expr->Expr->Bool}{e:Expr}(h:(match e with
  |.Compare x [p,q] [y,z] _=>P x p q y z
  |_=>false)=true):∃x p q y z r,e=.Compare x [p,q] [y,z] r/\P x p q y z=true:=by
 split at h
 ·exact⟨_,_,_,_,_,_,rfl,h⟩
 ·cases h
theorem jsH {P:Expr->Expr->Expr->Bool}{e:Expr}(h:(match e with
  |.IfExp z x y _=>P z x y
  |_=>false)=true):∃z x y p,e=.IfExp z x y p/\P z x y=true:=by
 split at h
 ·exact⟨_,_,_,_,rfl,h⟩
 ·cases h
theorem jqg {P:List Expr->Bool}{e:Expr}(h:(match e with
  |.Tuple xs _ _=>P xs
  |_=>false)=true):∃xs k p,e=.Tuple xs k p/\P xs=true:=by
 split at h
 ·exact⟨_,_,_,rfl,h⟩
 ·cases h
theorem jrC {P:List Expr->Bool}{e:Expr}(h:(match e with
  |.List xs _=>P xs
  |_=>false)=true):∃xs p,e=.List xs p/\P xs=true:=by
 split at h
 ·exact⟨_,_,rfl,h⟩
 ·cases h
theorem jsF {P:Expr->Expr->Bool}{e:Expr}(h:(match e with
  |.Subscript x y _=>P x y
  |_=>false)=true):∃x y p,e=.Subscript x y p/\P x y=true:=by
 split at h
 ·exact⟨_,_,_,rfl,h⟩
 ·cases h
theorem jt1 {P:Expr->Option Expr->Option Expr->Bool}{e:Expr}(h:(match e with
  |.Subscript x (.Slice l u none _) _=>P x l u
  |_=>false)=true):∃x l u p q,e=.Subscript x (.Slice l u none p) q/\P x l u=true:=by
 split at h
 ·exact⟨_,_,_,_,_,rfl,h⟩
 ·cases h
theorem jrS {P:Expr->Str->Bool}{e:Expr}(h:(match e with
  |.Attribute x n _=>P x n
  |_=>false)=true):∃x n p,e=.Attribute x n p/\P x n=true:=by
 split at h
 ·exact⟨_,_,_,rfl,h⟩
 ·cases h
theorem jfb {P:Str->Pos->Expr->List Expr->Pos->Bool}{e:Expr}(h:(match e with
  |.Call (.Name x q) (y::ys) [] p=>P x q y ys p
  |_=>false)=true):∃x q y ys p,e=.Call (.Name x q) (y::ys) [] p/\P x q y ys p=true:=by
 split at h
 ·exact⟨_,_,_,_,_,rfl,h⟩
 ·cases h
theorem jug {P:Expr->Str->Pos->Expr->List Expr->Pos->Bool}{e:Expr}(h:(match e with
  |.Call (.Attribute z n q) (y::ys) [] p=>P z n q y ys p
  |_=>false)=true):∃z n q y ys p,e=.Call (.Attribute z n q) (y::ys) [] p/\P z n q y ys p=true:=by
 split at h
 ·exact⟨_,_,_,_,_,_,rfl,h⟩
 ·cases h
theorem jjH {P:Expr->Comprehension->Scope->Bool}{e:Expr}(h:(match e with
  |.ListComp el [g] scope _=>P el g scope
  |_=>false)=true):∃el g scope p,e=.ListComp el [g] scope p/\P el g scope=true:=by
 split at h
 ·exact⟨_,_,_,_,rfl,h⟩
 ·cases h
noncomputable def jqL (G:List FnE)(i:Nat)(f:Str):Bool:=
 match G[i]? with
 |some g=>match g.dat with
  |some (.cls _ _ fs)=>fs.contains f
  |_=>false
 |none=>false
noncomputable def nmG (G:List FnE)(c:Stt)(f:Nat)(x:Str):Bool:=
 match G[f]? with
 |some g=>g.name==x&&jbI c.sc x
 |none=>false
section
variable (G:List FnE) (j:Nat)
mutual
noncomputable def chk:E->Stt->Expr->Bool
 |.var i,c,e=>match e with
  |.Name x _=>jhC c.N c.sc i x
  |_=>false
 |.cst d,_,e=>match e with
  |.Constant k _ _=>jwR d k
  |_=>false
 |.bin op _ a b,c,e=>match e with
  |.BinOp x o y _=>o==op&&chk a c x&&chk b c y
  |_=>false
 |.neg a,c,e=>match e with
  |.UnaryOp .USub x _=>chk a c x
  |_=>false
 |.not_ a,c,e=>match e with
  |.UnaryOp .Not x _=>chk a c x&&tst x
  |_=>false
 |.and_ a b,c,e=>match e with
  |.BoolOp .And [x,y] _=>chk a c x&&tst x&&(chk b c y&&tst y)
  |.BoolOp .And (x::y::z::rest) p=>chk a c x&&tst x&&chk b c (.BoolOp .And (y::z::rest) p)
  |_=>false
 |.or_ a b,c,e=>match e with
  |.BoolOp .Or [x,y] _=>chk a c x&&tst x&&(chk b c y&&tst y)
  |.BoolOp .Or (x::y::z::rest) p=>chk a c x&&tst x&&chk b c (.BoolOp .Or (y::z::rest) p)
  |_=>false
 |.cmp op a b,c,e=>match e with
  |.Compare x [o] [y] _=>o==op&&chk a c x&&chk b c y&&!(behindInMarks o y)
  |_=>false
 |.chain o1 o2 a b d,c,e=>match e with
  |.Compare x [p,q] [y,z] _=>p==o1&&q==o2&&chk a c x&&chk b c y&&chk d c z&&!(lastMarks [p,q] [y,z])
  |_=>false
 |.isN a,c,e=>match e with
  |.Compare x [o] [y] _=>o==.Is&&jeR y&&chk a c x
  |_=>false
 |.notN a,c,e=>match e with
  |.Compare x [o] [y] _=>o==.IsNot&&jeR y&&chk a c x
  |_=>false
 |.ife k a b,c,e=>match e with
  |.IfExp z x y _=>chk k c z&&tst z&&chk a c x&&chk b c y
  |_=>false
 |.tup es,c,e=>match e with
  |.Tuple xs _ _=>chkL es c xs&&jai xs
  |_=>false
 |.lst _ es,c,e=>match e with
  |.List xs _=>chkL es c xs&&jai xs
  |_=>false
 |.ix a b,c,e=>match e with
  |.Subscript x y _=>chk a c x&&chk b c y&&jfh y
  |_=>false
 |.sl _ a lo hi,c,e=>match e with
  |.Subscript x (.Slice l h none _) _=>chk a c x&&chkL lo c l.toList&&chkL hi c h.toList
  |_=>false
 |.stp _ _ _ _,_,_=>false
 |.fld a i f,c,e=>match e with
  |.Attribute x n _=>n==f&&jhp x&&jqL G i f&&chk a c x
  |_=>false
 |.call f _ es,c,e=>match e with
  |.Call (.Name x _) (y::ys) [] _=>(match G[f]? with
   |some g=>g.name==x&&jbI c.sc x&&es.length==g.ps.length&&decide (g.lv<=j)
   |none=>false)&&chkL es c (y::ys)&&jai (y::ys)
  |_=>false
 |.bi b _ es,c,e=>match e with
  |.Call (.Name x _) (y::ys) [] _=>jjR b==x&&jbI c.sc x&&jai (y::ys)&&(match jdf c b (y::ys)with
   |some as=>chkL es c as
   |none=>false)
  |_=>false
 |.mt b o es,c,e=>match e with
  |.Call (.Attribute z name apos) (y::ys) [] cpos=>jjC b==name&&chk o c z&&jcF z&&jai (y::ys)&&decide (ys.length<28)&&(apos.endLine==cpos.line)&&chkL es c (y::ys)
  |_=>false
 |.comp _ own tg ik es ifs elt,c,e=>match e with
  |.ListComp el [g] scope _=>g.is_async==0&&own==(jcg g.target).length&&jwY c.N c.sc (jcg g.target) (jft (jcg g.target) c.N) scope&&decide (jft (jcg g.target) c.N).Nodup&&jdQ g.iter&&(match jcH c ik g.target g.iter with
   |some as=>chkL es c as
   |none=>false)&&jcE (jfm c g.target scope) tg g.target&&chkTs ifs (jfm c g.target scope) g.ifs&&chk elt (jfm c g.target scope) el
  |_=>false
 |.gl f,c,e=>match e with
  |.Name x _=>nmG G c f x
  |_=>false
 |.gget _ _ _,_,_=>false
 |.gin _ _ _,_,_=>false
 |.gix _ _,_,_=>false
noncomputable def chkL:List E->Stt->List Expr->Bool
 |[],_,[]=>true
 |e::es,c,x::xs=>chk e c x&&jax x&&chkL es c xs
 |_,_,_=>false
noncomputable def chkTs:List E->Stt->List Expr->Bool
 |[],_,[]=>true
 |[e],c,[x]=>chk e c x&&tst x
 |_,_,_=>false
end
end
noncomputable def jkA (K:PySem.W.Frag)(W:World)(mg:Str->Option Value)(x:Str):Dat->Prop
 |.cst d=>∃u v,mg x=some u/\ja0 v u/\∀wd n,Den K wd n d v
 |.dct kvs=>∃a xs,mg x=some (.ref a)/\MD K W a ((kvs.map (·.1)).zip xs)/\∀wd n,DenL K wd n (kvs.map (·.2)) xs
 |.cls C _ fs=>mg x=some (.ref C)/\Cls K C/\∀f∈fs,jeb K C f
structure Ok (G:List FnE) (j:Nat) (c:Stt) (X:Cx):Prop where
 hN:X.N=c.N
 nd:c.N.Nodup
 sc:X.env.scope=c.sc
 calm:X.calm=true
 room:Room j X.A
 mg:∀x∈jc2,X.mg x=none
 fns:∀(i:Nat) (g:FnE),G[i]?=some g->g.lv<=j->Callee X.prog X.w X.K X.mg X.base g.lv g.name g.ps (jdi X.K g.ps.length g.F)
 dts:∀(i:Nat) (g:FnE) (d:Dat),G[i]?=some g->g.dat=some d->jkA X.K X.w X.mg g.name d
 fn:c.cmp=false->∀x,X.fn x=true
end _L3
namespace _L3
open PySem PySem.Spec PyProof.Rows _L2
noncomputable def jxv:Expr->Bool
 |.BoolOp ..=>true
 |_=>false
structure Snd (G:List FnE) (X:Cx) (ir:E) (e:Expr):Prop where
 v:PE X e (T3E X.K (ev G ir).v)
 t:tst e=true->PT X e (T3T X.K (ev G ir).t)
 w:jxv e=true->PW X e (T3T X.K (ev G ir).t)
section
variable {K:PySem.W.Frag} {X:Cx} {G:List FnE} {j:Nat} {c:Stt}
theorem jsZ {r:S3->M->Out D}{σ:_L2.St}{H:Hp}{Q:Bool->Hp->Prop}:T3T K (toB r) σ H Q->T3E K r σ H fun x H'=>∃k,jsX K x H' k/\Q k H':=by
 rintro⟨w,μ,ρ,b,μ',R,S,e,q⟩
 obtain⟨d,μ1,e1,e⟩:=Out.bind_ok e
 split at e
 ·rename_i b' hb
  cases e
  exact⟨w,μ,ρ,d,_,R,S,e1,fun w1 H1 v x1 R1 d1=>⟨b,jqy R1 d1 hb,q w1 H1 x1 R1⟩⟩
 ·cases e
theorem jaE {e:Expr}{r:S3->M->Out D}(v:PE X e (T3E X.K r))(h:jmD e=true):(tst e=true->PT X e (T3T X.K (toB r)))/\(jxv e=true->PW X e (T3T X.K (toB r))):=
 ⟨fun _=>imT (jv ⟨v⟩ h).h fun σ H Q q=>jsZ q,fun hb=>by cases e<;>first|(cases hb;done)|(cases h;done)⟩
theorem jnn {r:S3->M->Out D}(hb:∀ρ μ d μ',r ρ μ=.ok d μ'->∃b,d=.bl b){σ:_L2.St}{H:Hp}{Q:Bool->Hp->Prop}:T3T K (toB r) σ H Q->T3E K r σ H fun x H'=>∃k,x=.bl k/\Q k H':=by
 rintro⟨w,μ,ρ,b,μ',R,S,e,q⟩
 obtain⟨d,μ1,e1,e⟩:=Out.bind_ok e
 obtain⟨b',rfl⟩:=hb _ _ _ _ e1
 have e':Out.ok b' μ1=.ok b μ':=e
 cases e'
 refine⟨w,μ,ρ,.bl b,_,R,S,e1,fun w1 H1 v x1 R1 d1=>?_⟩
 unfold Den at d1
 exact⟨b,d1,q w1 H1 x1 R1⟩
theorem jnG (o:Ok G j c X):X.A.units+16<cLine:=by
 have:=o.room.un
 omega
noncomputable def jgE:D->Bool
 |.non=>true
 |_=>false
theorem jlP {w:Wd}{n:Nat}{d:D}{v:V}(h:Den K w n d v):decide (v=.non)=jgE d:=by
 cases d with
 |non=>unfold Den at h;subst h;rfl
 |bl b=>unfold Den at h;subst h;rfl
 |int i=>unfold Den at h;subst h;rfl
 |str x=>unfold Den at h;subst h;rfl
 |ty t=>unfold Den at h;subst h;rfl
 |tup ds=>unfold Den at h;obtain⟨a,xs,rfl,_⟩:=h;rfl
 |lst ds=>unfold Den at h;obtain⟨a,xs,rfl,_⟩:=h;rfl
 |scr ds=>unfold Den at h;obtain⟨a,xs,rfl,_⟩:=h;rfl
 |dK ks ds=>unfold Den at h;obtain⟨a,xs,rfl,_⟩:=h;rfl
 |dT ks ds=>unfold Den at h;obtain⟨a,xs,rfl,_⟩:=h;rfl
 |dF ks ds=>unfold Den at h;obtain⟨a,_,_,_,xs,rfl,_⟩:=h;rfl
 |obj C fs ds=>unfold Den at h;obtain⟨a,dx,xs,rfl,_⟩:=h;rfl
 |cel k=>unfold Den at h;obtain⟨_,rfl⟩:=h;rfl
theorem jsz {i:Nat}{e:Expr}(o:Ok G j c X)(h:chk G j (.var i) c e=true):Snd G X (.var i) e:=by
 have hh:=jjZ (P:=fun x _=>jhC c.N c.sc i x) h
 clear h
 obtain⟨x,pos,rfl,h⟩:=hh
 ·have hv:PE X (.Name x pos) (T3E X.K (ev G (.var i)).v):=by
   refine imE (pvk i (by rw[o.hN,o.sc];exact h)) fun σ H Q=>?_
   rintro⟨w,μ,ρ,d,μ',R,S,e,q⟩
   have e':(match ρ[i]? with|some (some d)=>Out.ok d μ|_=>.bad)=.ok d μ':=e
   split at e'
   ·rename_i d' hd
    cases e'
    obtain⟨v,h1,h2⟩:=S.get hd
    exact⟨v,h1,jah R q h2⟩
   ·cases e'
  exact⟨hv,(jaE hv rfl).1,(jaE hv rfl).2⟩
theorem jr1 {d:D}{e:Expr}(h:chk G j (.cst d) c e=true):Snd G X (.cst d) e:=by
 have hh:=jmJ (P:=fun k _ _=>jwR d k) h
 clear h
 obtain⟨k,kk,pos,rfl,h⟩:=hh
 ·have key:∀v:V,(∀w n,Den X.K w n d v)->PE X (.Constant k kk pos) (nC v)->Snd G X (.cst d) (.Constant k kk pos):=fun v hd hp=>by
   have hv:PE X (.Constant k kk pos) (T3E X.K (ev G (.cst d)).v):=by
    refine imE hp fun σ H Q=>?_
    rintro⟨w,μ,ρ,d',μ',R,S,e,q⟩
    have e':Out.ok d μ=.ok d' μ':=e
    cases e'
    exact jah R q (hd _ _)
   exact⟨hv,(jaE hv rfl).1,(jaE hv rfl).2⟩
  unfold jwR at h
  split at h
  ·have:=eq_of_beq h
   subst this
   exact key _ (fun w n=>by unfold Den;rfl) (juq).h
  ·have:=eq_of_beq h
   subst this
   exact key _ (fun w n=>by unfold Den;rfl) (jwS).h
  ·exact key _ (fun w n=>by unfold Den;rfl) (jtQ).h
  ·have:=eq_of_beq h
   subst this
   exact key _ (fun w n=>by unfold Den;rfl) (jt4).h
  ·cases h
theorem jqB {op:Operator}{m:Bool}{a b:E}{x y:Expr}{pos:Pos}(ha:Snd G X a x)(hb:Snd G X b y):Snd G X (.bin op m a b) (.BinOp x op y pos):=by
 obtain⟨r,ho,hs⟩:=jvy (X:=X) (op:=op) (m:=m)
 have hv:PE X (.BinOp x op y pos) (T3E X.K (ev G (.bin op m a b)).v):=imE (jwr ho ha.v hb.v) fun σ H Q q=>jn4 hs q
 exact⟨hv,(jaE hv rfl).1,(jaE hv rfl).2⟩
theorem jsc {a:E}{x:Expr}{pos:Pos}(ha:Snd G X a x):Snd G X (.neg a) (.UnaryOp .USub x pos):=by
 have hv:PE X (.UnaryOp .USub x pos) (T3E X.K (ev G (.neg a)).v):=by
  refine imE (jwZ juQ ⟨ha.v⟩).h fun σ H Q q=>jn5 (r:=rU fun i=>.int (-i)) (fun w μ H d1 d μ' v1 Q R h e q=>?_) q
  split at e
  ·cases e
   unfold Den at h
   exact⟨_,h,jah R q (by unfold Den;rfl)⟩
  ·cases e
 exact⟨hv,(jaE hv rfl).1,(jaE hv rfl).2⟩
theorem jsG {a:E}{x:Expr}{pos:Pos}(ht:tst x=true)(ha:Snd G X a x):Snd G X (.not_ a) (.UnaryOp .Not x pos):=by
 refine⟨?_,fun _=>?_,fun h=>by cases h⟩
 ·refine imE (jua ⟨ha.v⟩).h fun σ H Q q=>jn5 (r:=fun x H Q=>∃c,x=.bl c/\Q (.bl (!c)) H) (fun w μ H d1 d μ' v1 Q R h e q=>?_) q
  split at e
  ·cases e
   unfold Den at h
   exact⟨_,h,jah R q (by unfold Den;rfl)⟩
  ·cases e
 ·refine imT (jvz ⟨ha.t ht⟩).h fun σ H Q=>?_
  rintro⟨w,μ,ρ,b,μ',R,S,e,q⟩
  obtain⟨k,μ1,e1,e⟩:=Out.bind_ok e
  cases e
  exact⟨w,μ,ρ,k,_,R,S,e1,q⟩
theorem ju8 {a b:E}{σ:_L2.St}{H:Hp}{Q:VK}:T3E K (ev G (.and_ a b)).v σ H Q->jrW (T3E K (ev G a).v) (T3E K (ev G b).v) σ H Q:=by
 rintro⟨w,μ,ρ,d,μ',R,S,e,q⟩
 obtain⟨x,μ1,e1,e⟩:=Out.bind_ok e
 split at e
 ·rename_i k
  refine⟨w,μ,ρ,_,μ1,R,S,e1,fun w1 H1 v x1 R1 d1=>?_⟩
  unfold Den at d1
  refine⟨k,d1,?_⟩
  cases k with
  |true=>
   rw[if_pos rfl]at e ⊢
   exact⟨w1,μ1,ρ,d,μ',R1,S.mono x1,e,fun w2 H2 v2 x2 R2 d2=>q w2 H2 v2 (x1.trans x2) R2 d2⟩
  |false=>
   rw[if_neg Bool.false_ne_true]at e ⊢
   cases e
   exact q w1 H1 _ x1 R1 (by unfold Den;rfl)
 ·cases e
theorem jw9 {a b:E}{σ:_L2.St}{H:Hp}{Q:VK}:T3E K (ev G (.or_ a b)).v σ H Q->jwo (T3E K (ev G a).v) (T3E K (ev G b).v) σ H Q:=by
 rintro⟨w,μ,ρ,d,μ',R,S,e,q⟩
 obtain⟨x,μ1,e1,e⟩:=Out.bind_ok e
 split at e
 ·rename_i k
  refine⟨w,μ,ρ,_,μ1,R,S,e1,fun w1 H1 v x1 R1 d1=>?_⟩
  unfold Den at d1
  refine⟨k,d1,?_⟩
  cases k with
  |true=>
   rw[if_pos rfl]at e ⊢
   cases e
   exact q w1 H1 _ x1 R1 (by unfold Den;rfl)
  |false=>
   rw[if_neg Bool.false_ne_true]at e ⊢
   exact⟨w1,μ1,ρ,d,μ',R1,S.mono x1,e,fun w2 H2 v2 x2 R2 d2=>q w2 H2 v2 (x1.trans x2) R2 d2⟩
 ·cases e
theorem jtt {a b:E}{σ:_L2.St}{H:Hp}{Q:Bool->Hp->Prop}:T3T K (ev G (.and_ a b)).t σ H Q->jwf (T3T K (ev G a).t) (T3T K (ev G b).t) σ H Q:=by
 rintro⟨w,μ,ρ,d,μ',R,S,e,q⟩
 obtain⟨k,μ1,e1,e⟩:=Out.bind_ok e
 refine⟨w,μ,ρ,k,μ1,R,S,e1,fun w1 H1 x1 R1=>?_⟩
 dsimp only
 cases k with
 |true=>
  rw[if_pos rfl]at e ⊢
  exact⟨w1,μ1,ρ,d,μ',R1,S.mono x1,e,fun w2 H2 x2 R2=>q w2 H2 (x1.trans x2) R2⟩
 |false=>
  rw[if_neg Bool.false_ne_true]at e ⊢
  cases e
  exact q w1 H1 x1 R1
theorem jxr {a b:E}{σ:_L2.St}{H:Hp}{Q:Bool->Hp->Prop}:T3T K (ev G (.or_ a b)).t σ H Q->tOr (T3T K (ev G a).t) (T3T K (ev G b).t) σ H Q:=by
 rintro⟨w,μ,ρ,d,μ',R,S,e,q⟩
 obtain⟨k,μ1,e1,e⟩:=Out.bind_ok e
 refine⟨w,μ,ρ,k,μ1,R,S,e1,fun w1 H1 x1 R1=>?_⟩
 dsimp only
 cases k with
 |true=>
  rw[if_pos rfl]at e ⊢
  cases e
  exact q w1 H1 x1 R1
 |false=>
  rw[if_neg Bool.false_ne_true]at e ⊢
  exact⟨w1,μ1,ρ,d,μ',R1,S.mono x1,e,fun w2 H2 x2 R2=>q w2 H2 (x1.trans x2) R2⟩
theorem jnr {a b:E}{x y:Expr}{pos:Pos}(h1:tst x=true)(h2:tst y=true)(ha:Snd G X a x)(hb:Snd G X b y):Snd G X (.and_ a b) (.BoolOp .And [x,y] pos):=by
 have hw:PW X (.BoolOp .And [x,y] pos) (T3T X.K (ev G (.and_ a b)).t):=imW (jpi ⟨ha.t h1⟩ (jq7 ⟨hb.t h2⟩)).h fun σ H Q q=>jtt q
 exact⟨imE (jpp ⟨ha.v⟩ (jpD ⟨hb.v⟩)).h fun σ H Q q=>ju8 q,fun _=>hw.pt,fun _=>hw⟩
theorem joR {a b:E}{x y:Expr}{rest:List Expr}{pos:Pos}(h1:tst x=true)(ha:Snd G X a x)(hb:Snd G X b (.BoolOp .And (y::rest) pos)):Snd G X (.and_ a b) (.BoolOp .And (x::y::rest) pos):=by
 have hw:PW X (.BoolOp .And (x::y::rest) pos) (T3T X.K (ev G (.and_ a b)).t):=imW (jpi ⟨ha.t h1⟩ ⟨hb.w rfl⟩).h fun σ H Q q=>jtt q
 exact⟨imE (jpp ⟨ha.v⟩ ⟨hb.v⟩).h fun σ H Q q=>ju8 q,fun _=>hw.pt,fun _=>hw⟩
theorem jry {a b:E}{x y:Expr}{pos:Pos}(h1:tst x=true)(h2:tst y=true)(ha:Snd G X a x)(hb:Snd G X b y):Snd G X (.or_ a b) (.BoolOp .Or [x,y] pos):=by
 have hw:PW X (.BoolOp .Or [x,y] pos) (T3T X.K (ev G (.or_ a b)).t):=imW (jud ⟨ha.t h1⟩ (juu ⟨hb.t h2⟩)).h fun σ H Q q=>jxr q
 exact⟨imE (jvu ⟨ha.v⟩ (jpD ⟨hb.v⟩)).h fun σ H Q q=>jw9 q,fun _=>hw.pt,fun _=>hw⟩
theorem jpS {a b:E}{x y:Expr}{rest:List Expr}{pos:Pos}(h1:tst x=true)(ha:Snd G X a x)(hb:Snd G X b (.BoolOp .Or (y::rest) pos)):Snd G X (.or_ a b) (.BoolOp .Or (x::y::rest) pos):=by
 have hw:PW X (.BoolOp .Or (x::y::rest) pos) (T3T X.K (ev G (.or_ a b)).t):=imW (jud ⟨ha.t h1⟩ ⟨hb.w rfl⟩).h fun σ H Q q=>jxr q
 exact⟨imE (jvu ⟨ha.v⟩ ⟨hb.v⟩).h fun σ H Q q=>jw9 q,fun _=>hw.pt,fun _=>hw⟩
theorem jqv {op:CmpOp}{a b:E}{x y:Expr}{pos:Pos}(o:Ok G j c X)(hm:behindInMarks op y=false)(ha:Snd G X a x)(hb:Snd G X b y):Snd G X (.cmp op a b) (.Compare x [op] [y] pos):=by
 obtain⟨r,ho,hs⟩:=jl6 (X:=X) (op:=op) (jnG o)
 refine⟨imE (jto ho ⟨ha.v⟩ ⟨hb.v⟩ hm).h fun σ H Q q=>jn4 hs q,fun _=>?_,fun h=>by cases h⟩
 refine imT (jtS ho ⟨ha.v⟩ ⟨hb.v⟩ hm).h fun σ H Q q=>jn4 hs (jnn (fun ρ μ d μ' e=>?_) q)
 obtain⟨_,_,_,e⟩:=Out.bind_ok e
 obtain⟨_,_,_,e⟩:=Out.bind_ok e
 obtain⟨b,h,_⟩:=jdv _ _ _ _ _ e
 exact⟨b,h⟩
theorem jlJ {o1 o2:CmpOp}{a b d:E}{r r':R2}(hs:jlY K (je5 o1) r)(hs':jlY K (je5 o2) r'){σ:_L2.St}{H:Hp}{Q:VK}:T3E K (ev G (.chain o1 o2 a b d)).v σ H Q->jid r r' (T3E K (ev G a).v) (T3E K (ev G b).v) (T3E K (ev G d).v) σ H Q:=by
 rintro⟨w,μ,ρ,d0,μ',R,S,e,q⟩
 obtain⟨x,μ1,e1,e⟩:=Out.bind_ok e
 obtain⟨y,μ2,e2,e⟩:=Out.bind_ok e
 obtain⟨z,μ3,e3,eB⟩:=Out.bind_ok e
 clear e
 obtain⟨k,rfl,rfl⟩:=jdv _ _ _ _ _ e3
 refine⟨w,μ,ρ,x,μ1,R,S,e1,fun w1 H1 v1 x1 R1 d1=>⟨w1,μ1,ρ,y,μ3,R1,S.mono x1,e2,fun w2 H2 v2 x2 R2 d2=>?_⟩⟩
 refine hs w2 μ3 H2 x y (.bl k) μ3 v1 v2 _ R2 (d1.mono x2) d2 e3 fun w3 H3 v3 x3 R3 d3=>?_
 unfold Den at d3
 refine⟨k,d3,?_⟩
 have e':(if k then((ev G d).v ρ μ3).bind fun u μ4=>je5 o2 y u μ4 else Out.ok (.bl false) μ3)=.ok d0 μ':=eB
 cases k with
 |true=>
  rw[if_pos rfl]at e' ⊢
  obtain⟨u,μ4,e4,e'⟩:=Out.bind_ok e'
  exact⟨w3,μ3,ρ,u,μ4,R3,S.mono ((x1.trans x2).trans x3),e4,fun w4 H4 v4 x4 R4 d4=>hs' w4 μ4 H4 y u d0 μ' v2 v4 Q R4 (d2.mono (x3.trans x4)) d4 e' fun w5 H5 v5 x5 R5 d5=>q w5 H5 v5 ((((x1.trans x2).trans x3).trans x4).trans x5) R5 d5⟩
 |false=>
  rw[if_neg Bool.false_ne_true]at e' ⊢
  cases e'
  exact q w3 H3 _ ((x1.trans x2).trans x3) R3 (by unfold Den;rfl)
theorem jmS {o1 o2:CmpOp}{a b d:E}{x y z:Expr}{pos:Pos}(o:Ok G j c X)(hm:lastMarks [o1,o2] [y,z]=false)(ha:Snd G X a x)(hb:Snd G X b y)(hd:Snd G X d z):Snd G X (.chain o1 o2 a b d) (.Compare x [o1,o2] [y,z] pos):=by
 obtain⟨r,ho,hs⟩:=jl6 (X:=X) (op:=o1) (jnG o)
 obtain⟨r',ho',hs'⟩:=jl6 (X:=X) (op:=o2) (jnG o)
 refine⟨imE (jo2 ho ho' ⟨ha.v⟩ ⟨hb.v⟩ ⟨hd.v⟩ hm).h fun σ H Q q=>jlJ hs hs' q,fun _=>?_,fun h=>by cases h⟩
 refine imT (jpd ho ho' ⟨ha.v⟩ ⟨hb.v⟩ ⟨hd.v⟩ hm).h fun σ H Q q=>jlJ hs hs' (jnn (fun ρ μ d μ' e=>?_) q)
 obtain⟨_,_,_,e⟩:=Out.bind_ok e
 obtain⟨_,_,_,e⟩:=Out.bind_ok e
 obtain⟨z,_,e3,e⟩:=Out.bind_ok e
 split at e
 ·split at e
  ·obtain⟨_,_,_,e⟩:=Out.bind_ok e
   obtain⟨b,h,_⟩:=jdv _ _ _ _ _ e
   exact⟨b,h⟩
  ·cases e
   exact⟨_,rfl⟩
 ·cases e
theorem jtb {a:E}{σ:_L2.St}{H:Hp}{Q:VK}:T3E K (ev G (.isN a)).v σ H Q->jvF (T3E K (ev G a).v) σ H Q:=fun q=>jn5 (r:=fun x H Q=>Q (.bl (decide (x=.non))) H) (fun w μ H d1 d μ' v1 Q R h e q=>by
 rw[jlP h]
 split at e
 ·cases e
  exact jah R q (by unfold Den;rfl)
 ·rename_i hn
  cases e
  have:jgE d1=false:=by
   cases d1<;>first|rfl|exact absurd rfl hn
  rw[this]
  exact jah R q (by unfold Den;rfl)) q
theorem jpG {a:E}{σ:_L2.St}{H:Hp}{Q:VK}:T3E K (ev G (.notN a)).v σ H Q->jnE (T3E K (ev G a).v) σ H Q:=fun q=>jn5 (r:=fun x H Q=>Q (.bl (!decide (x=.non))) H) (fun w μ H d1 d μ' v1 Q R h e q=>by
 rw[jlP h]
 split at e
 ·cases e
  exact jah R q (by unfold Den;rfl)
 ·rename_i hn
  cases e
  have:jgE d1=false:=by
   cases d1<;>first|rfl|exact absurd rfl hn
  rw[this]
  exact jah R q (by unfold Den;rfl)) q
theorem jrm {a:E}{x:Expr}{k:Nat}{p pos:Pos}(ha:Snd G X a x):Snd G X (.isN a) (.Compare x [.Is] [.Constant .none k p] pos):=by
 refine⟨imE (jtd ⟨ha.v⟩).h fun σ H Q q=>jtb q,fun _=>?_,fun h=>by cases h⟩
 refine imT (jt6 ⟨ha.v⟩).h fun σ H Q q=>jtb (jnn (fun ρ μ d μ' e=>?_) q)
 obtain⟨_,_,_,e⟩:=Out.bind_ok e
 split at e<;>(cases e;exact⟨_,rfl⟩)
theorem jnK {a:E}{x:Expr}{k:Nat}{p pos:Pos}(ha:Snd G X a x):Snd G X (.notN a) (.Compare x [.IsNot] [.Constant .none k p] pos):=by
 refine⟨imE (jrZ ⟨ha.v⟩).h fun σ H Q q=>jpG q,fun _=>?_,fun h=>by cases h⟩
 refine imT (jqf ⟨ha.v⟩).h fun σ H Q q=>jpG (jnn (fun ρ μ d μ' e=>?_) q)
 obtain⟨_,_,_,e⟩:=Out.bind_ok e
 split at e<;>(cases e;exact⟨_,rfl⟩)
theorem jsg {k a b:E}{z x y:Expr}{pos:Pos}(ht:tst z=true)(hk:Snd G X k z)(ha:Snd G X a x)(hb:Snd G X b y):Snd G X (.ife k a b) (.IfExp z x y pos):=by
 refine⟨imE (jnk ⟨hk.t ht⟩ ⟨ha.v⟩ ⟨hb.v⟩).h fun σ H Q=>?_,(fun h=>by cases h),(fun h=>by cases h)⟩
 rintro⟨w,μ,ρ,d,μ',R,S,e,q⟩
 obtain⟨k',μ1,e1,e⟩:=Out.bind_ok e
 refine⟨w,μ,ρ,k',μ1,R,S,e1,fun w1 H1 x1 R1=>?_⟩
 dsimp only
 cases k' with
 |true=>
  rw[if_pos rfl]at e ⊢
  exact⟨w1,μ1,ρ,d,μ',R1,S.mono x1,e,fun w2 H2 v2 x2 R2 d2=>q w2 H2 v2 (x1.trans x2) R2 d2⟩
 |false=>
  rw[if_neg Bool.false_ne_true]at e ⊢
  exact⟨w1,μ1,ρ,d,μ',R1,S.mono x1,e,fun w2 H2 v2 x2 R2 d2=>q w2 H2 v2 (x1.trans x2) R2 d2⟩
theorem jns {es:List E}{xs:List Expr}{k:Nat}{pos:Pos}(h:PA X xs (T3A X.K (evL G es))):Snd G X (.tup es) (.Tuple xs k pos):=by
 have hv:PE X (.Tuple xs k pos) (T3E X.K (ev G (.tup es)).v):=imE (jlj h) fun σ H Q q=>jfv jsj q
 exact⟨hv,(jaE hv rfl).1,(jaE hv rfl).2⟩
theorem joI {m:Bool}{es:List E}{xs:List Expr}{pos:Pos}(h:PA X xs (T3A X.K (evL G es))):Snd G X (.lst m es) (.List xs pos):=by
 have hv:PE X (.List xs pos) (T3E X.K (ev G (.lst m es)).v):=imE (jj6 h) fun σ H Q q=>jfv jrh q
 exact⟨hv,(jaE hv rfl).1,(jaE hv rfl).2⟩
theorem ju3 {a b:E}{x y:Expr}{pos:Pos}(o:Ok G j c X)(hp:jfh y=true)(ha:Snd G X a x)(hb:Snd G X b y):Snd G X (.ix a b) (.Subscript x y pos):=by
 have hv:PE X (.Subscript x y pos) (T3E X.K (ev G (.ix a b)).v):=imE (jvW (jtn.or (jwi (by have:=jnG o;omega))) ha.v hb.v (jiG hp)) fun σ H Q q=>jn4 jwP q
 exact⟨hv,(jaE hv rfl).1,(jaE hv rfl).2⟩
end
end _L3
namespace _L3
open PySem PySem.Spec PyProof.Rows _L2
section
variable {K:PySem.W.Frag} {X:Cx} {G:List FnE} {j:Nat} {c:Stt}
noncomputable def T3O (K:PySem.W.Frag)(r:S3->M->Out (Option Int)):TO:=fun σ H Q=>∃(w:Wd) (μ:M) (ρ:S3) (o:Option Int) (μ':M),Rep K w μ H/\jb1 K w μ.length ρ σ/\r ρ μ=.ok o μ'/\∀w' H',Ext w w' μ.length μ'.length->Rep K w' μ' H'->Q o H'
theorem imO {e:Option Expr}{t t':TO}(h:PO X e t)(k:∀σ H Q,t' σ H Q->t σ H Q):PO X e t':=fun pins s σ H Q I hw=>h pins s σ H Q I (k σ H Q hw)
theorem jtE {es:List E}{l:Option Expr}(h:∀e x,es=[e]->l=some x->PE X x (T3E X.K (ev G e).v))(hl:es.length=l.toList.length):PO X l (T3O X.K fun ρ μ=>ji5 (evL G es ρ μ)):=by
 cases l with
 |none=>
  have:es=[]:=List.length_eq_zero_iff.mp hl
  subst this
  refine imO jqV fun σ H Q=>?_
  rintro⟨w,μ,ρ,o,μ',R,S,e,q⟩
  have e':Out.ok none μ=.ok o μ':=by
   have:evL G [] ρ μ=.ok [] μ:=rfl
   unfold ji5 at e
   dsimp only at e
   rw[this]at e
   exact e
  cases e'
  exact q w H (Ext.refl _ _) R
 |some x=>
  obtain⟨e1,rfl⟩:∃e1,es=[e1]:=List.length_eq_one_iff.mp hl
  refine imO (jsl (h e1 x rfl rfl)) fun σ H Q=>?_
  rintro⟨w,μ,ρ,o,μ',R,S,e,q⟩
  have e':(((ev G e1).v ρ μ).bind fun d μ1=>Out.ok [d] μ1).bind (fun ds μ=>match ds with
    |[]=>.ok none μ
    |[.int i]=>.ok (some i) μ
    |_=>.bad)=.ok o μ':=by
   have:evL G [e1] ρ μ=(((ev G e1).v ρ μ).bind fun d μ1=>Out.ok [d] μ1):=rfl
   unfold ji5 at e
   dsimp only at e
   rw[this]at e
   exact e
  obtain⟨ds,μ1,e1',e2⟩:=Out.bind_ok e'
  obtain⟨d,μ2,e3,e4⟩:=Out.bind_ok e1'
  cases e4
  split at e2
  ·rename_i hh
   cases hh
  ·rename_i i hh
   cases hh
   cases e2
   refine⟨w,μ,ρ,.int i,_,R,S,e3,fun w1 H1 v x1 R1 d1=>?_⟩
   unfold Den at d1
   exact⟨i,d1,q w1 H1 x1 R1⟩
  ·cases e2
theorem jui {m:Bool}{a:E}{lo hi:List E}{x:Expr}{l h:Option Expr}{p pos:Pos}(ha:Snd G X a x)(hl:PO X l (T3O X.K fun ρ μ=>ji5 (evL G lo ρ μ)))(hh:PO X h (T3O X.K fun ρ μ=>ji5 (evL G hi ρ μ))):Snd G X (.sl m a lo hi) (.Subscript x (.Slice l h none p) pos):=by
 have hv:PE X (.Subscript x (.Slice l h none p) pos) (T3E X.K (ev G (.sl m a lo hi)).v):=by
  refine imE (jnA jti ha.v hl hh) fun σ H Q=>?_
  rintro⟨w,μ,ρ,d,μ',R,S,e,q⟩
  obtain⟨d1,μ1,e1,e⟩:=Out.bind_ok e
  obtain⟨o1,μ2,e2,e⟩:=Out.bind_ok e
  obtain⟨o2,μ3,e3,e⟩:=Out.bind_ok e
  exact⟨w,μ,ρ,d1,μ1,R,S,e1,fun w1 H1 v1 x1 R1 k1=>⟨w1,μ1,ρ,o1,μ2,R1,S.mono x1,e2,fun w2 H2 x2 R2=>⟨w2,μ2,ρ,o2,μ3,R2,S.mono (x1.trans x2),e3,fun w3 H3 x3 R3=>jtD R3 (k1.mono (x2.trans x3)) e fun w4 H4 v4 x4 R4 k4=>q w4 H4 v4 (((x1.trans x2).trans x3).trans x4) R4 k4⟩⟩⟩
 exact⟨hv,(jaE hv rfl).1,(jaE hv rfl).2⟩
theorem jg5:∀{es:List E} {ρ:S3} {μ μ':M} {ds:List D},evL G es ρ μ=.ok ds μ'->ds.length=es.length
 |[],ρ,μ,μ',ds,e=>by
  have e':Out.ok [] μ=.ok ds μ':=e
  cases e'
  rfl
 |x::es,ρ,μ,μ',ds,e=>by
  obtain⟨d,μ1,e1,e⟩:=Out.bind_ok e
  obtain⟨ds',μ2,e2,e⟩:=Out.bind_ok e
  cases e
  rw[List.length_cons,List.length_cons,jg5 e2]
theorem jjJ {md:Md}{F:Fn}{np:Nat}{w1:Wd}{μ1 μ':M}{H1:Hp}{ds:List D}{d:D}{vs:List V}{Q:VK}{EX:XK}(hl:ds.length=np)(R1:Rep K w1 μ1 H1)(l1:DenL K w1 μ1.length ds vs)(e:jaO md F ds μ1=.ok d μ')(q:jhg K w1 μ1.length d μ' Q):jdi K np F vs H1 Q EX:=by
 refine⟨by rw[<- jae l1];exact hl,?_⟩
 cases md with
 |raw=>exact⟨w1,μ1,ds,d,μ',R1,l1,e,q⟩
 |frz=>
  simp only[jaO]at e
  split at e
  ·rename_i d0 μ0 e0
   split at e
   ·rename_i ht
    split at e
    ·rename_i d' hd'
     cases e
     refine⟨w1,_,ds,d0,μ0,R1,l1,e0,fun w2 H2 v x2 R2 d2=>?_⟩
     obtain⟨w3,x3,R3,f3,_,_⟩:=jmo (keep:=[]) (cs:=[]) R1 x2 R2 ht List.nodup_nil (fun k h=>by cases h) rfl
     simp only[List.map_nil,List.append_nil]at x3 R3 f3
     exact q w3 H2 v x3 R3 (f3 _ _ _ d2 hd')
    ·cases e
   ·cases e
  ·split at e
   ·split at e<;>cases e
   ·cases e
  ·cases e
 |new=>
  simp only[jaO]at e
  split at e
  ·rename_i d0 μ0 e0
   split at e
   ·rename_i ht
    split at e
    ·rename_i d' cs hd'
     cases e
     refine⟨w1,μ1,ds,d0,μ0,R1,l1,e0,fun w2 H2 v x2 R2 d2=>?_⟩
     unfold jxn at hd'
     split at hd'
     ·rename_i hk
      split at hd'
      ·rename_i cs' hc
       obtain⟨w3,x3,R3,f3,c3,z3⟩:=jmo (keep:=jpu d0) (cs:=cs') R1 x2 R2 ht hk.1 hk.2 hc
       split at hd'
       ·rename_i k
        obtain⟨d'',e1,e2⟩:=jaW hd'
        cases e2
        unfold Den at d2
        rw[d2.2]at *
        exact q w3 H2 _ x3 R3 (c3 k _ d2.1 e1)
       ·rename_i es
        obtain⟨es',e1,e2⟩:=jaW hd'
        cases e2
        refine q w3 H2 v x3 R3 ?_
        unfold Den at d2 ⊢
        obtain⟨a,xs,rfl,s1,l2⟩:=d2
        refine⟨a,xs,rfl,z3.tup s1,?_⟩
        generalize jpu (.tup es)=ks at e1 f3 c3
        clear hd' s1 hk hc e0 q
        have p2:=jaF.mp l2
        clear l2
        refine jaF.mpr ?_
        induction p2 generalizing es' with
        |nil=>unfold jjm at e1;cases e1;exact .nil
        |cons r t ih=>
         unfold jjm at e1
         split at e1
         ·rename_i y ys h1 h2
          cases e1
          refine .cons ?_ (ih _ h2)
          unfold js7 at h1
          split at h1
          ·unfold Den at r
           rw[r.2]
           exact c3 _ _ r.1 h1
          ·exact f3 _ _ _ r h1
         ·cases e1
       ·cases hd'
      ·cases hd'
     ·cases hd'
    ·cases e
   ·cases e
  ·split at e
   ·split at e<;>cases e
   ·cases e
  ·cases e
theorem jod {f:Nat}{g:FnE}{md:Md}{es:List E}{x:Str}{y:Expr}{ys:List Expr}{p pos:Pos}(o:Ok G j c X)(hf:G[f]?=some g)(hn:g.name=x)(hg:jbI c.sc x=true)(hp:es.length=g.ps.length)(hlv:g.lv<=j)(hst:jai (y::ys)=true)(h:PA X (y::ys) (T3A X.K (evL G es))) :
  Snd G X (.call f md es) (.Call (.Name x p) (y::ys) [] pos):=by
 subst hn
 have hv:PE X (.Call (.Name g.name p) (y::ys) [] pos) (T3E X.K (ev G (.call f md es)).v):=by
  refine imE (jtO (o.fns f g hf hlv) o.room (by rw[o.sc];exact hg) h hlv hst) fun σ H Q=>?_
  rintro⟨w,μ,ρ,d,μ',R,S,e,q⟩
  obtain⟨ds,μ1,e1,e⟩:=Out.bind_ok e
  unfold jhu at e
  rw[hf]at e
  refine⟨w,μ,ρ,ds,μ1,R,S,e1,fun w1 H1 vs x1 R1 d1=>?_⟩
  show jdi X.K g.ps.length g.F (vs++[]) H1 Q E0
  rw[List.append_nil]
  exact jjJ ((jg5 e1).trans hp) R1 d1 e fun w2 H2 v x2 R2 d2=>q w2 H2 v (x1.trans x2) R2 d2
 exact⟨hv,(jaE hv rfl).1,(jaE hv rfl).2⟩
theorem jeA {w:Wd}{n:Nat}:∀ks:List Int,DenL K w n (ks.map D.int) (ks.map V.int)
 |[]=>by unfold DenL;rfl
 |k::ks=>by rw[List.map_cons,List.map_cons];unfold DenL;exact⟨_,_,rfl,by unfold Den;rfl,jeA ks⟩
end
end _L3
namespace _L3
open PySem PySem.Spec PyProof.Rows _L2
section
variable {K:PySem.W.Frag} {X:Cx} {G:List FnE} {j:Nat} {c:Stt}
theorem mg_of (o:Ok G j c X){x:Str}(h:x∈jc2):X.mg x=none:=o.mg x h
theorem jbu (o:Ok G j c X){x:Str}(h:jbI c.sc x=true):jbI X.env.scope x=true:=by rw[o.sc];exact h
theorem jkv:jkn X.K jh (jlm X.K X.prog X.w):=by
 intro w μ H ds d μ' vs Q R h e q
 unfold jh at e
 split at e
 ·split at e
  ·rename_i xs hs
   split at e
   ·rename_i zs hz
    split at e
    ·rename_i hl
     cases e
     obtain⟨v,rfl,h1⟩:=jjc h
     obtain⟨a,us,rfl,s1,l1⟩:=jfC R h1 hs
     have:=jfM l1 hz
     subst this
     refine⟨a,zs,rfl,s1,hl,fun l hn=>⟨l,_,rfl,jaC,Nat.le_trans (jpw zs) hl,?_⟩⟩
     obtain⟨R',x⟩:=R.frz hn (juL X.prog X.w l (ddS zs).length)
     exact q _ _ _ x R' (by unfold Den;rfl)
    ·cases e
   ·cases e
  ·cases e
 ·cases e
theorem jef {x:Str}{id:String}{f:List D->M->Out D}{r:List V->Hp->VK->Prop}{es:List E}{y:Expr}{ys:List Expr}{p pos:Pos}(o:Ok G j c X)(hc:jbR X (.builtin id) r)(hs:jkn X.K f r)(hg:jbI c.sc x=true)(hm:x∈jc2)(hv:bootBuiltins x=some (.builtin id))(hst:jai (y::ys)=true)(h:PA X (y::ys) (T3A X.K (evL G es))) :
  PE X (.Call (.Name x p) (y::ys) [] pos) (T3E X.K fun ρ μ=>(evL G es ρ μ).bind fun ds μ1=>f ds μ1):=imE (jca hc (jbu o hg) (mg_of o hm) hv h hst) fun σ H Q q=>jfv hs q
theorem jeK {x:Str}{T:String}{f:List D->M->Out D}{r:List V->Hp->VK->Prop}{es:List E}{y:Expr}{ys:List Expr}{p pos:Pos}(o:Ok G j c X)(hc:jbR X (.type T) r)(hs:jkn X.K f r)(hg:jbI c.sc x=true)(hm:x∈jc2)(hv:bootBuiltins x=some (.type T))(hst:jai (y::ys)=true)(h:PA X (y::ys) (T3A X.K (evL G es))) :
  PE X (.Call (.Name x p) (y::ys) [] pos) (T3E X.K fun ρ μ=>(evL G es ρ μ).bind fun ds μ1=>f ds μ1):=imE (jgM hc (jbu o hg) (mg_of o hm) hv h hst) fun σ H Q q=>jfv hs q
theorem jmW {e1:E}{ρ:S3}{μ μ':M}{ds:List D}(e:evL G [e1] ρ μ=.ok ds μ'):∃d,ds=[d]/\(ev G e1).v ρ μ=.ok d μ':=by
 obtain⟨d,μ1,e1',e⟩:=Out.bind_ok e
 cases e
 exact⟨d,rfl,e1'⟩
theorem jtR {n:String} {e1:E} {a:Expr} {x:Str} {p q pos:Pos} (o:Ok G j c X) (hg:jbI c.sc "isinstance" =true) (hx:x=Str.ofString n) (hgx:jbI c.sc x=true) (hn:jdf.isTn n=true) (ha:jax a=true) (h:PE X a (T3E X.K (ev G e1).v)) :
  PE X (.Call (.Name "isinstance" p) [a,.Name x q] [] pos) (T3E X.K fun ρ μ=>(evL G [e1] ρ μ).bind fun ds μ1=>jvP n ds μ1):=by
 subst hx
 have hb':bootBuiltins (Str.ofString n)=some (.type n)/\Str.ofString n∈jc2:=by
  unfold jdf.isTn at hn
  simp only[Bool.or_eq_true,beq_iff_eq]at hn
  rcases hn with((((rfl|rfl)|rfl)|rfl)|rfl)|rfl
  ·exact⟨jlC,by decide +kernel⟩
  ·exact⟨jmU,by decide +kernel⟩
  ·exact⟨jpJ,by decide +kernel⟩
  ·exact⟨jj,by decide +kernel⟩
  ·exact⟨jgU,by decide +kernel⟩
  ·exact⟨jlt,by decide +kernel⟩
 have h2:PE X (.Name (Str.ofString n) q) (nC (.ty n)):=(jiJ (v:=.ty n) (jbu o hgx) (mg_of o hb'.2) hb'.1 rfl).h
 have hA:PA X [a,.Name (Str.ofString n) q] (jlz (T3E X.K (ev G e1).v) (jlz (nC (.ty n)) jw6)):=pac h (pac h2 jb6) ha
 refine imE (jca (r:=jwM X.K n) jo5 (jbu o hg) (mg_of o (by decide +kernel)) jdc hA (by unfold jai;simp[ha];rfl)) fun σ H Q=>?_
 rintro⟨w,μ,ρ,d,μ',R,S,e,q⟩
 obtain⟨ds,μ1,e1,e⟩:=Out.bind_ok e
 obtain⟨d0,rfl,e2⟩:=jmW e1
 exact⟨w,μ,ρ,d0,μ1,R,S,e2,fun w1 H1 v x1 R1 d1=>jqn R1 (DenL.one d1) e fun w3 H3 v x3 R3 d3=>q w3 H3 v (x1.trans x3) R3 d3⟩
theorem joi {n:String}(hn:jdf.isTn n=true):bootBuiltins (Str.ofString n)=some (.type n)/\Str.ofString n∈jc2:=by
 unfold jdf.isTn at hn
 simp only[Bool.or_eq_true,beq_iff_eq]at hn
 rcases hn with((((rfl|rfl)|rfl)|rfl)|rfl)|rfl
 ·exact⟨jlC,by decide +kernel⟩
 ·exact⟨jmU,by decide +kernel⟩
 ·exact⟨jpJ,by decide +kernel⟩
 ·exact⟨jj,by decide +kernel⟩
 ·exact⟨jgU,by decide +kernel⟩
 ·exact⟨jlt,by decide +kernel⟩
theorem jrf {n m:String} {e1:E} {a:Expr} {x y:Str} {p q q' r pos:Pos} {k:Nat} (o:Ok G j c X) (hg:jbI c.sc "isinstance" =true) (hx:x=Str.ofString n) (hy:y=Str.ofString m) (hgx:jbI c.sc x=true) (hgy:jbI c.sc y=true) (hn:jdf.isTn n=true) (hm:jdf.isTn m=true) (ha:jax a=true) (h:PE X a (T3E X.K (ev G e1).v)) :
  PE X (.Call (.Name "isinstance" p) [a,.Tuple [.Name x q,.Name y q'] k r] [] pos) (T3E X.K fun ρ μ=>(evL G [e1] ρ μ).bind fun ds μ1=>jro n m ds μ1):=by
 subst hx hy
 have h2:PE X (.Name (Str.ofString n) q) (nC (.ty n)):=(jiJ (v:=.ty n) (jbu o hgx) (mg_of o (joi hn).2) (joi hn).1 rfl).h
 have h3:PE X (.Name (Str.ofString m) q') (nC (.ty m)):=(jiJ (v:=.ty m) (jbu o hgy) (mg_of o (joi hm).2) (joi hm).1 rfl).h
 have hA:PA X [a,.Tuple [.Name (Str.ofString n) q,.Name (Str.ofString m) q'] k r] _:=pac h (pac (jlj (pac h2 (pac h3 jb6))) jb6) ha
 refine imE (jca (r:=jt8 X.K n m) jlO (jbu o hg) (mg_of o (by decide +kernel)) jdc hA (by unfold jai;simp[ha];rfl)) fun σ H Q=>?_
 rintro⟨w,μ,ρ,d,μ',R,S,e,q⟩
 obtain⟨ds,μ1,e1,e⟩:=Out.bind_ok e
 obtain⟨d0,rfl,e2⟩:=jmW e1
 refine⟨w,μ,ρ,d0,μ1,R,S,e2,fun w1 H1 v x1 R1 d1=>⟨by show 2<=sizeLine;decide,fun p1 hp1=>?_⟩⟩
 obtain⟨R2,x2⟩:=R1.frz hp1 (.tup [.ty n,.ty m])
 unfold jro at e
 dsimp only at e
 split at e
 ·rename_i t ht
  split at e
  ·rename_i b hb
   cases e
   exact⟨v,p1,_,_,d0,t,b,rfl,SqT.of jaC,R2,d1.mono x2,ht,hb,q _ _ _ (x1.trans x2) R2 (by unfold Den;rfl)⟩
  ·cases e
 ·cases e
theorem jjY {e:Expr}{r:S3->M->Out (List D)}:PE X e (T3E X.K fun ρ μ=>(r ρ μ).bind fun _ _=>Out.bad):=fun pins s σ H Q I ⟨w,μ,ρ,d,μ',R,S,e,q⟩=>by
 obtain⟨_,_,_,e⟩:=Out.bind_ok e
 cases e
theorem juS {b:Bi}{m:Bool}{es:List E}{x:Str}{y:Expr}{ys as:List Expr}{p pos:Pos}(o:Ok G j c X)(hx:jjR b=x)(hg:jbI c.sc x=true)(hst:jai (y::ys)=true)(hb:jdf c b (y::ys)=some as)(hA:PA X as (T3A X.K (evL G es)))(h1:∀e a,es=[e]->as=[a]->PE X a (T3E X.K (ev G e).v))(hl:es.length=as.length) :
  Snd G X (.bi b m es) (.Call (.Name x p) (y::ys) [] pos):=by
 subst hx
 have hv:PE X (.Call (.Name (jjR b) p) (y::ys) [] pos) (T3E X.K (ev G (.bi b m es)).v):=by
  cases b with
  |len=>cases hb;exact jef o (jhU.or jiy) jpR hg (by decide +kernel) jpC hst hA
  |sum=>cases hb;exact jjY
  |min2=>cases hb;exact jef o (jmG o.calm) jq1 hg (by decide +kernel) jtL hst hA
  |max2=>cases hb;exact jef o (jlw o.calm) jqm hg (by decide +kernel) jun hst hA
  |list=>cases hb;exact jeK o jit jn0 hg (by decide +kernel) jj hst hA
  |tuple=>cases hb;exact jeK o jhw jm6 hg (by decide +kernel) jgU hst hA
  |int=>cases hb;exact jeK o (jlD.or jlc) jlX hg (by decide +kernel) jlC hst hA
  |all=>cases hb;exact jef o jnH (jrQ o.calm) hg (by decide +kernel) jtH hst hA
  |str=>cases hb;exact jjY
  |isT n=>
   simp only[jdf]at hb
   split at hb
   ·rename_i a t heq
    split at hb
    ·rename_i x hx
     split at hb
     ·rename_i hc
      cases hb
      cases heq
      obtain⟨q,rfl⟩:=jes hx
      simp only[Bool.and_eq_true,beq_iff_eq]at hc
      obtain⟨⟨⟨c1,c2⟩,c3⟩,c4⟩:=hc
      obtain⟨e1,rfl⟩:∃e1,es=[e1]:=List.length_eq_one_iff.mp hl
      exact jtR o hg c1 c2 c3 c4 (h1 e1 _ rfl rfl)
     ·cases hb
    ·cases hb
   ·cases hb
  |isT2 n m=>
   simp only[jdf]at hb
   split at hb
   ·rename_i a t heq
    split at hb
    ·rename_i x y hx
     split at hb
     ·rename_i hc
      cases hb
      cases heq
      obtain⟨q,q',k,r,rfl⟩:=jmk hx
      simp only[Bool.and_eq_true,beq_iff_eq]at hc
      obtain⟨⟨⟨⟨⟨⟨c1,c2⟩,c3⟩,c4⟩,c5⟩,c6⟩,c7⟩:=hc
      obtain⟨e1,rfl⟩:∃e1,es=[e1]:=List.length_eq_one_iff.mp hl
      exact jrf o hg c1 c2 c3 c4 c5 c6 c7 (h1 e1 _ rfl rfl)
     ·cases hb
    ·cases hb
   ·cases hb
  |listRange=>cases hb
  |lenSet=>
   simp only[jdf]at hb
   split at hb
   ·rename_i e heq
    split at hb
    ·rename_i x a hx
     split at hb
     ·rename_i hc
      cases hb
      cases heq
      obtain⟨p2,q2,rfl⟩:=jcG hx
      simp only[Bool.and_eq_true,beq_iff_eq]at hc
      obtain⟨⟨c1,c2⟩,c3⟩:=hc
      subst c1
      exact imE (jl7 o.calm (jbu o hg) (mg_of o (by decide +kernel)) (jbu o c2) (mg_of o (by decide +kernel)) hA c3) fun σ H Q q=>jfv jkv q
     ·cases hb
    ·cases hb
   ·cases hb
  |dictZip=>cases hb
 exact⟨hv,(jaE hv rfl).1,(jaE hv rfl).2⟩
theorem jtU {b:Mt}{ob:E}{es:List E}{z y:Expr}{ys:List Expr}{apos cpos:Pos}(o:Ok G j c X)(hz:Snd G X ob z)(hp:jcF z=true)(hst:jai (y::ys)=true)(hl:ys.length<28)(hline:(apos.endLine==cpos.line)=true)(hA:PA X (y::ys) (T3A X.K (evL G es))) :
  Snd G X (.mt b ob es) (.Call (.Attribute z (jjC b) apos) (y::ys) [] cpos):=by
 have hv:PE X (.Call (.Attribute z (jjC b) apos) (y::ys) [] cpos) (T3E X.K (ev G (.mt b ob es)).v):=by
  cases b with
  |append=>exact imE (joh PySem.F.plainAttrs_list PySem.F.slot_list_append PySem.F.type_list_append jfs ⟨hz.v⟩ ⟨hA⟩ hp hst hl hline).h fun σ H Q q=>jlR jmx (fun w μ H ob x R h e=>jhQ (.inl rfl) R h e) q
  |extend=>
   intro pins s σ H Q I hw
   obtain⟨w,μ,ρ,d,μ',R,S,e,q⟩:=hw
   obtain⟨x,μ1,e1,e⟩:=Out.bind_ok e
   split at e
   ·obtain⟨_,_,_,e⟩:=Out.bind_ok e
    cases e
   ·cases e
  |split=>
   intro pins s σ H Q I hw
   obtain⟨w,μ,ρ,d,μ',R,S,e,q⟩:=hw
   obtain⟨x,μ1,e1,e⟩:=Out.bind_ok e
   split at e
   ·obtain⟨_,_,_,e⟩:=Out.bind_ok e
    cases e
   ·cases e
  |join=>exact imE (joh PySem.F.plainAttrs_str PySem.F.slot_str_join PySem.F.type_str_join jrz ⟨hz.v⟩ ⟨hA⟩ hp hst hl hline).h fun σ H Q q=>jlR jnm (fun w μ H ob x R h e=>jnp h e) q
 exact⟨hv,(jaE hv rfl).1,(jaE hv rfl).2⟩
theorem jji {i:Nat}{e:Expr}(o:Ok G j c X)(h:jh9 c i e=true):PG X e (jej i)/\jax e=true:=by
 unfold jh9 at h
 split at h
 ·rename_i x pos
  refine⟨?_,rfl⟩
  split at h
  ·exact jrY (by rw[o.hN];exact o.nd) (by rw[o.hN,o.sc];exact h)
  ·rename_i hc
   exact joX (by rw[o.hN];exact o.nd) (by rw[o.hN,o.sc];exact h) (o.fn (by simpa using hc) x)
 ·cases h
noncomputable def gNs:List Nat->TGs
 |[]=>jw1
 |i::is=>jtG (jej i) (gNs is)
theorem jg6 (o:Ok G j c X):∀{is:List Nat} {es:List Expr},jou c is es=true->PGs X es (gNs is)/\es.length=is.length
 |[],[],_=>⟨jrH,rfl⟩
 |[],_::_,h=>by cases h
 |_::_,[],h=>by cases h
 |i::is,e::es,h=>by
  unfold jou at h
  simp only[Bool.and_eq_true]at h
  obtain⟨h1,h2⟩:=h
  obtain⟨p1,p2⟩:=jji o h1
  obtain⟨q1,q2⟩:=jg6 o h2
  exact⟨jos p1 q1 (by rw[jee p2];rfl),by simp[q2]⟩
theorem jg0 {w:Wd}{n:Nat}:∀{is:List Nat} {ds:List D} {vs:List V} {ρ ρ':S3} {σ:_L2.St} {H:Hp} {Q:_L2.St->Hp->Prop},DenL K w n ds vs->jb1 K w n ρ σ->jmg is ds ρ=some ρ'->(∀σ',jb1 K w n ρ' σ'->Q σ' H)->gNs is vs σ H Q/\ds.length=is.length
 |[],[],vs,ρ,ρ',σ,H,Q,h,S,e,q=>by
  unfold DenL at h
  cases e
  exact⟨⟨h,q σ S⟩,rfl⟩
 |[],_::_,_,_,_,_,_,_,_,_,e,_=>by cases e
 |_::_,[],_,_,_,_,_,_,_,_,e,_=>by cases e
 |i::is,d::ds,vs,ρ,ρ',σ,H,Q,h,S,e,q=>by
  unfold DenL at h
  obtain⟨v,ws,rfl,h1,h2⟩:=h
  obtain⟨g1,g2⟩:=jg0 (is:=is) (H:=H) (Q:=Q) h2 (S.set h1 i) e q
  exact⟨⟨v,ws,rfl,g1⟩,by simp[g2]⟩
noncomputable def gOf (K:PySem.W.Frag):Tg->TG
 |.nm i=>jej i
 |.tp is=>jxc K is.length (gNs is)
theorem jdV (tg:Tg):jqk K tg (gOf K tg):=by
 intro w μ H ρ ρ' σ d v Q R S hd e q
 cases tg with
 |nm i=>
  cases e
  exact q _ (S.set hd i)
 |tp is=>
  cases d with
  |tup ds=>
   obtain⟨a,xs,rfl,s1,l1⟩:=jbY R hd
   obtain⟨g1,g2⟩:=jg0 (H:=H) (Q:=Q) l1 S e q
   exact⟨a,xs,rfl,s1,by rw[<- jae l1,g2],g1⟩
  |_=>cases e
theorem jkC {tg:Tg}{t:Expr}(o:Ok G j c X)(h:jcE c tg t=true):PG X t (gOf X.K tg)/\jax t=true:=by
 unfold jcE at h
 split at h
 ·exact jji o h
 ·rename_i is es k pos
  simp only[Bool.and_eq_true]at h
  obtain⟨h1,h2⟩:=h
  obtain⟨p1,p2⟩:=jg6 o h1
  exact⟨jvk o.calm p1 ((jf5 h2).1.trans p2) (jf5 h2).2,rfl⟩
 ·cases h
theorem jpV:evL G []=fun _ μ=>.ok [] μ:=rfl
theorem jo0 {e:E}{es:List E}:evL G (e::es)=fun ρ μ=>((ev G e).v ρ μ).bind fun d μ1=>(evL G es ρ μ1).bind fun ds μ2=>.ok (d::ds) μ2:=rfl
theorem joF:evTs G []=fun _ μ=>.ok true μ:=rfl
theorem jow {e:E}:evTs G [e]=(ev G e).t:=rfl
end
end _L3
namespace _L3
open PySem PySem.Spec PyProof.Rows _L2
section
variable {K:PySem.W.Frag} {X:Cx} {G:List FnE} {j:Nat} {c:Stt}
theorem juU {f:Nat}{x:Str}(h:nmG G c f x=true):∃g,G[f]?=some g/\g.name=x/\jbI c.sc x=true:=by
 unfold nmG at h
 split at h
 ·rename_i g hg
  simp only[Bool.and_eq_true,beq_iff_eq]at h
  exact⟨g,hg,h.1,h.2⟩
 ·cases h
theorem jeH {f:Nat}{g:FnE}(h:G[f]?=some g):jfS G f=g.dat:=by unfold jfS;rw[h];rfl
theorem jm0 {i:Nat}{f:Str}(o:Ok G j c X)(h:jqL G i f=true):∃g C k fs,G[i]?=some g/\g.dat=some (.cls C k fs)/\X.mg g.name=some (.ref C)/\Cls X.K C/\jeb X.K C f:=by
 unfold jqL at h
 split at h
 ·rename_i g hg
  split at h
  ·rename_i C k fs hd
   obtain⟨h1,h2,h3⟩:=o.dts i g _ hg hd
   exact⟨g,C,k,fs,hg,hd,h1,h2,h3 f (by simpa using h)⟩
  ·cases h
 ·cases h
theorem jiQ {w:Wd}{n:Nat}{f:Str}:∀{fs:List Str} {ds:List D} {xs:List V} {d:D},DenL K w n ds xs->jn f fs ds=some d->∃v,(fs.zip xs).lookup f=some v/\Den K w n d v
 |[],_,_,_,_,e=>by unfold jn at e;cases e
 |_::_,[],_,_,_,e=>by unfold jn at e;cases e
 |g::fs,a::ds,xs,d,h,e=>by
  unfold DenL at h
  obtain⟨v,ws,rfl,h1,h2⟩:=h
  unfold jn at e
  split at e
  ·rename_i hg
   subst hg
   cases e
   exact⟨v,by simp[List.lookup],h1⟩
  ·rename_i hg
   obtain⟨u,e1,e2⟩:=jiQ h2 e
   refine⟨u,?_,e2⟩
   have:(f==g)=false:=by simpa using hg
   rw[List.zip_cons_cons,List.lookup_cons,this]
   exact e1
theorem jsm {a:E}{i:Nat}{f:Str}{x:Expr}{pos:Pos}(o:Ok G j c X)(hp:jhp x=true)(hf:jqL G i f=true)(ha:Snd G X a x):Snd G X (.fld a i f) (.Attribute x f pos):=by
 obtain⟨g,C,k,fs,hg,hd,hm,hC,hN⟩:=jm0 o hf
 have hv:PE X (.Attribute x f pos) (T3E X.K (ev G (.fld a i f)).v):=by
  refine imE (jtx ha.v (joN hp)) fun σ H Q=>?_
  rintro⟨w,μ,ρ,d,μ',R,S,e,q⟩
  obtain⟨d1,μ1,e1,e⟩:=Out.bind_ok e
  rw[jeH hg,hd]at e
  refine⟨w,μ,ρ,d1,μ1,R,S,e1,fun w1 H1 v1 x1 R1 k1=>?_⟩
  have e':jvE C f d1 μ1=.ok d μ':=e
  unfold jvE at e'
  split at e'
  ·rename_i C' fs' ds'
   split at e'
   ·rename_i d0 hg0
    cases e'
    split at hg0
    ·rename_i hcc
     subst hcc
     unfold Den at k1
     obtain⟨b,dx,xs,rfl,h2,h3,h4⟩:=k1
     obtain⟨v,l1,l2⟩:=jiQ h4 hg0
     exact⟨b,C',dx,_,v,rfl,R1.sub _ _ h3,hC,hN,l1,q w1 H1 v x1 R1 l2⟩
    ·cases hg0
   ·cases e'
  ·rename_i kc
   split at e'
   ·rename_i C' fs' ds' hk
    split at e'
    ·rename_i d0 hg0
     cases e'
     split at hg0
     ·rename_i hcc
      subst hcc
      unfold Den at k1
      obtain⟨dx,xs,h2,h3,h4⟩:=(R1.liv kc _ hk).2
      obtain⟨v,l1,l2⟩:=jiQ h4 hg0
      exact⟨w1.γ kc,C',dx,_,v,k1.2,h3,hC,hN,l1,q w1 H1 v x1 R1 l2⟩
     ·cases hg0
    ·cases e'
   ·cases e'
  ·cases e'
 exact⟨hv,(jaE hv rfl).1,(jaE hv rfl).2⟩
theorem jvt {f:Nat}{x:Str}{pos:Pos}(o:Ok G j c X)(h:nmG G c f x=true):Snd G X (.gl f) (.Name x pos):=by
 obtain⟨g,hg,rfl,hok⟩:=juU h
 have hv:PE X (.Name g.name pos) (T3E X.K (ev G (.gl f)).v):=by
  cases hd:g.dat with
  |none=>
   intro pins s σ H Q I hw
   obtain⟨w,μ,ρ,d,μ',R,S,e,q⟩:=hw
   have e':glD (jfS G f) μ=.ok d μ':=e
   rw[jeH hg,hd]at e'
   cases e'
  |some t=>
   cases t with
   |dct kvs=>
    intro pins s σ H Q I hw
    obtain⟨w,μ,ρ,d,μ',R,S,e,q⟩:=hw
    have e':glD (jfS G f) μ=.ok d μ':=e
    rw[jeH hg,hd]at e'
    cases e'
   |cls C k fs=>
    intro pins s σ H Q I hw
    obtain⟨w,μ,ρ,d,μ',R,S,e,q⟩:=hw
    have e':glD (jfS G f) μ=.ok d μ':=e
    rw[jeH hg,hd]at e'
    cases e'
   |cst d0=>
    obtain⟨u,v,hm,rv,hden⟩:=o.dts f g _ hg hd
    refine imE (joT (jbu o hok) hm rv) fun σ H Q=>?_
    rintro⟨w,μ,ρ,d,μ',R,S,e,q⟩
    have e':glD (jfS G f) μ=.ok d μ':=e
    rw[jeH hg,hd]at e'
    cases e'
    exact jah R q (hden _ _)
 exact⟨hv,(jaE hv rfl).1,(jaE hv rfl).2⟩
end
end _L3
namespace _L3
open PySem PySem.Spec PyProof.Rows _L2
section
variable {K:PySem.W.Frag} {X:Cx} {G:List FnE} {j:Nat} {c:Stt}
theorem jo3 {ik:IK}{es:List E}{tg it:Expr}{as:List Expr}(o:Ok G j c X)(h:jcH c ik tg it=some as)(hA:PA X as (T3A X.K (evL G es)))(h1:∀e a,es=[e]->as=[a]->PE X a (T3E X.K (ev G e).v))(hl:es.length=as.length):PI X tg it (T3I X.K ik (evL G es)):=by
 have e1:∀e,(fun ρ μ=>((ev G e).v ρ μ).bind fun d μ1=>(Out.ok [] μ1).bind fun ds μ2=>Out.ok (d::ds) μ2)=evL G [e]:=fun e=>rfl
 cases ik with
 |seq=>
  cases h
  obtain⟨e0,rfl⟩:∃e0,es=[e0]:=List.length_eq_one_iff.mp hl
  rw[<- e1]
  exact jrl (h1 e0 _ rfl rfl)
 |str=>
  cases h
  obtain⟨e0,rfl⟩:∃e0,es=[e0]:=List.length_eq_one_iff.mp hl
  rw[<- e1]
  exact jrE (h1 e0 _ rfl rfl)
 |items=>cases h
 |enm=>
  simp only[jcH]at h
  split at h
  ·rename_i x a hx
   split at h
   ·rename_i hc
    cases h
    obtain⟨p,q,rfl⟩:=jcG hx
    simp only[Bool.and_eq_true,beq_iff_eq]at hc
    obtain⟨⟨⟨rfl,c2⟩,c3⟩,c4⟩:=hc
    cases tg with
    |Tuple elts k tp=>exact jqD (jbu o c2) (mg_of o (by decide +kernel)) hA c3
    |_=>cases c4
   ·cases h
  ·cases h
 |zip=>
  simp only[jcH]at h
  split at h
  ·rename_i x a b hx
   split at h
   ·rename_i hc
    cases h
    obtain⟨p,q,rfl⟩:=jcG hx
    simp only[Bool.and_eq_true,beq_iff_eq]at hc
    obtain⟨⟨⟨rfl,c2⟩,c3⟩,c4⟩:=hc
    cases tg with
    |Tuple elts k tp=>exact jqS (jbu o c2) (mg_of o (by decide +kernel)) hA c3
    |_=>cases c4
   ·cases h
  ·cases h
 |rng1=>
  simp only[jcH]at h
  split at h
  ·rename_i x a hx
   split at h
   ·rename_i hc
    cases h
    obtain⟨p,q,rfl⟩:=jcG hx
    simp only[Bool.and_eq_true,beq_iff_eq]at hc
    obtain⟨⟨rfl,c2⟩,c3⟩:=hc
    exact jqp (jbu o c2) (mg_of o (by decide +kernel)) hA c3
   ·cases h
  ·cases h
 |rng2=>
  simp only[jcH]at h
  split at h
  ·rename_i x a b hx
   split at h
   ·rename_i hc
    cases h
    obtain⟨p,q,rfl⟩:=jcG hx
    simp only[Bool.and_eq_true,beq_iff_eq]at hc
    obtain⟨⟨rfl,c2⟩,c3⟩:=hc
    exact jrv (jbu o c2) (mg_of o (by decide +kernel)) hA c3
   ·cases h
  ·cases h
theorem jj4 {t:Expr}{scope:Scope}(o:Ok G j c X)(hnd:(jft (jcg t) c.N).Nodup)(C:Addr)(fp:List Addr)(s:Shared)(H:Hp):Ok G j (jfm c t scope) (jbi X (jft (jcg t) c.N) scope C fp s H) where
 hN:=rfl
 nd:=hnd
 sc:=by
  show relabel scope X.env=jf scope c.sc
  rw[jmc,o.sc]
 calm:=o.calm
 room:=o.room
 mg:=o.mg
 fns:=o.fns
 dts:=o.dts
 fn:=fun h=>by cases h
structure CompOk (G:List FnE) (X:Cx) (tg:Tg) (ik:IK) (es ifs:List E) (elt:E) (own:List Str) (N':List Str) (scope:Scope) (t it:Expr) (fs:List Expr) (el:Expr):Prop where
 cs:CompScope X own N' scope
 hit:PI X t it (T3I X.K ik (evL G es))
 hg:∀C fp s H,PG (jbi X N' scope C fp s H) t (gOf X.K tg)
 ht:(∀C fp s H,PTs (jbi X N' scope C fp s H) fs (T3T X.K (evTs G ifs)))
 he:∀C fp s H,PE (jbi X N' scope C fp s H) el (T3E X.K (ev G elt).v)
 ns:jdQ it=true
theorem jmn {m:Bool}{own:Nat}{tg:Tg}{g:TG}{ik:IK}{es ifs:List E}{elt:E}(hT:jqk K tg g){σ:_L2.St}{H:Hp}{Q:VK}:T3E K (ev G (.comp m own tg ik es ifs elt)).v σ H Q->jp0 own (T3I K ik (evL G es)) g (T3T K (evTs G ifs)) (T3E K (ev G elt).v) σ H Q:=by
 rintro⟨w,μ,ρ,d,μ',R,S,e,q⟩
 obtain⟨ds,μ1,e1,e⟩:=Out.bind_ok e
 split at e
 ·rename_i xs hx
  split at e
  ·rename_i hz
   obtain⟨ys,μ2,e2,e3⟩:=Out.bind_ok e
   exact⟨w,μ,ρ,ds,μ1,xs,R,S,e1,hx,fun w1 H1 J x1 R1 hJ=>jng hT R1 (S.mono x1) hJ hz e2 e3 fun w2 H2 v x2 R2 d2=>q w2 H2 v (x1.trans x2) R2 d2⟩
  ·cases e
 ·cases e
theorem jnf {m:Bool}{own:List Str}{tg:Tg}{ik:IK}{es ifs:List E}{elt:E}{N':List Str}{scope:Scope}{t it el:Expr}{fs:List Expr}{pos:Pos}(o:Ok G j c X)(h:CompOk G X tg ik es ifs elt own N' scope t it fs el):Snd G X (.comp m own.length tg ik es ifs elt) (.ListComp el [⟨t,it,fs,0⟩] scope pos):=by
 have hv:PE X (.ListComp el [⟨t,it,fs,0⟩] scope pos) (T3E X.K (ev G (.comp m own.length tg ik es ifs elt)).v):=imE (jrA o.calm h.cs h.hit h.hg h.ht h.he (jeo h.ns)) fun σ H Q q=>jmn (jdV tg) q
 exact⟨hv,(jaE hv rfl).1,(jaE hv rfl).2⟩
end
noncomputable def jvR (G:List FnE)(j:Nat)(own:Nat)(tg:Tg)(ik:IK)(es ifs:List E)(elt:E)(c:Stt):Expr->Comprehension->Scope->Bool:=fun el g scope=>g.is_async==0&&own==(jcg g.target).length&&jwY c.N c.sc (jcg g.target) (jft (jcg g.target) c.N) scope&&decide (jft (jcg g.target) c.N).Nodup&&jdQ g.iter&&(match jcH c ik g.target g.iter with
   |some as=>chkL G j es c as
   |none=>false)&&jcE (jfm c g.target scope) tg g.target&&chkTs G j ifs (jfm c g.target scope) g.ifs&&chk G j elt (jfm c g.target scope) el
section
variable {G:List FnE} {j:Nat}
mutual
theorem snd:∀(ir:E) {c:Stt} {X:Cx} {e:Expr},Ok G j c X->chk G j ir c e=true->Snd G X ir e
 |.var i,c,X,e,o,h=>jsz o h
 |.cst d,c,X,e,o,h=>jr1 h
 |.bin op m a b,c,X,e,o,h=>by
  have hh:=jqa (P:=fun x o y _=>o==op&&chk G j a c x&&chk G j b c y) h
  clear h
  obtain⟨x,o',y,p,rfl,h⟩:=hh
  simp only[Bool.and_eq_true,beq_iff_eq]at h
  obtain⟨⟨rfl,h1⟩,h2⟩:=h
  exact jqB (snd a o h1) (snd b o h2)
 |.neg a,c,X,e,o,h=>by
  have hh:=jqZ (P:=fun x=>chk G j a c x) h
  clear h
  obtain⟨x,p,rfl,h⟩:=hh
  exact jsc (snd a o h)
 |.not_ a,c,X,e,o,h=>by
  have hh:=jrk (P:=fun x=>chk G j a c x&&tst x) h
  clear h
  obtain⟨x,p,rfl,h⟩:=hh
  simp only[Bool.and_eq_true]at h
  exact jsG h.2 (snd a o h.1)
 |.and_ a b,c,X,e,o,h=>by
  have hh:=jr7 (P:=fun x y=>chk G j a c x&&tst x&&(chk G j b c y&&tst y)) (R:=fun x y z rest p=>chk G j a c x&&tst x&&chk G j b c (.BoolOp .And (y::z::rest) p)) h
  clear h
  rcases hh with⟨x,y,p,rfl,h⟩|⟨x,y,z,rest,p,rfl,h⟩
  ·simp only[Bool.and_eq_true]at h
   exact jnr h.1.2 h.2.2 (snd a o h.1.1) (snd b o h.2.1)
  ·simp only[Bool.and_eq_true]at h
   exact joR h.1.2 (snd a o h.1.1) (snd b o h.2)
 |.or_ a b,c,X,e,o,h=>by
  have hh:=juJ (P:=fun x y=>chk G j a c x&&tst x&&(chk G j b c y&&tst y)) (R:=fun x y z rest p=>chk G j a c x&&tst x&&chk G j b c (.BoolOp .Or (y::z::rest) p)) h
  clear h
  rcases hh with⟨x,y,p,rfl,h⟩|⟨x,y,z,rest,p,rfl,h⟩
  ·simp only[Bool.and_eq_true]at h
   exact jry h.1.2 h.2.2 (snd a o h.1.1) (snd b o h.2.1)
  ·simp only[Bool.and_eq_true]at h
   exact jpS h.1.2 (snd a o h.1.1) (snd b o h.2)
 |.cmp op a b,c,X,e,o,h=>by
  have hh:=jiK (P:=fun x o y=>o==op&&chk G j a c x&&chk G j b c y&&!(behindInMarks o y)) h
  clear h
  obtain⟨x,o',y,p,rfl,h⟩:=hh
  simp only[Bool.and_eq_true,beq_iff_eq,Bool.not_eq_true']at h
  obtain⟨⟨⟨rfl,h1⟩,h2⟩,h3⟩:=h
  exact jqv o h3 (snd a o h1) (snd b o h2)
 |.chain o1 o2 a b d,c,X,e,o,h=>by
  have hh:=jlo (P:=fun x p q y z=>p==o1&&q==o2&&chk G j a c x&&chk G j b c y&&chk G j d c z&&!(lastMarks [p,q] [y,z])) h
  clear h
  obtain⟨x,p,q,y,z,r,rfl,h⟩:=hh
  simp only[Bool.and_eq_true,beq_iff_eq,Bool.not_eq_true']at h
  obtain⟨⟨⟨⟨⟨rfl,rfl⟩,h1⟩,h2⟩,h3⟩,h4⟩:=h
  exact jmS o h4 (snd a o h1) (snd b o h2) (snd d o h3)
 |.isN a,c,X,e,o,h=>by
  have hh:=jiK (P:=fun x o y=>o==.Is&&jeR y&&chk G j a c x) h
  clear h
  obtain⟨x,o',y,p,rfl,h⟩:=hh
  simp only[Bool.and_eq_true,beq_iff_eq]at h
  obtain⟨⟨rfl,h1⟩,h2⟩:=h
  obtain⟨k,q,rfl⟩:=jgy h1
  exact jrm (snd a o h2)
 |.notN a,c,X,e,o,h=>by
  have hh:=jiK (P:=fun x o y=>o==.IsNot&&jeR y&&chk G j a c x) h
  clear h
  obtain⟨x,o',y,p,rfl,h⟩:=hh
  simp only[Bool.and_eq_true,beq_iff_eq]at h
  obtain⟨⟨rfl,h1⟩,h2⟩:=h
  obtain⟨k,q,rfl⟩:=jgy h1
  exact jnK (snd a o h2)
 |.ife k a b,c,X,e,o,h=>by
  have hh:=jsH (P:=fun z x y=>chk G j k c z&&tst z&&chk G j a c x&&chk G j b c y) h
  clear h
  obtain⟨z,x,y,p,rfl,h⟩:=hh
  simp only[Bool.and_eq_true]at h
  obtain⟨⟨⟨h1,h2⟩,h3⟩,h4⟩:=h
  exact jsg h2 (snd k o h1) (snd a o h3) (snd b o h4)
 |.tup es,c,X,e,o,h=>by
  have hh:=jqg (P:=fun xs=>chkL G j es c xs&&jai xs) h
  clear h
  obtain⟨xs,k,p,rfl,h⟩:=hh
  simp only[Bool.and_eq_true]at h
  exact jns (sndL es o h.1).1
 |.lst m es,c,X,e,o,h=>by
  have hh:=jrC (P:=fun xs=>chkL G j es c xs&&jai xs) h
  clear h
  obtain⟨xs,p,rfl,h⟩:=hh
  simp only[Bool.and_eq_true]at h
  exact joI (sndL es o h.1).1
 |.ix a b,c,X,e,o,h=>by
  have hh:=jsF (P:=fun x y=>chk G j a c x&&chk G j b c y&&jfh y) h
  clear h
  obtain⟨x,y,p,rfl,h⟩:=hh
  simp only[Bool.and_eq_true]at h
  exact ju3 o h.2 (snd a o h.1.1) (snd b o h.1.2)
 |.sl m a lo hi,c,X,e,o,h=>by
  have hh:=jt1 (P:=fun x l u=>chk G j a c x&&chkL G j lo c l.toList&&chkL G j hi c u.toList) h
  clear h
  obtain⟨x,l,u,p,q,rfl,h⟩:=hh
  simp only[Bool.and_eq_true]at h
  obtain⟨⟨h1,h2⟩,h3⟩:=h
  have k1:=sndL lo o h2
  have k2:=sndL hi o h3
  exact jui (snd a o h1) (jtE (fun e x e1 e2=>k1.2.1 e x e1 (by rw[e2];rfl)) k1.2.2) (jtE (fun e x e1 e2=>k2.2.1 e x e1 (by rw[e2];rfl)) k2.2.2)
 |.stp m a lo st,c,X,e,o,h=>by
  have h':false=true:=h
  cases h'
 |.fld a i f,c,X,e,o,h=>by
  have hh:=jrS (P:=fun x n=>n==f&&jhp x&&jqL G i f&&chk G j a c x) h
  clear h
  obtain⟨x,n,p,rfl,h⟩:=hh
  simp only[Bool.and_eq_true,beq_iff_eq]at h
  obtain⟨⟨⟨rfl,h1⟩,h2⟩,h3⟩:=h
  exact jsm o h1 h2 (snd a o h3)
 |.call f md es,c,X,e,o,h=>by
  have hh:=jfb (P:=fun x _ y ys _=>(match G[f]? with
   |some g=>g.name==x&&jbI c.sc x&&es.length==g.ps.length&&decide (g.lv<=j)
   |none=>false)&&chkL G j es c (y::ys)&&jai (y::ys)) h
  clear h
  obtain⟨x,q,y,ys,p,rfl,h⟩:=hh
  simp only[Bool.and_eq_true]at h
  obtain⟨⟨h1,h2⟩,h3⟩:=h
  split at h1
  ·rename_i g hg
   simp only[Bool.and_eq_true,beq_iff_eq,decide_eq_true_eq]at h1
   obtain⟨⟨⟨a1,a2⟩,a3⟩,a4⟩:=h1
   exact jod o hg a1 a2 a3 a4 h3 (sndL es o h2).1
  ·cases h1
 |.bi b m es,c,X,e,o,h=>by
  have hh:=jfb (P:=fun x _ y ys _=>jjR b==x&&jbI c.sc x&&jai (y::ys)&&(match jdf c b (y::ys)with
   |some as=>chkL G j es c as
   |none=>false)) h
  clear h
  obtain⟨x,q,y,ys,p,rfl,h⟩:=hh
  simp only[Bool.and_eq_true,beq_iff_eq]at h
  obtain⟨⟨⟨h1,h2⟩,h3⟩,h4⟩:=h
  split at h4
  ·rename_i as ha
   have k:=sndL es o h4
   exact juS o h1 h2 h3 ha k.1 k.2.1 k.2.2
  ·cases h4
 |.mt b ob es,c,X,e,o,h=>by
  have hh:=jug (P:=fun z n q y ys p=>jjC b==n&&chk G j ob c z&&jcF z&&jai (y::ys)&&decide (ys.length<28)&&(q.endLine==p.line)&&chkL G j es c (y::ys)) h
  clear h
  obtain⟨z,n,q,y,ys,p,rfl,h⟩:=hh
  simp only[Bool.and_eq_true,beq_iff_eq,decide_eq_true_eq]at h
  obtain⟨⟨⟨⟨⟨⟨rfl,h1⟩,h2⟩,h3⟩,h4⟩,h5⟩,h6⟩:=h
  exact jtU o (snd ob o h1) h2 h3 h4 (by simpa using h5) (sndL es o h6).1
 |.comp m own tg ik es ifs elt,c,X,e,o,h=>by
  have hh:=jjH (P:=jvR G j own tg ik es ifs elt c) h
  clear h
  obtain⟨el,g,scope,p,rfl,h⟩:=hh
  obtain⟨t,it,fs,kk⟩:=g
  simp only[jvR,Bool.and_eq_true,beq_iff_eq,decide_eq_true_eq]at h
  obtain⟨⟨⟨⟨⟨⟨⟨⟨rfl,rfl⟩,h1⟩,h2⟩,h3⟩,h4⟩,h5⟩,h6⟩,h7⟩:=h
  split at h4
  ·rename_i as ha
   have k:=sndL es o h4
   have oi:=jj4 (t:=t) (scope:=scope) o h2
   exact jnf o ⟨csk (by rw[o.hN,o.sc];exact h1),jo3 o ha k.1 k.2.1 k.2.2,fun C fp s H=>(jkC (oi C fp s H) h5).1,fun C fp s H=>sndT ifs (oi C fp s H) h6,fun C fp s H=>(snd elt (oi C fp s H) h7).v,h3⟩
  ·cases h4
 |.gl f,c,X,e,o,h=>by
  have hh:=jjZ (P:=fun x _=>nmG G c f x) h
  clear h
  obtain⟨x,p,rfl,h⟩:=hh
  exact jvt o h
 |.gget f a d,c,X,e,o,h=>by
  have h':false=true:=h
  cases h'
 |.gin neg f a,c,X,e,o,h=>by
  have h':false=true:=h
  cases h'
 |.gix f a,c,X,e,o,h=>by
  have h':false=true:=h
  cases h'
theorem sndT:∀(ifs:List E) {c:Stt} {X:Cx} {xs:List Expr},Ok G j c X->chkTs G j ifs c xs=true->PTs X xs (T3T X.K (evTs G ifs))
 |[],c,X,xs,o,h=>by
  cases xs with
  |nil=>
   intro pins s σ H Q I hw
   refine jq6 pins s σ H Q I ?_
   rw[joF]at hw
   obtain⟨w,μ,ρ,b,μ',R,S,e,q⟩:=hw
   cases e
   exact q w H (Ext.refl _ _) R
  |cons x xs=>have h':false=true:=h;cases h'
 |[e],c,X,xs,o,h=>by
  match xs,h with
  |[x],h=>
   have h:(chk G j e c x&&tst x)=true:=h
   simp only[Bool.and_eq_true]at h
   rw[jow]
   exact jq2 ((snd e o h.1).t h.2)
  |[],h=>have h':false=true:=h;cases h'
  |_::_::_,h=>have h':false=true:=h;cases h'
 |e::e'::es,c,X,xs,o,h=>by
  cases xs<;>(have h':false=true:=h;cases h')
theorem sndL:∀(es:List E) {c:Stt} {X:Cx} {xs:List Expr},Ok G j c X->chkL G j es c xs=true->PA X xs (T3A X.K (evL G es))/\(∀e a,es=[e]->xs=[a]->PE X a (T3E X.K (ev G e).v))/\es.length=xs.length
 |[],c,X,xs,o,h=>by
  cases xs with
  |nil=>exact⟨imA jb6 fun σ H Q q=>jvx (by rw[jpV]at q;exact q),(fun e a h=>by cases h),rfl⟩
  |cons x xs=>have h':false=true:=h;cases h'
 |e::es,c,X,xs,o,h=>by
  cases xs with
  |nil=>have h':false=true:=h;cases h'
  |cons x xs=>
   have h:(chk G j e c x&&jax x&&chkL G j es c xs)=true:=h
   simp only[Bool.and_eq_true]at h
   have k1:=snd e o h.1.1
   have k2:=sndL es o h.2
   exact⟨imA (pac k1.v k2.1 h.1.2) fun σ H Q q=>jqK (by rw[jo0]at q;exact q),(fun e' a h1 h2=>by cases h1;cases h2;exact k1.v),by simp[k2.2.2]⟩
end
end
end _L3
namespace _L3
open PySem PySem.Spec PyProof.Rows _L2
noncomputable def jfu:Expr->Bool
 |.Tuple ..=>true
 |_=>false
noncomputable def juA (sc:Scope)(y:Str)(py:Pos)(v:Expr):Bool:=
 match v with
 |.ListComp _ _ s p=>sc.names.lookup y==some .local&&py.line==p.line&&!(s.names.any fun(n,k)=>n==y&&(k==.local||k==.cell))
 |_=>false
noncomputable def tgV (tg:Tg)(v:Expr):Bool:=
 match tg with
 |.nm _=>true
 |.tp _=>notComp v&&!(jfu v)
noncomputable def jpK:E->Bool
 |.comp ..=>true
 |_=>false
noncomputable def joE (e:E)(v:Expr):Bool:=jpK e||notComp v
noncomputable def jmX:Expr->Option (Expr×Str)
 |.Attribute x n _=>some (x,n)
 |_=>none
theorem jlr {e x:Expr}{n:Str}(h:jmX e=some (x,n)):∃p,e=.Attribute x n p:=by
 unfold jmX at h
 split at h
 ·cases h
  exact⟨_,rfl⟩
 ·cases h
noncomputable def jjW:Expr->Option (Expr×Expr)
 |.Tuple es _ _=>match es with
  |[a,b]=>some (a,b)
  |_=>none
 |_=>none
theorem jii {e a b:Expr}(h:jjW e=some (a,b)):∃k p,e=.Tuple [a,b] k p:=by
 unfold jjW at h
 split at h
 ·split at h
  ·cases h
   exact⟨_,_,rfl⟩
  ·cases h
 ·cases h
noncomputable def jhA:Expr->Option (Str×Pos)
 |.Name x p=>some (x,p)
 |_=>none
theorem jgC {e:Expr}{x:Str}{p:Pos}(h:jhA e=some (x,p)):e=.Name x p:=by
 unfold jhA at h
 split at h
 ·cases h
  rfl
 ·cases h
noncomputable def nmL (c:Stt)(i:Nat)(x:Str):Bool:=c.N[i]?==some x&&c.sc.names.lookup x==some .local
section
variable (G:List FnE) (j:Nat)
mutual
noncomputable def jsN:S->Stt->Stmt->Bool
 |.asg tg e,c,st=>match st with
  |.Assign [t] v _=>chk G j e c v&&jcE c tg t&&!c.cmp&&tgV tg v&&joE e v
  |_=>false
 |.par i k a b,c,st=>match st with
  |.Assign ts v _=>match ts with
   |[t]=>match jjW t,jjW v with
    |some (t1,t2),some (x1,x2)=>match jhA t1,jhA t2 with
     |some (x,px),some (y,py)=>nmL c i x&&nmL c k y&&(py.line==px.line)&&!(x==y)&&!(i==k)&&jax x1&&jax x2&&!(foldedForSure 8 x1&&foldedForSure 8 x2)&&!(constantsAlone 8 x1&&constantsAlone 8 x2)&&chk G j a c x1&&chk G j b c x2
     |_,_=>false
    |_,_=>false
   |_=>false
  |_=>false
 |.unp is e,c,st=>match st with
  |.Assign [t] v _=>chk G j e c v&&jcE c (.tp is) t&&notComp v&&!(jfu v)
  |_=>false
 |.setF o i f e,c,st=>match st with
  |.Assign ts v _=>match ts with
   |[t]=>match jmX t with
    |some (x,n)=>n==f&&jqL G i f&&chk G j e c v&&chk G j o c x&&notComp v
    |none=>false
   |_=>false
  |_=>false
 |.setI _ _ _,_,_=>false
 |.ex e,c,st=>match st with
  |.Expr v _=>chk G j e c v&&notComp v
  |_=>false
 |.ite k a b,c,st=>match st with
  |.If x ss tt _=>chk G j k c x&&tst x&&chkSs a c ss&&chkSs b c tt
  |_=>false
 |.for_ tg ik es body _,c,st=>match st with
  |.For t it ss [] _=>jdQ it&&(match jcH c ik t it with
   |some as=>chkL G j es c as
   |none=>false)&&jcE c tg t&&chkSs body c ss
  |_=>false
 |.ret e,c,st=>match st with
  |.Return (some v) _=>chk G j e c v
  |_=>false
 |.retN,_,st=>match st with
  |.Return none _=>true
  |_=>false
 |.pass,_,st=>match st with
  |.Pass _=>true
  |_=>false
 |.never,_,_=>true
noncomputable def chkSs:List S->Stt->List Stmt->Bool
 |[],_,[]=>true
 |s::ss,c,t::ts=>jsN s c t&&chkSs ss c ts
 |_,_,_=>false
end
end
theorem ji0 {P:Expr->Expr->Pos->Bool}{e:Stmt}(h:(match e with
  |.Assign [t] v p=>P t v p
  |_=>false)=true):∃t v p,e=.Assign [t] v p/\P t v p=true:=by
 split at h
 ·exact⟨_,_,_,rfl,h⟩
 ·cases h
theorem jpt {P:Expr->Bool}{e:Stmt}(h:(match e with
  |.Expr v _=>P v
  |_=>false)=true):∃v p,e=.Expr v p/\P v=true:=by
 split at h
 ·exact⟨_,_,rfl,h⟩
 ·cases h
theorem jpB {P:Expr->List Stmt->List Stmt->Bool}{e:Stmt}(h:(match e with
  |.If x ss tt _=>P x ss tt
  |_=>false)=true):∃x ss tt p,e=.If x ss tt p/\P x ss tt=true:=by
 split at h
 ·exact⟨_,_,_,_,rfl,h⟩
 ·cases h
theorem jmI {P:Expr->Expr->List Stmt->Bool}{e:Stmt}(h:(match e with
  |.For t it ss [] _=>P t it ss
  |_=>false)=true):∃t it ss p,e=.For t it ss [] p/\P t it ss=true:=by
 split at h
 ·exact⟨_,_,_,_,rfl,h⟩
 ·cases h
theorem jmV {P:Expr->Bool}{e:Stmt}(h:(match e with
  |.Return (some v) _=>P v
  |_=>false)=true):∃v p,e=.Return (some v) p/\P v=true:=by
 split at h
 ·exact⟨_,_,rfl,h⟩
 ·cases h
theorem joY {e:Stmt}(h:(match e with
  |.Return none _=>true
  |_=>false)=true):∃p,e=.Return none p:=by
 split at h
 ·exact⟨_,rfl⟩
 ·cases h
theorem jnx {e:Stmt}(h:(match e with
  |.Pass _=>true
  |_=>false)=true):∃p,e=.Pass p:=by
 split at h
 ·exact⟨_,rfl⟩
 ·cases h
structure OkS (G:List FnE) (j:Nat) (c:Stt) (X:Cx):Prop extends Ok G j c X where
 pass:PassesOwn (model X.prog X.w) X.A X.env X.xe
 kd:c.sc.kind=.function
section
variable {K:PySem.W.Frag} {X:Cx} {G:List FnE} {j:Nat} {c:Stt}
theorem jje {tg:Tg}{e:E}{te:TE}{g:TG}(hT:jqk K tg g)(he:∀σ H Q,T3E K (ev G e).v σ H Q->te σ H Q){E:Ends}{σ:_L2.St}{H:Hp}:T3S K (run G (.asg tg e)) E σ H->jsO te g E σ H:=by
 rintro⟨w,μ,ρ,fl,μ',R,S,e1,q⟩
 obtain⟨d,μ1,e2,e1⟩:=Out.bind_ok e1
 refine he σ H _ ⟨w,μ,ρ,d,μ1,R,S,e2,fun w1 H1 v x1 R1 d1=>?_⟩
 split at e1
 ·rename_i ρ1 ha
  cases e1
  exact hT w1 _ H1 ρ ρ1 σ d v E.nx R1 (S.mono x1) d1 ha fun σ' S'=>q w1 H1 x1 R1 σ' S'
 ·cases e1
theorem jnv {sc:Scope}{y:Str}{py p:Pos}{el:Expr}{gs:List Comprehension}{s:Scope}{l:Nat}(hs:X.env.scope=sc)(hk:sc.kind=.function):swapsWith (.ListComp el gs s p) (some (.Name y py)) l X.env=pure (juA sc y py (.ListComp el gs s p)):=by
 have hb:X.env.blockKind=.function:=by
  unfold Env.blockKind
  rw[hs,hk]
  rfl
 have hq:X.env.kindOf y=sc.names.lookup y:=by
  rw[<- hs]
  rfl
 show(pure (X.env.blockKind==.function&&X.env.kindOf y==some .local&&py.line==p.line&&!(s.names.any fun(n,k)=>n==y&&(k==.local||k==.cell))):Sem Bool)=_
 rw[hb,hq]
 rfl
theorem jeL {es:List Expr}{k:Nat}{p:Pos}{v:Expr}{env:Env}(h:jfu v=false):swappedStores [.Tuple es k p] v env=pure none:=by
 cases v<;>first|rfl|cases h
theorem jqb {tg:Tg}{e:E}{t v:Expr}{pos:Pos}(o:OkS G j c X)(he:chk G j e c v=true)(ht:jcE c tg t=true)(hcm:c.cmp=false)(hx:tgV tg v=true)(hcp:joE e v=true):PS X (.Assign [t] v pos) (T3S X.K (run G (.asg tg e))):=by
 have k:=snd e o.toOk he
 obtain⟨hg,hst⟩:=jkC o.toOk ht
 cases tg with
 |tp is=>
  simp only[tgV,Bool.and_eq_true,Bool.not_eq_true']at hx
  have hst2:swappedStores [t] v X.env=pure none:=by
   cases t with
   |Tuple es k p=>exact jeL hx.2
   |_=>cases ht
  exact imS (jlv k.v hg (show swapsWith v (some t) pos.line X.env=pure false from jbQ hx.1) hst2 (by rw[jee hst];rfl)) fun E σ H q=>jje (jdV _) (fun _ _ _ q=>q) q
 |nm i=>
  have ht':jh9 c i t=true:=ht
  unfold jh9 at ht'
  split at ht'
  ·rename_i x px
   rw[hcm]at ht'
   have hok:jfk c.N c.sc i x=true:=ht'
   have hok':jfk X.N X.env.scope i x=true:=by rw[o.hN,o.sc];exact hok
   have hnd:X.N.Nodup:=by rw[o.hN];exact o.nd
   have hfn:X.fn x=true:=o.fn hcm x
   cases hI:jpK e with
   |false=>
    have hc:notComp v=true:=by simpa[joE,hI]using hcp
    exact imS (jgY hnd hok' k.v hc hfn) fun E σ H q=>jje (g:=jej i) (jdV (.nm i)) (fun _ _ _ q=>q) q
   |true=>
    cases e with
    |comp m own tg' ik es ifs elt=>
     have hh:=jjH (P:=jvR G j own tg' ik es ifs elt c) he
     clear he
     obtain⟨el,g,s,p,rfl,he⟩:=hh
     obtain⟨t',it,fs,kk⟩:=g
     simp only[jvR,Bool.and_eq_true,beq_iff_eq,decide_eq_true_eq]at he
     obtain⟨⟨⟨⟨⟨⟨⟨⟨rfl,rfl⟩,h1⟩,h2⟩,h3⟩,h4⟩,h5⟩,h6⟩,h7⟩:=he
     ·have hs:=jnv (X:=X) (sc:=c.sc) (y:=x) (py:=px) (p:=p) (el:=el) (gs:=[⟨t',it,fs,0⟩]) (s:=s) (l:=pos.line) o.sc o.kd
      cases hsw:juA c.sc x px (.ListComp el [⟨t',it,fs,0⟩] s p)with
      |false=>
       rw[hsw]at hs
       exact imS (jpm hnd (jbZ hok').1 (jbZ hok').2 k.v hs (.inl hfn)) fun E σ H q=>jje (g:=jej i) (jdV (.nm i)) (fun _ _ _ q=>q) q
      |true=>
       rw[hsw]at hs
       split at h4
       ·rename_i as ha
        have kk:=sndL es o.toOk h4
        have oi:=jj4 (t:=t') (scope:=s) o.toOk h2
        exact imS (jkS hnd (jbZ hok').1 (jbZ hok').2 o.calm (csk (by rw[o.hN,o.sc];exact h1)) (jo3 o.toOk ha kk.1 kk.2.1 kk.2.2) (fun C fp s H=>(jkC (oi C fp s H) h5).1) (fun C fp s H=>sndT ifs (oi C fp s H) h6) (fun C fp s H=>(snd elt (oi C fp s H) h7).v) hs (jeo h3) (.inl hfn))
         fun E σ H q=>jje (g:=jej i) (jdV (.nm i)) (fun _ _ _ q=>jmn (jdV tg') q) q
       ·cases h4
    |_=>cases hI
  ·cases ht'
theorem jkp {x y:Str}{px py pt pt2:Pos}{kt k2:Nat}{a b:Expr}{env:Env}(hb:env.blockKind=.function)(hx:env.kindOf x=some .local)(hy:env.kindOf y=some .local)(hl:(py.line==px.line)=true)(hne:x≠y)(h1:jax a=true)(h2:jax b=true)
  (h3:(foldedForSure 8 a&&foldedForSure 8 b)=false) (h4:(constantsAlone 8 a&&constantsAlone 8 b)=false) :
  swappedStores [.Tuple [.Name x px,.Name y py] kt pt] (.Tuple [a,b] k2 pt2) env=pure (some [x,y]):=by
 have e2:([a,b].all (foldedForSure 8))=false:=by simpa using h3
 have e3:([a,b].all (constantsAlone 8))=false:=by simpa using h4
 have e4:([x,y]:List Str).eraseDups.length=2:=by
  have:(y==x)=false:=by simpa using fun h=>hne h.symm
  simp[List.eraseDups_cons,this]
 unfold swappedStores
 dsimp only
 rw[hb,if_neg (by simp),if_neg]
 ·have e5:(Expr.Name x px).pos.line=px.line:=rfl
  simp only[List.filterMap_cons,List.filterMap_nil,hx,hy,beq_self_eq_true,Bool.true_and,if_true,List.head?_cons,Option.map_some,Option.getD_some,e5,hl]
  rw[if_neg (by simp[e4]),if_neg (by rw[e2];decide),if_neg (by rw[e3];decide)]
 ·simp only[List.any_cons,List.any_nil,Bool.or_false,Bool.or_eq_true]
  rintro(h|h)
  ·cases a<;>first|(cases h;done)|cases h1
  ·cases b<;>first|(cases h;done)|cases h2
theorem jr3 {i k:Nat}{a b:E}{x y:Str}{px py pt pt2 pos:Pos}{kt k2:Nat}{x1 x2:Expr}(o:OkS G j c X)(hi:nmL c i x=true)(hk:nmL c k y=true)(hl:(py.line==px.line)=true)(hne:x≠y)(hik:i≠k)(s1:jax x1=true)(s2:jax x2=true)(h3:(foldedForSure 8 x1&&foldedForSure 8 x2)=false)(h4:(constantsAlone 8 x1&&constantsAlone 8 x2)=false)(ha:chk G j a c x1=true)(hb:chk G j b c x2=true) :
  PS X (.Assign [.Tuple [.Name x px,.Name y py] kt pt] (.Tuple [x1,x2] k2 pt2) pos) (T3S X.K (run G (.par i k a b))):=by
 unfold nmL at hi hk
 simp only[Bool.and_eq_true,beq_iff_eq]at hi hk
 have k1:=snd a o.toOk ha
 have k2:=snd b o.toOk hb
 have hbk:X.env.blockKind=.function:=by
  unfold Env.blockKind
  rw[o.sc,o.kd]
  rfl
 have hq:∀z,X.env.kindOf z=c.sc.names.lookup z:=fun z=>by rw[<- o.sc];rfl
 refine imS (juM o.calm (by rw[o.hN];exact o.nd) (by rw[o.hN];exact hi.1) (by rw[o.hN];exact hk.1) hik (by rw[o.sc];exact hi.2) (by rw[o.sc];exact hk.2) (pac k1.v (pac k2.v jb6 s2) s1)
  (jkp hbk (by rw[hq];exact hi.2) (by rw[hq];exact hk.2) hl hne s1 s2 h3 h4)) fun E σ H=>?_
 rintro⟨w,μ,ρ,fl,μ',R,S,e1,q⟩
 obtain⟨d,μ1,a1,e1⟩:=Out.bind_ok e1
 obtain⟨d2,μ2,a2,e1⟩:=Out.bind_ok e1
 cases e1
 refine⟨w,μ,ρ,d,μ1,R,S,a1,fun w1 H1 v1 x1 R1 k1=>⟨w1,μ1,ρ,d2,_,R1,S.mono x1,a2,fun w2 H2 v2 x2 R2 k2=>⟨v1,v2,rfl,?_⟩⟩⟩
 exact q w2 H2 (x1.trans x2) R2 _ (((S.mono (x1.trans x2)).set (k1.mono x2) i).set k2 k)
theorem jpY {is:List Nat}{e:E}{t v:Expr}{pos:Pos}(o:OkS G j c X)(he:chk G j e c v=true)(ht:jcE c (.tp is) t=true)(hc:notComp v=true)(hx:jfu v=false):PS X (.Assign [t] v pos) (T3S X.K (run G (.unp is e))):=by
 have k:=snd e o.toOk he
 unfold jcE at ht
 split at ht
 ·rename_i hh
  cases hh
 ·rename_i is' es kk pp hh
  cases hh
  simp only[Bool.and_eq_true]at ht
  obtain⟨h1,h2⟩:=ht
  obtain⟨p1,p2⟩:=jg6 o.toOk h1
  have hg:=jt7 (k:=kk) (pos:=pp) o.calm p1 ((jf5 h2).1.trans p2) (jf5 h2).2
  refine imS (jlv k.v hg (show swapsWith v (some (.Tuple es kk pp)) pos.line X.env=pure false from jbQ hc) (jeL hx) (by rw[jee (show jax (.Tuple es kk pp)=true from rfl)];rfl)) fun E σ H=>?_
  rintro⟨w,μ,ρ,fl,μ',R,S,e1,q⟩
  obtain⟨d,μ1,a1,e1⟩:=Out.bind_ok e1
  refine⟨w,μ,ρ,d,μ1,R,S,a1,fun w1 H1 v1 x1 R1 d1=>?_⟩
  split at e1
  ·rename_i ρ1 hs
   cases e1
   obtain⟨ds,hds,hset⟩:=Option.bind_eq_some_iff.mp hs
   obtain⟨a,xs,rfl,s1,l1⟩:=jbh R1 d1 hds
   obtain⟨g1,g2⟩:=jg0 (H:=H1) (Q:=E.nx) l1 (S.mono x1) hset fun σ' S'=>q w1 H1 x1 R1 σ' S'
   exact⟨a,xs,rfl,s1,by rw[<- jae l1,g2],g1⟩
  ·cases e1
 ·cases ht
theorem jj2 {f:Str}{y:V}:∀{fs:List Str} {xs:List V},fs.length=xs.length->jhD f y (fs.zip xs)=(jgo f fs).zip (jd9 f y fs xs)
 |[],[],_=>rfl
 |[],_::_,h=>by cases h
 |_::_,[],h=>by cases h
 |g::fs,x::xs,h=>by
  have ih:=jj2 (f:=f) (y:=y) (fs:=fs) (xs:=xs) (by simpa using h)
  unfold jgo jd9
  show(if g=f then(g,y)::fs.zip xs else(g,x)::jhD f y (fs.zip xs))=_
  split
  ·rfl
  ·rw[ih];rfl
theorem jhX {α β:Type}{f:Str}{d:α}{e:β}:∀{fs:List Str} {xs:List α},fs.length=xs.length->(jgo f fs).length=(jd9 f d fs xs).length
 |[],[],_=>rfl
 |[],_::_,h=>by cases h
 |_::_,[],h=>by cases h
 |g::fs,x::xs,h=>by
  have ih:=jhX (f:=f) (d:=d) (e:=e) (fs:=fs) (xs:=xs) (by simpa using h)
  unfold jgo jd9
  split
  ·simpa using h
  ·simp[ih]
theorem jh0 {w:Wd}{n:Nat}{f:Str}{d:D}{y:V}(hd:Den K w n d y):∀{fs:List Str} {ds:List D} {xs:List V},fs.length=ds.length->DenL K w n ds xs->DenL K w n (jd9 f d fs ds) (jd9 f y fs xs)
 |[],[],xs,_,h=>by
  unfold jd9
  exact DenL.one hd
 |[],_::_,_,h,_=>by cases h
 |_::_,[],_,h,_=>by cases h
 |g::fs,e::ds,xs,h,l=>by
  unfold DenL at l
  obtain⟨v,ws,rfl,h1,h2⟩:=l
  have ih:=jh0 hd (f:=f) (fs:=fs) (by simpa using h) h2
  unfold jd9
  split
  ·unfold DenL
   exact⟨y,ws,rfl,hd,h2⟩
  ·unfold DenL
   exact⟨v,_,rfl,h1,ih⟩
theorem jne {ob e:E}{i:Nat}{f:Str}{x v:Expr}{p pos:Pos}(o:OkS G j c X)(hf:jqL G i f=true)(he:chk G j e c v=true)(ho:chk G j ob c x=true)(hc:notComp v=true):PS X (.Assign [.Attribute x f p] v pos) (T3S X.K (run G (.setF ob i f e))):=by
 have k1:=snd e o.toOk he
 have k2:=snd ob o.toOk ho
 obtain⟨g,C,k,fs,hg,hd,hm,hC,hN⟩:=jm0 o.toOk hf
 refine imS (juW k2.v k1.v (jbQ hc)) fun E σ H=>?_
 rintro⟨w,μ,ρ,fl,μ',R,S,e1,q⟩
 obtain⟨d,μ1,a1,e1⟩:=Out.bind_ok e1
 obtain⟨d2,μ2,a2,e1⟩:=Out.bind_ok e1
 refine⟨w,μ,ρ,d,μ1,R,S,a1,fun w1 H1 v1 x1 R1 k1=>⟨w1,μ1,ρ,d2,μ2,R1,S.mono x1,a2,fun w2 H2 v2 x2 R2 k2=>?_⟩⟩
 rw[jeH hg,hd]at e1
 split at e1
 ·rename_i μ3 h3
  cases e1
  replace h3:jvN C f d d2 μ2=some μ':=h3
  unfold jvN at h3
  split at h3
  ·rename_i kc
   split at h3
   ·rename_i C' fs' ds' hk
    split at h3
    ·rename_i hh
     obtain⟨rfl,hl⟩:=hh
     cases h3
     obtain⟨dx,ys,g0,g1,g2⟩:=(R2.liv kc _ hk).2
     unfold Den at k2
     have gl:fs'.length=ys.length:=g0.trans (jae g2)
     refine⟨w2.γ kc,C',dx,_,k2.2,g1,hC,hN,by rw[List.length_zip];omega,?_⟩
     have hlen:(μ2.set kc (some (Cl.obj C' (jgo f fs') (jd9 f d fs' ds')))).length=μ2.length:=List.length_set
     have R3:=R2.put hk (c:=Cl.obj C' (jgo f fs') (jd9 f d fs' ds')) (.ins C' dx (jhD f v1 (fs'.zip ys))) ⟨dx,jd9 f v1 fs' ys,jhX (e:=()) g0,by rw[jaC,jj2 gl],jh0 (k1.mono x2) g0 g2⟩
     have x12:=x1.trans x2
     exact q w2 _ (by rw[hlen];exact x12) R3 σ (by rw[hlen];exact S.mono x12)
    ·cases h3
   ·cases h3
  ·cases h3
 ·cases e1
theorem js1 {e:E}{v:Expr}{pos:Pos}(o:OkS G j c X)(he:chk G j e c v=true)(hc:notComp v=true):PS X (.Expr v pos) (T3S X.K (run G (.ex e))):=by
 refine imS (jiS (snd e o.toOk he).v (jbQ hc)) fun E σ H=>?_
 rintro⟨w,μ,ρ,fl,μ',R,S,e1,q⟩
 obtain⟨d,μ1,a1,e1⟩:=Out.bind_ok e1
 cases e1
 exact⟨w,μ,ρ,d,_,R,S,a1,fun w1 H1 v1 x1 R1 k1=>q w1 H1 x1 R1 σ (S.mono x1)⟩
theorem jrX {e:E}{v:Expr}{pos:Pos}(o:OkS G j c X)(he:chk G j e c v=true):PS X (.Return (some v) pos) (T3S X.K (run G (.ret e))):=by
 refine imS (jlg (snd e o.toOk he).v) fun E σ H=>?_
 rintro⟨w,μ,ρ,fl,μ',R,S,e1,q⟩
 obtain⟨d,μ1,a1,e1⟩:=Out.bind_ok e1
 cases e1
 exact⟨w,μ,ρ,d,_,R,S,a1,fun w1 H1 v1 x1 R1 k1=>q w1 H1 x1 R1 v1 k1⟩
theorem jqj {k:E}{a b:List S}{x:Expr}{ss tt:List Stmt}{pos:Pos}(o:OkS G j c X)(hk:chk G j k c x=true)(ht:tst x=true)(ha:PSs X ss (T3S X.K (runs G a)))(hb:PSs X tt (T3S X.K (runs G b))):PS X (.If x ss tt pos) (T3S X.K (run G (.ite k a b))):=by
 refine imS (ju2 ((snd k o.toOk hk).t ht) ha hb) fun E σ H=>?_
 rintro⟨w,μ,ρ,fl,μ',R,S,e1,q⟩
 obtain⟨b',μ1,a1,e1⟩:=Out.bind_ok e1
 refine⟨w,μ,ρ,b',μ1,R,S,a1,fun w1 H1 x1 R1=>?_⟩
 dsimp only
 cases b' with
 |true=>
  rw[if_pos rfl]at e1 ⊢
  exact⟨w1,μ1,ρ,fl,μ',R1,S.mono x1,e1,fun w2 H2 x2 R2=>q w2 H2 (x1.trans x2) R2⟩
 |false=>
  rw[if_neg Bool.false_ne_true]at e1 ⊢
  exact⟨w1,μ1,ρ,fl,μ',R1,S.mono x1,e1,fun w2 H2 x2 R2=>q w2 H2 (x1.trans x2) R2⟩
theorem jrs {tg:Tg}{ik:IK}{es:List E}{body:List S}{fg:List Nat}{t it:Expr}{as:List Expr}{ss:List Stmt}{pos:Pos}(o:OkS G j c X)(hn:jdQ it=true)(hi:jcH c ik t it=some as)(hes:chkL G j es c as=true)(ht:jcE c tg t=true)(hb:PSs X ss (T3S X.K (runs G body))):PS X (.For t it ss [] pos) (T3S X.K (run G (.for_ tg ik es body fg))):=by
 have k:=sndL es o.toOk hes
 refine imS (jpx o.pass o.calm (jo3 o.toOk hi k.1 k.2.1 k.2.2) (jkC o.toOk ht).1 hb (jeo hn)) fun E σ H=>?_
 rintro⟨w,μ,ρ,fl,μ',R,S,e1,q⟩
 obtain⟨ds,μ1,a1,e1⟩:=Out.bind_ok e1
 split at e1
 ·rename_i xs hx
  exact⟨w,μ,ρ,ds,μ1,xs,R,S,a1,hx,fun w1 H1 J x1 R1 hJ=>jsd (jdV tg) R1 (S.mono x1) hJ e1 fun w2 H2 x2 R2=>q w2 H2 (x1.trans x2) R2⟩
 ·cases e1
theorem jqO {s:S}{ss:List S}{st:Stmt}{sts:List Stmt}(h1:PS X st (T3S X.K (run G s)))(h2:PSs X sts (T3S X.K (runs G ss))):PSs X (st::sts) (T3S X.K (runs G (s::ss))):=by
 refine jtJ (jer h1 h2) fun E σ H=>?_
 rintro⟨w,μ,ρ,fl,μ',R,S,e1,q⟩
 replace e1:(match run G s ρ μ with
  |.ok (.nx ρ1) μ1=>runs G ss ρ1 μ1
  |r=>r)=.ok fl μ':=e1
 cases e2:run G s ρ μ with
 |exc x μ1=>rw[e2]at e1;cases e1
 |bad=>rw[e2]at e1;cases e1
 |ok f1 μ1=>
  rw[e2]at e1
  refine⟨w,μ,ρ,f1,μ1,R,S,e2,fun w1 H1 x1 R1=>?_⟩
  cases f1 with
  |nx ρ1=>
   intro σ1 S1
   exact⟨w1,μ1,ρ1,fl,μ',R1,S1,e1,fun w2 H2 x2 R2=>q w2 H2 (x1.trans x2) R2⟩
  |rt d=>
   cases e1
   exact q w1 H1 x1 R1
  |bk ρ1=>
   cases e1
   exact q w1 H1 x1 R1
  |ct ρ1=>
   cases e1
   exact q w1 H1 x1 R1
end
section
variable {G:List FnE} {j:Nat}
mutual
theorem jxu:∀(s:S) {c:Stt} {X:Cx} {st:Stmt},OkS G j c X->jsN G j s c st=true->PS X st (T3S X.K (run G s))
 |.asg tg e,c,X,st,o,h=>by
  have hh:=ji0 (P:=fun t v _=>chk G j e c v&&jcE c tg t&&!c.cmp&&tgV tg v&&joE e v) h
  clear h
  obtain⟨t,v,p,rfl,h⟩:=hh
  simp only[Bool.and_eq_true,Bool.not_eq_true']at h
  exact jqb o h.1.1.1.1 h.1.1.1.2 h.1.1.2 h.1.2 h.2
 |.par i k a b,c,X,st,o,h=>by
  unfold jsN at h
  split at h
  ·split at h
   ·split at h
    ·rename_i t1 t2 x1 x2 ht hv
     split at h
     ·rename_i x px y py hx hy
      obtain⟨kt,pt,rfl⟩:=jii ht
      obtain⟨k2,pt2,rfl⟩:=jii hv
      cases jgC hx
      cases jgC hy
      simp only[Bool.and_eq_true,Bool.not_eq_true',beq_eq_false_iff_ne]at h
      obtain⟨⟨⟨⟨⟨⟨⟨⟨⟨⟨h1,h2⟩,h3⟩,h4⟩,h5⟩,h6⟩,h7⟩,h8⟩,h9⟩,h10⟩,h11⟩:=h
      exact jr3 o h1 h2 h3 h4 h5 h6 h7 h8 h9 h10 h11
     ·cases h
    ·cases h
   ·cases h
  ·cases h
 |.unp is e,c,X,st,o,h=>by
  have hh:=ji0 (P:=fun t v _=>chk G j e c v&&jcE c (.tp is) t&&notComp v&&!(jfu v)) h
  clear h
  obtain⟨t,v,p,rfl,h⟩:=hh
  simp only[Bool.and_eq_true,Bool.not_eq_true']at h
  exact jpY o h.1.1.1 h.1.1.2 h.1.2 h.2
 |.setF ob i f e,c,X,st,o,h=>by
  unfold jsN at h
  split at h
  ·rename_i ts v p
   split at h
   ·rename_i t
    split at h
    ·rename_i x n ht
     obtain⟨q,rfl⟩:=jlr ht
     simp only[Bool.and_eq_true,beq_iff_eq]at h
     obtain⟨⟨⟨⟨rfl,h2⟩,h3⟩,h4⟩,h5⟩:=h
     exact jne o h2 h3 h4 h5
    ·cases h
   ·cases h
  ·cases h
 |.setI _ _ _,c,X,st,o,h=>by
  have h':false=true:=h
  cases h'
 |.ex e,c,X,st,o,h=>by
  have hh:=jpt (P:=fun v=>chk G j e c v&&notComp v) h
  clear h
  obtain⟨v,p,rfl,h⟩:=hh
  simp only[Bool.and_eq_true]at h
  exact js1 o h.1 h.2
 |.ite k a b,c,X,st,o,h=>by
  have hh:=jpB (P:=fun x ss tt=>chk G j k c x&&tst x&&chkSs G j a c ss&&chkSs G j b c tt) h
  clear h
  obtain⟨x,ss,tt,p,rfl,h⟩:=hh
  simp only[Bool.and_eq_true]at h
  obtain⟨⟨⟨h1,h2⟩,h3⟩,h4⟩:=h
  exact jqj o h1 h2 (sndSs a o h3) (sndSs b o h4)
 |.for_ tg ik es body fg,c,X,st,o,h=>by
  have hh:=jmI (P:=fun t it ss=>jdQ it&&(match jcH c ik t it with
   |some as=>chkL G j es c as
   |none=>false)&&jcE c tg t&&chkSs G j body c ss) h
  clear h
  obtain⟨t,it,ss,p,rfl,h⟩:=hh
  simp only[Bool.and_eq_true]at h
  obtain⟨⟨⟨h1,h2⟩,h3⟩,h4⟩:=h
  split at h2
  ·rename_i as ha
   exact jrs o h1 ha h2 h3 (sndSs body o h4)
  ·cases h2
 |.ret e,c,X,st,o,h=>by
  have hh:=jmV (P:=fun v=>chk G j e c v) h
  clear h
  obtain⟨v,p,rfl,h⟩:=hh
  exact jrX o h
 |.retN,c,X,st,o,h=>by
  have hh:=joY h
  clear h
  obtain⟨p,rfl⟩:=hh
  refine imS jsy fun E σ H=>?_
  rintro⟨w,μ,ρ,fl,μ',R,S,e1,q⟩
  have e2:Out.ok (Fl.rt D.non) μ=.ok fl μ':=e1
  cases e2
  exact q w H (Ext.refl _ _) R .non (by unfold Den;rfl)
 |.pass,c,X,st,o,h=>by
  have hh:=jnx h
  clear h
  obtain⟨p,rfl⟩:=hh
  refine imS jpU fun E σ H=>?_
  rintro⟨w,μ,ρ,fl,μ',R,S,e1,q⟩
  have e2:Out.ok (Fl.nx ρ) μ=.ok fl μ':=e1
  cases e2
  exact q w H (Ext.refl _ _) R σ S
 |.never,c,X,st,o,h=>by
  refine imS jo7 fun E σ H=>?_
  rintro⟨w,μ,ρ,fl,μ',R,S,e1,q⟩
  have e2:(Out.bad:Out Fl)=.ok fl μ':=e1
  cases e2
theorem sndSs:∀(ss:List S) {c:Stt} {X:Cx} {sts:List Stmt},OkS G j c X->chkSs G j ss c sts=true->PSs X sts (T3S X.K (runs G ss))
 |[],c,X,sts,o,h=>by
  cases sts with
  |nil=>
   refine jtJ jly fun E σ H=>?_
   rintro⟨w,μ,ρ,fl,μ',R,S,e1,q⟩
   have e2:Out.ok (Fl.nx ρ) μ=.ok fl μ':=e1
   cases e2
   exact q w H (Ext.refl _ _) R σ S
  |cons _ _=>
   have h':false=true:=h
   cases h'
 |s::ss,c,X,sts,o,h=>by
  cases sts with
  |nil=>
   have h':false=true:=h
   cases h'
  |cons t ts=>
   have h':(jsN G j s c t&&chkSs G j ss c ts)=true:=h
   clear h
   have h:=h'
   simp only[Bool.and_eq_true]at h
   exact jqO (jxu s o h.1) (sndSs ss o h.2)
end
end
section
variable {P:Program} {w:World} {K:PySem.W.Frag} {mg:Str->Option Value} {base:Heap}
structure Tab (P:Program) (w:World) (K:PySem.W.Frag) (mg:Str->Option Value) (base:Heap) (j:Nat) (G:List FnE):Prop where
 hm:∀x∈jc2,mg x=none
 hf:∀(i:Nat) (g:FnE),G[i]?=some g->g.lv<=j->_L2.Callee P w K mg base g.lv g.name g.ps (jdi K g.ps.length g.F)
 hd:∀(i:Nat) (g:FnE) (d:Dat),G[i]?=some g->g.dat=some d->jkA K w mg g.name d
theorem jb0 {x qual:Str}{st:Stmt}{f:Addr}{fd:FuncData}{N ps:List Str}{j:Nat}{G:List FnE}{body:List S}(F:Fun K x qual st f fd)(Sc:FnScope N ps (ja st))(T:Tab P w K mg base j G)(h:chkSs G j body ⟨N,ja st,false⟩ (jac st)=true) :
  FnOk P w K mg base CX0 (j+1) f fd ps (jdi K ps.length (fnOf G ps.length (N.length - ps.length) body)):=by
 refine F.okQ Sc (fun vs H Q E h=>h.1) (fun cdv A outer s H vs Q E hr hsp=>?_)
 refine⟨T3S K (runs G body),⟨sndSs body (c:=⟨N,ja st,false⟩) ⟨⟨rfl,Sc.nd,rfl,rfl,hr,T.hm,T.hf,T.hd,fun _ _=>rfl⟩,PassesOwn.never,Sc.kind⟩ h⟩,?_⟩
 obtain⟨hl,w0,μ,ds,d,μ',R,hD,e,q⟩:=hsp
 unfold fnOf at e
 split at e
 ·rename_i hn
  have hS:jb1 K w0 μ.length (ds.map some++List.replicate (N.length - ps.length) none) (_L2.start N vs):=by
   unfold _L2.start
   rw[hl]
   exact jb1.start hD _
  split at e
  ·rename_i d1 μ1 e1
   cases e
   exact⟨w0,μ,_,_,_,R,hS,e1,fun w1 H1 x1 R1 v dv=>q w1 H1 v x1 R1 dv⟩
  ·rename_i ρ1 μ1 e1
   cases e
   exact⟨w0,μ,_,_,_,R,hS,e1,fun w1 H1 x1 R1 σ' S'=>q w1 H1 .non x1 R1 (by unfold Den;rfl)⟩
  ·cases e
  ·cases e
  ·cases e
 ·cases e
theorem jsC {f:Addr} {fd:FuncData} {k:Nat} {F:Fn} (h:FnOk P w K mg base CX0 k f fd ["_law_script"] (jdi K 1 F)) (hF:∀ns:List Int,ns.length<=63->∃μ,F [.scr (ns.map D.int)] []=.ok (.bl true) μ):FnOk P w K mg base CX0 k f fd ["_law_script"] (spLaw K):=by
 refine h.imp fun vs H Q E=>?_
 rintro⟨a,ns,rfl,hS,hn,q⟩
 obtain⟨μ,hm⟩:=hF ns hn
 refine⟨rfl,⟨fun b=>if b=a then H a else none,fun _=>0⟩,[],_,_,μ,⟨fun b o h=>?_,fun k c h=>by simp at h,fun i j ci cj h=>by simp at h⟩,?_,hm,fun w' H' v _ _ hv=>?_⟩
 ·replace h:(if b=a then H a else none)=some o:=h
  split at h
  ·rename_i e
   rw[e]
   exact h
  ·cases h
 ·unfold DenL
  refine⟨.ref a,[],rfl,?_,by unfold DenL;rfl⟩
  unfold Den
  refine⟨a,ns.map V.int,rfl,?_,jeA ns⟩
  rcases hS with hS|hS
  ·left
   rcases hS with h|⟨o,h⟩
   ·exact .inl (by show(if a=a then H a else none)=_;rw[if_pos rfl];exact h)
   ·exact .inr ⟨o,by show(if a=a then H a else none)=_;rw[if_pos rfl];exact h⟩
  ·exact .inr hS
 ·unfold Den at hv
  subst hv
  exact q H'
end
end _L3
namespace _L3
open PySem PySem.Spec PyProof.Rows _L2
theorem nr {α:Type}{a b:α}(h:a=b):a=b:=h
section
variable {α β:Type}
theorem ja4 {a:α}{μ:M}{f:α->M->Out β}:(Out.ok a μ).bind f=f a μ:=rfl
theorem jnB {f:α->M->Out β}:(Out.bad:Out α).bind f=.bad:=rfl
end
noncomputable def jja (o:Out Fl)(k:S3->M->Out Fl):Out Fl:=
 match o with
 |.ok (.nx ρ) μ=>k ρ μ
 |r=>r
noncomputable def jqH (o:Out Fl):Out D:=
 match o with
 |.ok (.rt d) μ=>.ok d μ
 |.ok (.nx _) μ=>.ok .non μ
 |.ok _ _=>.bad
 |.exc x μ=>.exc x μ
 |.bad=>.bad
theorem jlQ {ρ:S3}{μ:M}{k:S3->M->Out Fl}:jja (.ok (.nx ρ) μ) k=k ρ μ:=rfl
theorem jqd {d:D}{μ:M}{k:S3->M->Out Fl}:jja (.ok (.rt d) μ) k=.ok (.rt d) μ:=rfl
theorem jsE {d:D}{μ:M}:jqH (.ok (.rt d) μ)=.ok d μ:=rfl
theorem jls {ρ:S3}{μ:M}:jqH (.ok (.nx ρ) μ)=.ok .non μ:=rfl
section
variable {G:List FnE} {ρ:S3} {μ:M}
theorem jqc {np nl:Nat}{b:List S}{ds:List D}:fnOf G np nl b ds μ=if ds.length=np then jqH (runs G b (ds.map some++List.replicate nl none) μ)else .bad:=rfl
theorem jpb:runs G [] ρ μ=.ok (.nx ρ) μ:=rfl
theorem jmi {s:S}{ss:List S}:runs G (s::ss) ρ μ=jja (_L3.run G s ρ μ) (runs G ss):=rfl
noncomputable def jsI (tg:Tg)(ρ:S3)(d:D)(μ:M):Out Fl:=
 match jiR tg d ρ with
 |some ρ1=>.ok (.nx ρ1) μ
 |none=>.bad
theorem jrP {tg:Tg}{e:E}:_L3.run G (.asg tg e) ρ μ=((ev G e).v ρ μ).bind fun d μ1=>jsI tg ρ d μ1:=rfl
theorem jrt {i:Nat}{d:D}:jsI (.nm i) ρ d μ=.ok (.nx (ρ.set i (some d))) μ:=rfl
theorem jvw {e:E}:_L3.run G (.ex e) ρ μ=((ev G e).v ρ μ).bind fun _ μ1=>.ok (.nx ρ) μ1:=rfl
theorem jr6 {c:E}{a b:List S}:_L3.run G (.ite c a b) ρ μ=((ev G c).t ρ μ).bind fun k μ1=>if k then runs G a ρ μ1 else runs G b ρ μ1:=rfl
theorem jrD {e:E}:_L3.run G (.ret e) ρ μ=((ev G e).v ρ μ).bind fun d μ1=>.ok (.rt d) μ1:=rfl
noncomputable def jvC (ik:IK)(ds:List D)(tg:Tg)(body:S3->M->Out Fl)(fg:List Nat)(ρ:S3)(μ:M):Out Fl:=
 match itD ik ds μ with
 |some xs=>jdh (jdr ik ds xs) tg body fg xs ρ μ
 |none=>.bad
theorem jb5 {ik:IK}{ds xs:List D}{tg:Tg}{body:S3->M->Out Fl}{fg:List Nat}(h:itD ik ds μ=some xs):jvC ik ds tg body fg ρ μ=jdh (jdr ik ds xs) tg body fg xs ρ μ:=by
 unfold jvC
 rw[h]
theorem jqJ {tg:Tg}{ik:IK}{es:List E}{body:List S}{fg:List Nat}:_L3.run G (.for_ tg ik es body fg) ρ μ=(evL G es ρ μ).bind fun ds μ1=>jvC ik ds tg (runs G body) fg ρ μ1:=rfl
theorem juO {d:D}:(ev G (.cst d)).v ρ μ=.ok d μ:=rfl
theorem juh {op:Operator}{m:Bool}{a b:E}:(ev G (.bin op m a b)).v ρ μ=((ev G a).v ρ μ).bind fun x μ1=>((ev G b).v ρ μ1).bind fun y μ2=>jjL op m x y μ2:=rfl
noncomputable def jxd (x:D)(μ:M):Out D:=
 match x with
 |.int i=>.ok (.int (-i)) μ
 |_=>.bad
theorem jux {a:E}:(ev G (.neg a)).v ρ μ=((ev G a).v ρ μ).bind jxd:=rfl
theorem jni {i:Int}:jxd (.int i) μ=.ok (.int (-i)) μ:=rfl
noncomputable def jxw (o:Option (Option D))(μ:M):Out D:=
 match o with
 |some (some d)=>.ok d μ
 |_=>.bad
theorem juw {i:Nat}:(ev G (.var i)).v ρ μ=jxw ρ[i]? μ:=rfl
theorem jvr {d:D}:jxw (some (some d)) μ=.ok d μ:=rfl
noncomputable def jxk (x:D)(μ:M):Out D:=
 match x with
 |.bl c=>.ok (.bl (!c)) μ
 |_=>.bad
theorem jtm {a:E}:(ev G (.not_ a)).v ρ μ=((ev G a).v ρ μ).bind jxk:=rfl
theorem jvp {op:CmpOp}{a b:E}:(ev G (.cmp op a b)).v ρ μ=((ev G a).v ρ μ).bind fun x μ1=>((ev G b).v ρ μ1).bind fun y μ2=>je5 op x y μ2:=rfl
theorem juT {a:E}:(ev G (.isN a)).v ρ μ=((ev G a).v ρ μ).bind fun x μ1=>.ok (.bl (jgE x)) μ1:=by
 show((ev G a).v ρ μ).bind _=_
 congr 1
 funext x μ1
 cases x<;>rfl
theorem jqh {a:E}:(ev G (.notN a)).v ρ μ=((ev G a).v ρ μ).bind fun x μ1=>.ok (.bl (!jgE x)) μ1:=by
 show((ev G a).v ρ μ).bind _=_
 congr 1
 funext x μ1
 cases x<;>rfl
noncomputable def boD (k:Bool)(o:Out D)(x:D)(μ:M):Out D:=
 match x with
 |.bl c=>if c=k then o else .ok (.bl c) μ
 |_=>.bad
theorem jup {a b:E}:(ev G (.and_ a b)).v ρ μ=((ev G a).v ρ μ).bind fun x μ1=>boD true ((ev G b).v ρ μ1) x μ1:=by
 show((ev G a).v ρ μ).bind _=_
 congr 1
 funext x μ1
 cases x with
 |bl c=>cases c<;>rfl
 |_=>rfl
theorem jwL {a b:E}:(ev G (.or_ a b)).v ρ μ=((ev G a).v ρ μ).bind fun x μ1=>boD false ((ev G b).v ρ μ1) x μ1:=by
 show((ev G a).v ρ μ).bind _=_
 congr 1
 funext x μ1
 cases x with
 |bl c=>cases c<;>rfl
 |_=>rfl
theorem ju9 {c a b:E}:(ev G (.ife c a b)).v ρ μ=((ev G c).t ρ μ).bind fun k μ1=>if k then(ev G a).v ρ μ1 else(ev G b).v ρ μ1:=rfl
theorem jul {es:List E}:(ev G (.tup es)).v ρ μ=(evL G es ρ μ).bind fun ds μ1=>if ds.length<=sizeLine then .ok (.tup ds) μ1 else .bad:=rfl
theorem jvh {m:Bool}{es:List E}:(ev G (.lst m es)).v ρ μ=(evL G es ρ μ).bind fun ds μ1=>if ds.length<=sizeLine then mkL m ds μ1 else .bad:=rfl
theorem jwy {a b:E}:(ev G (.ix a b)).v ρ μ=((ev G a).v ρ μ).bind fun x μ1=>((ev G b).v ρ μ1).bind fun y μ2=>ixD x y μ2:=rfl
theorem jwN {m:Bool}{a:E}{lo hi:List E}:(ev G (.sl m a lo hi)).v ρ μ=((ev G a).v ρ μ).bind fun x μ1=>(ji5 (evL G lo ρ μ1)).bind fun l μ2=>(ji5 (evL G hi ρ μ2)).bind fun h μ3=>slD m x l h μ3:=rfl
theorem jtP {m:Bool}{a:E}{lo hi:List E}:(ev G (.stp m a lo hi)).v ρ μ=((ev G a).v ρ μ).bind fun x μ1=>(ji5 (evL G lo ρ μ1)).bind fun l μ2=>(ji5 (evL G hi ρ μ2)).bind fun h μ3=>jxq m x l h μ3:=rfl
theorem jr8 {f:Nat}{md:Md}{es:List E}:(ev G (.call f md es)).v ρ μ=(evL G es ρ μ).bind fun ds μ1=>jhu G f md ds μ1:=rfl
theorem jwv {b:Bi}{m:Bool}{es:List E}:(ev G (.bi b m es)).v ρ μ=(evL G es ρ μ).bind fun ds μ1=>biD b m ds μ1:=rfl
theorem jvZ {b:Mt}{o:E}{es:List E}:(ev G (.mt b o es)).v ρ μ=((ev G o).v ρ μ).bind fun x μ1=>if jkX b x μ1 then(evL G es ρ μ1).bind fun ds μ2=>mtD b x ds μ2 else .bad:=rfl
noncomputable def jqM (m:Bool)(ik:IK)(ds:List D)(tg:Tg)(cond:S3->M->Out Bool)(elt:S3->M->Out D)(ρ:S3)(μ:M):Out D:=
 match itD ik ds μ with
 |some xs=>if xs.length<=sizeLine then(jdg (jdr ik ds xs) tg cond elt ρ xs μ).bind fun ys μ2=>mkL m ys μ2 else .bad
 |none=>.bad
theorem joS {m:Bool}{ik:IK}{ds xs ys:List D}{tg:Tg}{cond:S3->M->Out Bool}{elt:S3->M->Out D}{μ2:M}(h:itD ik ds μ=some xs)(hl:xs.length<=sizeLine)(hc:jdg (jdr ik ds xs) tg cond elt ρ xs μ=.ok ys μ2):jqM m ik ds tg cond elt ρ μ=mkL m ys μ2:=by
 unfold jqM
 simp only[h]
 rw[if_pos hl,hc,ja4]
theorem jl3 {m:Bool}{own:Nat}{tg:Tg}{ik:IK}{es ifs:List E}{elt:E}:(ev G (.comp m own tg ik es ifs elt)).v ρ μ=(evL G es ρ μ).bind fun ds μ1=>jqM m ik ds tg (evTs G ifs) (ev G elt).v (List.replicate own none++ρ) μ1:=rfl
theorem jno {o1 o2:CmpOp}{a b c:E}:(ev G (.chain o1 o2 a b c)).v ρ μ=((ev G a).v ρ μ).bind fun x μ1=>((ev G b).v ρ μ1).bind fun y μ2=>(je5 o1 x y μ2).bind fun z μ3=>boD true (((ev G c).v ρ μ3).bind fun u μ4=>je5 o2 y u μ4) z μ3:=by
 show((ev G a).v ρ μ).bind _=_
 congr 1
 funext x μ1
 congr 1
 funext y μ2
 congr 1
 funext z μ3
 cases z with
 |bl c=>cases c<;>rfl
 |_=>rfl
theorem jwK:evL G [] ρ μ=.ok [] μ:=rfl
theorem jwV {e:E}{es:List E}:evL G (e::es) ρ μ=((ev G e).v ρ μ).bind fun d μ1=>(evL G es ρ μ1).bind fun ds μ2=>.ok (d::ds) μ2:=rfl
theorem jwg:evTs G [] ρ μ=.ok true μ:=rfl
theorem jwb {e:E}:evTs G [e] ρ μ=(ev G e).t ρ μ:=rfl
noncomputable def tru (μ:M)(d:D):Out Bool:=
 match jvD μ d with
 |some b=>.ok b μ
 |none=>.bad
theorem jqs {op:CmpOp}{a b:E}:(ev G (.cmp op a b)).t ρ μ=((ev G (.cmp op a b)).v ρ μ).bind fun d μ1=>tru μ1 d:=rfl
theorem jmL {o1 o2:CmpOp}{a b c:E}:(ev G (.chain o1 o2 a b c)).t ρ μ=((ev G (.chain o1 o2 a b c)).v ρ μ).bind fun d μ1=>tru μ1 d:=rfl
theorem jrT {i:Nat}:(ev G (.var i)).t ρ μ=((ev G (.var i)).v ρ μ).bind fun d μ1=>tru μ1 d:=rfl
theorem jol {f:Nat}{md:Md}{es:List E}:(ev G (.call f md es)).t ρ μ=((ev G (.call f md es)).v ρ μ).bind fun d μ1=>tru μ1 d:=rfl
theorem jtg {b:Bi}{m:Bool}{es:List E}:(ev G (.bi b m es)).t ρ μ=((ev G (.bi b m es)).v ρ μ).bind fun d μ1=>tru μ1 d:=rfl
theorem jra {a:E}:(ev G (.isN a)).t ρ μ=((ev G (.isN a)).v ρ μ).bind fun d μ1=>tru μ1 d:=rfl
theorem jnW {a:E}:(ev G (.notN a)).t ρ μ=((ev G (.notN a)).v ρ μ).bind fun d μ1=>tru μ1 d:=rfl
theorem jq9 {a:E}:(ev G (.not_ a)).t ρ μ=((ev G a).t ρ μ).bind fun c μ1=>.ok (!c) μ1:=rfl
theorem jsb {a b:E}:(ev G (.and_ a b)).t ρ μ=((ev G a).t ρ μ).bind fun c μ1=>if c then(ev G b).t ρ μ1 else .ok false μ1:=rfl
theorem jvn {a b:E}:(ev G (.or_ a b)).t ρ μ=((ev G a).t ρ μ).bind fun c μ1=>if c then .ok true μ1 else(ev G b).t ρ μ1:=rfl
end
theorem jh4:∀zs:List Str,jgq (zs.map D.str)=some zs
 |[]=>rfl
 |z::zs=>by rw[List.map_cons];unfold jgq;rw[jh4 zs];rfl
section
variable {μ:M}
theorem juX {b:Bool}:tru μ (.bl b)=.ok b μ:=rfl
theorem jvj {b:Bool}:jxk (.bl b) μ=.ok (.bl (!b)) μ:=rfl
theorem jv0 {k c:Bool}{o:Out D}:boD k o (.bl c) μ=if c=k then o else .ok (.bl c) μ:=rfl
theorem js0:ji5 (.ok [] μ)=.ok none μ:=rfl
theorem jvl {i:Int}:ji5 (.ok [.int i] μ)=.ok (some i) μ:=rfl
theorem jqI {m:Bool}{i j:Int}:jjL .Add m (.int i) (.int j) μ=.ok (.int (i+j)) μ:=nr rfl
theorem jrV {m:Bool}{i j:Int}:jjL .Sub m (.int i) (.int j) μ=.ok (.int (i - j)) μ:=if_pos trivial
theorem jfe {m:Bool}{i j:Int}(h : -18446744073709551616<i)(h2:i<18446744073709551616):jjL .Mult m (.int i) (.int j) μ=.ok (.int (i*j)) μ:=if_pos (.inl ⟨h,h2⟩)
theorem jhr {m:Bool}{i j:Int}(h : -18446744073709551616<j)(h2:j<18446744073709551616):jjL .Mult m (.int i) (.int j) μ=.ok (.int (i*j)) μ:=if_pos (.inr ⟨h,h2⟩)
theorem jiE {m:Bool}{i j:Int}(h:0<j)(h2:j<18446744073709551616):jjL .FloorDiv m (.int i) (.int j) μ=.ok (.int (i / j)) μ:=if_pos ⟨h,h2⟩
theorem jhm {m:Bool}{i j:Int}(h:0<j):jjL .Mod m (.int i) (.int j) μ=.ok (.int (i % j)) μ:=if_pos h
theorem jp1 {m:Bool}{i j:Int}(h:0<=j)(h1:j<=1000000)(h2:i.natAbs<18446744073709551616):jjL .Pow m (.int i) (.int j) μ=.ok (.int (i ^ j.toNat)) μ:=if_pos ⟨h,h1,h2⟩
theorem jmC {m:Bool}{j:Int}(h:0<=j)(h1:j<=1000000):jjL .Pow m (.int 10) (.int j) μ=.ok (.int (10 ^ j.toNat)) μ:=jp1 h h1 (by decide)
theorem jec {m:Bool}{x y:Str}(h:x.length+y.length<=sizeLine):jjL .Add m (.str x) (.str y) μ=.ok (.str (x++y)) μ:=if_pos h
theorem jf8 {m:Bool}{z:Str}{l h:Option Int}(hz:z.length<=sizeLine):slD m (.str z) l h μ=.ok (.str (Txt.slice z l h)) μ:=if_pos hz
theorem jmF {z:Str}{ys:List Str}(h:(ys.map (·.length)).sum+ys.length*z.length<=16777216):mtD .join (.str z) [.lst (ys.map D.str)] μ=.ok (.str (Txt.join z ys)) μ:=by
 have e:jeS μ (.lst (ys.map D.str))=some (ys.map D.str):=nr rfl
 simp only[mtD,jnI,e,jh4,h,if_true]
theorem jvv {i j:Int}:je5 .Lt (.int i) (.int j) μ=.ok (.bl (decide (i<j))) μ:=nr rfl
theorem jtj {i j:Int}:je5 .LtE (.int i) (.int j) μ=.ok (.bl (decide (i<=j))) μ:=nr rfl
theorem ju6 {i j:Int}:je5 .Gt (.int i) (.int j) μ=.ok (.bl (decide (j<i))) μ:=nr rfl
theorem jtw {i j:Int}:je5 .GtE (.int i) (.int j) μ=.ok (.bl (decide (j<=i))) μ:=nr rfl
theorem jqX {i j:Int}:je5 .Eq (.int i) (.int j) μ=.ok (.bl (decide (i=j))) μ:=by
 show Out.ok (D.bl (decide (V.int i=V.int j))) μ=_
 simp
theorem jp2 {i j:Str}:je5 .Eq (.str i) (.str j) μ=.ok (.bl (decide (i=j))) μ:=by
 show Out.ok (D.bl (decide (V.str i=V.str j))) μ=_
 simp
theorem jsh {i j:Int}:je5 .NotEq (.int i) (.int j) μ=.ok (.bl (!decide (i=j))) μ:=by
 show Out.ok (D.bl (!decide (V.int i=V.int j))) μ=_
 simp
theorem jsa {i j:Str}:je5 .NotEq (.str i) (.str j) μ=.ok (.bl (!decide (i=j))) μ:=by
 show Out.ok (D.bl (!decide (V.str i=V.str j))) μ=_
 simp
theorem jwl {ds:List D}:mkL false ds μ=.ok (.lst ds) μ:=rfl
theorem jwj {ds:List D}:mkL true ds μ=.ok (.cel μ.length) (μ++[some (.lst ds)]):=rfl
theorem jbt {ik:IK}{ds xs:List D}(h:itD ik ds μ=some xs):jdr ik ds xs μ=true:=jex.mpr h
theorem jrR {g:FnE}{G:List FnE}{f:Nat}{md:Md}{ds:List D}:jhu (g::G) (f+1) md ds μ=jhu G f md ds μ:=rfl
theorem jr4 {g:FnE}{G:List FnE}{md:Md}{ds:List D}:jhu (g::G) 0 md ds μ=jaO md g.F ds μ:=rfl
theorem jfa {F:Fn}{ds:List D}{d d':D}{ν:M}(h:F ds μ=.ok d (μ++ν))(hd:jle (μ++ν) μ.length d=some d'):jaO .frz F ds μ=.ok d' μ:=by
 unfold jaO
 simp only[h]
 rw[if_pos (by simp),hd]
theorem jaM {F:Fn}{ds:List D}{d:D}(h:F ds μ=.ok d μ)(hd:jle μ μ.length d=some d):jaO .frz F ds μ=.ok d μ:=by
 have:=jfa (ν:=[]) (by rw[List.append_nil];exact h) (by rw[List.append_nil];exact hd)
 exact this
end
section
variable {μ:M}
theorem jmB {z:Str}:jkX .join (.str z) μ=true:=rfl
theorem jks {z:Str}:jkX .split (.str z) μ=true:=rfl
theorem jny {xs:List D}:jkX .append (.cel μ.length) (μ++[some (.lst xs)])=true:=by simp[jkX]
theorem jo1 {xs:List D}:jkX .extend (.cel μ.length) (μ++[some (.lst xs)])=true:=by simp[jkX]
theorem jdH {xs:List D}{d:D}(h:xs.length<sizeLine):mtD .append (.cel μ.length) [d] (μ++[some (.lst xs)])=.ok .non (μ++[some (.lst (xs++[d]))]):=by
 simp[mtD,jm9,h]
end
theorem jb7 {ok:M->Bool}{tg:Tg}{body:S3->M->Out Fl}{fg:List Nat}{ρ:S3}{μ:M}(h:ok μ=true):jdh ok tg body fg [] ρ μ=.ok (.nx (forget fg ρ)) μ:=by
 unfold jdh
 rw[if_pos h]
theorem jbK {ok:M->Bool}{tg:Tg}{body:S3->M->Out Fl}{fg:List Nat}{ρ ρ1 ρ2:S3}{μ μ2:M}{d:D}{ds:List D}(h:ok μ=true)(ha:jiR tg d ρ=some ρ1)(hb:body ρ1 μ=.ok (.nx ρ2) μ2):jdh ok tg body fg (d::ds) ρ μ=jdh ok tg body fg ds (forget fg ρ2) μ2:=by
 rw[jdh,if_pos h,ha]
 simp only[hb]
theorem jnS {ok:M->Bool}{tg:Tg}{body:S3->M->Out Fl}{fg:List Nat}{ρ ρ1:S3}{μ μ2:M}{d r:D}{ds:List D}(h:ok μ=true)(ha:jiR tg d ρ=some ρ1)(hb:body ρ1 μ=.ok (.rt r) μ2):jdh ok tg body fg (d::ds) ρ μ=.ok (.rt r) μ2:=by
 rw[jdh,if_pos h,ha]
 simp only[hb]
theorem jmP {ok:M->Bool}{tg:Tg}{cond:S3->M->Out Bool}{elt:S3->M->Out D}{ρ:S3}{μ:M}(h:ok μ=true):jdg ok tg cond elt ρ [] μ=.ok [] μ:=by
 unfold jdg
 rw[if_pos h]
theorem jka {ok:M->Bool}{tg:Tg}{cond:S3->M->Out Bool}{elt:S3->M->Out D}{ρ ρ1:S3}{μ:M}{d:D}{ds:List D}(h:ok μ=true)(ha:jiR tg d ρ=some ρ1):jdg ok tg cond elt ρ (d::ds) μ=(cond ρ1 μ).bind fun b μ1=>if b then(elt ρ1 μ1).bind fun y μ2=>(jdg ok tg cond elt ρ ds μ2).bind fun ys μ3=>.ok (y::ys) μ3 else jdg ok tg cond elt ρ ds μ1:=by
 rw[jdg,if_pos h,ha]
theorem jij {α:Type}{ok:M->Bool}{tg:Tg}{cond:S3->M->Out Bool}{elt:S3->M->Out D}{ρ:S3}{μ:M}(h:ok μ=true){e:α->D}{c:α->Bool}{f:α->D}:∀(xs:List α),(∀x∈xs,∃ρ1,jiR tg (e x) ρ=some ρ1/\cond ρ1 μ=.ok (c x) μ/\(c x=true->elt ρ1 μ=.ok (f x) μ)) ->
  jdg ok tg cond elt ρ (xs.map e) μ=.ok ((xs.filter c).map f) μ
 |[],_=>jmP h
 |x::xs,hx=>by
  obtain⟨ρ1,h1,h2,h3⟩:=hx x (by simp)
  have ih:=jij (e:=e) (c:=c) (f:=f) h xs fun y hy=>hx y (by simp[hy])
  rw[List.map_cons,jka h h1,h2,ja4]
  cases hc:c x with
  |true=>rw[if_pos rfl,h3 hc,ja4,ih,ja4,List.filter_cons_of_pos hc,List.map_cons]
  |false=>rw[if_neg Bool.false_ne_true,ih,List.filter_cons_of_neg (by simp[hc])]
theorem jby {α:Type}{G:List FnE}{m:Bool}{own:Nat}{tg:Tg}{ik:IK}{es ifs:List E}{elt:E}{ρ:S3}{μ:M}{ds:List D}{xs:List α}{e:α->D}(c:α->Bool)(f:α->D)(he:evL G es ρ μ=.ok ds μ)(hi:itD ik ds μ=some (xs.map e))(hl:xs.length<=sizeLine)
  (h:∀x∈xs,∃ρ1,jiR tg (e x) (List.replicate own none++ρ)=some ρ1/\evTs G ifs ρ1 μ=.ok (c x) μ/\(c x=true->(ev G elt).v ρ1 μ=.ok (f x) μ)):(ev G (.comp m own tg ik es ifs elt)).v ρ μ=mkL m ((xs.filter c).map f) μ:=by
 rw[jl3,he,ja4,joS hi (by rw[List.length_map];exact hl) (jij (jbt hi) xs h)]
theorem jeO {n:Nat}{μ:M}(h:n<=1000000):itD .rng1 [.int (n:Int)] μ=some ((List.range n).map fun(k:Nat)=>D.int (k:Int)):=by
 unfold itD jjw
 dsimp only
 rw[if_pos ⟨by omega,by omega⟩,Int.toNat_natCast]
theorem jiT {zs:List Str}{i:Nat}(h:i<zs.length){μ:M}:ixD (.lst (zs.map D.str)) (.int (i:Int)) μ=.ok (.str (zs.getD i "")) μ:=by
 have e:atI (zs.map D.str) (i:Int)=some (.str (zs.getD i "")):=jf7 (by simp[h])
 show(match atI (zs.map D.str) (i:Int)with|some d=>Out.ok d μ|none=>.bad)=_
 rw[e]
theorem jiC {zs:List Int}{i:Nat}(h:i<zs.length){μ:M}:ixD (.lst (zs.map D.int)) (.int (i:Int)) μ=.ok (.int (zs.getD i 0)) μ:=by
 have e:atI (zs.map D.int) (i:Int)=some (.int (zs.getD i 0)):=jf7 (by simp[h])
 show(match atI (zs.map D.int) (i:Int)with|some d=>Out.ok d μ|none=>.bad)=_
 rw[e]
theorem jm7 {ds:List D}{i:Int}(h0:0<=i)(h1:i<ds.length){a:D}{μ:M}(ha:jfX μ a=some ds)(hs:∀z,a≠.str z):∃d∈ds,ixD a (.int i) μ=.ok d μ:=by
 obtain⟨n,rfl⟩:∃n:Nat,i=n:=⟨i.toNat,by omega⟩
 have hn:n<ds.length:=by omega
 refine⟨ds[n],List.getElem_mem hn,?_⟩
 have e:atI ds (n:Int)=some ds[n]:=jf7 (by simp[hn])
 unfold ixD
 cases a<;>first|exact absurd rfl (hs _)|simp only[ha,e]
theorem sz0:(0<=sizeLine)=True:=by rw[sizeLine_eq];simp
theorem sz1:(1<=sizeLine)=True:=by rw[sizeLine_eq];simp
theorem sz2:(2<=sizeLine)=True:=by rw[sizeLine_eq];simp
theorem sz3:(3<=sizeLine)=True:=by rw[sizeLine_eq];simp
theorem sz4:(4<=sizeLine)=True:=by rw[sizeLine_eq];simp
theorem sz5:(5<=sizeLine)=True:=by rw[sizeLine_eq];simp
theorem sz6:(6<=sizeLine)=True:=by rw[sizeLine_eq];simp
theorem sz7:(7<=sizeLine)=True:=by rw[sizeLine_eq];simp
theorem sz8:(8<=sizeLine)=True:=by rw[sizeLine_eq];simp
theorem sz9:(9<=sizeLine)=True:=by rw[sizeLine_eq];simp
theorem jxK:(10<=sizeLine)=True:=by rw[sizeLine_eq];simp
theorem jxC:(11<=sizeLine)=True:=by rw[sizeLine_eq];simp
theorem jxF:(12<=sizeLine)=True:=by rw[sizeLine_eq];simp
theorem jaA {α:Type}{h:Nat->Option D}{e:α->D}(he:∀x,jbP h (e x)=some (e x)):∀xs:List α,frzGs h (xs.map e)=some (xs.map e)
 |[]=>by unfold frzGs;rfl
 |x::xs=>by rw[List.map_cons];unfold frzGs;rw[he x,jaA he xs]
theorem jaH {h:Nat->Option D}{i:Int}:jbP h (.int i)=some (.int i):=by unfold jbP;rfl
theorem jd6 {h:Nat->Option D}{i:Str}:jbP h (.str i)=some (.str i):=by unfold jbP;rfl
theorem jeY {h:Nat->Option D}{i:Bool}:jbP h (.bl i)=some (.bl i):=by unfold jbP;rfl
theorem jmj {h:Nat->Option D}:jbP h .non=some .non:=by unfold jbP;rfl
theorem jbj {h:Nat->Option D}{ds es:List D}(k:frzGs h ds=some es):jbP h (.tup ds)=some (.tup es):=by unfold jbP;rw[k];rfl
theorem jcv {h:Nat->Option D}{ds es:List D}(k:frzGs h ds=some es):jbP h (.lst ds)=some (.lst es):=by unfold jbP;rw[k];rfl
theorem jab {h:Nat->Option D}{d e:D}{ds es:List D}(k1:jbP h d=some e)(k2:frzGs h ds=some es):frzGs h (d::ds)=some (e::es):=by unfold frzGs;rw[k1,k2]
theorem jbL {h:Nat->Option D}:frzGs h []=some []:=by unfold frzGs;rfl
end _L3
namespace _L3
open PySem PySem.Spec PyProof.Rows _L2
section
variable {G:List FnE} {ρ:S3} {μ:M}
theorem jw {f:Nat}:(ev G (.gl f)).v ρ μ=glD (jfS G f) μ:=rfl
theorem jrK {f:Nat}{a d:E}:(ev G (.gget f a d)).v ρ μ=((ev G a).v ρ μ).bind fun x μ1=>((ev G d).v ρ μ1).bind fun y μ2=>jrI (jfS G f) x y μ2:=rfl
theorem jth {neg:Bool}{f:Nat}{a:E}:(ev G (.gin neg f a)).v ρ μ=((ev G a).v ρ μ).bind fun x μ1=>jwd neg (jfS G f) x μ1:=rfl
theorem jsf {neg:Bool}{f:Nat}{a:E}:(ev G (.gin neg f a)).t ρ μ=((ev G (.gin neg f a)).v ρ μ).bind fun d μ1=>tru μ1 d:=rfl
theorem jtY {f:Nat}{a:E}:(ev G (.gix f a)).v ρ μ=((ev G a).v ρ μ).bind fun x μ1=>jxs (jfS G f) x μ1:=rfl
theorem jme {g:FnE}{f:Nat}:jfS (g::G) (f+1)=jfS G f:=rfl
theorem jmy {g:FnE}:jfS (g::G) 0=g.dat:=rfl
theorem ju0 {d:D}:glD (some (.cst d)) μ=.ok d μ:=rfl
theorem jo6 {kvs:List (Str×D)}{z:Str}{y:D}:jrI (some (.dct kvs)) (.str z) y μ=.ok ((jjd z kvs).getD y) μ:=rfl
theorem jrb {kvs:List (Str×D)}{z:Str}:jwd false (some (.dct kvs)) (.str z) μ=.ok (.bl (jjd z kvs).isSome) μ:=rfl
theorem jlF {c d:Bool}:je5 .IsNot (.bl c) (.bl d) μ=.ok (.bl (c !=d)) μ:=nr rfl
theorem jtz {c d:Bool}:je5 .Is (.bl c) (.bl d) μ=.ok (.bl (c==d)) μ:=nr rfl
end
end _L3
namespace _L3
open PySem PySem.Spec PyProof.Rows _L2
theorem jdk {n:Nat}(h:n<100000):n<=sizeLine:=by rw[sizeLine_eq];omega
noncomputable def jaV (z:Str):Bool:=decide (1<=z.length)&&(decide (z.length<=8)&&z.cps.toList.all fun c=>decide (97<=c)&&decide (c<=122))
noncomputable def sTx (c:List Nat):Str:=⟨c.toArray⟩
theorem jbN (c:List Nat):(sTx c).length=c.length:=by simp[sTx,Str.length]
theorem jf6 (a b:List Nat):sTx a++sTx b=sTx (a++b):=Str.ext' (by rw[Str.cps_append];simp[sTx])
theorem jrn {a b:List Nat}(h:sTx a=sTx b):a=b:=by
 have:=congrArg (fun s:Str=>s.cps.toList) h
 simpa[sTx]using this
noncomputable def Ltr (c:List Nat):Prop:=∀x∈c,97<=x/\x<=122
theorem joK {c:List Nat}(h1:1<=c.length)(h2:c.length<=8)(h:Ltr c):jaV (sTx c)=true:=by
 unfold jaV
 rw[jbN,decide_eq_true h1,decide_eq_true h2,Bool.true_and,Bool.true_and,List.all_eq_true]
 intro x hx
 have hx':x∈c:=by simpa[sTx]using hx
 have:=h x hx'
 simp[this.1,this.2]
theorem jhW (t:List Nat){a b:Nat}(hab:a<=b)(hb:b<=t.length)(lo:Option Int)(hlo:Builtin.Str.strSliceIndices lo (some (b:Int)) 1 t.length=Builtin.Str.strSliceIndices (some (a:Int)) (some (b:Int)) 1 t.length):Txt.slice (sTx t) lo (some (b:Int))=sTx ((t.drop a).take (b - a)):=by
 have hl:(sTx t).length=t.length:=jbN t
 have e1:=PySem.StrLaws.strSliceIndices_plain hab (len:=t.length) hb
 have e2:=PySem.StrLaws.sliced_plain (sTx t) hab (by rw[hl];exact hb)
 rw[hl]at e2
 unfold Txt.slice
 rw[hl,hlo,e2]
 have e3:(Builtin.Str.strSliceIndices (some (a:Int)) (some (b:Int)) 1 t.length).length=b - a:=by rw[e1];simp
 rw[e3]
 have e4:(sTx t).cps.toList=t:=by simp[sTx]
 rw[e4]
 split
 ·rename_i h
  have hba:b - a=t.length:=by simpa using h
  have ha:a=0:=by omega
  subst ha
  rw[List.drop_zero,List.take_of_length_le (by omega)]
 ·rfl
theorem jiv (t:List Nat){a b:Int}(h0:0<=a)(hab:a<=b)(hb:b<=t.length):Txt.slice (sTx t) (some a) (some b)=sTx ((t.drop a.toNat).take (b.toNat - a.toNat)):=by
 obtain⟨x,rfl⟩:∃x:Nat,a=x:=⟨a.toNat,by omega⟩
 obtain⟨y,rfl⟩:∃y:Nat,b=y:=⟨b.toNat,by omega⟩
 exact jhW t (by omega) (by omega) _ rfl
theorem jgR (t:List Nat){b:Int}(h0:0<=b)(hb:b<=t.length):Txt.slice (sTx t) none (some b)=sTx (t.take b.toNat):=by
 obtain⟨y,rfl⟩:∃y:Nat,b=y:=⟨b.toNat,by omega⟩
 have:=jhW t (a:=0) (b:=y) (by omega) (by omega) none (by
  have e:max (0:Int) (min 0 (t.length:Int))=0:=by omega
  simp[Builtin.Str.strSliceIndices,e])
 rw[this,List.drop_zero]
 rfl
theorem jo (cs:List Nat):Txt.join (Str.ofString "") (cs.map fun c=>sTx [c])=sTx cs:=by
 have e:∀l:List Str,Txt.join (Str.ofString "") l=Str.join (Str.ofString "") l:=fun l=>by simpa using join_plain_closes (Str.ofString "") l
 rw[e]
 induction cs with
 |nil=>rfl
 |cons c r ih=>
  cases r with
  |nil=>rfl
  |cons d r=>
   show sTx [c]++Str.ofString "" ++ Str.join (Str.ofString "") ((d::r).map fun c=>sTx [c])=_
   rw[ih]
   refine Str.ext' ?_
   rw[Str.cps_append,Str.cps_append]
   have e0:(Str.ofString "").cps = #[]:=by decide +kernel
   rw[e0]
   simp[sTx]
theorem jfw {α:Type}{f:Nat->α}{n:Nat}(h:∀i j,i<n->j<n->f i=f j->i=j):((List.range n).map f).Nodup:=by
 rw[List.Nodup,List.pairwise_map]
 refine List.Pairwise.imp_of_mem (R:=fun a b=>a<b) (fun {a b} ha hb hab e=>?_) List.pairwise_lt_range
 have:=h a b (by simpa using ha) (by simpa using hb) e
 omega
theorem jmT:(Str.ofString "abcdefghijklmnopqrstuvwxyz").length=26:=by decide +kernel
theorem jkj:∀n:Nat,n<26->(Str.ofString "abcdefghijklmnopqrstuvwxyz").cps.toList[n]?=some (97+n):=by decide +kernel
theorem jtf {i:Int}(h0:0<=i)(h1:i<26)(μ:M):ixD (.str (Str.ofString "abcdefghijklmnopqrstuvwxyz")) (.int i) μ=.ok (.str (sTx [97+i.toNat])) μ:=by
 obtain⟨n,rfl⟩:∃n:Nat,i=n:=⟨i.toNat,by omega⟩
 have e:atI (Str.ofString "abcdefghijklmnopqrstuvwxyz").cps.toList (n:Int)=some (97+n):=jf7 (jkj n (by omega))
 unfold ixD
 simp only[if_pos (show(Str.ofString "abcdefghijklmnopqrstuvwxyz").length<=sizeLine by rw[jmT];exact jdk (by decide)),e]
 rfl
theorem jag {n:Nat}(h:n<=1000):n<=sizeLine:=jdk (by omega)
theorem jb4 {xs ys:List D}{μ:M}(h:xs.length+ys.length<=sizeLine):jjL .Add false (.lst xs) (.lst ys) μ=.ok (.lst (xs++ys)) μ:=by
 show @ite _ (xs.length+ys.length<=sizeLine) (Classical.propDecidable _) (mkL false (xs++ys) μ) .bad=_
 rw[if_pos h]
 rfl
end _L3
namespace _L3
open PySem PySem.Spec PyProof.Rows _L2
end _L3
namespace _L3
open PySem PySem.Spec PyProof.Rows _L2
inductive SX where
 |st (s:S)|grd (c:E) (cls:Str) (msg:Str)
section
variable (G:List FnE)
end
noncomputable def spX (K:PySem.W.Frag)(mg:Str->Option Value)(np:Nat)(F:Fn):Sp:=fun vs H Q E=>vs.length=np/\∃(w:Wd) (μ:M) (ds:List D),Rep K w μ H/\DenL K w μ.length ds vs /\
 ((∃d μ',F ds μ=.ok d μ'/\∀w' H' v,Ext w w' μ.length μ'.length->Rep K w' μ' H'->Den K w' μ'.length d v->Q v H') ∨
  ∃c μ' C,F ds μ=.exc (.str c) μ'/\mg c=some (.ref C)/\∀w' H',Ext w w' μ.length μ'.length->Rep K w' μ' H'->E (.ref C) none H')
section
variable {X:Cx} {G:List FnE} {j:Nat} {c:Stt} {EX:Str->Hp->Prop}
end
section
variable {P:Program} {w:World} {K:PySem.W.Frag} {mg:Str->Option Value} {base:Heap} {N:List Str} {qual:Str} {scope:Scope} {f:Addr} {cd:Value} {A:Around} {outer:List Env} {s0:Shared} {H0:Hp} {E:XK} {G:List FnE} {j:Nat} {c:Stt}
end
end _L3
namespace _L3
open PySem PySem.Spec PyProof.Rows _L2
structure CalleeX (P:Program) (w:World) (K:PySem.W.Frag) (mg:Str->Option Value) (base:Heap) (k:Nat) (x:Str) (ps:List Str) (sp:Sp):Prop where
 ex:∃(f:Addr) (fd:FuncData),FnOk P w K mg base (CX1 P w) k f fd ps sp/\mg x=some (.ref f)/\PySem.W.keepIn K (.ref f)=true/\jeD K fd ps []
noncomputable def jvM (F:Fn)(c1:Str):Fn:=fun ds μ=>match F ds μ with
 |.exc (.str c) μ'=>if c=c1 then .ok (.bl true) μ' else .bad
 |_=>.bad
theorem Rep.same {K:PySem.W.Frag}{w:Wd}{μ:M}{H H':Hp}(R:Rep K w μ H)(s:jeB H H'):Rep K w μ H':=
 ⟨R.sub.trans s,fun k c e=>⟨(R.liv k c e).1,(R.liv k c e).2.mono (Ext.refl _ _) (by obtain⟨o,q⟩:=(R.liv k c e).2.some;rw[q];exact s _ _ q)⟩,R.inj⟩
theorem jgP {H:Hp}{p:Addr}{o:HO}(h:H p=none):jeB H (upd H p o):=fun b u e=>by
 rw[jaj (jak e h)]
 exact e
noncomputable def jlL (mg:Str->Option Value)(sc:Scope):List Expr->List Addr->Prop
 |[],[]=>True
 |.Name x _::es,a::as=>mg x=some (.ref a)/\jbI sc x=true/\jlL mg sc es as
 |_,_=>False
theorem jpj {X:Cx}:∀{es:List Expr} {as:List Addr},jlL X.mg X.env.scope es as->PA X es (fun _ H Q=>Q (as.map V.ref) H)
 |[],[],_=>fun _ _ _ _ H Q I h=>Calls.spliced_nil ⟨[],H,I,.nil,h⟩
 |.Name x p::es,a::as,h=>by
  have k:=jbB (ji7 (pos:=p) (jan h.2.1).1 h.1 (show ja0 (.ref a) (.ref a)from rfl) (jan h.2.1).2.1) (jpj h.2.2)
  exact imA k fun σ H Q q=>q
 |[],_::_,h=>h.elim
 |.Name _ _::_,[],h=>h.elim
structure RefOk (K:PySem.W.Frag) (C T:Addr) (ts:List Addr):Prop where
 c:ExcC K C
 a:ExcA K C
 it:PySem.W.kitCls K (.ref C) (.ref C)=some true
 ex:PySem.W.exmOne K (.ref C) (.ref T)=some true
 k1:PySem.W.kitOne K (.ref C) (.ref C)=some true
 k2:PySem.W.kitOne K (.ref C) (.type "ValueError")=some true
 k3:PySem.W.kitAny K (.ref C) (ts.map Value.ref)=some false
 len:ts.length<=100
section
variable {P:Program} {w:World} {K:PySem.W.Frag} {mg:Str->Option Value} {base:Heap}
theorem jic:∀as:List Addr,(as.map V.ref).mapM jsL=some (as.map Value.ref)
 |[]=>rfl
 |a::as=>by
  rw[List.map_cons,List.mapM_cons,jic as]
  rfl
theorem jnJ {X:Cx}{a C:Addr}{oe:Obj}{fl er c1:Str}{css:List Expr}{as:List Addr}{T:Addr}{k24:Nat}{p9 p10 p11 p12 p13 p14 p15 p16 p17 p18 p19 p20 p21 p22 p23 p24 p25 p26 p27:Pos}(hN:X.N.Nodup)(R:RefOk X.K C T as)(hc:oe.cls=.ref C)
  (hf:jfk X.N X.env.scope 1 fl=true) (hff:X.fn fl=true) (hv:jhC X.N X.env.scope 1 fl=true) (he:jhC X.N X.env.scope 2 er=true) (hi:jbI X.env.scope "isinstance" =true) (hiN:X.mg "isinstance" =none) (h1:jbI X.env.scope c1=true) (m1:X.mg c1=some (.ref C))
  (hve:jbI X.env.scope "ValueError" =true) (mve:X.mg "ValueError" =none) (hcs:jlL X.mg X.env.scope css as) (hline:(p21.endLine==p26.line)=true) :
  PSs (X.hand a oe) [.Assign [.Name fl p9] (.List [.Call (.Name "isinstance" p10) [.Name er p11,.Name c1 p12] [] p13,.Call (.Name "isinstance" p14) [.Name er p15,.Name "ValueError" p16] [] p17] p18) p19,
   .Expr (.Call (.Attribute (.Name fl p20) "append" p21) [.Call (.Name "isinstance" p22) [.Name er p23,.Tuple css k24 p24] [] p25] [] p26) p27]
   (fun D σ H=>σ[2]?=some (some (.ref a))/\σ.length=3/\∀(p:Addr) (H2:Hp),H p=none->H2 p=some (.lst [.bl true,.bl true,.bl false])->jeB H H2->D.nx (σ.set 1 (some (.ref p))) H2):=by
 have hmem:(a,oe)∈(X.hand a oe).pn:=.head _
 have is1:=jor (X:=X.hand a oe) hmem hc R.c R.a R.it
 have is2:=jmm (X:=X.hand a oe) hmem hc R.c R.a R.it
 have bi:bootBuiltins "isinstance" =some (.builtin "isinstance"):=jdc
 have bv:bootBuiltins "ValueError" =some (.type "ValueError"):=PyProof.Rows.Boot.«ValueError»
 have E1:PE (X.hand a oe) (.Call (.Name "isinstance" p10) [.Name er p11,.Name c1 p12] [] p13) _:=
  jca is1 hi hiN bi (jbB (pvk 2 he) (jbB (ji7 (jan (X:=X.hand a oe) h1).1 m1 (show ja0 (.ref C) (.ref C)from rfl) (jan (X:=X.hand a oe) h1).2.1) jb6))
 have E2:PE (X.hand a oe) (.Call (.Name "isinstance" p14) [.Name er p15,.Name "ValueError" p16] [] p17) _:=
  jca is1 hi hiN bi (jbB (pvk 2 he) (jbB (jjS hve mve bv (show ja0 (.ty "ValueError") (.type "ValueError")from rfl)) jb6))
 have E3:PE (X.hand a oe) (.Call (.Name "isinstance" p22) [.Name er p23,.Tuple css k24 p24] [] p25) _:=
  jca is2 hi hiN bi (jbB (pvk 2 he) (jbB (jlj (jpj (X:=X.hand a oe) hcs)) jb6))
 have S1:PS (X.hand a oe) (.Assign [.Name fl p9] (.List [.Call (.Name "isinstance" p10) [.Name er p11,.Name c1 p12] [] p13,.Call (.Name "isinstance" p14) [.Name er p15,.Name "ValueError" p16] [] p17] p18) p19) _:=
  jgY hN hf (jj6 (jbB E1 (jbB E2 jb6))) rfl hff
 have S2:PS (X.hand a oe) (.Expr (.Call (.Attribute (.Name fl p20) "append" p21) [.Call (.Name "isinstance" p22) [.Name er p23,.Tuple css k24 p24] [] p25] [] p26) p27) _:=
  jiS (joh (X:=X.hand a oe) PySem.F.plainAttrs_list PySem.F.slot_list_append PySem.F.type_list_append jfs ⟨pvk (X:=X.hand a oe) 1 hv⟩ ⟨jbB (X:=X.hand a oe) E3 jb6⟩ rfl rfl (by decide) hline).h
 refine jtJ (jer S1 (jmE S2)) fun D σ H=>?_
 rintro⟨h2,hl,q⟩
 have hl1:1<σ.length:=by rw[hl];decide
 refine⟨_,h2,.ref C,.ref C,true,rfl,rfl,R.k1,?_⟩
 refine⟨_,h2,.ty "ValueError",.type "ValueError",true,rfl,rfl,R.k2,?_⟩
 refine⟨by show 2<=sizeLine;decide,fun p hp=>?_⟩
 have g1:(σ.set 1 (some (.ref p)))[1]?=some (some (V.ref p)):=List.getElem?_set_self hl1
 have g2:(σ.set 1 (some (.ref p)))[2]?=some (some (V.ref a)):=by rw[List.getElem?_set_ne (by decide)];exact h2
 refine⟨_,g1,.inl ⟨rfl,_,SqL.of jaC⟩,_,g2,?_⟩
 refine⟨?_,fun p3 hp3=>?_⟩
 ·have:=R.len
  rw[List.length_map,sizeLine_eq];omega
 have ne:p≠p3:=jak jaC hp3
 refine⟨p3,as.map V.ref,as.map Value.ref,false,rfl,SqT.of jaC,jic as,R.k3,p,[.bl true,.bl true],.bl false,rfl,rfl,?_,by show 2<sizeLine;decide,?_⟩
 ·rw[jaj ne];exact jaC
 ·refine q p _ hp jaC fun b o e=>?_
  have nb:b≠p:=jak e hp
  have nb3:b≠p3:=fun z=>by
   subst z
   rw[jaj nb,e]at hp3
   cases hp3
  rw[jaj nb,jaj nb3,jaj nb]
  exact e
theorem jkB {x qual:Str}{st:Stmt}{f:Addr}{fd:FuncData}{arg fl er g cP c1:Str}{gps:List Str}{css:List Expr}{as:List Addr}{C T:Addr}{j k24 kb1 kb2 kb3:Nat}{Fg:Fn}
  {p1 p2 p3 p4 p5 p6 p7 p8 p9 p10 p11 p12 p13 p14 p15 p16 p17 p18 p19 p20 p21 p22 p23 p24 p25 p26 p27 p28 p29 p30 p31 p32 p33 q1 q2 q3:Pos}
  (F:Fun K x qual st f fd) (Sc:FnScope [arg,fl,er] [arg] (ja st)) (cg:CalleeX P w K mg base j g gps (spX K mg 1 Fg)) (R:RefOk K C T as)
  (hb:jac st=[.Assign [.Name fl p1] (.List [] p2) p3,
   .Try [.Expr (.Call (.Name g p4) [.Name arg p5] [] p6) p7] [.ExceptHandler (some (.Name cP p8)) (some er)
    [.Assign [.Name fl p9] (.List [.Call (.Name "isinstance" p10) [.Name er p11,.Name c1 p12] [] p13,.Call (.Name "isinstance" p14) [.Name er p15,.Name "ValueError" p16] [] p17] p18) p19,
     .Expr (.Call (.Attribute (.Name fl p20) "append" p21) [.Call (.Name "isinstance" p22) [.Name er p23,.Tuple css k24 p24] [] p25] [] p26) p27] p28] [] [] p29,
   .Return (some (.Compare (.Name fl p30) [.Eq] [.List [.Constant (.bool true) kb1 q1,.Constant (.bool true) kb2 q2,.Constant (.bool false) kb3 q3] p31] p32)) p33])
  (ha:jhC [arg,fl,er] (ja st) 0 arg=true) (hf:jfk [arg,fl,er] (ja st) 1 fl=true) (hv:jhC [arg,fl,er] (ja st) 1 fl=true) (he:jhC [arg,fl,er] (ja st) 2 er=true) (hel:(ja st).names.lookup er=some .local)
  (hg:jbI (ja st) g=true) (hP:jbI (ja st) cP=true) (mP:mg cP=some (.ref T)) (hi:jbI (ja st) "isinstance" =true) (hiN:mg "isinstance" =none) (h1:jbI (ja st) c1=true) (m1:mg c1=some (.ref C))
  (hve:jbI (ja st) "ValueError" =true) (mve:mg "ValueError" =none) (hcs:jlL mg (ja st) css as) (hline:(p21.endLine==p26.line)=true) (hj:0<j) :
  FnOk P w K mg base CX0 (j+1) f fd [arg] (jdi K 1 (jvM Fg c1)):=by
 refine F.ok Sc (fun vs H Q E h=>h.1) (fun cdv A outer s H vs Q E hr hsp=>?_)
 obtain⟨fg,fdg,Fok,mgg,kg,bg⟩:=cg.ex
 rw[hb]
 have nd:([arg,fl,er]:List Str).Nodup:=Sc.nd
 let X:Cx:=(jiZ CX0 P w K mg base [arg,fl,er] qual (ja st) f cdv A outer s H E).nox
 have hG:Gl X g:=(jan (X:=X) hg).1
 have hGP:Gl X cP:=(jan (X:=X) hP).1
 have S1:PS X (.Assign [.Name fl p1] (.List [] p2) p3) _:=jgY nd hf (jj6 jb6)
 have S2:PS X (.Try [.Expr (.Call (.Name g p4) [.Name arg p5] [] p6) p7] [.ExceptHandler (some (.Name cP p8)) (some er) [.Assign [.Name fl p9] (.List [.Call (.Name "isinstance" p10) [.Name er p11,.Name c1 p12] [] p13,.Call (.Name "isinstance" p14) [.Name er p15,.Name "ValueError" p16] [] p17] p18) p19,
     .Expr (.Call (.Attribute (.Name fl p20) "append" p21) [.Call (.Name "isinstance" p22) [.Name er p23,.Tuple css k24 p24] [] p25] [] p26) p27] p28] [] [] p29) _:=
  jpQ (X:=X) (i:=2) (n:=er) (PC:=fun C'=>C'=C) (ts:=fun _ a=>fun D σ H=>σ[2]?=some (some (.ref a))/\σ.length=3/\∀(p:Addr) (H2:Hp),H p=none->H2 p=some (.lst [.bl true,.bl true,.bl false])->jeB H H2->D.nx (σ.set 1 (some (.ref p))) H2)
   Fok hr hG mgg kg bg (jbB (X:=X.nox) (pvk (X:=X.nox) 0 ha) jb6) rfl rfl nd rfl hel hGP mP
   (fun C' a oe hC hc=>by subst hC;exact jnJ (X:=X) nd R hc hf rfl hv he hi hiN h1 m1 hve mve hcs hline) (jan (X:=X) hP).2.1 (jan (X:=X) hg).2.1
 have S3:PS X (.Return (some (.Compare (.Name fl p30) [.Eq] [.List [.Constant (.bool true) kb1 q1,.Constant (.bool true) kb2 q2,.Constant (.bool false) kb3 q3] p31] p32)) p33) _:=
  jlg (jm5 (ju5 (X:=X) (by have:=hr.un;show(A.deeper (envOfC qual (ja st) s.heap.objs.size f cdv)).units+16<cLine;omega)) (pvk (X:=X) 1 hv) (jj6 (jbB jnU (jbB jnU (jbB jnU jb6)))) (jl4 _))
 refine⟨_,jer S1 (jer S2 (jmE S3)),?_⟩
 obtain⟨hl,w0,μ,ds,d,μ',R0,hD,e,q⟩:=hsp
 obtain⟨v0,rfl⟩:∃v,vs=[v]:=List.length_eq_one_iff.mp hl
 refine⟨Nat.zero_le _,fun p hp=>⟨v0,rfl,rfl,w0,μ,ds,R0.same (jgP hp),hD,.inr ?_⟩⟩
 unfold jvM at e
 split at e
 ·rename_i c μ1 e1
  split at e
  ·rename_i hc
   subst hc
   cases e
   refine⟨c,μ',C,e1,m1,fun w' H' x1 R1=>⟨C,rfl,rfl,R.ex,fun a=>⟨rfl,rfl,fun p2 H2 hp2 hH2 sm=>?_⟩⟩⟩
   refine⟨.ref p2,rfl,by show 3<=sizeLine;decide,fun p4 hp4=>?_⟩
   have ne:p2≠p4:=jak hH2 hp4
   refine⟨p2,p4,[.bl true,.bl true,.bl false],[.bl true,.bl true,.bl false],rfl,rfl,.inr ⟨by rw[jaj ne];exact hH2,jaC⟩,jfr (fun x hx=>.inl ?_),?_⟩
   ·rcases List.mem_cons.mp hx with rfl|hx
    ·rfl
    rcases List.mem_cons.mp hx with rfl|hx
    ·rfl
    rcases List.mem_cons.mp hx with rfl|hx
    ·rfl
    cases hx
   ·exact q w' _ (.bl true) x1 (R1.same (sm.trans (jgP hp4))) (by unfold Den;rfl)
  ·cases e
 ·cases e
end
end _L3
namespace _L3
open PySem PySem.Spec PyProof.Rows _L2
noncomputable def noX {α:Type}(o:Out α):Out α:=
 match o with
 |.ok a μ=>.ok a μ
 |_=>.bad
theorem jlU {α:Type}{a:α}{μ:M}:noX (.ok a μ)=.ok a μ:=rfl
noncomputable def Aft (K:PySem.W.Frag)(EX:Str->Hp->Prop)(w:Wd)(n:Nat){α:Type}(o:Out α)(P:α->M->Prop):Prop:=
 match o with
 |.ok a μ=>P a μ
 |.exc (.str c) μ=>∀w' H',Ext w w' n μ.length->Rep K w' μ H'->EX c H'
 |_=>False
section
variable {K:PySem.W.Frag} {EX:Str->Hp->Prop} {w w1:Wd} {n n1:Nat} {α β:Type}
theorem Aft.bind {o:Out α}{k:α->M->Out β}{P:β->M->Prop}{P':α->M->Prop}(h:Aft K EX w n (o.bind k) P)(f:∀a μ1,o=.ok a μ1->Aft K EX w n (k a μ1) P->P' a μ1):Aft K EX w n o P':=by
 cases o with
 |ok a μ1=>exact f a μ1 rfl h
 |exc x μ1=>cases x<;>exact h
 |bad=>exact h
theorem Aft.ext {o:Out α}{P P':α->M->Prop}(x:Ext w w1 n n1)(h:Aft K EX w n o P)(f:∀a μ1,o=.ok a μ1->P a μ1->P' a μ1):Aft K EX w1 n1 o P':=by
 cases o with
 |ok a μ1=>exact f a μ1 rfl h
 |exc y μ1=>
  cases y with
  |str c=>exact fun w' H' x' R'=>h w' H' (x.trans x') R'
  |_=>exact h
 |bad=>exact h
theorem Aft.noX {o:Out α}{P:α->M->Prop}(h:Aft K EX w n (noX o) P):∃a μ1,o=.ok a μ1/\P a μ1:=by
 cases o with
 |ok a μ1=>exact⟨a,μ1,rfl,h⟩
 |exc x μ1=>exact h.elim
 |bad=>exact h.elim
theorem Aft.noXb {o:Out α}{k:α->M->Out β}{P:β->M->Prop}(h:Aft K EX w n ((_L3.noX o).bind k) P):∃a μ1,o=.ok a μ1/\Aft K EX w n (k a μ1) P:=by
 cases o with
 |ok a μ1=>exact⟨a,μ1,rfl,h⟩
 |exc x μ1=>exact h.elim
 |bad=>exact h.elim
end
noncomputable abbrev jgi (K:PySem.W.Frag) (w:Wd) (n:Nat) (D:Ends):Fl->M->Prop:=fun fl μ'=>∀w' H',Ext w w' n μ'.length->Rep K w' μ' H'->jwe K w' μ'.length H' D fl
noncomputable def jw2 (K:PySem.W.Frag)(EX:Str->Hp->Prop)(r:S3->M->Out D):TE:=fun σ H Q=>∃(w:Wd) (μ:M) (ρ:S3),Rep K w μ H/\jb1 K w μ.length ρ σ/\Aft K EX w μ.length (r ρ μ) fun d μ'=>jhg K w μ.length d μ' Q
noncomputable def jj7 (K:PySem.W.Frag)(EX:Str->Hp->Prop)(r:S3->M->Out Fl):TS:=fun D σ H=>∃(w:Wd) (μ:M) (ρ:S3),Rep K w μ H/\jb1 K w μ.length ρ σ/\Aft K EX w μ.length (r ρ μ) (jgi K w μ.length D)
noncomputable def exM (mg:Str->Option Value)(E:XK)(c:Str)(H:Hp):Prop:=∃C,mg c=some (.ref C)/\E (.ref C) none H
noncomputable def spY (K:PySem.W.Frag)(mg:Str->Option Value)(np:Nat)(F:Fn):Sp:=fun vs H Q E=>vs.length=np/\∃(w:Wd) (μ:M) (ds:List D),Rep K w μ H/\DenL K w μ.length ds vs/\Aft K (exM mg E) w μ.length (F ds μ) fun d μ'=>jhg K w μ.length d μ' Q
inductive XE where
 |call (f:Nat) (md:Md) (es:List E)|app (o:E) (e:XE)|new (f:Nat) (md:Md) (es:List E)
inductive SY where
 |st (s:S)|asg (tg:Tg) (e:XE)|ex (e:XE)|ret (e:XE)|ite (c:E) (a b:List SY)|for_ (tg:Tg) (ik:IK) (es:List E) (body:List SY) (fg:List Nat)|raise (cls:Str) (e:E)
noncomputable def mkF (C:Addr)(F:Fn):Fn:=fun ds μ=>match F (.cel μ.length::ds) (μ++[some (.obj C [] [])])with
 |.ok .non μ'=>.ok (.cel μ.length) μ'
 |.exc x μ'=>.exc x μ'
 |_=>.bad
noncomputable def jsV (G:List FnE)(f:Nat)(md:Md)(ds:List D)(μ:M):Out D:=
 match G[f]? with
 |some g=>match g.dat with
  |some (.cls C _ _)=>jaO md (mkF C g.F) ds μ
  |_=>.bad
 |none=>.bad
section
variable (G:List FnE)
noncomputable def evX:XE->S3->M->Out D
 |.call f md es,ρ,μ=>(noX (evL G es ρ μ)).bind fun ds μ1=>jhu G f md ds μ1
 |.new f md es,ρ,μ=>(noX (evL G es ρ μ)).bind fun ds μ1=>jsV G f md ds μ1
 |.app o e,ρ,μ=>(noX ((ev G o).v ρ μ)).bind fun x μ1=>if jkX .append x μ1 then(evX e ρ μ1).bind fun d μ2=>jm9 x [d] μ2 else .bad
mutual
noncomputable def jh8:SY->S3->M->Out Fl
 |.st s,ρ,μ=>noX (run G s ρ μ)
 |.asg tg e,ρ,μ=>(evX G e ρ μ).bind fun d μ1=>match jiR tg d ρ with
  |some ρ1=>.ok (.nx ρ1) μ1
  |none=>.bad
 |.ex e,ρ,μ=>(evX G e ρ μ).bind fun _ μ1=>.ok (.nx ρ) μ1
 |.ret e,ρ,μ=>(evX G e ρ μ).bind fun d μ1=>.ok (.rt d) μ1
 |.ite c a b,ρ,μ=>(noX ((ev G c).t ρ μ)).bind fun k μ1=>if k then runYs a ρ μ1 else runYs b ρ μ1
 |.for_ tg ik es body fg,ρ,μ=>(noX (evL G es ρ μ)).bind fun ds μ1=>match itD ik ds μ1 with
  |some xs=>jdh (jdr ik ds xs) tg (runYs body) fg xs ρ μ1
  |none=>.bad
 |.raise cls e,ρ,μ=>(noX ((ev G e).v ρ μ)).bind fun _ μ1=>.exc (.str cls) μ1
noncomputable def runYs:List SY->S3->M->Out Fl
 |[],ρ,μ=>.ok (.nx ρ) μ
 |s::ss,ρ,μ=>match jh8 s ρ μ with
  |.ok (.nx ρ1) μ1=>runYs ss ρ1 μ1
  |r=>r
end
noncomputable def fnY (np nl:Nat)(body:List SY):Fn:=fun ds μ=>if ds.length=np then match runYs G body (ds.map some++List.replicate nl none) μ with
  |.ok (.rt d) μ1=>.ok d μ1
  |.ok (.nx _) μ1=>.ok .non μ1
  |.ok _ _=>.bad
  |.exc x μ1=>.exc x μ1
  |.bad=>.bad
 else .bad
end
noncomputable def jiL:Stmt->Option Expr
 |.Raise e c _=>match c with
  |none=>e
  |some _=>none
 |_=>none
theorem jki {s:Stmt}{e:Expr}(h:jiL s=some e):∃p,s=.Raise (some e) none p:=by
 unfold jiL at h
 split at h
 ·split at h
  ·subst h
   exact⟨_,rfl⟩
  ·cases h
 ·cases h
noncomputable def je9 (s:Stmt):Option (Str×Expr):=
 match jiL s with
 |some e=>match je0 e with
  |some (y,as)=>match as with
   |[a]=>some (y,a)
   |_=>none
  |none=>none
 |none=>none
theorem jiN {y:Str}{a:Expr}{s:Stmt}(h:je9 s=some (y,a)):∃np cpos rpos,s=.Raise (some (.Call (.Name y np) [a] [] cpos)) none rpos:=by
 unfold je9 at h
 split at h
 ·rename_i e he
  split at h
  ·rename_i y as hc
   split at h
   ·rename_i a
    cases h
    obtain⟨p,rfl⟩:=jki he
    obtain⟨q,r,rfl⟩:=jcG hc
    exact⟨_,_,_,rfl⟩
   ·cases h
  ·cases h
 ·cases h
section
variable (G:List FnE) (j:Nat) (rx:List Nat) (cs:List Str)
noncomputable def jg:XE->Stt->Expr->Bool
 |.call f md es,c,e=>rx.contains f&&chk G j (.call f md es) c e
 |.new f _ es,c,e=>match e with
  |.Call (.Name x _) (y::ys) [] _=>(match G[f]? with
   |some g=>g.name==x&&jbI c.sc x&&es.length+1==g.ps.length&&(match g.dat with
    |some (.cls _ k _)=>decide (k+1<=j)
    |_=>false)
   |none=>false)&&chkL G j es c (y::ys)&&jai (y::ys)
  |_=>false
 |.app o e,c,x=>match x with
  |.Call (.Attribute z n q) ys [] p=>match ys with
   |[y]=>n == "append" && chk G j o c z&&jcF z&&jax y&&(q.endLine==p.line)&&jg e c y
   |_=>false
  |_=>false
mutual
noncomputable def jwc:SY->Stt->Stmt->Bool
 |.st s,c,st=>jsN G j s c st
 |.asg tg e,c,st=>match st with
  |.Assign [t] v _=>jg G j rx e c v&&jcE c tg t&&!c.cmp&&tgV tg v&&notComp v
  |_=>false
 |.ex e,c,st=>match st with
  |.Expr v _=>jg G j rx e c v&&notComp v
  |_=>false
 |.ret e,c,st=>match st with
  |.Return (some v) _=>jg G j rx e c v
  |_=>false
 |.ite k a b,c,st=>match st with
  |.If x ss tt _=>chk G j k c x&&tst x&&chkYs a c ss&&chkYs b c tt
  |_=>false
 |.for_ tg ik es body _,c,st=>match st with
  |.For t it ss [] _=>jdQ it&&(match jcH c ik t it with
   |some as=>chkL G j es c as
   |none=>false)&&jcE c tg t&&chkYs body c ss
  |_=>false
 |.raise cls e,c,st=>match je9 st with
  |some (y,a)=>y==cls&&jbI c.sc cls&&!(cls==("__debug__" : Str))&&cs.contains cls&&jax a&&chk G j e c a
  |none=>false
noncomputable def chkYs:List SY->Stt->List Stmt->Bool
 |[],_,[]=>true
 |s::ss,c,t::ts=>jwc s c t&&chkYs ss c ts
 |_,_,_=>false
end
end
structure MakerX (P:Program) (w:World) (K:PySem.W.Frag) (mg:Str->Option Value) (base:Heap) (k:Nat) (x:Str) (C:Addr) (ps:List Str) (sp:Sp):Prop where
 ex:∃(f:Addr) (fd:FuncData),Mk K C f/\FnOk P w K mg base (CX1 P w) k f fd ps sp/\mg x=some (.ref C)/\jeD K fd ps []
structure OkY (G:List FnE) (j:Nat) (rx:List Nat) (cs:List Str) (E:XK) (c:Stt) (X:Cx):Prop extends OkS G j c X where
 hP:jf0 (CX1 X.prog X.w) X E
 hx:∀i∈rx,∀g,G[i]?=some g->g.lv<=j->CalleeX X.prog X.w X.K X.mg X.base g.lv g.name g.ps (spY X.K X.mg g.ps.length g.F)
 mks:∀(i:Nat) (g:FnE) (C:Addr) (k:Nat) (fs:List Str),G[i]?=some g->g.dat=some (.cls C k fs)->k+1<=j->MakerX X.prog X.w X.K X.mg X.base k g.name C g.ps (spY X.K X.mg g.ps.length g.F)
 rs:∀cls∈cs,jbI c.sc cls=true->(cls==("__debug__" : Str))=false->∃C,X.mg cls=some (.ref C)/\∀(a:Expr) (te:TE),jax a=true->PE X a te->∀(np cpos rpos:Pos),PS X (.Raise (some (.Call (.Name cls np) [a] [] cpos)) none rpos) (fun _ σ H=>te σ H fun v H1=>[v].length<=sizeLine/\E (.ref C) none H1)
section
variable {K:PySem.W.Frag} {X:Cx} {G:List FnE} {j:Nat} {rx:List Nat} {cs:List Str} {E:XK} {c:Stt} {EX:Str->Hp->Prop}
theorem jio {mg:Str->Option Value}{md:Md}{F:Fn}{np:Nat}{w1:Wd}{μ1:M}{H1:Hp}{ds:List D}{vs:List V}{Q:VK}(hl:ds.length=np)(R1:Rep K w1 μ1 H1)(l1:DenL K w1 μ1.length ds vs)(a:Aft K (exM mg E) w1 μ1.length (jaO md F ds μ1) fun d μ'=>jhg K w1 μ1.length d μ' Q):spY K mg np F vs H1 Q E:=by
 cases e:jaO md F ds μ1 with
 |bad=>rw[e]at a;exact a.elim
 |ok d μ'=>
  rw[e]at a
  obtain⟨h1,w,μ,ds',d',μ'',R,l,e',q⟩:=jjJ (K:=K) (EX:=E0) hl R1 l1 e a
  refine⟨h1,w,μ,ds',R,l,?_⟩
  rw[e']
  exact q
 |exc x μ'=>
  rw[e]at a
  cases x with
  |str cl=>
   refine⟨by rw[<- jae l1];exact hl,w1,μ1,ds,R1,l1,?_⟩
   have hfz:∀{μ0:M} {x0:D},jle μ0 μ1.length x0=some (.str cl)->x0=.str cl:=fun {μ0 x0} h=>by
    unfold jle at h
    cases x0 with
    |str z=>unfold jbP at h;exact Option.some.inj h
    |cel k=>
     unfold jbP at h
     unfold jhI at h
     split at h
     ·cases h
     ·split at h
      ·cases h
      ·dsimp only at h
       split at h<;>first|(cases h;done)|(obtain⟨_,_,z⟩:=jaW h;cases z)
    |non=>unfold jbP at h;cases h
    |bl _=>unfold jbP at h;cases h
    |int _=>unfold jbP at h;cases h
    |ty _=>unfold jbP at h;cases h
    |tup _=>unfold jbP at h;obtain⟨_,_,z⟩:=jaW h;cases z
    |lst _=>unfold jbP at h;obtain⟨_,_,z⟩:=jaW h;cases z
    |scr _=>unfold jbP at h;obtain⟨_,_,z⟩:=jaW h;cases z
    |dK _ _=>unfold jbP at h;obtain⟨_,_,z⟩:=jaW h;cases z
    |dT _ _=>unfold jbP at h;obtain⟨_,_,z⟩:=jaW h;cases z
    |dF _ _=>unfold jbP at h;obtain⟨_,_,z⟩:=jaW h;cases z
    |obj _ _ _=>unfold jbP at h;obtain⟨_,_,z⟩:=jaW h;cases z
   have fin:∀{μ0:M},F ds μ1=.exc (.str cl) μ0->μ0.take μ1.length=μ1->μ'=μ1->Aft K (exM mg E) w1 μ1.length (F ds μ1) fun d μ'=>jhg K w1 μ1.length d μ' Q:=fun {μ0} e0 ht hμ=>by
    rw[e0]
    intro w2 H2 x2 R2
    subst hμ
    obtain⟨w3,x3,R3,_⟩:=jmo (keep:=[]) (cs:=[]) R1 x2 R2 ht List.nodup_nil (fun k h=>by cases h) rfl
    simp only[List.map_nil,List.append_nil]at x3 R3
    exact a w3 H2 x3 R3
   cases md with
   |raw=>
    have e2:F ds μ1=.exc (.str cl) μ':=e
    rw[e2]
    exact a
   |frz=>
    simp only[jaO]at e
    split at e
    ·split at e
     ·split at e<;>cases e
     ·cases e
    ·rename_i x0 μ0 e0
     split at e
     ·rename_i ht
      split at e
      ·rename_i x' hx'
       simp only[Out.exc.injEq]at e
       obtain⟨rfl,rfl⟩:=e
       have:=hfz hx'
       subst this
       exact fin e0 ht rfl
      ·cases e
     ·cases e
    ·cases e
   |new=>
    simp only[jaO]at e
    split at e
    ·split at e
     ·split at e<;>cases e
     ·cases e
    ·rename_i x0 μ0 e0
     split at e
     ·rename_i ht
      split at e
      ·rename_i x' hx'
       simp only[Out.exc.injEq]at e
       obtain⟨rfl,rfl⟩:=e
       have:=hfz hx'
       subst this
       exact fin e0 ht rfl
      ·cases e
     ·cases e
    ·cases e
  |_=>exact a.elim
theorem jqw {EX:Str->Hp->Prop}{w:Wd}{n:Nat}{x:D}{ds:List D}{μ:M}{P:D->M->Prop}(h:Aft K EX w n (jm9 x ds μ) P):∃d μ',jm9 x ds μ=.ok d μ'/\P d μ':=by
 revert h
 unfold jm9
 split
 ·split
  ·split
   ·exact fun h=>⟨_,_,rfl,h⟩
   ·exact fun h=>h.elim
  ·exact fun h=>h.elim
 ·exact fun h=>h.elim
theorem jtB {mg:Str->Option Value}{C:Addr}{F:Fn}{np:Nat}{vs:List V}{H:Hp}{Q:VK}{x dx:Addr}(h:spY K mg np (mkF C F) vs H Q E)(hx:H x=none)(hdx:H dx=none)(ne:dx≠x) :
  spY K mg (np+1) F (.ref x::vs) (upd (upd H dx (.own x)) x (.ins C dx [])) (fun v H2=>v=.non/\Q (.ref x) H2) E:=by
 obtain⟨hl,w,μ,ds,R,l,a⟩:=h
 have R0:Rep K w μ (upd H dx (.own x)):=R.same (jgP hdx)
 have hx':(upd H dx (.own x)) x=none:=by rw[jaj (Ne.symm ne)];exact hx
 obtain⟨w',R',x1,hg⟩:=R0.cell hx' (.ins C dx []) (.obj C [] []) (fun w' x=>⟨dx,[],rfl,by rw[jaC];rfl,by unfold DenL;rfl⟩)
 have hlen:(μ++[some (Cl.obj C [] [])]).length=μ.length+1:=by simp
 refine⟨by simp[hl],w',μ++[some (.obj C [] [])],.cel μ.length::ds,R',?_,?_⟩
 ·rw[hlen]
  unfold DenL
  exact⟨.ref x,vs,rfl,by unfold Den;exact⟨Nat.lt_succ_self _,by rw[hg]⟩,l.mono x1⟩
 ·rw[hlen]
  unfold mkF at a
  cases e:F (.cel μ.length::ds) (μ++[some (.obj C [] [])])with
  |bad=>rw[e]at a;exact a
  |exc y μ'=>
   rw[e]at a
   cases y with
   |str c=>exact fun w2 H2 x2 R2=>a w2 H2 (x1.trans x2) R2
   |_=>exact a
  |ok d μ'=>
   rw[e]at a
   cases d with
   |non=>
    intro w2 H2 v x2 R2 dv
    refine⟨by unfold Den at dv;exact dv,a w2 H2 (.ref x) (x1.trans x2) R2 ?_⟩
    unfold Den
    exact⟨Nat.lt_of_lt_of_le (Nat.lt_succ_self _) x2.le,by rw[x2.g _ (Nat.lt_succ_self _),hg]⟩
   |_=>exact a.elim
theorem jnC (o:OkY G j rx cs E c X):∀(x:XE) {e:Expr},jg G j rx x c e=true->PE X e (jw2 X.K (exM X.mg E) (evX G x))
 |.call f md es,e,h=>by
  have h':(rx.contains f&&chk G j (.call f md es) c e)=true:=h
  clear h
  simp only[Bool.and_eq_true]at h'
  obtain⟨hf,h⟩:=h'
  have hh:=jfb (P:=fun x _ y ys _=>(match G[f]? with
   |some g=>g.name==x&&jbI c.sc x&&es.length==g.ps.length&&decide (g.lv<=j)
   |none=>false)&&chkL G j es c (y::ys)&&jai (y::ys)) h
  clear h
  obtain⟨x,q,y,ys,p,rfl,h⟩:=hh
  simp only[Bool.and_eq_true]at h
  obtain⟨⟨h1,h2⟩,h3⟩:=h
  split at h1
  ·rename_i g hg
   simp only[Bool.and_eq_true,beq_iff_eq,decide_eq_true_eq]at h1
   obtain⟨⟨⟨a1,a2⟩,a3⟩,a4⟩:=h1
   subst a1
   have hA:=(sndL es o.toOk h2).1
   obtain⟨fa,fd,F,hm,hkp,hb⟩:=(o.hx f (by simpa using hf) g hg a4).ex
   have k1:=h3
   unfold jai at k1
   simp only[List.all_cons,Bool.and_eq_true]at k1
   have gl:=jan (jbu o.toOk a2)
   refine imE (jmz (hdb:=gl.2.1) (he:=jaK k1.1) (hpl:=jbq k1.2) F (o.room.mono a4) gl.1 hm hkp hb .nil o.hP hA) fun σ H Q=>?_
   rintro⟨w,μ,ρ,R,S,a⟩
   obtain⟨ds,μ1,e1,a⟩:=a.noXb
   unfold jhu at a
   rw[hg]at a
   refine⟨w,μ,ρ,ds,μ1,R,S,e1,fun w1 H1 vs x1 R1 d1=>?_⟩
   show spY X.K X.mg g.ps.length g.F (vs++[]) H1 Q E
   rw[List.append_nil]
   exact jio ((jg5 e1).trans a3) R1 d1 (a.ext x1 fun d μ' _ q w2 H2 v x2 R2 d2=>q w2 H2 v (x1.trans x2) R2 d2)
  ·cases h1
 |.new f md es,e,h=>by
  have hh:=jfb (P:=fun x _ y ys _=>(match G[f]? with
   |some g=>g.name==x&&jbI c.sc x&&es.length+1==g.ps.length&&(match g.dat with
    |some (.cls _ k _)=>decide (k+1<=j)
    |_=>false)
   |none=>false)&&chkL G j es c (y::ys)&&jai (y::ys)) h
  clear h
  obtain⟨x,q,y,ys,p,rfl,h⟩:=hh
  simp only[Bool.and_eq_true]at h
  obtain⟨⟨h1,h2⟩,h3⟩:=h
  split at h1
  ·rename_i g hg
   simp only[Bool.and_eq_true,beq_iff_eq]at h1
   obtain⟨⟨⟨a1,a2⟩,a3⟩,a4⟩:=h1
   subst a1
   split at a4
   ·rename_i C k fs hd
    have hk:k+1<=j:=by simpa using a4
    have hA:=(sndL es o.toOk h2).1
    obtain⟨fa,fd,M,F,hm,hb⟩:=(o.mks f g C k fs hg hd hk).ex
    have k1:=h3
    unfold jai at k1
    simp only[List.all_cons,Bool.and_eq_true]at k1
    have gl:=jan (jbu o.toOk a2)
    refine imE (jq8 (hdb:=gl.2.1) (he:=jaK k1.1) (hpl:=jbq k1.2) M F (o.room.mono hk) gl.1 hm hb .nil o.hP hA) fun σ H Q=>?_
    rintro⟨w,μ,ρ,R,S,a⟩
    obtain⟨ds,μ1,e1,a⟩:=a.noXb
    unfold jsV at a
    rw[hg]at a
    dsimp only at a
    rw[hd]at a
    refine⟨w,μ,ρ,ds,μ1,R,S,e1,fun w1 H1 vs x1 R1 d1 x dx hx hdx ne=>?_⟩
    have:=jtB (jio (np:=es.length) (jg5 e1) R1 d1 (a.ext x1 fun d μ' _ q w2 H2 v x2 R2 d2=>q w2 H2 v (x1.trans x2) R2 d2)) hx hdx ne
    rw[List.append_nil,<- a3]
    exact this
   ·cases a4
  ·cases h1
 |.app ob x,e,h=>by
  unfold jg at h
  split at h
  ·rename_i z n q ys p
   split at h
   ·rename_i y
    simp only[Bool.and_eq_true,beq_iff_eq]at h
    obtain⟨⟨⟨⟨⟨rfl,h1⟩,h2⟩,h3⟩,h4⟩,h5⟩:=h
    have ih:=jnC o x h5
    have k:=snd ob o.toOk h1
    refine imE (joh PySem.F.plainAttrs_list PySem.F.slot_list_append PySem.F.type_list_append jfs ⟨k.v⟩ ⟨pac ih jb6 h3⟩ h2 (by unfold jai;simp[h3]) (by decide) (by simpa using h4)).h fun σ H Q=>?_
    rintro⟨w,μ,ρ,R,S,a⟩
    obtain⟨d1,μ1,e1,a⟩:=a.noXb
    split at a
    ·rename_i hok
     refine⟨w,μ,ρ,d1,μ1,R,S,e1,fun w1 H1 v1 x1 R1 k1=>⟨jhQ (.inl rfl) R1 k1 hok,w1,μ1,ρ,R1,S.mono x1,?_⟩⟩
     have a':Aft X.K (exM X.mg E) w1 μ1.length ((evX G x ρ μ1).bind fun d μ2=>jm9 d1 [d] μ2) fun d μ'=>jhg X.K w1 μ1.length d μ' Q:=a.ext x1 fun d μ' _ q w2 H2 v x2 R2 d2=>q w2 H2 v (x1.trans x2) R2 d2
     refine a'.bind fun d2 μ2 e2 a2 w2 H2 v2 x2 R2 k2=>?_
     obtain⟨d3,μ3,e3,q⟩:=jqw a2
     exact jmx w2 μ2 H2 d1 v1 [d2] d3 μ3 [v2] Q R2 (k1.mono x2) (DenL.one k2) e3 fun w3 H3 v3 x3 R3 k3=>q w3 H3 v3 (x2.trans x3) R3 k3
    ·exact a.elim
   ·cases h
  ·cases h
theorem jlK {tg:Tg}{x:XE}{g:TG}(hT:jqk K tg g){D:Ends}{σ:_L2.St}{H:Hp}:jj7 K EX (jh8 G (.asg tg x)) D σ H->jsO (jw2 K EX (evX G x)) g D σ H:=by
 rintro⟨w,μ,ρ,R,S,a⟩
 have a':Aft K EX w μ.length ((evX G x ρ μ).bind fun d μ1=>match jiR tg d ρ with
  |some ρ1=>.ok (.nx ρ1) μ1
  |none=>.bad) (jgi K w μ.length D):=a
 refine⟨w,μ,ρ,R,S,a'.bind fun d μ1 e1 a1 w1 H1 v x1 R1 d1=>?_⟩
 split at a1
 ·rename_i ρ1 ha
  exact hT w1 _ H1 ρ ρ1 σ d v D.nx R1 (S.mono x1) d1 ha fun σ' S'=>a1 w1 H1 x1 R1 σ' S'
 ·exact a1.elim
theorem T3S.x {r:S3->M->Out Fl}{D:Ends}{σ:_L2.St}{H:Hp}:jj7 K EX (fun ρ μ=>noX (r ρ μ)) D σ H->T3S K r D σ H:=by
 rintro⟨w,μ,ρ,R,S,a⟩
 obtain⟨fl,μ1,e1,q⟩:=a.noX
 exact⟨w,μ,ρ,fl,μ1,R,S,e1,q⟩
theorem jo8 (o:OkY G j rx cs E c X){tg:Tg}{x:XE}{t v:Expr}{pos:Pos}(he:jg G j rx x c v=true)(ht:jcE c tg t=true)(hcm:c.cmp=false)(hx:tgV tg v=true)(hc:notComp v=true):PS X (.Assign [t] v pos) (jj7 X.K (exM X.mg E) (jh8 G (.asg tg x))):=by
 have k:=jnC o x he
 obtain⟨hg,hst⟩:=jkC o.toOk ht
 cases tg with
 |tp is=>
  simp only[tgV,Bool.and_eq_true,Bool.not_eq_true']at hx
  have hst2:swappedStores [t] v X.env=pure none:=by
   cases t with
   |Tuple es k p=>exact jeL hx.2
   |_=>cases ht
  exact imS (jlv k hg (show swapsWith v (some t) pos.line X.env=pure false from jbQ hx.1) hst2 (by rw[jee hst];rfl)) fun D σ H q=>jlK (jdV _) q
 |nm i=>
  have ht':jh9 c i t=true:=ht
  unfold jh9 at ht'
  split at ht'
  ·rename_i y px
   rw[hcm]at ht'
   have hok:jfk c.N c.sc i y=true:=ht'
   have hok':jfk X.N X.env.scope i y=true:=by rw[o.hN,o.sc];exact hok
   exact imS (jgY (by rw[o.hN];exact o.nd) hok' k hc (o.fn hcm y)) fun D σ H q=>jlK (g:=jej i) (jdV (.nm i)) q
  ·cases ht'
theorem jpf (o:OkY G j rx cs E c X){k:_L3.E}{a b:List SY}{x:Expr}{ss tt:List Stmt}{pos:Pos}(hk:chk G j k c x=true)(ht:tst x=true)(ha:PSs X ss (jj7 X.K (exM X.mg E) (runYs G a)))(hb:PSs X tt (jj7 X.K (exM X.mg E) (runYs G b))):PS X (.If x ss tt pos) (jj7 X.K (exM X.mg E) (jh8 G (.ite k a b))):=by
 refine imS (ju2 ((snd k o.toOk hk).t ht) ha hb) fun D σ H=>?_
 rintro⟨w,μ,ρ,R,S,a⟩
 obtain⟨b',μ1,a1,a⟩:=a.noXb
 refine⟨w,μ,ρ,b',μ1,R,S,a1,fun w1 H1 x1 R1=>?_⟩
 have sh:∀r:Out Fl,Aft X.K (exM X.mg E) w μ.length r (jgi X.K w μ.length D)->Aft X.K (exM X.mg E) w1 μ1.length r (jgi X.K w1 μ1.length D):=fun r h=>h.ext x1 fun fl μ' _ q w2 H2 x2 R2=>q w2 H2 (x1.trans x2) R2
 dsimp only
 cases b' with
 |true=>
  rw[if_pos rfl]at a ⊢
  exact⟨w1,μ1,ρ,R1,S.mono x1,sh _ a⟩
 |false=>
  rw[if_neg Bool.false_ne_true]at a ⊢
  exact⟨w1,μ1,ρ,R1,S.mono x1,sh _ a⟩
noncomputable def jtc (K:PySem.W.Frag)(EX:Str->Hp->Prop)(DD:Ends)(w1:Wd)(n1:Nat)(ok:M->Bool)(tg:Tg)(body:S3->M->Out Fl)(fg:List Nat)(xs:List D)(i:Nat)(σ:_L2.St)(H:Hp):Prop:=
 i<=xs.length/\∃(w2:Wd) (μ:M) (ρ':S3),Ext w1 w2 n1 μ.length/\Rep K w2 μ H/\jb1 K w2 μ.length ρ' σ/\Aft K EX w2 μ.length (jdh ok tg body fg (xs.drop i) ρ' μ) (jgi K w2 μ.length DD)
theorem jsr {w:Wd}{n:Nat}{ok:M->Bool}{tg:Tg}{body:S3->M->Out Fl}{fg:List Nat}{xs:List D}{ρ:S3}{μ:M}{P:Fl->M->Prop}(a:Aft K EX w n (jdh ok tg body fg xs ρ μ) P):ok μ=true:=by
 cases xs<;>(unfold jdh at a;split at a<;>first|assumption|exact a.elim)
theorem jn8 {ok:M->Bool}{tg:Tg}{g:TG}{body:S3->M->Out Fl}{fg:List Nat}{ρ:S3}{σ:_L2.St}{J:It}{xs:List _L3.D}{w1:Wd}{μ1:M}{H1:Hp}{D:Ends}(hT:jqk K tg g)(R1:Rep K w1 μ1 H1)(S1:jb1 K w1 μ1.length ρ σ)
  (hJ:jrw K w1 μ1.length ok xs J) (a:Aft K EX w1 μ1.length (jdh ok tg body fg xs ρ μ1) (jgi K w1 μ1.length D)):Lop J g (jj7 K EX body) D σ H1:=by
 refine⟨fun i n σ' H=>n=xs.length - i/\jtc K EX D w1 μ1.length ok tg body fg xs i σ' H,
  ⟨xs.length,by simp,Nat.zero_le _,w1,μ1,ρ,Ext.refl _ _,R1,S1,a⟩,?_⟩
 rintro i n σ' H ⟨rfl,hi,w2,μ,ρ',x2,R2,S2,ef⟩
 have hok:=jsr ef
 obtain⟨hstop,hgo⟩:=hJ w2 μ H x2 R2 hok
 by_cases hlt:i<xs.length
 ·obtain⟨d0,hd0,hdr⟩:=jfZ hlt
  obtain⟨g1,g2⟩:=hgo i d0 hd0
  rw[hdr]at ef
  unfold jdh at ef
  rw[if_pos hok]at ef
  split at ef
  ·rename_i ρ1 has
   refine .inr ⟨g1,jtc K EX D w1 μ1.length ok tg body fg xs (i+1),
    fun σ'' H' r=>⟨xs.length - (i+1),by omega,rfl,r⟩,fun x H3 hyl=>?_⟩
   obtain⟨w3,x3,R3,d3⟩:=g2 x H3 hyl
   refine hT w3 μ H3 _ ρ1 _ d0 x _ R3 (S2.mono x3) d3 has fun σ2 S3'=>?_
   refine⟨w3,μ,ρ1,R3,S3',?_⟩
   have sh:∀{w4:Wd} {μa:M} {r:Out Fl},Ext w3 w4 μ.length μa.length->Aft K EX w2 μ.length r (jgi K w2 μ.length D)->Aft K EX w4 μa.length r (jgi K w4 μa.length D):=fun x4 h=>h.ext (x3.trans x4) fun fl μ' _ q w5 H5 x5 R5=>q w5 H5 ((x3.trans x4).trans x5) R5
   split at ef
   ·rename_i ρ2 μa eb
    rw[eb]
    exact fun w4 H4 x4 R4 σ4 S4=>⟨hlt,w4,μa,_,(x2.trans x3).trans x4,R4,S4.forget fg,sh x4 ef⟩
   ·rename_i ρ2 μa eb
    rw[eb]
    exact fun w4 H4 x4 R4 σ4 S4=>⟨hlt,w4,μa,_,(x2.trans x3).trans x4,R4,S4.forget fg,sh x4 ef⟩
   ·rename_i ρ2 μa eb
    rw[eb]
    exact fun w4 H4 x4 R4 σ4 S4=>ef w4 H4 (x3.trans x4) R4 σ4 (S4.forget fg)
   ·rename_i d μa eb
    rw[eb]
    exact fun w4 H4 x4 R4 v4 d4=>ef w4 H4 (x3.trans x4) R4 v4 d4
   ·rename_i y μa eb
    rw[eb]
    exact Aft.ext (o:=(.exc y μa:Out Fl)) x3 ef fun _ _ z=>by cases z
   ·exact ef.elim
  ·exact ef.elim
 ·have ei:i=xs.length:=by omega
  subst ei
  rw[List.drop_length]at ef
  unfold jdh at ef
  rw[if_pos hok]at ef
  exact .inl ⟨hstop,ef w2 H (Ext.refl _ _) R2 σ' (S2.forget fg)⟩
theorem joq (o:OkY G j rx cs E c X){tg:Tg}{ik:IK}{es:List _L3.E}{body:List SY}{fg:List Nat}{t it:Expr}{as:List Expr}{ss:List Stmt}{pos:Pos}(hn:jdQ it=true)(hi:jcH c ik t it=some as)(hes:chkL G j es c as=true)(ht:jcE c tg t=true)(hb:PSs X ss (jj7 X.K (exM X.mg E) (runYs G body))):PS X (.For t it ss [] pos) (jj7 X.K (exM X.mg E) (jh8 G (.for_ tg ik es body fg))):=by
 have k:=sndL es o.toOk hes
 refine imS (jpx o.pass o.calm (jo3 o.toOk hi k.1 k.2.1 k.2.2) (jkC o.toOk ht).1 hb (jeo hn)) fun D σ H=>?_
 rintro⟨w,μ,ρ,R,S,a⟩
 obtain⟨ds,μ1,a1,a⟩:=a.noXb
 split at a
 ·rename_i xs hx
  exact⟨w,μ,ρ,ds,μ1,xs,R,S,a1,hx,fun w1 H1 J x1 R1 hJ=>jn8 (jdV tg) R1 (S.mono x1) hJ (a.ext x1 fun fl μ' _ q w2 H2 x2 R2=>q w2 H2 (x1.trans x2) R2)⟩
 ·exact a.elim
theorem joG {s:SY}{ss:List SY}{st:Stmt}{sts:List Stmt}(h1:PS X st (jj7 X.K EX (jh8 G s)))(h2:PSs X sts (jj7 X.K EX (runYs G ss))):PSs X (st::sts) (jj7 X.K EX (runYs G (s::ss))):=by
 refine jtJ (jer h1 h2) fun D σ H=>?_
 rintro⟨w,μ,ρ,R,S,a⟩
 replace a:Aft X.K EX w μ.length (match jh8 G s ρ μ with
  |.ok (.nx ρ1) μ1=>runYs G ss ρ1 μ1
  |r=>r) (jgi X.K w μ.length D):=a
 refine⟨w,μ,ρ,R,S,?_⟩
 cases e2:jh8 G s ρ μ with
 |bad=>rw[e2]at a;exact a
 |exc x μ1=>
  rw[e2]at a
  exact Aft.ext (o:=(.exc x μ1:Out Fl)) (Ext.refl _ _) a fun _ _ z=>by cases z
 |ok f1 μ1=>
  rw[e2]at a
  intro w1 H1 x1 R1
  cases f1 with
  |nx ρ1=>
   intro σ1 S1
   exact⟨w1,μ1,ρ1,R1,S1,Aft.ext x1 a fun fl μ' _ q w2 H2 x2 R2=>q w2 H2 (x1.trans x2) R2⟩
  |rt d=>exact a w1 H1 x1 R1
  |bk ρ1=>exact a w1 H1 x1 R1
  |ct ρ1=>exact a w1 H1 x1 R1
end
end _L3
namespace _L3
open PySem PySem.Spec PyProof.Rows _L2
section
variable {G:List FnE} {j:Nat} {rx:List Nat} {cs:List Str} {EE:XK}
mutual
theorem jxQ:∀(s:SY) {c:Stt} {X:Cx} {st:Stmt},OkY G j rx cs EE c X->jwc G j rx cs s c st=true->PS X st (jj7 X.K (exM X.mg EE) (jh8 G s))
 |.st s,c,X,st,o,h=>imS (jxu s o.toOkS h) fun D σ H q=>T3S.x q
 |.asg tg e,c,X,st,o,h=>by
  have hh:=ji0 (P:=fun t v _=>jg G j rx e c v&&jcE c tg t&&!c.cmp&&tgV tg v&&notComp v) h
  clear h
  obtain⟨t,v,p,rfl,h⟩:=hh
  simp only[Bool.and_eq_true,Bool.not_eq_true']at h
  exact jo8 o h.1.1.1.1 h.1.1.1.2 h.1.1.2 h.1.2 h.2
 |.ex e,c,X,st,o,h=>by
  have hh:=jpt (P:=fun v=>jg G j rx e c v&&notComp v) h
  clear h
  obtain⟨v,p,rfl,h⟩:=hh
  simp only[Bool.and_eq_true]at h
  refine imS (jiS (jnC o e h.1) (jbQ h.2)) fun D σ H=>?_
  rintro⟨w,μ,ρ,R,S,a⟩
  exact⟨w,μ,ρ,R,S,a.bind fun d μ1 e1 a1 w1 H1 v1 x1 R1 k1=>a1 w1 H1 x1 R1 σ (S.mono x1)⟩
 |.ret e,c,X,st,o,h=>by
  have hh:=jmV (P:=fun v=>jg G j rx e c v) h
  clear h
  obtain⟨v,p,rfl,h⟩:=hh
  refine imS (jlg (jnC o e h)) fun D σ H=>?_
  rintro⟨w,μ,ρ,R,S,a⟩
  exact⟨w,μ,ρ,R,S,a.bind fun d μ1 e1 a1 w1 H1 v1 x1 R1 k1=>a1 w1 H1 x1 R1 v1 k1⟩
 |.ite k a b,c,X,st,o,h=>by
  have hh:=jpB (P:=fun x ss tt=>chk G j k c x&&tst x&&chkYs G j rx cs a c ss&&chkYs G j rx cs b c tt) h
  clear h
  obtain⟨x,ss,tt,p,rfl,h⟩:=hh
  simp only[Bool.and_eq_true]at h
  obtain⟨⟨⟨h1,h2⟩,h3⟩,h4⟩:=h
  exact jpf o h1 h2 (sndYs a o h3) (sndYs b o h4)
 |.for_ tg ik es body fg,c,X,st,o,h=>by
  have hh:=jmI (P:=fun t it ss=>jdQ it&&(match jcH c ik t it with
   |some as=>chkL G j es c as
   |none=>false)&&jcE c tg t&&chkYs G j rx cs body c ss) h
  clear h
  obtain⟨t,it,ss,p,rfl,h⟩:=hh
  simp only[Bool.and_eq_true]at h
  obtain⟨⟨⟨h1,h2⟩,h3⟩,h4⟩:=h
  split at h2
  ·rename_i as ha
   exact joq o h1 ha h2 h3 (sndYs body o h4)
  ·cases h2
 |.raise cls e,c,X,st,o,h=>by
  have h':(match je9 st with
   |some (y,a)=>y==cls&&jbI c.sc cls&&!(cls==("__debug__" : Str))&&cs.contains cls&&jax a&&chk G j e c a
   |none=>false)=true:=h
  clear h
  split at h'
  ·rename_i y a ha
   simp only[Bool.and_eq_true,Bool.not_eq_true',beq_iff_eq]at h'
   obtain⟨⟨⟨⟨⟨rfl,h2⟩,h3⟩,h4⟩,h5⟩,h6⟩:=h'
   obtain⟨np,cpos,rpos,rfl⟩:=jiN ha
   obtain⟨C,hm,hps⟩:=o.rs y (by simpa using h4) h2 h3
   refine imS (hps a _ h5 (snd e o.toOk h6).v np cpos rpos) fun D σ H=>?_
   rintro⟨w,μ,ρ,R,S,a⟩
   obtain⟨d,μ1,e1,a⟩:=a.noXb
   have a':∀w' H',Ext w w' μ.length μ1.length->Rep X.K w' μ1 H'->exM X.mg EE y H':=a
   refine⟨w,μ,ρ,d,μ1,R,S,e1,fun w1 H1 v x1 R1 d1=>⟨by show 1<=sizeLine;decide,?_⟩⟩
   obtain⟨C',hm',hE⟩:=a' w1 H1 x1 R1
   rw[hm]at hm'
   cases hm'
   exact hE
  ·cases h'
theorem sndYs:∀(ss:List SY) {c:Stt} {X:Cx} {sts:List Stmt},OkY G j rx cs EE c X->chkYs G j rx cs ss c sts=true->PSs X sts (jj7 X.K (exM X.mg EE) (runYs G ss))
 |[],c,X,sts,o,h=>by
  cases sts with
  |nil=>
   refine jtJ jly fun D σ H=>?_
   rintro⟨w,μ,ρ,R,S,a⟩
   have a':jgi X.K w μ.length D (.nx ρ) μ:=a
   exact a' w H (Ext.refl _ _) R σ S
  |cons _ _=>
   have h':false=true:=h
   cases h'
 |s::ss,c,X,sts,o,h=>by
  cases sts with
  |nil=>
   have h':false=true:=h
   cases h'
  |cons t ts=>
   have h':(jwc G j rx cs s c t&&chkYs G j rx cs ss c ts)=true:=h
   clear h
   simp only[Bool.and_eq_true]at h'
   exact joG (jxQ s o h'.1) (sndYs ss o h'.2)
end
end
section
variable {P:Program} {w:World} {K:PySem.W.Frag} {mg:Str->Option Value} {base:Heap}
noncomputable def jvI (P:Program)(w:World)(K:PySem.W.Frag)(mg:Str->Option Value)(base:Heap)(j:Nat)(G:List FnE)(rx:List Nat):Prop:=
 ∀i∈rx,∀g,G[i]?=some g->g.lv<=j->CalleeX P w K mg base g.lv g.name g.ps (spY K mg g.ps.length g.F)
theorem jbV {j:Nat}{G:List FnE}:jvI P w K mg base j G []:=fun i h=>by cases h
theorem jaG {j i:Nat}{G:List FnE}{rx:List Nat}{g:FnE}(hg:G[i]?=some g)(h:CalleeX P w K mg base g.lv g.name g.ps (spY K mg g.ps.length g.F))(t:jvI P w K mg base j G rx):jvI P w K mg base j G (i::rx):=fun i' hi g' e hl=>by
 rcases List.mem_cons.mp hi with rfl|hi
 ·rw[hg]at e
  cases e
  exact h
 ·exact t i' hi g' e hl
noncomputable def jpL (P:Program)(w:World)(K:PySem.W.Frag)(mg:Str->Option Value)(base:Heap)(j:Nat)(G:List FnE):Prop:=
 ∀(i:Nat) (g:FnE) (C:Addr) (k:Nat) (fs:List Str),G[i]?=some g->g.dat=some (.cls C k fs)->k+1<=j->MakerX P w K mg base k g.name C g.ps (spY K mg g.ps.length g.F)
noncomputable def jtM:Option Dat->Bool
 |some (.cls _ _ _)=>false
 |_=>true
theorem jbU {j:Nat}:jpL P w K mg base j []:=fun i g C k fs e=>by simp at e
theorem jap {j:Nat}{g:FnE}{G:List FnE}(h:jtM g.dat=true)(t:jpL P w K mg base j G):jpL P w K mg base j (g::G):=fun i g' C k fs e hd hk=>by
 cases i with
 |zero=>
  simp only[List.getElem?_cons_zero,Option.some.injEq]at e
  subst e
  rw[hd]at h
  cases h
 |succ i=>exact t i g' C k fs (by simpa using e) hd hk
theorem joV {j:Nat}{g:FnE}{G:List FnE}{C:Addr}{k:Nat}{fs:List Str}(h:g.dat=some (.cls C k fs))(m:MakerX P w K mg base k g.name C g.ps (spY K mg g.ps.length g.F))(t:jpL P w K mg base j G):jpL P w K mg base j (g::G):=fun i g' C' k' fs' e hd hk=>by
 cases i with
 |zero=>
  simp only[List.getElem?_cons_zero,Option.some.injEq]at e
  subst e
  rw[h]at hd
  cases hd
  exact m
 |succ i=>exact t i g' C' k' fs' (by simpa using e) hd hk
theorem jnD {j:Nat}{g:FnE}{G:List FnE}{C:Addr}{k:Nat}{fs:List Str}(h:g.dat=some (.cls C k fs))(hk:¬ k+1<=j)(t:jpL P w K mg base j G):jpL P w K mg base j (g::G):=fun i g' C' k' fs' e hd hk'=>by
 cases i with
 |zero=>
  simp only[List.getElem?_cons_zero,Option.some.injEq]at e
  subst e
  rw[h]at hd
  cases hd
  exact absurd hk' hk
 |succ i=>exact t i g' C' k' fs' (by simpa using e) hd hk'
noncomputable def jjO (K:PySem.W.Frag)(mg:Str->Option Value)(cs:List Str):Prop:=∀x∈cs,∃C,mg x=some (.ref C)/\ExcC K C
theorem jbg:jjO K mg []:=fun x h=>by cases h
theorem ji4 {x:Str}{C:Addr}{cs:List Str}(hm:mg x=some (.ref C))(hC:ExcC K C)(t:jjO K mg cs):jjO K mg (x::cs):=fun y h=>by
 rcases List.mem_cons.mp h with rfl|h
 ·exact⟨C,hm,hC⟩
 ·exact t y h
theorem jdU {x qual:Str}{st:Stmt}{f:Addr}{fd:FuncData}{N ps:List Str}{j:Nat}{G:List FnE}{rx:List Nat}{cs:List Str}{body:List SY}(F:Fun K x qual st f fd)(Sc:FnScope N ps (ja st))(T:Tab P w K mg base j G)(TX:jvI P w K mg base j G rx)(TM:jpL P w K mg base j G)(hc:jjO K mg cs)
  (h:chkYs G j rx cs body ⟨N,ja st,false⟩ (jac st)=true):FnOk P w K mg base (CX1 P w) (j+1) f fd ps (spY K mg ps.length (fnY G ps.length (N.length - ps.length) body)):=by
 obtain⟨oc,od,kV,doc,pm,an,cdv,ct,osl,rfl,lk,hcd⟩:=F.ex
 refine jut lk hcd Sc (fun vs H Q E h=>h.1) fun A outer s H vs Q E hr hsp=>?_
 let X:Cx:=jiZ (CX1 P w) P w K mg base N qual (ja st) f cdv A outer s H E
 have ok:OkY G j rx cs E ⟨N,ja st,false⟩ X:=⟨⟨⟨rfl,Sc.nd,rfl,rfl,hr,T.hm,T.hf,T.hd,fun _ _=>rfl⟩,PassesOwn.leaving,Sc.kind⟩,juP,TX,TM,fun cls hcl hg hdb=>by
  obtain⟨C,hm,hC⟩:=hc cls hcl
  have hgl:Gl X cls:=(jan (X:=X) hg).1
  exact⟨C,hm,fun a te hst hp np cpos rpos=>joU hC hgl hm (pac hp jb6 hst) hdb (jaK hst)⟩⟩
 refine⟨_,sndYs body ok h,?_⟩
 obtain⟨hl,w0,μ,ds,R,hD,a⟩:=hsp
 have hS:jb1 K w0 μ.length (ds.map some++List.replicate (N.length - ps.length) none) (_L2.start N vs):=by
  unfold _L2.start
  rw[hl]
  exact jb1.start hD _
 have hn:ds.length=ps.length:=by rw[jae hD];exact hl
 refine⟨w0,μ,_,R,hS,?_⟩
 unfold fnY at a
 rw[if_pos hn]at a
 cases e:runYs G body (ds.map some++List.replicate (N.length - ps.length) none) μ with
 |bad=>rw[e]at a;exact a
 |exc y μ1=>
  rw[e]at a
  exact Aft.ext (o:=(.exc y μ1:Out D)) (P:=fun d μ'=>jhg K w0 μ.length d μ' Q) (P':=fun _ _=>True) (Ext.refl _ _) a (fun _ _ z=>by cases z) |> fun h=>by
   cases y with
   |str c=>exact h
   |_=>exact h
 |ok fl μ1=>
  rw[e]at a
  cases fl with
  |rt d=>exact fun w1 H1 x1 R1 v dv=>a w1 H1 v x1 R1 dv
  |nx ρ1=>exact fun w1 H1 x1 R1 σ' S'=>a w1 H1 .non x1 R1 (by unfold Den;rfl)
  |bk ρ1=>exact a.elim
  |ct ρ1=>exact a.elim
theorem CalleeX.toC {k np:Nat}{x:Str}{ps:List Str}{F:Fn}(h:CalleeX P w K mg base k x ps (spY K mg np F)):_L2.Callee P w K mg base k x ps (jdi K np F):=by
 obtain⟨f,fd,H,hm,hk,hb⟩:=h.ex
 refine⟨f,fd,⟨fun vs H' Q E q=>H.len vs H' Q E0 ?_,fun A outer s H' args us vs Q E hr he hbi hv hs=>?_⟩,hm,hk,hb⟩
 ·obtain⟨h1,w0,μ,ds,d,μ',R,l,e,q⟩:=q
  exact⟨h1,w0,μ,ds,R,l,by rw[e];exact q⟩
 ·obtain⟨h1,w0,μ,ds,d,μ',R,l,e,q⟩:=hs
  refine codeAny_mono (H.run A outer s H' args us vs Q E0 hr he hbi hv ⟨h1,w0,μ,ds,R,l,by rw[e];exact q⟩) fun r s' hq=>?_
  cases r with
  |ok fl=>cases fl<;>exact hq
  |error e=>
   obtain⟨_,_,_,_,_,_,_,z⟩:=hq
   exact z.elim
theorem CalleeX.toX {k np:Nat}{x:Str}{ps:List Str}{F:Fn}(h:CalleeX P w K mg base k x ps (spY K mg np F)):CalleeX P w K mg base k x ps (spX K mg np F):=by
 obtain⟨f,fd,H,hm,hk,hb⟩:=h.ex
 refine⟨f,fd,H.imp fun vs H' Q E=>?_,hm,hk,hb⟩
 rintro⟨h1,w0,μ,ds,R,l,hh⟩
 refine⟨h1,w0,μ,ds,R,l,?_⟩
 rcases hh with⟨d,μ',e,q⟩|⟨c,μ',C,e,hm,q⟩
 ·rw[e]
  exact q
 ·rw[e]
  exact fun w' H'' x R'=>⟨C,hm,q w' H'' x R'⟩
end
end _L3
namespace _L3
open PySem PySem.Spec PyProof.Rows _L2
section
variable {α β:Type}
theorem jjT {x:D}{μ:M}{f:α->M->Out β}:(Out.exc x μ:Out α).bind f=.exc x μ:=rfl
theorem jsv:noX (Out.bad:Out α)=.bad:=rfl
end
theorem jjt {x:D}{μ:M}{k:S3->M->Out Fl}:jja (.exc x μ) k=.exc x μ:=rfl
theorem jjq {x:D}{μ:M}:jqH (.exc x μ)=.exc x μ:=rfl
section
variable {G:List FnE} {ρ:S3} {μ:M}
theorem jtp {np nl:Nat}{b:List SY}{ds:List D}:fnY G np nl b ds μ=if ds.length=np then jqH (runYs G b (ds.map some++List.replicate nl none) μ)else .bad:=rfl
theorem jmA:runYs G [] ρ μ=.ok (.nx ρ) μ:=rfl
theorem jko {s:SY}{ss:List SY}:runYs G (s::ss) ρ μ=jja (jh8 G s ρ μ) (runYs G ss):=rfl
theorem jrO {s:S}:jh8 G (.st s) ρ μ=noX (_L3.run G s ρ μ):=rfl
theorem jnj {tg:Tg}{e:XE}:jh8 G (.asg tg e) ρ μ=(evX G e ρ μ).bind fun d μ1=>jsI tg ρ d μ1:=rfl
theorem jsB {e:XE}:jh8 G (.ex e) ρ μ=(evX G e ρ μ).bind fun _ μ1=>.ok (.nx ρ) μ1:=rfl
theorem jpc {e:XE}:jh8 G (.ret e) ρ μ=(evX G e ρ μ).bind fun d μ1=>.ok (.rt d) μ1:=rfl
theorem joC {c:E}{a b:List SY}:jh8 G (.ite c a b) ρ μ=(noX ((ev G c).t ρ μ)).bind fun k μ1=>if k then runYs G a ρ μ1 else runYs G b ρ μ1:=rfl
theorem jnX {tg:Tg}{ik:IK}{es:List E}{body:List SY}{fg:List Nat}:jh8 G (.for_ tg ik es body fg) ρ μ=(noX (evL G es ρ μ)).bind fun ds μ1=>jvC ik ds tg (runYs G body) fg ρ μ1:=rfl
theorem jkG {cls:Str}{e:E}:jh8 G (.raise cls e) ρ μ=(noX ((ev G e).v ρ μ)).bind fun _ μ1=>.exc (.str cls) μ1:=rfl
theorem jn3 {f:Nat}{md:Md}{es:List E}:evX G (.call f md es) ρ μ=(noX (evL G es ρ μ)).bind fun ds μ1=>jhu G f md ds μ1:=rfl
theorem jst {f:Nat}{md:Md}{es:List E}:evX G (.new f md es) ρ μ=(noX (evL G es ρ μ)).bind fun ds μ1=>jsV G f md ds μ1:=rfl
theorem jsA {o:E}{e:XE}:evX G (.app o e) ρ μ=(noX ((ev G o).v ρ μ)).bind fun x μ1=>if jkX .append x μ1 then(evX G e ρ μ1).bind fun d μ2=>jm9 x [d] μ2 else .bad:=rfl
theorem jqt {i j:Nat}{a b:E}:_L3.run G (.par i j a b) ρ μ=((ev G a).v ρ μ).bind fun x μ1=>((ev G b).v ρ μ1).bind fun y μ2=>.ok (.nx ((ρ.set i (some x)).set j (some y))) μ2:=rfl
noncomputable def jv8 (is:List Nat)(ρ:S3)(d:D)(μ:M):Out Fl:=
 match(jeS μ d).bind fun ds=>jmg is ds ρ with
 |some ρ1=>.ok (.nx ρ1) μ
 |none=>.bad
theorem jsp {is:List Nat}{e:E}:_L3.run G (.unp is e) ρ μ=((ev G e).v ρ μ).bind fun d μ1=>jv8 is ρ d μ1:=rfl
noncomputable def jvT (o:Option Dat)(f:Str)(ρ:S3)(d x:D)(μ:M):Out Fl:=
 match jvV o f d x μ with
 |some μ1=>.ok (.nx ρ) μ1
 |none=>.bad
theorem joL {o e:E}{i:Nat}{f:Str}:_L3.run G (.setF o i f e) ρ μ=((ev G e).v ρ μ).bind fun d μ1=>((ev G o).v ρ μ1).bind fun x μ2=>jvT (jfS G i) f ρ d x μ2:=rfl
theorem jtF {a:E}{i:Nat}{f:Str}:(ev G (.fld a i f)).v ρ μ=((ev G a).v ρ μ).bind fun x μ1=>jsP (jfS G i) f x μ1:=rfl
theorem jmZ {C:Addr}{k:Nat}{fs0 fs:List Str}{f:Str}{ds:List D}{d:D}(h:jn f fs ds=some d):jsP (some (.cls C k fs0)) f (.obj C fs ds) μ=.ok d μ:=by
 unfold jsP jvE
 simp only[if_true]
 rw[h]
theorem js4 {g:FnE}{G:List FnE}{md:Md}{ds:List D}{C:Addr}{k:Nat}{fs:List Str}(h:g.dat=some (.cls C k fs)):jsV (g::G) 0 md ds μ=jaO md (mkF C g.F) ds μ:=by
 unfold jsV
 simp only[List.getElem?_cons_zero]
 rw[h]
theorem jwU {C:Addr}{F:Fn}{ds:List D}{μ':M}(h:F (.cel μ.length::ds) (μ++[some (.obj C [] [])])=.ok .non μ'):mkF C F ds μ=.ok (.cel μ.length) μ':=by
 unfold mkF
 rw[h]
theorem jtI {C:Addr}{F:Fn}{ds:List D}{x:D}{μ':M}(h:F (.cel μ.length::ds) (μ++[some (.obj C [] [])])=.exc x μ'):mkF C F ds μ=.exc x μ':=by
 unfold mkF
 rw[h]
theorem jlN {F:Fn}{ds:List D}{c:Str}{ν:M}(h:F ds μ=.exc (.str c) (μ++ν)):jaO .frz F ds μ=.exc (.str c) μ:=by
 unfold jaO
 simp only[h,List.take_left,if_true]
 rfl
theorem jjr {F:Fn}{ds:List D}{c:Str}(h:F ds μ=.exc (.str c) μ):jaO .frz F ds μ=.exc (.str c) μ:=jlN (ν:=[]) (by rw[List.append_nil];exact h)
theorem jox {ok:M->Bool}{tg:Tg}{body:S3->M->Out Fl}{fg:List Nat}{x:D}{xs:List D}{ρ1:S3}{y:D}{μ2:M}(ho:ok μ=true)(ha:jiR tg x ρ=some ρ1)(hb:body ρ1 μ=.exc y μ2):jdh ok tg body fg (x::xs) ρ μ=.exc y μ2:=by
 unfold jdh
 rw[if_pos ho,ha]
 dsimp only
 rw[hb]
theorem jnO {C:Addr}{k kc:Nat}{fs0 fs fs':List Str}{f:Str}{ds ds':List D}{d:D}(hk:μ[kc]?=some (some (.obj C fs ds)))(hl:fs.length<1000)(h1:jgo f fs=fs')(h2:jd9 f d fs ds=ds'):jvT (some (.cls C k fs0)) f ρ d (.cel kc) μ=.ok (.nx ρ) (μ.set kc (some (.obj C fs' ds'))):=by
 unfold jvT jvV jvN
 simp only[hk]
 rw[if_pos ⟨trivial,hl⟩,h1,h2]
end
end _L3
namespace _L3
open PySem PySem.Spec PyProof.Rows _L2
section
variable {K:PySem.W.Frag}
end
section
variable {P:Program} {w:World} {K:PySem.W.Frag} {mg:Str->Option Value} {base:Heap}
end
noncomputable def jvK (sc:Scope):List Expr->List Str->Bool
 |[],[]=>true
 |.Name x _::es,y::ys=>x==y&&jbI sc x&&jvK sc es ys
 |_,_=>false
theorem jl1 {mg:Str->Option Value}{sc:Scope}:∀{es:List Expr} {cs:List Str} {as:List Addr},jvK sc es cs=true->cs.map mg=as.map (fun a=>some (.ref a))->jlL mg sc es as
 |[],[],[],_,_=>trivial
 |[],[],_::_,_,h=>by cases h
 |[],_::_,_,h,_=>by cases h
 |.Name x _::es,[],_,h,_=>by simp[jvK]at h
 |.Name x _::es,y::ys,[],_,h=>by cases h
 |.Name x _::es,y::ys,a::as,h,hm=>by
  have h':(x==y&&jbI sc x&&jvK sc es ys)=true:=h
  simp only[Bool.and_eq_true,beq_iff_eq]at h'
  obtain⟨⟨rfl,h1⟩,h2⟩:=h'
  rw[List.map_cons,List.map_cons]at hm
  injection hm with m1 m2
  exact⟨m1,h1,jl1 h2 m2⟩
theorem excC_of {K:PySem.W.Frag} {C:Addr} (h:PySem.W.excIn K C juI "ValueError.__new__" =true):ExcC K C:=by
 unfold PySem.W.excIn at h
 cases lk:K.lookup C with
 |none=>rw[lk]at h;cases h
 |some o=>
  rw[lk]at h
  split at h
  ·rename_i dd cd sl ho
   cases ho
   split at h
   ·rename_i C' bm k0 k1 k2 k3 nw k5 hm hs
    simp only[Bool.and_eq_true,beq_iff_eq,Bool.not_eq_true']at h
    have e1:C'=C:=h.1.1.1.1.1
    have e2:nw = "ValueError.__new__":=h.1.1.1.1.2
    have e3:cd.hasDel=false:=h.1.1.1.2
    subst e1 e2
    cases cd
    cases sl
    dsimp only at hm hs e3
    subst hm hs e3
    exact⟨bm,_,_,_,_,_,_,_,_,_,_,k0,k1,k2,k3,k5,lk,h.1.1.2,h.1.2,h.2⟩
   ·cases h
  ·cases h
end _L3
namespace _K03
open PySem PySem.Spec PyProof.Rows _L2 _L3
noncomputable def top (i:Nat):Stmt:=PySem.Challenge.pw_pointpurse_k03_houses_refused.main.body.getD i (.Pass ⟨0,0,0,0⟩)
noncomputable def jbT:FnE:=⟨"LONGEST_NAME",[],1000000,fun _ _=>.bad,some (.cst (.int 8))⟩
theorem jgh:jbT.dat=some (.cst (.int 8)):=rfl
noncomputable abbrev jbE:Stmt:=top 1
noncomputable abbrev jfD:List Str:=["value","least"]
theorem jhO:FnScope jfD ["value","least"] (ja jbE):=⟨rfl,rfl,rfl,by decide +kernel,rfl,by decide +kernel,by decide +kernel⟩
noncomputable def jea:List S:=
  [.ret (.and_ (.bi (.isT "int") false [(.var 0)]) (.and_ (.not_ (.bi (.isT "bool") false [(.var 0)])) (.cmp .GtE (.var 0) (.var 1))))]
noncomputable abbrev jf2:List FnE:=[]
noncomputable def jd1:Fn:=fnOf jf2 2 0 jea
noncomputable def jaB:FnE:=⟨"is_number",["value","least"],1,jd1,none⟩
theorem ji9:chkSs jf2 0 jea ⟨jfD,ja jbE,false⟩ (jac jbE)=true:=by decide +kernel
noncomputable abbrev jcf:Stmt:=top 2
noncomputable abbrev jix:List Str:=["value"]
theorem jkg:FnScope jix ["value"] (ja jcf):=⟨rfl,rfl,rfl,by decide +kernel,rfl,by decide +kernel,by decide +kernel⟩
noncomputable def jfF:List S:=
  [.ret (.bi (.isT2 "list" "tuple") false [(.var 0)])]
noncomputable abbrev jh2:List FnE:=[]
noncomputable def jfi:Fn:=fnOf jh2 1 0 jfF
noncomputable def jcm:FnE:=⟨"is_list",["value"],1,jfi,none⟩
theorem jm:chkSs jh2 0 jfF ⟨jix,ja jcf,false⟩ (jac jcf)=true:=by decide +kernel
noncomputable abbrev ja8:Stmt:=top 3
noncomputable abbrev jel:List Str:=["value","many"]
theorem jgn:FnScope jel ["value","many"] (ja ja8):=⟨rfl,rfl,rfl,by decide +kernel,rfl,by decide +kernel,by decide +kernel⟩
noncomputable def jc5:List S:=
  [.ret (.and_ (.bi (.isT "tuple") false [(.var 0)]) (.cmp .Eq (.bi .len false [(.var 0)]) (.var 1)))]
noncomputable abbrev jek:List FnE:=[]
noncomputable def jcK:Fn:=fnOf jek 2 0 jc5
noncomputable def jaY:FnE:=⟨"is_tuple_of",["value","many"],1,jcK,none⟩
theorem jha:chkSs jek 0 jc5 ⟨jel,ja ja8,false⟩ (jac ja8)=true:=by decide +kernel
noncomputable abbrev jbr:Stmt:=top 4
noncomputable abbrev jeW:List Str:=["values"]
theorem jgZ:FnScope jeW ["values"] (ja jbr):=⟨rfl,rfl,rfl,by decide +kernel,rfl,by decide +kernel,by decide +kernel⟩
noncomputable def jdu:List S:=
  [.ret (.cmp .Eq (.bi .lenSet false [(.var 0)]) (.bi .len false [(.var 0)]))]
noncomputable abbrev jeZ:List FnE:=[]
noncomputable def jdt:Fn:=fnOf jeZ 1 0 jdu
noncomputable def jbp:FnE:=⟨"are_unlike",["values"],1,jdt,none⟩
theorem jie:chkSs jeZ 0 jdu ⟨jeW,ja jbr,false⟩ (jac jbr)=true:=by decide +kernel
noncomputable abbrev jbk:Stmt:=top 5
noncomputable abbrev jeV:List Str:=["numbers","place"]
theorem jgW:FnScope jeV ["numbers"] (ja jbk):=⟨rfl,rfl,rfl,by decide +kernel,rfl,by decide +kernel,by decide +kernel⟩
noncomputable def jdR:List S:=
  [.ite (.cmp .LtE (.ix (.var 0) (.var 1)) (.ix (.var 0) (.bin .Sub false (.var 1) (.cst (.int 1)))))
   [.ret (.cst (.bl false))]
   []]
noncomputable def jdx:List S:=
  [.for_ (.nm 1) .rng2 [(.cst (.int 1)),(.bi .len false [(.var 0)])] jdR [1],
  .ret (.cst (.bl true))]
noncomputable abbrev jeX:List FnE:=[]
noncomputable def jdo:Fn:=fnOf jeX 1 1 jdx
noncomputable def jbm:FnE:=⟨"are_rising",["numbers"],1,jdo,none⟩
theorem jhM:chkSs jeX 0 jdx ⟨jeV,ja jbk,false⟩ (jac jbk)=true:=by decide +kernel
noncomputable abbrev jcc:Stmt:=top 20
noncomputable abbrev jh6:List Str:=["text"]
theorem jkb:FnScope jh6 ["text"] (ja jcc):=⟨rfl,rfl,rfl,by decide +kernel,rfl,by decide +kernel,by decide +kernel⟩
noncomputable def jd7:E:=(.comp false 1 (.nm 0) .str [(.var 0)] [] (.chain .LtE .LtE (.cst (.str "a")) (.var 0) (.cst (.str "z"))))
noncomputable def jfy:List S:=
  [.ite (.or_ (.not_ (.bi (.isT "str") false [(.var 0)])) (.not_ (.chain .LtE .LtE (.cst (.int 1)) (.bi .len false [(.var 0)]) (.gl 0))))
   [.ret (.cst (.bl false))]
   [],
  .ret (.bi .all false [jd7])]
noncomputable abbrev jfH:List FnE:=[jbT]
noncomputable def jfz:Fn:=fnOf jfH 1 0 jfy
noncomputable def jbM:FnE:=⟨"is_name",["text"],1,jfz,none⟩
theorem jl9:chkSs jfH 0 jfy ⟨jh6,ja jcc,false⟩ (jac jcc)=true:=by decide +kernel
noncomputable abbrev jcW:Stmt:=top 21
noncomputable abbrev jjv:List Str:=["holds","words"]
theorem jm3:FnScope jjv ["holds","words"] (ja jcW):=⟨rfl,rfl,rfl,by decide +kernel,rfl,by decide +kernel,by decide +kernel⟩
noncomputable def jhc:List SY:=
  [.ite (.not_ (.var 0))
   [.raise "BadHouse" (.var 1)]
   []]
noncomputable abbrev jjj:List FnE:=[]
noncomputable def jhs:Fn:=fnY jjj 2 0 jhc
theorem jnY:chkYs jjj 0 [] ["BadHouse"] jhc ⟨jjv,ja jcW,false⟩ (jac jcW)=true:=by decide +kernel
noncomputable def jaP:FnE:=⟨"demand",["holds","words"],1,jhs,none⟩
noncomputable abbrev jaz:Stmt:=top 22
noncomputable abbrev jce:List Str:=["value","least"]
theorem jdO:FnScope jce ["value","least"] (ja jaz):=⟨rfl,rfl,rfl,by decide +kernel,rfl,by decide +kernel,by decide +kernel⟩
noncomputable def jbC:List S:=
  [.ret (.or_ (.isN (.var 0)) (.call 0 .frz [(.var 0),(.var 1)]))]
noncomputable abbrev jc:List FnE:=[jaB]
noncomputable def jbD:Fn:=fnOf jc 2 0 jbC
noncomputable def jay:FnE:=⟨"is_number_or_none",["value","least"],2,jbD,none⟩
theorem jd4:chkSs jc 1 jbC ⟨jce,ja jaz,false⟩ (jac jaz)=true:=by decide +kernel
noncomputable abbrev jbl:Stmt:=top 23
noncomputable abbrev jeT:List Str:=["value","many","words"]
theorem jhx:FnScope jeT ["value","many","words"] (ja jbl):=⟨rfl,rfl,rfl,by decide +kernel,rfl,by decide +kernel,by decide +kernel⟩
noncomputable def jcA:E:=(.comp false 1 (.nm 0) .seq [(.var 0)] [] (.call 2 .frz [(.var 0),(.var 2)]))
noncomputable def jdw:List SY:=
  [.ex (.call 0 .frz [(.call 1 .frz [(.var 0)]),(.var 2)]),
  .ex (.call 0 .frz [(.bi .all false [jcA]),(.var 2)])]
noncomputable abbrev jdy:List FnE:=[jaP,jcm,jaY]
noncomputable def jdE:Fn:=fnY jdy 3 0 jdw
theorem jiq:chkYs jdy 1 [0] [] jdw ⟨jeT,ja jbl,false⟩ (jac jbl)=true:=by decide +kernel
noncomputable def jaq:FnE:=⟨"check_list",["value","many","words"],2,jdE,none⟩
noncomputable abbrev jbe:Stmt:=top 24
noncomputable abbrev jem:List Str:=["share"]
theorem jgt:FnScope jem ["share"] (ja jbe):=⟨rfl,rfl,rfl,by decide +kernel,rfl,by decide +kernel,by decide +kernel⟩
noncomputable def jd:List SY:=
  [.ex (.call 0 .frz [(.call 1 .frz [(.var 0),(.cst (.int 2))]),(.cst (.str "the share is no pair"))]),
  .ex (.call 0 .frz [(.call 2 .frz [(.ix (.var 0) (.cst (.int 0))),(.cst (.int 0))]),(.cst (.str "the share's top is no number, or too low"))]),
  .ex (.call 0 .frz [(.call 2 .frz [(.ix (.var 0) (.cst (.int 1))),(.cst (.int 1))]),(.cst (.str "the share's bottom is no number, or too low"))])]
noncomputable abbrev jcT:List FnE:=[jaP,jaY,jaB]
noncomputable def jdb:Fn:=fnY jcT 1 0 jd
theorem jg3:chkYs jcT 1 [0] [] jd ⟨jem,ja jbe,false⟩ (jac jbe)=true:=by decide +kernel
noncomputable def jaw:FnE:=⟨"check_share",["share"],2,jdb,none⟩
noncomputable abbrev jba:Stmt:=top 25
noncomputable abbrev jez:List Str:=["kinds","kind","factor"]
theorem jge:FnScope jez ["kinds"] (ja jba):=⟨rfl,rfl,rfl,by decide +kernel,rfl,by decide +kernel,by decide +kernel⟩
noncomputable def jdn:List SY:=
  [.ex (.call 1 .frz [(.call 2 .frz [(.var 1)]),(.cst (.str "a kind is no name"))]),
  .ex (.call 1 .frz [(.call 3 .frz [(.var 2),(.cst (.int 0))]),(.cst (.str "a kind's factor is no number, or too low"))])]
noncomputable def jch:E:=(.comp false 2 (.tp [0,1]) .seq [(.var 0)] [] (.var 0))
noncomputable def jc4:List SY:=
  [.ex (.call 0 .frz [(.var 0),(.cst (.int 2)),(.cst (.str "kinds is no list of pairs"))]),
  .for_ (.tp [1,2]) .seq [(.var 0)] jdn [1,2],
  .ex (.call 1 .frz [(.call 4 .frz [jch]),(.cst (.str "a kind is told twice"))])]
noncomputable abbrev jbJ:List FnE:=[jaq,jaP,jbM,jaB,jbp]
noncomputable def jcM:Fn:=fnY jbJ 1 2 jc4
theorem jho:chkYs jbJ 2 [0,1] [] jc4 ⟨jez,ja jba,false⟩ (jac jba)=true:=by decide +kernel
noncomputable def jav:FnE:=⟨"check_kinds",["kinds"],3,jcM,none⟩
noncomputable abbrev ja2:Stmt:=top 26
noncomputable abbrev jdW:List Str:=["pairs","lowest","words"]
theorem jfU:FnScope jdW ["pairs","lowest","words"] (ja ja2):=⟨rfl,rfl,rfl,by decide +kernel,rfl,by decide +kernel,by decide +kernel⟩
noncomputable def jb3:E:=(.comp false 1 (.nm 0) .seq [(.var 0)] [] (.call 2 .frz [(.ix (.var 0) (.cst (.int 0))),(.var 2)]))
noncomputable def jb2:E:=(.comp false 1 (.nm 0) .seq [(.var 0)] [] (.ix (.var 0) (.cst (.int 0))))
noncomputable def jcB:List SY:=
  [.ex (.call 0 .frz [(.var 0),(.cst (.int 2)),(.var 2)]),
  .ex (.call 1 .frz [(.bi .all false [jb3]),(.var 2)]),
  .ex (.call 1 .frz [(.call 3 .frz [jb2]),(.var 2)])]
noncomputable abbrev jbW:List FnE:=[jaq,jaP,jaB,jbm]
noncomputable def jcw:Fn:=fnY jbW 3 0 jcB
theorem jgr:chkYs jbW 2 [0,1] [] jcB ⟨jdW,ja ja2,false⟩ (jac ja2)=true:=by decide +kernel
noncomputable def jam:FnE:=⟨"check_leasts",["pairs","lowest","words"],3,jcw,none⟩
noncomputable abbrev jbb:Stmt:=top 27
noncomputable abbrev jew:List Str:=["steps","least","extra"]
theorem jgf:FnScope jew ["steps"] (ja jbb):=⟨rfl,rfl,rfl,by decide +kernel,rfl,by decide +kernel,by decide +kernel⟩
noncomputable def jds:List SY:=
  [.ex (.call 1 .frz [(.call 2 .frz [(.var 2),(.cst (.int 0))]),(.cst (.str "a step's extra is no number, or too low"))])]
noncomputable def jc9:List SY:=
  [.ex (.call 0 .frz [(.var 0),(.cst (.int 0)),(.cst (.str "the leasts of the steps are too low or don't rise"))]),
  .for_ (.tp [1,2]) .seq [(.var 0)] jds [1,2]]
noncomputable abbrev jeq:List FnE:=[jam,jaP,jaB]
noncomputable def jcN:Fn:=fnY jeq 1 2 jc9
theorem jg8:chkYs jeq 3 [0,1] [] jc9 ⟨jew,ja jbb,false⟩ (jac jbb)=true:=by decide +kernel
noncomputable def jat:FnE:=⟨"check_steps",["steps"],4,jcN,none⟩
noncomputable abbrev jaU:Stmt:=top 28
noncomputable abbrev jdz:List Str:=["doubles","first","last","factor"]
theorem je6:FnScope jdz ["doubles"] (ja jaU):=⟨rfl,rfl,rfl,by decide +kernel,rfl,by decide +kernel,by decide +kernel⟩
noncomputable def jcI:List SY:=
  [.ex (.call 1 .frz [(.and_ (.call 2 .frz [(.var 1),(.cst (.int 0))]) (.call 2 .frz [(.var 2),(.cst (.int 0))])),(.cst (.str "a double's day is no day"))]),
  .ex (.call 1 .frz [(.cmp .LtE (.var 1) (.var 2)),(.cst (.str "a double's first day is behind its last one"))]),
  .ex (.call 1 .frz [(.call 2 .frz [(.var 3),(.cst (.int 1))]),(.cst (.str "a double's factor is no number, or too low"))])]
noncomputable def jcd:List SY:=
  [.ex (.call 0 .frz [(.var 0),(.cst (.int 3)),(.cst (.str "doubles is no list of triples"))]),
  .for_ (.tp [1,2,3]) .seq [(.var 0)] jcI [1,2,3]]
noncomputable abbrev jdC:List FnE:=[jaq,jaP,jaB]
noncomputable def jci:Fn:=fnY jdC 1 3 jcd
theorem jfJ:chkYs jdC 2 [0,1] [] jcd ⟨jdz,ja jaU,false⟩ (jac jaU)=true:=by decide +kernel
noncomputable def jal:FnE:=⟨"check_doubles",["doubles"],3,jci,none⟩
noncomputable abbrev ja7:Stmt:=top 29
noncomputable abbrev jey:List Str:=["ranks","least","title"]
theorem jgl:FnScope jey ["ranks"] (ja ja7):=⟨rfl,rfl,rfl,by decide +kernel,rfl,by decide +kernel,by decide +kernel⟩
noncomputable def jdl:List SY:=
  [.ex (.call 1 .frz [(.call 2 .frz [(.var 2)]),(.cst (.str "a rank's title is no name"))])]
noncomputable def jcL:List SY:=
  [.ex (.call 0 .frz [(.var 0),(.cst (.int 1)),(.cst (.str "the leasts of the ranks are too low or don't rise"))]),
  .for_ (.tp [1,2]) .seq [(.var 0)] jdl [1,2]]
noncomputable abbrev jeu:List FnE:=[jam,jaP,jbM]
noncomputable def jc7:Fn:=fnY jeu 1 2 jcL
theorem jg2:chkYs jeu 3 [0,1] [] jcL ⟨jey,ja ja7,false⟩ (jac ja7)=true:=by decide +kernel
noncomputable def jau:FnE:=⟨"check_ranks",["ranks"],4,jc7,none⟩
noncomputable abbrev ja1:Stmt:=jqA (top 30) 0
noncomputable abbrev jdS:List Str:=["self","name","share","kinds","steps","doubles","cap","age","rest","ranks","span","grace"]
theorem jfx:FnScope jdS ["self","name","share","kinds","steps","doubles","cap","age","rest","ranks","span","grace"] (ja ja1):=⟨rfl,rfl,rfl,by decide +kernel,rfl,by decide +kernel,by decide +kernel⟩
noncomputable def jcD:List SY:=
  [.ex (.call 0 .frz [(.call 1 .frz [(.var 1)]),(.cst (.str "the house's name is no name"))]),
  .ex (.call 2 .frz [(.var 2)]),
  .ex (.call 3 .frz [(.var 3)]),
  .ex (.call 4 .frz [(.var 4)]),
  .ex (.call 5 .frz [(.var 5)]),
  .ex (.call 0 .frz [(.call 6 .frz [(.var 6),(.cst (.int 0))]),(.cst (.str "the cap is no number, or too low"))]),
  .ex (.call 0 .frz [(.call 6 .frz [(.var 7),(.cst (.int 1))]),(.cst (.str "the age is no number, or too low"))]),
  .ex (.call 0 .frz [(.call 6 .frz [(.var 8),(.cst (.int 1))]),(.cst (.str "the rest is no number, or too low"))]),
  .ex (.call 7 .frz [(.var 9)]),
  .ex (.call 0 .frz [(.call 8 .frz [(.var 10),(.cst (.int 1))]),(.cst (.str "the span is no number, or too low"))]),
  .ex (.call 0 .frz [(.call 8 .frz [(.var 11),(.cst (.int 0))]),(.cst (.str "the grace is no number, or too low"))]),
  .st (.setF (.var 0) 9 "name" (.var 1)),
  .st (.setF (.var 0) 9 "share" (.var 2)),
  .st (.setF (.var 0) 9 "kinds" (.bi .tuple false [(.var 3)])),
  .st (.setF (.var 0) 9 "steps" (.bi .tuple false [(.var 4)])),
  .st (.setF (.var 0) 9 "doubles" (.bi .tuple false [(.var 5)])),
  .st (.setF (.var 0) 9 "cap" (.var 6)),
  .st (.setF (.var 0) 9 "age" (.var 7)),
  .st (.setF (.var 0) 9 "rest" (.var 8)),
  .st (.setF (.var 0) 9 "ranks" (.bi .tuple false [(.var 9)])),
  .st (.setF (.var 0) 9 "span" (.var 10)),
  .st (.setF (.var 0) 9 "grace" (.var 11))]
noncomputable def jhy:FnE:=⟨"House",[],1000000,fun _ _=>.bad,some (.cls 268 1000000 ["name","share","kinds","steps","doubles","cap","age","rest","ranks","span","grace"])⟩
noncomputable abbrev jcy:List FnE:=[jaP,jbM,jaw,jav,jat,jal,jay,jau,jaB,jhy]
noncomputable def jbx:Fn:=fnY jcy 12 0 jcD
theorem jgu:chkYs jcy 4 [0,2,3,4,5,7] [] jcD ⟨jdS,ja ja1,false⟩ (jac ja1)=true:=by decide +kernel
noncomputable def jcJ:FnE:=⟨"House",["self","name","share","kinds","steps","doubles","cap","age","rest","ranks","span","grace"],1000000,jbx,some (.cls 268 5 ["name","share","kinds","steps","doubles","cap","age","rest","ranks","span","grace"])⟩
noncomputable abbrev jc6:Stmt:=top 32
noncomputable abbrev jjo:List Str:=["_law_script","_law_k"]
theorem jmf:FnScope jjo ["_law_script","_law_k"] (ja jc6):=⟨rfl,rfl,rfl,by decide +kernel,rfl,by decide +kernel,by decide +kernel⟩
noncomputable def jg1:List S:=
  [.ite (.cmp .Lt (.var 1) (.bi .len false [(.var 0)]))
   [.ret (.ix (.var 0) (.var 1))]
   [],
  .ret (.cst (.int 0))]
noncomputable abbrev jjP:List FnE:=[]
noncomputable def jhd:Fn:=fnOf jjP 2 0 jg1
noncomputable def jcq:FnE:=⟨"_law_at",["_law_script","_law_k"],1,jhd,none⟩
theorem jn2:chkSs jjP 0 jg1 ⟨jjo,ja jc6,false⟩ (jac jc6)=true:=by decide +kernel
noncomputable abbrev jck:Stmt:=top 33
noncomputable abbrev jhZ:List Str:=["_law_cell","_law_k","_law_factor","_law_number"]
theorem jkE:FnScope jhZ ["_law_cell","_law_k"] (ja jck):=⟨rfl,rfl,rfl,by decide +kernel,rfl,by decide +kernel,by decide +kernel⟩
noncomputable def jf4:List S:=
  [.asg (.nm 2) (.ix (.lst false [(.cst (.int 48271)),(.cst (.int 69621)),(.cst (.int 16807)),(.cst (.int 40692)),(.cst (.int 30269)),(.cst (.int 62089)),(.cst (.int 45991))]) (.bin .Mod false (.var 1) (.cst (.int 7)))),
  .asg (.nm 3) (.bin .Mod false (.bin .Mult false (.bin .Add false (.bin .Add false (.bin .Mod false (.var 0) (.cst (.int 2147483647))) (.bin .Mult false (.bin .Mult false (.cst (.int 97)) (.var 1)) (.var 1))) (.cst (.int 11))) (.var 2)) (.cst (.int 2147483629))),
  .ret (.bin .Mod false (.bin .Mult false (.var 3) (.var 3)) (.cst (.int 1999999973)))]
noncomputable abbrev jhP:List FnE:=[]
noncomputable def jfN:Fn:=fnOf jhP 2 2 jf4
noncomputable def jbw:FnE:=⟨"_law_mix",["_law_cell","_law_k"],1,jfN,none⟩
theorem jk4:chkSs jhP 0 jf4 ⟨jhZ,ja jck,false⟩ (jac jck)=true:=by decide +kernel
noncomputable abbrev jbF:Stmt:=top 34
noncomputable abbrev jfA:List Str:=["_law_cell","_law_many","_law_letters","_law_number","_law_tail","_law_size","_law_at_here","_law_signs"]
theorem jig:FnScope jfA ["_law_cell","_law_many"] (ja jbF):=⟨rfl,rfl,rfl,by decide +kernel,rfl,by decide +kernel,by decide +kernel⟩
noncomputable def jcQ:E:=(.comp false 1 (.nm 0) .rng1 [(.cst (.int 8))] [] (.ix (.var 3) (.bin .Mod false (.bin .Add false (.bin .FloorDiv false (.var 4) (.bin .Add false (.var 0) (.cst (.int 1)))) (.bin .Mult false (.var 0) (.var 0))) (.cst (.int 26)))))
noncomputable def jhi:E:=(.comp false 1 (.nm 0) .rng1 [(.var 1)] [] (.sl false (.var 5) [] [(.bin .Add false (.var 0) (.cst (.int 1)))]))
noncomputable def jep:E:=(.comp false 1 (.nm 0) .rng1 [(.var 1)] [] (.bin .Add false (.ix (.var 3) (.bin .Mod false (.bin .Add false (.bin .FloorDiv false (.var 4) (.cst (.int 24))) (.var 0)) (.cst (.int 26)))) (.sl false (.var 5) [] [(.var 6)])))
noncomputable def jc3:E:=(.comp false 1 (.nm 0) .rng1 [(.var 1)] [] (.ix (.var 3) (.bin .Mod false (.bin .Add false (.bin .FloorDiv false (.var 4) (.cst (.int 200))) (.var 0)) (.cst (.int 26)))))
noncomputable def jcU:E:=(.comp false 1 (.nm 0) .seq [(.var 7)] [] (.bin .Add false (.bin .Add false (.sl false (.var 5) [] [(.var 7)]) (.var 0)) (.sl false (.var 5) [(.var 7)] [(.var 6)])))
noncomputable def jd2:List S:=
  [.asg (.nm 2) (.cst (.str "abcdefghijklmnopqrstuvwxyz")),
  .asg (.nm 3) (.call 0 .frz [(.var 0),(.cst (.int 0))]),
  .asg (.nm 4) (.mt .join (.cst (.str "")) [jcQ]),
  .ite (.and_ (.cmp .Eq (.bin .Mod false (.var 3) (.cst (.int 3))) (.cst (.int 0))) (.cmp .Lt (.var 1) (.cst (.int 9))))
   [.ret jhi]
   [],
  .ite (.cmp .Eq (.bin .Mod false (.var 3) (.cst (.int 3))) (.cst (.int 1)))
   [.asg (.nm 5) (.bin .Mod false (.bin .FloorDiv false (.var 3) (.cst (.int 3))) (.cst (.int 8))),
   .ret jep]
   [],
  .asg (.nm 5) (.bin .Mod false (.bin .FloorDiv false (.var 3) (.cst (.int 3))) (.cst (.int 8))),
  .asg (.nm 6) (.bin .Mod false (.bin .FloorDiv false (.var 3) (.cst (.int 24))) (.bin .Add false (.var 5) (.cst (.int 1)))),
  .asg (.nm 7) jc3,
  .ret jcU]
noncomputable abbrev jcX:List FnE:=[jbw]
noncomputable def jcO:Fn:=fnOf jcX 2 6 jd2
noncomputable def ja6:FnE:=⟨"_law_names",["_law_cell","_law_many"],2,jcO,none⟩
theorem jiY:chkSs jcX 1 jd2 ⟨jfA,ja jbF,false⟩ (jac jbF)=true:=by decide +kernel
noncomputable abbrev jbo:Stmt:=top 35
noncomputable abbrev je3:List Str:=["_law_cell","_law_k","_law_many","_law_least","_law_numbers","_law_last","_law_j","_law_m"]
theorem jhl:FnScope je3 ["_law_cell","_law_k","_law_many","_law_least"] (ja jbo):=⟨rfl,rfl,rfl,by decide +kernel,rfl,by decide +kernel,by decide +kernel⟩
noncomputable def jcz:List S:=
  [.asg (.nm 7) (.call 0 .frz [(.bin .Add false (.var 0) (.var 6)),(.bin .Add false (.var 1) (.var 6))]),
  .asg (.nm 5) (.bin .Add false (.bin .Add false (.var 5) (.cst (.int 1))) (.ix (.lst false [(.bin .Mod false (.var 7) (.cst (.int 4))),(.bin .Mod false (.var 7) (.cst (.int 1000))),(.bin .Mod false (.bin .FloorDiv false (.var 0) (.bin .Add false (.var 6) (.cst (.int 1)))) (.bin .Pow false (.cst (.int 10)) (.cst (.int 10)))),(.cst (.int 0))]) (.bin .Mod false (.bin .FloorDiv false (.var 7) (.cst (.int 4000))) (.cst (.int 4))))),
  .ex (.mt .append (.var 4) [(.var 5)])]
noncomputable def jdm:List S:=
  [.asg (.nm 4) (.lst true []),
  .asg (.nm 5) (.bin .Sub false (.var 3) (.cst (.int 1))),
  .for_ (.nm 6) .rng1 [(.var 2)] jcz [6,7],
  .ret (.var 4)]
noncomputable abbrev jdA:List FnE:=[jbw]
noncomputable def jcp:Fn:=fnOf jdA 4 4 jdm
noncomputable def jbn:FnE:=⟨"_law_rising",["_law_cell","_law_k","_law_many","_law_least"],2,jcp,none⟩
theorem jik:chkSs jdA 1 jdm ⟨je3,ja jbo,false⟩ (jac jbo)=true:=by decide +kernel
noncomputable abbrev jbA:Stmt:=top 36
noncomputable abbrev jf1:List Str:=["_law_script","_law_m","_law_sizes","_law_names_here","_law_top","_law_share","_law_kinds","_law_k","_law_n","_law_factor","_law_steps","_law_leasts","_law_least","_law_doubles","_law_first","_law_last","_law_ranks","_law_titles","_law_ends","_law_far","_law_cap","_law_age","_law_rest"]
theorem jhR:FnScope jf1 ["_law_script"] (ja jbA):=⟨rfl,rfl,rfl,by decide +kernel,rfl,by decide +kernel,by decide +kernel⟩
noncomputable def jcV:List S:=
  [.asg (.nm 8) (.call 0 .frz [(.call 1 .frz [(.var 0),(.bin .Add false (.cst (.int 3)) (.var 7))]),(.cst (.int 2))]),
  .asg (.nm 9) (.ix (.lst false [(.bin .Mod false (.var 8) (.cst (.int 4))),(.bin .Mod false (.var 8) (.cst (.int 1000))),(.bin .Mod false (.call 1 .frz [(.var 0),(.bin .Add false (.cst (.int 3)) (.var 7))]) (.bin .Pow false (.cst (.int 10)) (.cst (.int 12))))]) (.bin .Mod false (.bin .FloorDiv false (.var 8) (.cst (.int 1000))) (.cst (.int 3)))),
  .ex (.mt .append (.var 6) [(.tup [(.ix (.var 3) (.var 7)),(.var 9)])])]
noncomputable def jcP:List S:=
  [.ex (.mt .append (.var 10) [(.tup [(.var 12),(.ix (.lst false [(.bin .Mult false (.var 7) (.cst (.int 5))),(.bin .Mod false (.call 0 .frz [(.call 1 .frz [(.var 0),(.cst (.int 12))]),(.var 7)]) (.cst (.int 100)))]) (.bin .Mod false (.bin .FloorDiv false (.var 1) (.cst (.int 2100))) (.cst (.int 2))))])])]
noncomputable def jc8:List S:=
  [.asg (.nm 8) (.call 0 .frz [(.call 1 .frz [(.var 0),(.bin .Add false (.cst (.int 13)) (.var 7))]),(.cst (.int 4))]),
  .asg (.nm 14) (.ix (.lst false [(.bin .Mod false (.var 8) (.cst (.int 60))),(.bin .Mod false (.call 1 .frz [(.var 0),(.bin .Add false (.cst (.int 13)) (.var 7))]) (.bin .Pow false (.cst (.int 10)) (.cst (.int 11))))]) (.bin .Mod false (.bin .FloorDiv false (.var 8) (.cst (.int 3600))) (.cst (.int 2)))),
  .asg (.nm 15) (.bin .Add false (.var 14) (.ix (.lst false [(.cst (.int 0)),(.bin .Mod false (.bin .FloorDiv false (.var 8) (.cst (.int 60))) (.cst (.int 30))),(.var 8)]) (.bin .Mod false (.bin .FloorDiv false (.var 8) (.cst (.int 7200))) (.cst (.int 3))))),
  .ex (.mt .append (.var 13) [(.tup [(.var 14),(.var 15),(.bin .Add false (.cst (.int 1)) (.bin .Mod false (.bin .FloorDiv false (.var 8) (.cst (.int 90))) (.cst (.int 5))))])])]
noncomputable def jcY:List S:=
  [.ex (.mt .append (.var 16) [(.tup [(.var 12),(.ix (.var 17) (.bin .Mod false (.call 0 .frz [(.call 1 .frz [(.var 0),(.cst (.int 21))]),(.var 7)]) (.cst (.int 10))))])])]
noncomputable def jcS:List S:=
  [.asg (.nm 8) (.call 0 .frz [(.call 1 .frz [(.var 0),(.bin .Add false (.cst (.int 23)) (.var 7))]),(.cst (.int 6))]),
  .asg (.nm 19) (.bin .Add false (.cst (.int 1)) (.bin .Mod false (.call 1 .frz [(.var 0),(.bin .Add false (.cst (.int 23)) (.var 7))]) (.bin .Pow false (.cst (.int 10)) (.cst (.int 11))))),
  .ex (.mt .append (.var 18) [(.ix (.lst false [(.cst .non),(.bi .int false [(.cmp .Gt (.var 7) (.cst (.int 0)))]),(.bin .Add false (.cst (.int 1)) (.bin .Mod false (.bin .FloorDiv false (.var 8) (.cst (.int 4))) (.cst (.int 400)))),(.var 19)]) (.bin .Mod false (.var 8) (.cst (.int 4))))])]
noncomputable def je:List S:=
  [.asg (.nm 1) (.call 0 .frz [(.call 1 .frz [(.var 0),(.cst (.int 0))]),(.cst (.int 1))]),
  .asg (.nm 2) (.lst false [(.bin .Mod false (.var 1) (.cst (.int 9))),(.bin .Mod false (.bin .FloorDiv false (.var 1) (.cst (.int 9))) (.cst (.int 9))),(.bin .Mod false (.bin .FloorDiv false (.var 1) (.cst (.int 81))) (.cst (.int 9))),(.bin .Mod false (.bin .FloorDiv false (.var 1) (.cst (.int 729))) (.cst (.int 9)))]),
  .asg (.nm 3) (.call 2 .frz [(.call 1 .frz [(.var 0),(.cst (.int 1))]),(.cst (.int 10))]),
  .asg (.nm 4) (.ix (.lst false [(.bin .Mod false (.var 1) (.cst (.int 4))),(.bin .Mod false (.call 1 .frz [(.var 0),(.cst (.int 2))]) (.bin .Pow false (.cst (.int 10)) (.cst (.int 12))))]) (.bin .Mod false (.bin .FloorDiv false (.var 1) (.cst (.int 7))) (.cst (.int 2)))),
  .asg (.nm 5) (.tup [(.var 4),(.ix (.lst false [(.cst (.int 1)),(.bin .Add false (.cst (.int 1)) (.bin .Mod false (.bin .FloorDiv false (.var 1) (.cst (.int 14))) (.cst (.int 50)))),(.bin .Sub false (.bin .Pow false (.cst (.int 10)) (.cst (.int 12))) (.cst (.int 1)))]) (.bin .Mod false (.bin .FloorDiv false (.var 1) (.cst (.int 700))) (.cst (.int 3))))]),
  .asg (.nm 6) (.lst true []),
  .for_ (.nm 7) .rng1 [(.ix (.var 2) (.cst (.int 0)))] jcV [9],
  .asg (.nm 10) (.lst true []),
  .asg (.nm 11) (.call 3 .frz [(.call 1 .frz [(.var 0),(.cst (.int 11))]),(.cst (.int 3)),(.ix (.var 2) (.cst (.int 1))),(.bin .Mod false (.call 1 .frz [(.var 0),(.cst (.int 12))]) (.cst (.int 3)))]),
  .for_ (.tp [7,12]) .enm [(.var 11)] jcP [],
  .asg (.nm 13) (.lst true []),
  .for_ (.nm 7) .rng1 [(.ix (.var 2) (.cst (.int 2)))] jc8 [14,15],
  .asg (.nm 16) (.lst true []),
  .asg (.nm 17) (.call 2 .frz [(.call 1 .frz [(.var 0),(.cst (.int 22))]),(.cst (.int 10))]),
  .for_ (.tp [7,12]) .enm [(.call 3 .frz [(.call 1 .frz [(.var 0),(.cst (.int 21))]),(.cst (.int 5)),(.ix (.var 2) (.cst (.int 3))),(.cst (.int 1))])] jcY [],
  .asg (.nm 18) (.lst true []),
  .for_ (.nm 7) .rng1 [(.cst (.int 3))] jcS [19],
  .asg (.nm 8) (.call 0 .frz [(.call 1 .frz [(.var 0),(.cst (.int 26))]),(.cst (.int 7))]),
  .unp [20,21,22] (.var 18),
  .ret (.tup [(.ix (.var 3) (.cst (.int 9))),(.var 5),(.var 6),(.var 10),(.var 13),(.var 20),(.var 21),(.var 22),(.var 16),(.bin .Add false (.cst (.int 1)) (.bin .Mod false (.var 8) (.cst (.int 400)))),(.bin .Mod false (.bin .FloorDiv false (.var 8) (.cst (.int 400))) (.cst (.int 50)))])]
noncomputable abbrev jbz:List FnE:=[jbw,jcq,ja6,jbn]
noncomputable def jcZ:Fn:=fnOf jbz 1 22 je
noncomputable def jbG:FnE:=⟨"_law_house",["_law_script"],3,jcZ,none⟩
theorem jiI:chkSs jbz 2 je ⟨jf1,ja jbA,false⟩ (jac jbA)=true:=by decide +kernel
noncomputable abbrev jbS:Stmt:=top 37
noncomputable abbrev jgG:List Str:=["_law_row","_law_share","_law_kinds","_law_steps","_law_doubles","_law_cap","_law_age","_law_rest","_law_ranks","_law_span","_law_grace","_law_lists"]
theorem jiU:FnScope jgG ["_law_row"] (ja jbS):=⟨rfl,rfl,rfl,by decide +kernel,rfl,by decide +kernel,by decide +kernel⟩
noncomputable def jeG:List SY:=
  [.st (.asg (.tp [1,2,3,4]) (.sl false (.var 0) [(.cst (.int 1))] [(.cst (.int 5))])),
  .st (.asg (.tp [5,6,7,8,9,10]) (.sl false (.var 0) [(.cst (.int 5))] [])),
  .st (.asg (.nm 11) (.lst false [(.bi .list false [(.var 2)]),(.bi .list false [(.var 3)]),(.bi .list false [(.var 4)]),(.bi .list false [(.var 8)])])),
  .ret (.new 0 .frz [(.ix (.var 0) (.cst (.int 0))),(.var 1),(.ix (.var 11) (.cst (.int 0))),(.ix (.var 11) (.cst (.int 1))),(.ix (.var 11) (.cst (.int 2))),(.var 5),(.var 6),(.var 7),(.ix (.var 11) (.cst (.int 3))),(.var 9),(.var 10)])]
noncomputable abbrev jeM:List FnE:=[jcJ]
noncomputable def jbH:Fn:=fnY jeM 1 11 jeG
theorem jkm:chkYs jeM 6 [] [] jeG ⟨jgG,ja jbS,false⟩ (jac jbS)=true:=by decide +kernel
noncomputable def jaX:FnE:=⟨"_law_made",["_law_row"],7,jbH,none⟩
noncomputable abbrev ja3:Stmt:=top 38
noncomputable abbrev jdP:List Str:=["_law_m"]
theorem jf9:FnScope jdP ["_law_m"] (ja ja3):=⟨rfl,rfl,rfl,by decide +kernel,rfl,by decide +kernel,by decide +kernel⟩
noncomputable def jcx:List S:=
  [.ret (.ix (.lst false [(.cst (.str "")),(.cst (.str "abcdefghi")),(.cst (.str "Tea")),(.cst (.str "te a")),(.cst (.str "t9")),(.cst (.str "tea.")),(.cst (.str "t`")),(.cst (.str "{ea"))]) (.bin .Mod false (.var 0) (.cst (.int 8))))]
noncomputable abbrev jdT:List FnE:=[]
noncomputable def jcC:Fn:=fnOf jdT 1 0 jcx
noncomputable def jaQ:FnE:=⟨"_law_bad_name",["_law_m"],1,jcC,none⟩
theorem jgv:chkSs jdT 0 jcx ⟨jdP,ja ja3,false⟩ (jac ja3)=true:=by decide +kernel
noncomputable abbrev jcb:Stmt:=top 39
noncomputable abbrev jiu:List Str:=["_law_some","_law_m","_law_one","_law_at_here"]
theorem jkw:FnScope jiu ["_law_some","_law_m","_law_one"] (ja jcb):=⟨rfl,rfl,rfl,by decide +kernel,rfl,by decide +kernel,by decide +kernel⟩
noncomputable def jfj:List S:=
  [.asg (.nm 3) (.bin .Mod false (.var 1) (.bin .Add false (.bi .len false [(.var 0)]) (.cst (.int 1)))),
  .ret (.bin .Add false (.bin .Add false (.sl false (.var 0) [] [(.var 3)]) (.lst false [(.var 2)])) (.sl false (.var 0) [(.var 3)] []))]
noncomputable abbrev jh1:List FnE:=[]
noncomputable def jfp:Fn:=fnOf jh1 3 1 jfj
noncomputable def jcl:FnE:=⟨"_law_put",["_law_some","_law_m","_law_one"],1,jfp,none⟩
theorem jmh:chkSs jh1 0 jfj ⟨jiu,ja jcb,false⟩ (jac jcb)=true:=by decide +kernel
noncomputable abbrev jaD:Stmt:=top 40
noncomputable abbrev jco:List Str:=["_law_row","_law_way","_law_m","_law_low","_law_dip"]
theorem jd8:FnScope jco ["_law_row","_law_way","_law_m"] (ja jaD):=⟨rfl,rfl,rfl,by decide +kernel,rfl,by decide +kernel,by decide +kernel⟩
noncomputable def jbv:E:=(.comp false 1 (.nm 0) .seq [(.var 0)] [] (.ife (.bi (.isT "list") false [(.var 0)]) (.sl false (.var 0) [] [(.cst (.int 5))]) (.var 0)))
noncomputable def jaf:List S:=
  [.asg (.nm 3) (.bin .Sub false (.neg (.cst (.int 1))) (.bin .Mod false (.bin .FloorDiv false (.var 2) (.cst (.int 3))) (.bin .Pow false (.cst (.int 10)) (.cst (.int 9))))),
  .asg (.nm 0) jbv,
  .ite (.cmp .Eq (.var 1) (.cst (.int 0)))
   [.ret (.tup [(.cst (.int 2)),(.call 0 .frz [(.ix (.var 0) (.cst (.int 2))),(.var 2),(.tup [(.call 1 .frz [(.bin .FloorDiv false (.var 2) (.cst (.int 9)))]),(.cst (.int 1))])])])]
   [],
  .ite (.cmp .Eq (.var 1) (.cst (.int 1)))
   [.ret (.tup [(.cst (.int 2)),(.call 0 .frz [(.bin .Add false (.ix (.var 0) (.cst (.int 2))) (.lst false [(.tup [(.cst (.str "same")),(.cst (.int 2))])])),(.var 2),(.tup [(.cst (.str "same")),(.cst (.int 3))])])])]
   [],
  .ite (.cmp .Eq (.var 1) (.cst (.int 2)))
   [.ret (.tup [(.cst (.int 2)),(.call 0 .frz [(.ix (.var 0) (.cst (.int 2))),(.var 2),(.tup [(.cst (.str "unlike")),(.var 3)])])])]
   [],
  .ite (.cmp .Eq (.var 1) (.cst (.int 3)))
   [.ret (.tup [(.cst (.int 3)),(.bin .Add false (.lst false [(.tup [(.var 3),(.cst (.int 0))])]) (.ix (.var 0) (.cst (.int 3))))])]
   [],
  .ite (.cmp .Eq (.var 1) (.cst (.int 4)))
   [.asg (.nm 4) (.lst false [(.tup [(.bin .Pow false (.cst (.int 10)) (.cst (.int 11))),(.cst (.int 1))]),(.tup [(.ix (.lst false [(.bin .Pow false (.cst (.int 10)) (.cst (.int 11))),(.bin .Sub false (.bin .Sub false (.bin .Pow false (.cst (.int 10)) (.cst (.int 11))) (.cst (.int 1))) (.var 2))]) (.bin .Mod false (.var 2) (.cst (.int 2)))),(.cst (.int 2))])]),
   .ret (.tup [(.cst (.int 3)),(.bin .Add false (.bin .Add false (.ix (.var 0) (.cst (.int 3))) (.var 4)) (.sl false (.lst false [(.tup [(.bin .Mult false (.cst (.int 3)) (.bin .Pow false (.cst (.int 10)) (.cst (.int 11)))),(.cst (.int 3))])]) [] [(.bin .Mod false (.bin .FloorDiv false (.var 2) (.cst (.int 2))) (.cst (.int 2)))]))])]
   [],
  .ite (.cmp .Eq (.var 1) (.cst (.int 5)))
   [.ret (.tup [(.cst (.int 3)),(.bin .Add false (.ix (.var 0) (.cst (.int 3))) (.lst false [(.tup [(.bin .Mult false (.cst (.int 5)) (.bin .Pow false (.cst (.int 10)) (.cst (.int 11)))),(.var 3)])]))])]
   [],
  .ite (.cmp .Eq (.var 1) (.cst (.int 6)))
   [.ret (.tup [(.cst (.int 4)),(.call 0 .frz [(.ix (.var 0) (.cst (.int 4))),(.var 2),(.tup [(.var 3),(.bin .Mod false (.var 2) (.cst (.int 5))),(.cst (.int 1))])])])]
   [],
  .ite (.cmp .Eq (.var 1) (.cst (.int 7)))
   [.ret (.tup [(.cst (.int 4)),(.call 0 .frz [(.ix (.var 0) (.cst (.int 4))),(.var 2),(.tup [(.var 2),(.bin .Sub false (.bin .Sub false (.var 2) (.cst (.int 1))) (.bin .Mod false (.bin .FloorDiv false (.var 2) (.cst (.int 7))) (.cst (.int 3)))),(.cst (.int 2))])])])]
   [],
  .ite (.cmp .Eq (.var 1) (.cst (.int 8)))
   [.ret (.tup [(.cst (.int 4)),(.call 0 .frz [(.ix (.var 0) (.cst (.int 4))),(.var 2),(.tup [(.cst (.int 1)),(.cst (.int 2)),(.ix (.lst false [(.cst (.int 0)),(.var 3)]) (.bin .Mod false (.var 2) (.cst (.int 2))))])])])]
   [],
  .ite (.cmp .Eq (.var 1) (.cst (.int 9)))
   [.ret (.tup [(.cst (.int 8)),(.bin .Add false (.lst false [(.tup [(.ix (.lst false [(.cst (.int 0)),(.var 3)]) (.bin .Mod false (.var 2) (.cst (.int 2)))),(.cst (.str "low"))])]) (.ix (.var 0) (.cst (.int 8))))])]
   [],
  .ite (.cmp .Eq (.var 1) (.cst (.int 10)))
   [.asg (.nm 4) (.lst false [(.tup [(.bin .Pow false (.cst (.int 10)) (.cst (.int 11))),(.cst (.str "one"))]),(.tup [(.bin .Sub false (.bin .Pow false (.cst (.int 10)) (.cst (.int 11))) (.bin .Mult false (.bin .Mod false (.var 2) (.cst (.int 2))) (.bin .Mod false (.bin .FloorDiv false (.var 2) (.cst (.int 2))) (.cst (.int 7))))),(.cst (.str "two"))])]),
   .ret (.tup [(.cst (.int 8)),(.bin .Add false (.bin .Add false (.ix (.var 0) (.cst (.int 8))) (.var 4)) (.sl false (.lst false [(.tup [(.bin .Mult false (.cst (.int 3)) (.bin .Pow false (.cst (.int 10)) (.cst (.int 11)))),(.cst (.str "three"))])]) [] [(.bin .Mod false (.bin .FloorDiv false (.var 2) (.cst (.int 14))) (.cst (.int 2)))]))])]
   [],
  .ret (.tup [(.cst (.int 8)),(.bin .Add false (.ix (.var 0) (.cst (.int 8))) (.lst false [(.tup [(.bin .Mult false (.cst (.int 5)) (.bin .Pow false (.cst (.int 10)) (.cst (.int 11)))),(.call 1 .frz [(.var 2)])])]))])]
noncomputable abbrev jbO:List FnE:=[jcl,jaQ]
noncomputable def jaa:Fn:=fnOf jbO 3 2 jaf
noncomputable def jar:FnE:=⟨"_law_list_spoiled",["_law_row","_law_way","_law_m"],2,jaa,none⟩
theorem jet:chkSs jbO 1 jaf ⟨jco,ja jaD,false⟩ (jac jaD)=true:=by decide +kernel
noncomputable abbrev jbd:Stmt:=top 41
noncomputable abbrev jed:List Str:=["_law_row","_law_cell","_law_m","_law_way","_law_low","_law_which","_law_part"]
theorem jgj:FnScope jed ["_law_row","_law_cell"] (ja jbd):=⟨rfl,rfl,rfl,by decide +kernel,rfl,by decide +kernel,by decide +kernel⟩
noncomputable def jcR:List S:=
  [.asg (.nm 2) (.call 0 .frz [(.var 1),(.cst (.int 3))]),
  .asg (.nm 3) (.bin .Mod false (.var 2) (.cst (.int 21))),
  .asg (.nm 2) (.bin .FloorDiv false (.var 2) (.cst (.int 21))),
  .asg (.nm 4) (.bin .Sub false (.neg (.cst (.int 1))) (.bin .Mod false (.bin .FloorDiv false (.var 2) (.cst (.int 3))) (.bin .Pow false (.cst (.int 10)) (.cst (.int 9))))),
  .par 5 6 (.cst (.int 0)) (.call 1 .frz [(.var 2)]),
  .ite (.cmp .Lt (.var 3) (.cst (.int 12)))
   [.asg (.tp [5,6]) (.call 2 .frz [(.var 0),(.var 3),(.var 2)])]
   [.ite (.cmp .Eq (.var 3) (.cst (.int 12)))
    [.par 5 6 (.cst (.int 1)) (.tup [(.var 4),(.ix (.ix (.var 0) (.cst (.int 1))) (.cst (.int 1)))])]
    [.ite (.cmp .Eq (.var 3) (.cst (.int 13)))
     [.par 5 6 (.cst (.int 1)) (.tup [(.ix (.ix (.var 0) (.cst (.int 1))) (.cst (.int 0))),(.ix (.lst false [(.cst (.int 0)),(.var 4)]) (.bin .Mod false (.var 2) (.cst (.int 2))))])]
     [.ite (.cmp .Eq (.var 3) (.cst (.int 14)))
      [.par 5 6 (.cst (.int 5)) (.var 4)]
      [.ite (.cmp .Lt (.var 3) (.cst (.int 17)))
       [.par 5 6 (.bin .Sub false (.var 3) (.cst (.int 9))) (.ix (.lst false [(.cst (.int 0)),(.var 4)]) (.bin .Mod false (.var 2) (.cst (.int 2))))]
       [.ite (.cmp .Eq (.var 3) (.cst (.int 17)))
        [.par 5 6 (.cst (.int 9)) (.ix (.lst false [(.cst (.int 0)),(.var 4)]) (.bin .Mod false (.var 2) (.cst (.int 2))))]
        [.ite (.cmp .Eq (.var 3) (.cst (.int 18)))
         [.par 5 6 (.cst (.int 10)) (.var 4)]
         []]]]]]],
  .ret (.bin .Add false (.bin .Add false (.sl false (.var 0) [] [(.var 5)]) (.tup [(.var 6)])) (.sl false (.var 0) [(.bin .Add false (.var 5) (.cst (.int 1)))] []))]
noncomputable abbrev jaJ:List FnE:=[jbw,jaQ,jar]
noncomputable def jb8:Fn:=fnOf jaJ 2 5 jcR
noncomputable def jb:FnE:=⟨"_law_spoiled",["_law_row","_law_cell"],3,jb8,none⟩
theorem jhv:chkSs jaJ 2 jcR ⟨jed,ja jbd,false⟩ (jac jbd)=true:=by decide +kernel
noncomputable abbrev jbs:Stmt:=top 42
noncomputable abbrev jhb:List Str:=["_law_row","_law_flags","error"]
theorem jgs:FnScope jhb ["_law_row"] (ja jbs):=⟨rfl,rfl,rfl,by decide +kernel,rfl,by decide +kernel,by decide +kernel⟩
noncomputable def jb9:Fn:=jvM jbH "BadHouse"
noncomputable def ja9:FnE:=⟨"_law_refused",["_law_row"],8,jb9,none⟩
noncomputable abbrev jgk:Stmt:=top 43
noncomputable abbrev juc:List Str:=["_law_script","_law_row","_law_cell"]
theorem jvq:FnScope juc ["_law_script"] (ja jgk):=⟨rfl,rfl,rfl,by decide +kernel,rfl,by decide +kernel,by decide +kernel⟩
noncomputable def ji8:List S:=
  [.ite (.not_ (.call 3 .frz [(.call 4 .frz [(.var 1),(.var 2)])]))
   [.ret (.cst (.bl false))]
   []]
noncomputable def jrg:List S:=
  [.asg (.nm 1) (.call 0 .frz [(.var 0)]),
  .ite (.cmp .NotEq (.fld (.call 1 .frz [(.var 1)]) 2 "name") (.ix (.var 1) (.cst (.int 0))))
   [.ret (.cst (.bl false))]
   [],
  .for_ (.nm 2) .seq [(.bin .Add false (.sl false (.var 0) [(.cst (.int 27))] []) (.lst false [(.cst (.int 0))]))] ji8 [2],
  .ret (.cmp .Eq (.fld (.call 1 .frz [(.var 1)]) 2 "span") (.ix (.var 1) (.cst (.int 9))))]
noncomputable abbrev jom:List FnE:=[jbG,jaX,jcJ,ja9,jb]
noncomputable def jnT:Fn:=fnOf jom 1 2 jrg
theorem jwn:chkSs jom 8 jrg ⟨juc,ja jgk,false⟩ (jac jgk)=true:=by decide +kernel
end _K03
namespace _K03
open PySem PySem.Spec PyProof.Rows _L2 _L3
local macro_rules | `(tactic|walk_at"ev")=>`(tactic|try simp only[jqc,jtp,jmA,jko,jrO,jnj,jsB,jpc,joC,jnX,jkG,jn3,jst,jsA,jqt,jsp,joL,jtF,jjT,jlU,jsv,jjt,jjq,sz0,sz1,sz2,sz3,sz4,sz5,sz6,sz7,sz8,sz9,jxK,jxC,jxF,Nat.zero_add,List.length_cons,List.length_nil,Nat.reduceAdd,if_true,if_false,Bool.false_eq_true,List.map_cons,List.map_nil,List.replicate,List.cons_append,List.nil_append,jpb,jmi,jrP,jvw,jr6,jrD,jqJ,jrt,juw,juO,juh,jux,jtm,jvp,juT,jqh,jup,jwL,ju9,jul,jvh,jwy,jwN,jtP,jr8,jwv,jvZ,jl3,jno,jwK,jwV,jwg,jwb,jqs,jmL,jrT,jol,jtg,jra,jnW,jq9,jsb,jvn,ja4,jnB,jlQ,jqd,jsE,jls,jmB,jks,jny,jo1,juX,jvj,jv0,js0,jvl,jqI,jrV,jhm,jiE,jmC,jfe,Int.reduceLT,Int.reduceLE,Int.reduceNeg,Int.reduceToNat,Int.reducePow,Nat.reduceLT,jvv,jtj,ju6,jtw,jqX,jp2,jsh,jsa,jwl,jwj,jni,jvr,List.getElem?_cons_zero,List.getElem?_cons_succ,List.set_cons_zero,List.set_cons_succ,jrR,jr4,jw,jrK,jth,jsf,jtY,jme,jmy,ju0,jo6,jrb,jtz,jlF,jgE,Bool.not_true,Bool.not_false])
noncomputable def jdL (ns:List Int):D:=.scr (ns.map D.int)
theorem jwx (ns:List Int)(k:Nat)(μ:M):jaO .frz jcq.F [jdL ns,.int (k:Int)] μ=.ok (.int (ns.getD k 0)) μ:=by
 refine jaM (F:=jhd) ?_ jaH
 unfold jhd jg1
 walk_at"ev"
 have hl:biD .len false [jdL ns] μ=.ok (.int ns.length) μ:=by
  show Out.ok (D.int ((ns.map D.int).length:Int)) μ=_
  rw[List.length_map]
 rw[hl]
 walk_at"ev"
 by_cases h:k<ns.length
 ·have e:atI (ns.map D.int) (k:Int)=some (.int (ns.getD k 0)):=jf7 (by simp[h])
  have hx:ixD (jdL ns) (.int (k:Int)) μ=.ok (.int (ns.getD k 0)) μ:=by
   show(match atI (ns.map D.int) (k:Int)with|some d=>Out.ok d μ|none=>.bad)=_
   rw[e]
  rw[hx]
  simp only[show((k:Int)<(ns.length:Int))from by omega,decide_true,if_true]
  walk_at"ev"
 ·have:ns.getD k 0=0:=by simp[h]
  rw[this]
  simp only[show ¬ ((k:Int)<(ns.length:Int))from by omega,decide_false,if_false,Bool.false_eq_true]
  walk_at"ev"
theorem jdX (c:Int)(k:Int)(h0:0<=k)(h1:k<=1000)(μ:M):∃m:Int,0<=m/\m<1999999973/\jaO .frz jbw.F [.int c,.int k] μ=.ok (.int m) μ:=by
 obtain⟨d,hd,hx⟩:=jm7 (ds:=[.int 48271,.int 69621,.int 16807,.int 40692,.int 30269,.int 62089,.int 45991]) (i:=k % 7) (by omega) (by show k % 7<7;omega) (a:=.lst [.int 48271,.int 69621,.int 16807,.int 40692,.int 30269,.int 62089,.int 45991]) (μ:=μ) rfl (by simp)
 obtain⟨n,rfl,hn⟩:∃n:Int,d=.int n/\0<=n/\n<=69621:=by
  simp only[List.mem_cons,List.not_mem_nil,or_false]at hd
  rcases hd with rfl|rfl|rfl|rfl|rfl|rfl|rfl<;>exact⟨_,rfl,by decide,by decide⟩
 refine⟨((c % 2147483647+97*k*k+11)*n % 2147483629)*((c % 2147483647+97*k*k+11)*n % 2147483629) % 1999999973,by omega,by omega,jaM (F:=jfN) ?_ jaH⟩
 unfold jfN jf4
 walk_at"ev"
 rw[hx]
 walk_at"ev"
 rw[jhr (i:=97*k) (by omega) (by omega)]
 walk_at"ev"
 rw[jhr (j:=n) (by omega) (by omega)]
 walk_at"ev"
 rw[jfe (by omega) (by omega)]
 walk_at"ev"
noncomputable def lt (i:Int):Nat:=97+(i % 26).toNat
theorem jrL (i:Int):97<=lt i/\lt i<=122:=by unfold lt;omega
theorem joD (i:Int)(μ:M):ixD (.str "abcdefghijklmnopqrstuvwxyz") (.int (i % 26)) μ=.ok (.str (sTx [lt i])) μ:=jtf (by omega) (by omega) μ
noncomputable abbrev nmS (c n m:Int) (o4 o5 o6 o7:Option D):S3:=[some (.int c),some (.int n),some (.str "abcdefghijklmnopqrstuvwxyz"),some (.int m),o4,o5,o6,o7]
noncomputable def jpA (m:Int):List Nat:=(List.range 8).map fun(k:Nat)=>lt (m / ((k:Int)+1)+(k:Int)*(k:Int))
theorem jo9 (m:Int):(jpA m).length=8:=by simp[jpA]
theorem jot (m:Int):Ltr (jpA m):=fun x hx=>by
 obtain⟨k,_,rfl⟩:=List.mem_map.mp hx
 exact jrL _
theorem jkt (c n m:Int)(μ:M):(ev jcX jcQ).v (nmS c n m none none none none) μ=.ok (.lst (((jpA m).map fun c=>sTx [c]).map D.str)) μ:=by
 unfold jcQ
 have h:=jby (G:=jcX) (m:=false) (own:=1) (tg:=.nm 0) (ik:=.rng1) (es:=[.cst (.int 8)]) (ifs:=[]) (elt:=(.ix (.var 3) (.bin .Mod false (.bin .Add false (.bin .FloorDiv false (.var 4) (.bin .Add false (.var 0) (.cst (.int 1)))) (.bin .Mult false (.var 0) (.var 0))) (.cst (.int 26))))) (ρ:=nmS c n m none none none none) (μ:=μ) (ds:=[.int 8]) (xs:=List.range 8) (e:=fun(k:Nat)=>D.int (k:Int)) (fun _=>true) (fun(k:Nat)=>D.str (sTx [lt (m / ((k:Int)+1)+(k:Int)*(k:Int))])) (by walk_at"ev") (jeO (n:=8) (by decide)) (jag (by decide)) fun k hk=>⟨_,rfl,by walk_at"ev",fun _=>by
  have hk':k<8:=by simpa using hk
  walk_at"ev"
  rw[jiE (by omega) (by omega)]
  walk_at"ev"
  rw[jfe (by omega) (by omega)]
  walk_at"ev"
  exact joD _ μ⟩
 rw[h,List.filter_eq_self.mpr fun _ _=>rfl]
 unfold jpA
 rw[List.map_map,List.map_map]
 rfl
theorem jdp (t:List Nat)(a:Nat):(t.take a).length<=a:=by rw[List.length_take];exact Nat.min_le_left _ _
theorem js (t:List Nat)(x:Nat){a b:Nat}(h:a<=b)(hb:b<=7):(t.take a++x::(t.drop a).take (b - a)).length<=8:=by
 have h1:=jdp t a
 have h2:=jdp (t.drop a) (b - a)
 rw[List.length_append,List.length_cons]
 omega
theorem juj {u v:Int}(h0:0<=u)(h1:u<v+1)(h2:v<8):u.toNat<=v.toNat/\v.toNat<=7:=by omega
theorem jh3 (c:Int)(n:Nat)(hn:9<=n/\n<=26)(μ:M):∃zs:List Str,(zs.length=n/\zs.Nodup/\∀z∈zs,jaV z=true)/\jaO .frz ja6.F [.int c,.int (n:Int)] μ=.ok (.lst (zs.map D.str)) μ:=by
 obtain⟨m,hm0,hm1,hm⟩:=jdX c 0 (by decide) (by decide) μ
 have tail:=jkt c n m μ
 have htl:=jo9 m
 have hlt:=jot m
 have hjoin:mtD .join (.str "") [.lst (((jpA m).map fun c=>sTx [c]).map D.str)] μ=.ok (.str (sTx (jpA m))) μ:=by
  rw[jmF,<- jo]
  ·rw[jjE (fun y hy=>by obtain⟨x,_,rfl⟩:=List.mem_map.mp hy;exact jbN _)]
   have e0:(Str.ofString "").length=0:=by decide +kernel
   simp[htl,e0]
 generalize jpA m=t at *
 have hsz:(sTx t).length<=sizeLine:=jag (by rw[jbN];omega)
 have key:∃cs:List (List Nat),(cs.length=n/\cs.Nodup/\∀c∈cs,1<=c.length/\c.length<=8/\Ltr c)/\jcO [.int c,.int (n:Int)] μ=.ok (.lst ((cs.map sTx).map D.str)) μ:=by
  unfold jcO jd2
  walk_at"ev"
  rw[hm]
  walk_at"ev"
  rw[tail]
  walk_at"ev"
  rw[hjoin]
  walk_at"ev"
  by_cases c1:m % 3=1
  ·have c0:¬ m % 3=0:=by omega
   refine⟨(List.range n).map fun(k:Nat)=>lt (m / 24+(k:Int))::t.take (m / 3 % 8).toNat,⟨by simp,jfw fun i j hi hj e=>?_,fun c hc=>?_⟩,?_⟩
   ·have e1:=(List.cons.inj e).1
    unfold lt at e1
    omega
   ·obtain⟨k,hk,rfl⟩:=List.mem_map.mp hc
    refine⟨by simp,by rw[List.length_cons,List.length_take];omega,fun x hx=>?_⟩
    rcases List.mem_cons.mp hx with z|z
    ·rw[z];exact jrL _
    ·exact hlt x (List.mem_of_mem_take z)
   ·simp only[decide_eq_false c0,if_false,Bool.false_eq_true]
    walk_at"ev"
    simp only[decide_eq_true c1,if_true]
    walk_at"ev"
    unfold jep
    rw[jby (ds:=[.int (n:Int)]) (xs:=List.range n) (e:=fun(k:Nat)=>D.int (k:Int)) (fun _=>true) (fun(k:Nat)=>D.str (sTx (lt (m / 24+(k:Int))::t.take (m / 3 % 8).toNat))) (by walk_at"ev") (jeO (by omega)) (jag (by simp;omega)) fun k hk=>⟨_,rfl,by walk_at"ev",fun _=>by
     walk_at"ev"
     rw[joD]
     walk_at"ev"
     rw[jf8 hsz,jgR t (by omega) (by omega)]
     walk_at"ev"
     rw[jec (jag (by rw[jbN,jbN,List.length_take];simp;omega)),jf6]
     rfl⟩]
    rw[List.filter_eq_self.mpr fun _ _=>rfl]
    walk_at"ev"
    simp[List.map_map]
  ·have hv0:0<=m / 3 % 8:=Int.emod_nonneg _ (by decide)
   have hv1:m / 3 % 8<8:=Int.emod_lt_of_pos _ (by decide)
   have hu0:0<=m / 24 % (m / 3 % 8+1):=Int.emod_nonneg _ (Int.ne_of_gt (Int.lt_add_one_of_le hv0))
   have hu1:m / 24 % (m / 3 % 8+1)<m / 3 % 8+1:=Int.emod_lt_of_pos _ (Int.lt_add_one_of_le hv0)
   have huv:=juj hu0 hu1 hv1
   refine⟨(List.range n).map fun(k:Nat)=>t.take (m / 24 % (m / 3 % 8+1)).toNat++lt (m / 200+(k:Int))::(t.drop (m / 24 % (m / 3 % 8+1)).toNat).take ((m / 3 % 8).toNat - (m / 24 % (m / 3 % 8+1)).toNat),⟨by simp,jfw fun i j hi hj e=>?_,fun c hc=>?_⟩,?_⟩
   ·have e1:=(List.cons.inj (List.append_cancel_left e)).1
    unfold lt at e1
    omega
   ·obtain⟨k,hk,rfl⟩:=List.mem_map.mp hc
    refine⟨by rw[List.length_append,List.length_cons];exact Nat.le_add_left_of_le (Nat.le_add_left 1 _),js t _ huv.1 huv.2,fun x hx=>?_⟩
    rcases List.mem_append.mp hx with y|y
    ·exact hlt x (List.mem_of_mem_take y)
    ·rcases List.mem_cons.mp y with y|y
     ·rw[y];exact jrL _
     ·exact hlt x (List.mem_of_mem_drop (List.mem_of_mem_take y))
   ·by_cases c0:m % 3=0
    ·simp only[decide_eq_true c0,if_true]
     walk_at"ev"
     simp only[show ¬ ((n:Int)<9)from by omega,decide_false,if_false,Bool.false_eq_true]
     walk_at"ev"
     simp only[decide_eq_false c1,if_false,Bool.false_eq_true]
     walk_at"ev"
     rw[jhm (j:=m / 3 % 8+1) (Int.lt_add_one_of_le hv0)]
     walk_at"ev"
     unfold jc3
     rw[jby (ds:=[.int (n:Int)]) (xs:=List.range n) (e:=fun(k:Nat)=>D.int (k:Int)) (fun _=>true) (fun(k:Nat)=>D.str (sTx [lt (m / 200+(k:Int))])) (by walk_at"ev") (jeO (by omega)) (jag (by simp;omega)) fun k hk=>⟨_,rfl,by walk_at"ev",fun _=>by
      walk_at"ev"
      rw[joD]⟩]
     rw[List.filter_eq_self.mpr fun _ _=>rfl]
     walk_at"ev"
     unfold jcU
     rw[jby (ds:=[.lst ((List.range n).map fun(k:Nat)=>D.str (sTx [lt (m / 200+(k:Int))]))]) (xs:=List.range n) (e:=fun(k:Nat)=>D.str (sTx [lt (m / 200+(k:Int))])) (fun _=>true) (fun(k:Nat)=>D.str (sTx (t.take (m / 24 % (m / 3 % 8+1)).toNat++lt (m / 200+(k:Int))::(t.drop (m / 24 % (m / 3 % 8+1)).toNat).take ((m / 3 % 8).toNat - (m / 24 % (m / 3 % 8+1)).toNat)))) (by walk_at"ev") rfl (jag (by simp;omega)) fun k hk=>⟨_,rfl,by walk_at"ev",fun _=>by
      walk_at"ev"
      rw[jf8 hsz,jgR t hu0 (by omega)]
      walk_at"ev"
      rw[jec (jag (by rw[jbN,jbN];have:=jdp t (m / 24 % (m / 3 % 8+1)).toNat;have:=huv.1;have:=huv.2;simp only[List.length_singleton];omega)),jf6]
      walk_at"ev"
      rw[jf8 hsz,jiv t hu0 (Int.lt_add_one_iff.mp hu1) (by omega)]
      walk_at"ev"
      rw[jec (jag (by
       rw[jbN,jbN,List.length_append]
       have:=jdp t (m / 24 % (m / 3 % 8+1)).toNat
       have:=jdp (t.drop (m / 24 % (m / 3 % 8+1)).toNat) ((m / 3 % 8).toNat - (m / 24 % (m / 3 % 8+1)).toNat)
       have:=huv.1
       have:=huv.2
       simp only[List.length_singleton]
       omega)),jf6]
      simp⟩]
     rw[List.filter_eq_self.mpr fun _ _=>rfl]
     walk_at"ev"
     simp[List.map_map]
    ·simp only[decide_eq_false c0,if_false,Bool.false_eq_true]
     walk_at"ev"
     simp only[decide_eq_false c1,if_false,Bool.false_eq_true]
     walk_at"ev"
     rw[jhm (j:=m / 3 % 8+1) (Int.lt_add_one_of_le hv0)]
     walk_at"ev"
     unfold jc3
     rw[jby (ds:=[.int (n:Int)]) (xs:=List.range n) (e:=fun(k:Nat)=>D.int (k:Int)) (fun _=>true) (fun(k:Nat)=>D.str (sTx [lt (m / 200+(k:Int))])) (by walk_at"ev") (jeO (by omega)) (jag (by simp;omega)) fun k hk=>⟨_,rfl,by walk_at"ev",fun _=>by
      walk_at"ev"
      rw[joD]⟩]
     rw[List.filter_eq_self.mpr fun _ _=>rfl]
     walk_at"ev"
     unfold jcU
     rw[jby (ds:=[.lst ((List.range n).map fun(k:Nat)=>D.str (sTx [lt (m / 200+(k:Int))]))]) (xs:=List.range n) (e:=fun(k:Nat)=>D.str (sTx [lt (m / 200+(k:Int))])) (fun _=>true) (fun(k:Nat)=>D.str (sTx (t.take (m / 24 % (m / 3 % 8+1)).toNat++lt (m / 200+(k:Int))::(t.drop (m / 24 % (m / 3 % 8+1)).toNat).take ((m / 3 % 8).toNat - (m / 24 % (m / 3 % 8+1)).toNat)))) (by walk_at"ev") rfl (jag (by simp;omega)) fun k hk=>⟨_,rfl,by walk_at"ev",fun _=>by
      walk_at"ev"
      rw[jf8 hsz,jgR t hu0 (by omega)]
      walk_at"ev"
      rw[jec (jag (by rw[jbN,jbN];have:=jdp t (m / 24 % (m / 3 % 8+1)).toNat;have:=huv.1;have:=huv.2;simp only[List.length_singleton];omega)),jf6]
      walk_at"ev"
      rw[jf8 hsz,jiv t hu0 (Int.lt_add_one_iff.mp hu1) (by omega)]
      walk_at"ev"
      rw[jec (jag (by
       rw[jbN,jbN,List.length_append]
       have:=jdp t (m / 24 % (m / 3 % 8+1)).toNat
       have:=jdp (t.drop (m / 24 % (m / 3 % 8+1)).toNat) ((m / 3 % 8).toNat - (m / 24 % (m / 3 % 8+1)).toNat)
       have:=huv.1
       have:=huv.2
       simp only[List.length_singleton]
       omega)),jf6]
      simp⟩]
     rw[List.filter_eq_self.mpr fun _ _=>rfl]
     walk_at"ev"
     simp[List.map_map]
 obtain⟨cs,⟨h1,h2,h3⟩,h4⟩:=key
 refine⟨cs.map sTx,⟨by simp[h1],?_,fun z hz=>?_⟩,jaM (F:=jcO) h4 (jcv (jaA (fun _=>jd6) _))⟩
 ·rw[List.Nodup,List.pairwise_map]
  exact h2.imp fun {a b} hab e=>hab (jrn e)
 ·obtain⟨x,hx,rfl⟩:=List.mem_map.mp hz
  obtain⟨a1,a2,a3⟩:=h3 x hx
  exact joK a1 a2 a3
theorem jqP {ds:List D}{μ:M}:biD (.isT "tuple") false [.tup ds] μ=.ok (.bl true) μ:=nr rfl
theorem jp5 {z:Str}{μ:M}:biD (.isT "str") false [.str z] μ=.ok (.bl true) μ:=nr rfl
theorem jq3 {i:Int}{μ:M}:biD (.isT "int") false [.int i] μ=.ok (.bl true) μ:=nr rfl
theorem jov {i:Int}{μ:M}:biD (.isT "bool") false [.int i] μ=.ok (.bl false) μ:=nr rfl
theorem jq5 {ds:List D}{μ:M}:biD .len false [.tup ds] μ=.ok (.int ds.length) μ:=nr rfl
theorem len_str {z:Str}{μ:M}(h:z.length<=sizeLine):biD .len false [.str z] μ=.ok (.int z.length) μ:=if_pos h
theorem ji3 {bs:List Bool}{μ:M}:biD .all false [.lst (bs.map D.bl)] μ=.ok (.bl (bs.all id)) μ:=nr (by
 have:jri (bs.map D.bl)=some bs:=by
  induction bs with
  |nil=>rfl
  |cons b bs ih=>rw[List.map_cons];unfold jri;rw[ih];rfl
 simp only[biD,jvO,jeS,this])
theorem le_str {x y:Str}{μ:M}:je5 .LtE (.str x) (.str y) μ=.ok (.bl (!decide (y.cps.toList<x.cps.toList))) μ:=nr rfl
theorem jlE (c:Nat):(!decide ([c]<(Str.ofString "a").cps.toList))=decide (97<=c)/\(!decide ((Str.ofString "z").cps.toList<[c]))=decide (c<=122):=by
 have ea:(Str.ofString "a").cps.toList=[97]:=by decide +kernel
 have ez:(Str.ofString "z").cps.toList=[122]:=by decide +kernel
 rw[ea,ez]
 have e1:([c]<[97])↔c<97:=by simp[List.cons_lt_cons_iff]
 have e2:([122]<[c])↔122<c:=by simp[List.cons_lt_cons_iff]
 constructor
 ·rw[Bool.eq_iff_iff]
  simp[e1]
 ·rw[Bool.eq_iff_iff]
  simp[e2]
theorem jeJ (z:Str)(h:z.length<=1000)(μ:M):jaO .frz jbM.F [.str z] μ=.ok (.bl (jaV z)) μ:=by
 refine jaM (F:=jfz) ?_ jeY
 have hq:(ev jfH jd7).v [some (.str z)] μ=.ok (.lst ((z.cps.toList.map fun c=>decide (97<=c)&&decide (c<=122)).map D.bl)) μ:=by
  unfold jd7
  rw[jby (ds:=[.str z]) (xs:=z.cps.toList) (e:=fun c=>D.str ⟨#[c]⟩) (fun _=>true) (fun c=>D.bl (decide (97<=c)&&decide (c<=122))) (by walk_at"ev") rfl (by
   have:z.cps.toList.length=z.length:=by simp[Str.length]
   rw[this]
   exact jag h) fun c hc=>⟨_,rfl,by walk_at"ev",fun _=>by
   walk_at"ev"
   rw[le_str]
   walk_at"ev"
   rw[(jlE c).1]
   by_cases e:97<=c
   ·simp only[decide_eq_true e,if_true]
    rw[le_str,(jlE c).2,Bool.true_and]
   ·simp only[decide_eq_false e,if_false,Bool.false_eq_true,Bool.false_and]⟩]
  rw[List.filter_eq_self.mpr fun _ _=>rfl,List.map_map]
  rfl
 unfold jfz jfy
 walk_at"ev"
 rw[jp5]
 walk_at"ev"
 rw[len_str (jag h),jgh]
 walk_at"ev"
 by_cases h1:1<=z.length
 ·simp only[show((1:Int)<=(z.length:Int))from by omega,decide_true,if_true]
  walk_at"ev"
  by_cases h2:z.length<=8
  ·simp only[show((z.length:Int)<=8)from by omega,decide_true,if_true]
   walk_at"ev"
   rw[hq]
   walk_at"ev"
   rw[ji3]
   walk_at"ev"
   unfold jaV
   rw[decide_eq_true h1,decide_eq_true h2,Bool.true_and,Bool.true_and,List.all_map]
   rfl
  ·simp only[show ¬ ((z.length:Int)<=8)from by omega,decide_false,if_false,Bool.false_eq_true]
   walk_at"ev"
   unfold jaV
   rw[decide_eq_false h2,Bool.false_and,Bool.and_false]
 ·simp only[show ¬ ((1:Int)<=(z.length:Int))from by omega,decide_false,if_false,Bool.false_eq_true]
  walk_at"ev"
  unfold jaV
  rw[decide_eq_false h1,Bool.false_and]
theorem jaL (i l:Int)(μ:M):jaO .frz jaB.F [.int i,.int l] μ=.ok (.bl (decide (l<=i))) μ:=by
 refine jaM (F:=jd1) ?_ jeY
 unfold jd1 jea
 walk_at"ev"
 rw[jq3]
 walk_at"ev"
 rw[jov]
 walk_at"ev"
theorem jna {ds:List D}{μ:M}:biD (.isT2 "list" "tuple") false [.lst ds] μ=.ok (.bl true) μ:=nr rfl
noncomputable def jkV (b:Bool)(μ:M):Out D:=if b then .ok .non μ else .exc (.str "BadHouse") μ
noncomputable def jpk (b:Bool)(ρ:S3)(μ:M):Out Fl:=if b then .ok (.nx ρ) μ else .exc (.str "BadHouse") μ
theorem jaR {b:Bool}{ρ:S3}{μ:M}:((jkV b μ).bind fun _ μ1=>.ok (.nx ρ) μ1)=jpk b ρ μ:=by cases b<;>rfl
theorem jaN {b:Bool}{ρ:S3}{μ:M}{k:S3->M->Out Fl}:jja (jpk b ρ μ) k=if b then k ρ μ else .exc (.str "BadHouse") μ:=by cases b<;>rfl
theorem je2 {a b:Bool}{ρ:S3}{μ:M}:(if a then jpk b ρ μ else .exc (.str "BadHouse") μ)=jpk (a&&b) ρ μ:=by cases a<;>rfl
theorem jdY {b:Bool}{ρ:S3}{μ:M}:(if b then(.ok (.nx ρ) μ:Out Fl)else .exc (.str "BadHouse") μ)=jpk b ρ μ:=rfl
theorem jdJ {b:Bool}{ρ:S3}{μ:M}:jqH (jpk b ρ μ)=jkV b μ:=by cases b<;>rfl
theorem jct {F:Fn}{ds:List D}{b:Bool}{μ:M}(h:F ds μ=jkV b μ):jaO .frz F ds μ=jkV b μ:=by
 cases b with
 |true=>exact jaM (F:=F) (by rw[h];rfl) jmj
 |false=>exact jjr (by rw[h];rfl)
theorem jas (b:Bool)(w:Str)(μ:M):jaO .frz jaP.F [.bl b,.str w] μ=jkV b μ:=by
 refine jct (F:=jhs) ?_
 unfold jhs jhc
 walk_at"ev"
 cases b
 ·simp only[Bool.not_false,if_true,jlU,ja4,jjT,jjt,jjq]
  rfl
 ·simp only[Bool.not_true,if_false,Bool.false_eq_true,jlU,ja4,jlQ,jls]
  rfl
theorem jen {α:Type}{ok:M->Bool}{tg:Tg}{body:S3->M->Out Fl}{fg:List Nat}{μ:M}{ρ:S3}(f:α->D)(p:α->Bool)(ρb:α->S3)(ho:ok μ=true)(hf:forget fg ρ=ρ):∀xs:List α,(∀x∈xs,jiR tg (f x) ρ=some (ρb x))->(∀x∈xs,body (ρb x) μ=jpk (p x) (ρb x) μ)->(∀x∈xs,forget fg (ρb x)=ρ) ->
  jdh ok tg body fg (xs.map f) ρ μ=jpk (xs.all p) ρ μ
 |[],_,_,_=>by
  rw[List.map_nil,jb7 ho,hf]
  rfl
 |x::xs,h1,h2,h3=>by
  rw[List.map_cons]
  cases hp:p x with
  |false=>
   rw[jox ho (h1 x (by simp)) (y:=.str "BadHouse") (μ2:=μ) (by rw[h2 x (by simp),hp];rfl),List.all_cons,hp]
   rfl
  |true=>
   rw[jbK (ρ1:=ρb x) (ρ2:=ρb x) (μ2:=μ) ho (h1 x (by simp)) (by rw[h2 x (by simp),hp];rfl),h3 x (by simp),jen f p ρb ho hf xs (fun y hy=>h1 y (by simp[hy])) (fun y hy=>h2 y (by simp[hy])) (fun y hy=>h3 y (by simp[hy])),List.all_cons,hp,Bool.true_and]
theorem jpN (ds:List D)(n:Nat)(h:ds.length=n)(μ:M):jaO .frz jaY.F [.tup ds,.int (n:Int)] μ=.ok (.bl true) μ:=by
 refine jaM (F:=jcK) ?_ jeY
 unfold jcK jc5
 walk_at"ev"
 rw[jqP]
 walk_at"ev"
 rw[jq5]
 walk_at"ev"
 simp[h]
theorem jkz (ds:List D)(μ:M):jaO .frz jcm.F [.lst ds] μ=.ok (.bl true) μ:=by
 refine jaM (F:=jfi) ?_ jeY
 unfold jfi jfF
 walk_at"ev"
 rw[jna]
 walk_at"ev"
theorem jc1 {ds:List D}{n:Nat}(hl:ds.length<=1000)(h:∀d∈ds,∃es,d=.tup es/\es.length=n)(w:Str)(μ:M):jaO .frz jaq.F [.lst ds,.int (n:Int),.str w] μ=jkV true μ:=by
 refine jct (F:=jdE) ?_
 have hq:(ev jdy jcA).v [some (.lst ds),some (.int (n:Int)),some (.str w)] μ=.ok (.lst ((ds.map fun _=>true).map D.bl)) μ:=by
  unfold jcA
  rw[jby (ds:=[.lst ds]) (xs:=ds) (e:=fun d=>d) (fun _=>true) (fun _=>D.bl true) (by walk_at"ev") (by rw[List.map_id'];rfl) (jag (by simpa using hl)) fun d hd=>⟨_,rfl,by walk_at"ev",fun _=>by
   obtain⟨es,rfl,he⟩:=h d hd
   walk_at"ev"
   rw[jpN es n he]⟩]
  rw[List.filter_eq_self.mpr fun _ _=>rfl]
  walk_at"ev"
  simp[List.map_map]
 unfold jdE jdw
 walk_at"ev"
 rw[jkz]
 walk_at"ev"
 rw[jas,jaR,jaN]
 simp only[if_true]
 walk_at"ev"
 rw[hq]
 walk_at"ev"
 rw[ji3]
 walk_at"ev"
 rw[jas,jaR]
 have:((ds.map fun _=>true).all id)=true:=by simp
 rw[this]
 walk_at"ev"
 rfl
theorem jga (t b:Int)(μ:M):jaO .frz jaw.F [.tup [.int t,.int b]] μ=jkV (decide (0<=t)&&decide (1<=b)) μ:=by
 refine jct (F:=jdb) ?_
 have i0:ixD (.tup [.int t,.int b]) (.int 0) μ=.ok (.int t) μ:=nr rfl
 have i1:ixD (.tup [.int t,.int b]) (.int 1) μ=.ok (.int b) μ:=nr rfl
 have h1:=jpN [.int t,.int b] 2 rfl μ
 unfold jdb jd
 walk_at"ev"
 rw[show(.int 2:D)=.int ((2:Nat):Int)from rfl,h1]
 walk_at"ev"
 rw[jas,jaR,jaN]
 simp only[if_true]
 walk_at"ev"
 rw[i0]
 walk_at"ev"
 rw[jaL]
 walk_at"ev"
 rw[jas,jaR,jaN]
 walk_at"ev"
 rw[i1]
 walk_at"ev"
 rw[jaL]
 walk_at"ev"
 rw[jas,jaR]
 rw[show ∀(x:Out Fl),jja x (runYs jcT [])=jja x (fun ρ μ=>.ok (.nx ρ) μ)from fun _=>rfl,jaN,jdY,je2,jdJ]
theorem jif {α:Type}{ok:M->Bool}{tg:Tg}{body:S3->M->Out Fl}{fg:List Nat}{μ:M}{ρ:S3}(f:α->D)(p:α->Bool)(ρb:α->S3)(r:D)(ho:ok μ=true)(hf:forget fg ρ=ρ):∀xs:List α,(∀x∈xs,jiR tg (f x) ρ=some (ρb x))->(∀x∈xs,body (ρb x) μ=if p x then .ok (.nx (ρb x)) μ else .ok (.rt r) μ)->(∀x∈xs,forget fg (ρb x)=ρ) ->
  jdh ok tg body fg (xs.map f) ρ μ=if xs.all p then .ok (.nx ρ) μ else .ok (.rt r) μ
 |[],_,_,_=>by
  rw[List.map_nil,jb7 ho,hf]
  rfl
 |x::xs,h1,h2,h3=>by
  rw[List.map_cons]
  cases hp:p x with
  |false=>
   rw[jnS ho (h1 x (by simp)) (r:=r) (μ2:=μ) (by rw[h2 x (by simp),hp];rfl),List.all_cons,hp]
   rfl
  |true=>
   rw[jbK (ρ1:=ρb x) (ρ2:=ρb x) (μ2:=μ) ho (h1 x (by simp)) (by rw[h2 x (by simp),hp];rfl),h3 x (by simp),jif f p ρb r ho hf xs (fun y hy=>h1 y (by simp[hy])) (fun y hy=>h2 y (by simp[hy])) (fun y hy=>h3 y (by simp[hy])),List.all_cons,hp,Bool.true_and]
noncomputable def jse (ns:List Int):Bool:=(List.range (ns.length - 1)).all fun k=>decide (ns.getD k 0<ns.getD (k+1) 0)
theorem ji2 {ds:List D}{μ:M}:biD .len false [.lst ds] μ=.ok (.int ds.length) μ:=nr rfl
theorem jgO (ns:List Int)(hl:ns.length<=1000)(μ:M):jaO .frz jbm.F [.lst (ns.map D.int)] μ=.ok (.bl (jse ns)) μ:=by
 refine jaM (F:=jdo) ?_ jeY
 have hi:∀μ:M,itD .rng2 [.int 1,.int (ns.length:Int)] μ=some ((List.range (ns.length - 1)).map fun(k:Nat)=>D.int (1+(k:Int))):=fun μ=>by
  unfold itD jjX
  dsimp only
  rw[if_pos (by omega),show((ns.length:Int) - 1).toNat=ns.length - 1 from by omega]
 unfold jdo jdx
 walk_at"ev"
 rw[ji2]
 walk_at"ev"
 rw[List.length_map,jb5 (hi _)]
 rw[jif (fun(k:Nat)=>D.int (1+(k:Int))) (fun k=>decide (ns.getD k 0<ns.getD (k+1) 0)) (fun k=>[some (.lst (ns.map D.int)),some (.int (1+(k:Int)))]) (.bl false) (jbt (hi _)) rfl _ (fun x _=>rfl) (fun k hk=>?_) (fun x _=>rfl)]
 ·show jqH (jja (if jse ns=true then _ else _) _)=_
  cases jse ns
  ·rfl
  ·simp only[if_true]
   walk_at"ev"
 ·have hk':k+1<ns.length:=by have:=List.mem_range.mp hk;omega
  unfold jdR
  walk_at"ev"
  rw[show(1+(k:Int))=((k+1:Nat):Int)from by omega,jiC hk']
  walk_at"ev"
  rw[show((k+1:Nat):Int) - 1=((k:Nat):Int)from by omega,jiC (by omega)]
  walk_at"ev"
  by_cases h:ns.getD k 0<ns.getD (k+1) 0
  ·rw[decide_eq_true h,decide_eq_false (by omega)]
   simp only[if_true,if_false,Bool.false_eq_true]
   walk_at"ev"
  ·rw[decide_eq_false h,decide_eq_true (by omega)]
   simp only[if_true,if_false,Bool.false_eq_true]
   walk_at"ev"
noncomputable def jsT (zs:List Str):Bool:=decide (((ddS zs).length:Int)=(zs.length:Int))
theorem jgI:∀zs:List Str,jgq (zs.map D.str)=some zs
 |[]=>rfl
 |z::zs=>by
  show(jgq (zs.map D.str)).map (z :: ·)=_
  rw[jgI zs]
  rfl
theorem jhn (zs:List Str)(hl:zs.length<=1000)(μ:M):jaO .frz jbp.F [.lst (zs.map D.str)] μ=.ok (.bl (jsT zs)) μ:=by
 refine jaM (F:=jdt) ?_ jeY
 have h1:biD .lenSet false [.lst (zs.map D.str)] μ=.ok (.int (ddS zs).length) μ:=nr (by
  simp only[biD,jh,jfX,jeS,jgI,hl,if_true])
 unfold jdt jdu
 walk_at"ev"
 rw[h1]
 walk_at"ev"
 rw[ji2]
 walk_at"ev"
 rw[List.length_map]
 rfl
noncomputable def kD (p:Str×Int):D:=.tup [.str p.1,.int p.2]
noncomputable def jpl (xs:List (Str×Int)):Bool:=xs.all (fun p=>jaV p.1&&decide (0<=p.2))&&jsT (xs.map (·.1))
theorem jgb (xs:List (Str×Int))(hl:xs.length<=1000)(hn:∀p∈xs,p.1.length<=1000)(μ:M):jaO .frz jav.F [.lst (xs.map kD)] μ=jkV (jpl xs) μ:=by
 refine jct (F:=jcM) ?_
 have hq:(ev jbJ jch).v [some (.lst (xs.map kD)),none,none] μ=.ok (.lst ((xs.map (·.1)).map D.str)) μ:=by
  unfold jch
  rw[jby (ds:=[.lst (xs.map kD)]) (xs:=xs) (e:=kD) (fun _=>true) (fun p=>D.str p.1) (by walk_at"ev") rfl (jag (by simpa using hl)) fun d hd=>⟨_,rfl,by walk_at"ev",fun _=>by walk_at"ev"⟩]
  rw[List.filter_eq_self.mpr fun _ _=>rfl]
  walk_at"ev"
  simp[List.map_map]
 have hc:=jc1 (ds:=xs.map kD) (n:=2) (by simpa using hl) (fun d hd=>by obtain⟨p,_,rfl⟩:=List.mem_map.mp hd;exact⟨_,rfl,rfl⟩) "kinds is no list of pairs" μ
 have hi:∀μ:M,itD .seq [.lst (xs.map kD)] μ=some (xs.map kD):=fun μ=>rfl
 unfold jcM jc4
 walk_at"ev"
 rw[show(.int 2:D)=.int ((2:Nat):Int)from rfl,hc,jaR,jaN]
 simp only[if_true]
 walk_at"ev"
 rw[jb5 (hi _),jen kD (fun p=>jaV p.1&&decide (0<=p.2)) (fun p=>[some (.lst (xs.map kD)),some (.str p.1),some (.int p.2)]) (jbt (hi _)) rfl _ (fun x _=>rfl) (fun p hp=>?_) (fun x _=>rfl)]
 ·rw[jaN]
  walk_at"ev"
  rw[hq]
  walk_at"ev"
  rw[jhn _ (by simpa using hl)]
  walk_at"ev"
  rw[jas,jaR]
  rw[show ∀(x:Out Fl),jja x (runYs jbJ [])=jja x (fun ρ μ=>.ok (.nx ρ) μ)from fun _=>rfl,jaN,jdY,je2,jdJ]
  rfl
 ·unfold jdn
  walk_at"ev"
  rw[jeJ _ (hn p hp)]
  walk_at"ev"
  rw[jas,jaR,jaN]
  walk_at"ev"
  rw[jaL]
  walk_at"ev"
  rw[jas,jaR]
  rw[show ∀(x:Out Fl),jja x (runYs jbJ [])=jja x (fun ρ μ=>.ok (.nx ρ) μ)from fun _=>rfl,jaN,jdY,je2]
noncomputable def lD (p:Int×D):D:=.tup [.int p.1,p.2]
noncomputable def leB (lo:Int)(ns:List Int):Bool:=ns.all (fun n=>decide (lo<=n))&&jse ns
theorem jiO {G:List FnE}(x:Out Fl):jja x (runYs G [])=jja x (fun ρ μ=>.ok (.nx ρ) μ):=rfl
theorem jdq (xs:List (Int×D))(hl:xs.length<=1000)(lo:Int)(w:Str)(μ:M):jaO .frz jam.F [.lst (xs.map lD),.int lo,.str w] μ=jkV (leB lo (xs.map (·.1))) μ:=by
 refine jct (F:=jcw) ?_
 have hq0:(ev jbW jb3).v [some (.lst (xs.map lD)),some (.int lo),some (.str w)] μ=.ok (.lst ((xs.map fun p=>decide (lo<=p.1)).map D.bl)) μ:=by
  unfold jb3
  rw[jby (ds:=[.lst (xs.map lD)]) (xs:=xs) (e:=lD) (fun _=>true) (fun p=>D.bl (decide (lo<=p.1))) (by walk_at"ev") rfl (jag (by simpa using hl)) fun p hp=>⟨_,rfl,by walk_at"ev",fun _=>by
   have i0:ixD (lD p) (.int 0) μ=.ok (.int p.1) μ:=nr rfl
   walk_at"ev"
   rw[i0]
   walk_at"ev"
   rw[jaL]⟩]
  rw[List.filter_eq_self.mpr fun _ _=>rfl]
  walk_at"ev"
  simp[List.map_map]
 have hq1:(ev jbW jb2).v [some (.lst (xs.map lD)),some (.int lo),some (.str w)] μ=.ok (.lst ((xs.map (·.1)).map D.int)) μ:=by
  unfold jb2
  rw[jby (ds:=[.lst (xs.map lD)]) (xs:=xs) (e:=lD) (fun _=>true) (fun p=>D.int p.1) (by walk_at"ev") rfl (jag (by simpa using hl)) fun p hp=>⟨_,rfl,by walk_at"ev",fun _=>by
   have i0:ixD (lD p) (.int 0) μ=.ok (.int p.1) μ:=nr rfl
   walk_at"ev"
   rw[i0]⟩]
  rw[List.filter_eq_self.mpr fun _ _=>rfl]
  walk_at"ev"
  simp[List.map_map]
 have hc:=jc1 (ds:=xs.map lD) (n:=2) (by simpa using hl) (fun d hd=>by obtain⟨p,_,rfl⟩:=List.mem_map.mp hd;exact⟨_,rfl,rfl⟩) w μ
 unfold jcw jcB
 walk_at"ev"
 rw[show(.int 2:D)=.int ((2:Nat):Int)from rfl,hc,jaR,jaN]
 simp only[if_true]
 walk_at"ev"
 rw[hq0]
 walk_at"ev"
 rw[ji3]
 walk_at"ev"
 rw[jas,jaR,jaN]
 walk_at"ev"
 rw[hq1]
 walk_at"ev"
 rw[jgO _ (by simpa using hl)]
 walk_at"ev"
 rw[jas,jaR,jiO,jaN,jdY,je2,jdJ]
 unfold leB
 congr 2
 simp[List.all_map]
 rfl
noncomputable def sD (p:Int×Int):D:=.tup [.int p.1,.int p.2]
noncomputable def jpn (xs:List (Int×Int)):Bool:=leB 0 (xs.map (·.1))&&xs.all (fun p=>decide (0<=p.2))
theorem jgp (xs:List (Int×Int))(hl:xs.length<=1000)(μ:M):jaO .frz jat.F [.lst (xs.map sD)] μ=jkV (jpn xs) μ:=by
 refine jct (F:=jcN) ?_
 have hc:=jdq (xs.map fun p=>(p.1,D.int p.2)) (by simpa using hl) 0 "the leasts of the steps are too low or don't rise" μ
 rw[List.map_map,List.map_map]at hc
 have e1:(lD ∘ fun(p:Int×Int)=>(p.1,D.int p.2))=sD:=rfl
 have e2:((fun(x:Int×D)=>x.1) ∘ fun(p:Int×Int)=>(p.1,D.int p.2))=fun p=>p.1:=rfl
 rw[e1,e2]at hc
 have hi:∀μ:M,itD .seq [.lst (xs.map sD)] μ=some (xs.map sD):=fun μ=>rfl
 unfold jcN jc9
 walk_at"ev"
 rw[hc,jaR,jaN]
 walk_at"ev"
 rw[jb5 (hi _),jen sD (fun p=>decide (0<=p.2)) (fun p=>[some (.lst (xs.map sD)),some (.int p.1),some (.int p.2)]) (jbt (hi _)) rfl _ (fun x _=>rfl) (fun p hp=>?_) (fun x _=>rfl)]
 ·rw[jiO,jaN,jdY,je2,jdJ]
  rfl
 ·unfold jds
  walk_at"ev"
  rw[jaL]
  walk_at"ev"
  rw[jas,jaR,jiO,jaN,jdY]
noncomputable def rD (p:Int×Str):D:=.tup [.int p.1,.str p.2]
noncomputable def rkB (xs:List (Int×Str)):Bool:=leB 1 (xs.map (·.1))&&xs.all (fun p=>jaV p.2)
theorem jgg (xs:List (Int×Str))(hl:xs.length<=1000)(hn:∀p∈xs,p.2.length<=1000)(μ:M):jaO .frz jau.F [.lst (xs.map rD)] μ=jkV (rkB xs) μ:=by
 refine jct (F:=jc7) ?_
 have hc:=jdq (xs.map fun p=>(p.1,D.str p.2)) (by simpa using hl) 1 "the leasts of the ranks are too low or don't rise" μ
 rw[List.map_map,List.map_map]at hc
 have e1:(lD ∘ fun(p:Int×Str)=>(p.1,D.str p.2))=rD:=rfl
 have e2:((fun(x:Int×D)=>x.1) ∘ fun(p:Int×Str)=>(p.1,D.str p.2))=fun p=>p.1:=rfl
 rw[e1,e2]at hc
 have hi:∀μ:M,itD .seq [.lst (xs.map rD)] μ=some (xs.map rD):=fun μ=>rfl
 unfold jc7 jcL
 walk_at"ev"
 rw[hc,jaR,jaN]
 walk_at"ev"
 rw[jb5 (hi _),jen rD (fun p=>jaV p.2) (fun p=>[some (.lst (xs.map rD)),some (.int p.1),some (.str p.2)]) (jbt (hi _)) rfl _ (fun x _=>rfl) (fun p hp=>?_) (fun x _=>rfl)]
 ·rw[jiO,jaN,jdY,je2,jdJ]
  rfl
 ·unfold jdl
  walk_at"ev"
  rw[jeJ _ (hn p hp)]
  walk_at"ev"
  rw[jas,jaR,jiO,jaN,jdY]
noncomputable def bD (p:Int×Int×Int):D:=.tup [.int p.1,.int p.2.1,.int p.2.2]
noncomputable def dbP (p:Int×Int×Int):Bool:=(decide (0<=p.1)&&decide (0<=p.2.1))&&(decide (p.1<=p.2.1)&&decide (1<=p.2.2))
theorem je7 (xs:List (Int×Int×Int))(hl:xs.length<=1000)(μ:M):jaO .frz jal.F [.lst (xs.map bD)] μ=jkV (xs.all dbP) μ:=by
 refine jct (F:=jci) ?_
 have hc:=jc1 (ds:=xs.map bD) (n:=3) (by simpa using hl) (fun d hd=>by obtain⟨p,_,rfl⟩:=List.mem_map.mp hd;exact⟨_,rfl,rfl⟩) "doubles is no list of triples" μ
 have hi:∀μ:M,itD .seq [.lst (xs.map bD)] μ=some (xs.map bD):=fun μ=>rfl
 unfold jci jcd
 walk_at"ev"
 rw[show(.int 3:D)=.int ((3:Nat):Int)from rfl,hc,jaR,jaN]
 simp only[if_true]
 walk_at"ev"
 rw[jb5 (hi _),jen bD dbP (fun p=>[some (.lst (xs.map bD)),some (.int p.1),some (.int p.2.1),some (.int p.2.2)]) (jbt (hi _)) rfl _ (fun x _=>rfl) (fun p hp=>?_) (fun x _=>rfl)]
 ·rw[jiO,jaN,jdY,jdJ]
 ·unfold jcI
  walk_at"ev"
  rw[jaL]
  walk_at"ev"
  have e:(if decide (0<=p.1)=true then jaO .frz jaB.F [.int p.2.1,.int 0] μ else .ok (.bl (decide (0<=p.1))) μ)=.ok (.bl (decide (0<=p.1)&&decide (0<=p.2.1))) μ:=by
   rw[jaL]
   cases decide (0<=p.1)<;>rfl
  rw[e]
  walk_at"ev"
  rw[jas,jaR,jaN]
  walk_at"ev"
  rw[jas,jaR,jaN]
  walk_at"ev"
  rw[jaL]
  walk_at"ev"
  rw[jas,jaR,jiO,jaN,jdY,je2,je2]
  rfl
noncomputable def jdM:Option Int->D
 |none=>.non
 |some i=>.int i
noncomputable def onB (l:Int):Option Int->Bool
 |none=>true
 |some i=>decide (l<=i)
theorem jfo (o:Option Int)(l:Int)(μ:M):jaO .frz jay.F [jdM o,.int l] μ=.ok (.bl (onB l o)) μ:=by
 refine jaM (F:=jbD) ?_ jeY
 unfold jbD jbC
 cases o with
 |none=>
  unfold jdM
  walk_at"ev"
  rfl
 |some i=>
  unfold jdM
  walk_at"ev"
  rw[jaL]
  walk_at"ev"
  rfl
structure HRow where
 name:Str
 t:Int
 b:Int
 kinds:List (Str×Int)
 steps:List (Int×Int)
 doubles:List (Int×Int×Int)
 cap:Option Int
 age:Option Int
 rest:Option Int
 ranks:List (Int×Str)
 span:Int
 grace:Int
noncomputable def HRow.ok (r:HRow):Bool:=jaV r.name&&(decide (0<=r.t)&&decide (1<=r.b))&&jpl r.kinds&&jpn r.steps&&r.doubles.all dbP&&onB 0 r.cap&&onB 1 r.age&&onB 1 r.rest&&rkB r.ranks&&decide (1<=r.span)&&decide (0<=r.grace)
structure HRow.Fit (r:HRow):Prop where
 n:r.name.length<=1000
 k:r.kinds.length<=1000
 kn:∀p∈r.kinds,p.1.length<=1000
 s:r.steps.length<=1000
 d:r.doubles.length<=1000
 rk:r.ranks.length<=1000
 rn:∀p∈r.ranks,p.2.length<=1000
noncomputable abbrev hFs:List Str:=["name","share","kinds","steps","doubles","cap","age","rest","ranks","span","grace"]
noncomputable def HRow.ds (r:HRow):List D:=[.str r.name,.tup [.int r.t,.int r.b],.tup (r.kinds.map kD),.tup (r.steps.map sD),.tup (r.doubles.map bD),jdM r.cap,jdM r.age,jdM r.rest,.tup (r.ranks.map rD),.int r.span,.int r.grace]
noncomputable def HRow.args (r:HRow):List D:=[.str r.name,.tup [.int r.t,.int r.b],.lst (r.kinds.map kD),.lst (r.steps.map sD),.lst (r.doubles.map bD),jdM r.cap,jdM r.age,jdM r.rest,.lst (r.ranks.map rD),.int r.span,.int r.grace]
theorem jbf {ds:List D}{μ:M}:biD .tuple false [.lst ds] μ=.ok (.tup ds) μ:=nr rfl
theorem jt3:jfS jcy 9=some (.cls 268 1000000 hFs):=rfl
theorem jrN {μ:M}{c c':Option Cl}:(μ++[c]).set μ.length c'=μ++[c']:=by simp
theorem jhE {μ:M}{c:Option Cl}:(μ++[c])[μ.length]?=some c:=by simp
theorem jll {ρ:S3}{μ:M}{fs:List Str}{ds:List D}{f:Str}{d:D}(hl:fs.length<1000)(h1:jgo f fs=fs++[f])(h2:jd9 f d fs ds=ds++[d]):jvT (some (.cls 268 1000000 hFs)) f ρ d (.cel μ.length) (μ++[some (.obj 268 fs ds)])=.ok (.nx ρ) (μ++[some (.obj 268 (fs++[f]) (ds++[d]))]):=by
 rw[jnO jhE hl h1 h2,jrN]
theorem jqo (r:HRow)(h:r.Fit)(μ:M):jbx (.cel μ.length::r.args) (μ++[some (.obj 268 [] [])])=if r.ok then .ok .non (μ++[some (.obj 268 hFs r.ds)])else .exc (.str "BadHouse") (μ++[some (.obj 268 [] [])]):=by
 unfold jbx jcD HRow.args
 walk_at"ev"
 rw[jeJ _ h.n]
 walk_at"ev"
 rw[jas,jaR,jaN]
 cases h1:jaV r.name
 ·rw[show r.ok=false from by simp only[HRow.ok,h1,Bool.false_and,Bool.and_false]];rfl
 simp only[if_true]
 walk_at"ev"
 rw[jga,jaR,jaN]
 cases h2:(decide (0<=r.t)&&decide (1<=r.b))
 ·rw[show r.ok=false from by simp only[HRow.ok,h2,Bool.false_and,Bool.and_false]];rfl
 simp only[if_true]
 walk_at"ev"
 rw[jgb _ h.k h.kn,jaR,jaN]
 cases h3:jpl r.kinds
 ·rw[show r.ok=false from by simp only[HRow.ok,h3,Bool.false_and,Bool.and_false]];rfl
 simp only[if_true]
 walk_at"ev"
 rw[jgp _ h.s,jaR,jaN]
 cases h4:jpn r.steps
 ·rw[show r.ok=false from by simp only[HRow.ok,h4,Bool.false_and,Bool.and_false]];rfl
 simp only[if_true]
 walk_at"ev"
 rw[je7 _ h.d,jaR,jaN]
 cases h5:r.doubles.all dbP
 ·rw[show r.ok=false from by simp only[HRow.ok,h5,Bool.false_and,Bool.and_false]];rfl
 simp only[if_true]
 walk_at"ev"
 rw[jfo]
 walk_at"ev"
 rw[jas,jaR,jaN]
 cases h6:onB 0 r.cap
 ·rw[show r.ok=false from by simp only[HRow.ok,h6,Bool.false_and,Bool.and_false]];rfl
 simp only[if_true]
 walk_at"ev"
 rw[jfo]
 walk_at"ev"
 rw[jas,jaR,jaN]
 cases h7:onB 1 r.age
 ·rw[show r.ok=false from by simp only[HRow.ok,h7,Bool.false_and,Bool.and_false]];rfl
 simp only[if_true]
 walk_at"ev"
 rw[jfo]
 walk_at"ev"
 rw[jas,jaR,jaN]
 cases h8:onB 1 r.rest
 ·rw[show r.ok=false from by simp only[HRow.ok,h8,Bool.false_and,Bool.and_false]];rfl
 simp only[if_true]
 walk_at"ev"
 rw[jgg _ h.rk h.rn,jaR,jaN]
 cases h9:rkB r.ranks
 ·rw[show r.ok=false from by simp only[HRow.ok,h9,Bool.false_and,Bool.and_false]];rfl
 simp only[if_true]
 walk_at"ev"
 rw[jaL]
 walk_at"ev"
 rw[jas,jaR,jaN]
 cases h10:decide (1<=r.span)
 ·rw[show r.ok=false from by simp only[HRow.ok,h10,Bool.false_and,Bool.and_false]];rfl
 simp only[if_true]
 walk_at"ev"
 rw[jaL]
 walk_at"ev"
 rw[jas,jaR,jaN]
 cases h11:decide (0<=r.grace)
 ·rw[show r.ok=false from by simp only[HRow.ok,h11,Bool.false_and,Bool.and_false]];rfl
 simp only[if_true]
 rw[show r.ok=true from by simp only[HRow.ok,h1,h2,h3,h4,h5,h6,h7,h8,h9,h10,h11,Bool.and_true]]
 simp only[if_true]
 have dg:=jt3
 simp only[jme,jmy]at dg
 walk_at"ev"
 simp only[dg,jbf,ja4]
 rw[jll (fs:=[]) (ds:=[]) (by decide) rfl rfl]
 walk_at"ev"
 simp only[dg,jbf,ja4,List.nil_append,List.cons_append]
 rw[jll (by decide) (by decide +kernel) rfl]
 walk_at"ev"
 simp only[dg,jbf,ja4,List.nil_append,List.cons_append]
 rw[jll (by decide) (by decide +kernel) rfl]
 walk_at"ev"
 simp only[dg,jbf,ja4,List.nil_append,List.cons_append]
 rw[jll (by decide) (by decide +kernel) rfl]
 walk_at"ev"
 simp only[dg,jbf,ja4,List.nil_append,List.cons_append]
 rw[jll (by decide) (by decide +kernel) rfl]
 walk_at"ev"
 simp only[dg,jbf,ja4,List.nil_append,List.cons_append]
 rw[jll (by decide) (by decide +kernel) rfl]
 walk_at"ev"
 simp only[dg,jbf,ja4,List.nil_append,List.cons_append]
 rw[jll (by decide) (by decide +kernel) rfl]
 walk_at"ev"
 simp only[dg,jbf,ja4,List.nil_append,List.cons_append]
 rw[jll (by decide) (by decide +kernel) rfl]
 walk_at"ev"
 simp only[dg,jbf,ja4,List.nil_append,List.cons_append]
 rw[jll (by decide) (by decide +kernel) rfl]
 walk_at"ev"
 simp only[dg,jbf,ja4,List.nil_append,List.cons_append]
 rw[jll (by decide) (by decide +kernel) rfl]
 walk_at"ev"
 simp only[dg,jbf,ja4,List.nil_append,List.cons_append]
 rw[jll (by decide) (by decide +kernel) rfl]
 walk_at"ev"
 try simp only[dg,jbf,ja4,List.nil_append,List.cons_append]
 rfl
theorem jda {h:Nat->Option D}(o:Option Int):jbP h (jdM o)=some (jdM o):=by
 cases o
 ·exact jmj
 ·exact jaH
theorem jfP {h:Nat->Option D}(p:Str×Int):jbP h (kD p)=some (kD p):=jbj (jab jd6 (jab jaH jbL))
theorem jjh {h:Nat->Option D}(p:Int×Int):jbP h (sD p)=some (sD p):=jbj (jab jaH (jab jaH jbL))
theorem jfO {h:Nat->Option D}(p:Int×Int×Int):jbP h (bD p)=some (bD p):=jbj (jab jaH (jab jaH (jab jaH jbL)))
theorem jju {h:Nat->Option D}(p:Int×Str):jbP h (rD p)=some (rD p):=jbj (jab jaH (jab jd6 jbL))
theorem jph {h:Nat->Option D}(r:HRow):frzGs h r.ds=some r.ds:=by
 unfold HRow.ds
 exact jab jd6 (jab (jbj (jab jaH (jab jaH jbL))) (jab (jbj (jaA jfP _)) (jab (jbj (jaA jjh _)) (jab (jbj (jaA jfO _)) (jab (jda _) (jab (jda _) (jab (jda _) (jab (jbj (jaA jju _)) (jab jaH (jab jaH jbL))))))))))
theorem jtX (r:HRow)(h:r.Fit)(μ:M):jaO .frz (mkF 268 jcJ.F) r.args μ=if r.ok then .ok (.obj 268 hFs r.ds) μ else .exc (.str "BadHouse") μ:=by
 have e:=jqo r h μ
 cases hk:r.ok with
 |false=>
  rw[hk]at e
  exact jlN (ν:=[some (.obj 268 [] [])]) (jtI (F:=jbx) e)
 |true=>
  rw[hk]at e
  refine jfa (ν:=[some (.obj 268 hFs r.ds)]) (d:=.cel μ.length) (jwU (F:=jbx) e) ?_
  unfold jle
  unfold jbP
  unfold jhI
  rw[if_neg (by omega),if_neg (by simp)]
  dsimp only
  rw[jhE]
  dsimp only
  rw[jph]
  rfl
theorem jok {ds:List D}{μ:M}:biD .list false [.lst ds] μ=.ok (.lst ds) μ:=nr rfl
theorem jjB (r:HRow)(h:r.Fit)(μ:M):jbH [.tup r.args] μ=if r.ok then .ok (.obj 268 hFs r.ds) μ else .exc (.str "BadHouse") μ:=by
 have hs1:slD false (.tup r.args) (some 1) (some 5) μ=.ok (.tup [.tup [.int r.t,.int r.b],.lst (r.kinds.map kD),.lst (r.steps.map sD),.lst (r.doubles.map bD)]) μ:=nr rfl
 have hs2:slD false (.tup r.args) (some 5) none μ=.ok (.tup [jdM r.cap,jdM r.age,jdM r.rest,.lst (r.ranks.map rD),.int r.span,.int r.grace]) μ:=nr rfl
 have hi0:ixD (.tup r.args) (.int 0) μ=.ok (.str r.name) μ:=nr rfl
 unfold jbH jeG
 walk_at"ev"
 rw[hs1]
 walk_at"ev"
 rw[show ∀(a b c d:D) (ρ:S3),jsI (.tp [1,2,3,4]) ρ (.tup [a,b,c,d]) μ=.ok (.nx ((((ρ.set 1 (some a)).set 2 (some b)).set 3 (some c)).set 4 (some d))) μ from fun _ _ _ _ _=>rfl]
 walk_at"ev"
 rw[hs2]
 walk_at"ev"
 rw[show ∀(a b c d e f:D) (ρ:S3),jsI (.tp [5,6,7,8,9,10]) ρ (.tup [a,b,c,d,e,f]) μ=.ok (.nx ((((((ρ.set 5 (some a)).set 6 (some b)).set 7 (some c)).set 8 (some d)).set 9 (some e)).set 10 (some f))) μ from fun _ _ _ _ _ _ _=>rfl]
 walk_at"ev"
 simp only[jok,ja4]
 walk_at"ev"
 rw[hi0]
 walk_at"ev"
 rw[show ∀(a b c d:D),ixD (.lst [a,b,c,d]) (.int 0) μ=.ok a μ from fun _ _ _ _=>rfl]
 walk_at"ev"
 rw[show ∀(a b c d:D),ixD (.lst [a,b,c,d]) (.int 1) μ=.ok b μ from fun _ _ _ _=>rfl]
 walk_at"ev"
 rw[show ∀(a b c d:D),ixD (.lst [a,b,c,d]) (.int 2) μ=.ok c μ from fun _ _ _ _=>rfl]
 walk_at"ev"
 rw[show ∀(a b c d:D),ixD (.lst [a,b,c,d]) (.int 3) μ=.ok d μ from fun _ _ _ _=>rfl]
 walk_at"ev"
 have hn:=jtX r h μ
 unfold HRow.args at hn
 rw[show jsV jeM 0 .frz _ μ=_ from js4 (C:=268) (k:=5) (fs:=hFs) rfl,hn]
 cases r.ok<;>rfl
theorem jp7 (r:HRow)(h:r.Fit)(μ:M):jaO .frz jaX.F [.tup r.args] μ=if r.ok then .ok (.obj 268 hFs r.ds) μ else .exc (.str "BadHouse") μ:=by
 have key:=jjB r h μ
 cases hk:r.ok with
 |false=>
  rw[hk]at key
  exact jjr (F:=jbH) key
 |true=>
  rw[hk]at key
  exact jaM (F:=jbH) key (by
   unfold jle jbP
   rw[jph]
   rfl)
theorem jcu {xs:List Int}{i:Int}(h0:0<=i)(h1:i<xs.length)(μ:M):∃n∈xs,ixD (.lst (xs.map D.int)) (.int i) μ=.ok (.int n) μ:=by
 obtain⟨k,rfl⟩:=Int.eq_ofNat_of_zero_le h0
 have hk:k<xs.length:=by omega
 refine⟨xs.getD k 0,?_,jiC hk⟩
 rw[List.getD_eq_getElem?_getD,List.getElem?_eq_getElem hk]
 exact List.getElem_mem hk
noncomputable def Ris (least:Int)(ns:List Int):Prop:=ns.Pairwise (· < ·)/\∀x∈ns,least<=x
theorem jh5 (c k0 least:Int)(hk0:0<=k0/\k0<=10)(o2 o3:Option D)(μ:M)(ok:M->Bool)(hok:∀ν,ok ν=true):∀(n j:Nat) (ns:List Int) (last:Int) (o6 o7:Option D),j+n<=100->ns.length<=100 - n->Ris least ns->(∀x∈ns,x<=last)->least - 1<=last ->
  ∃(ns':List Int) (last':Int),(ns'.length=ns.length+n/\Ris least ns')/\jdh ok (.nm 6) (runs jdA jcz) [6,7] ((List.range' j n).map fun(i:Nat)=>D.int (i:Int)) [some (.int c),some (.int k0),o2,o3,some (.cel μ.length),some (.int last),o6,o7] (μ++[some (.lst (ns.map D.int))])
   =.ok (.nx [some (.int c),some (.int k0),o2,o3,some (.cel μ.length),some (.int last'),none,none]) (μ++[some (.lst (ns'.map D.int))])
 |0,j,ns,last,o6,o7,_,_,h,_,_=>⟨ns,last,⟨rfl,h⟩,by
  rw[List.range'_zero,List.map_nil,jb7 (hok _)]
  rfl⟩
 |n+1,j,ns,last,o6,o7,hj,hl,h,hb,hlast=>by
  obtain⟨m,m0,m1,hm⟩:=jdX (c+(j:Int)) (k0+(j:Int)) (by omega) (by omega) (μ++[some (.lst (ns.map D.int))])
  have hd0:(0:Int)<(j:Int)+1:=by omega
  obtain⟨v,hv,ev'⟩:=jcu (xs:=[m % 4,m % 1000,c / ((j:Int)+1) % 10000000000,0]) (i:=m / 4000 % 4) (Int.emod_nonneg _ (by decide)) (by have:=Int.emod_lt_of_pos (m / 4000) (show(0:Int)<4 by decide);simpa using this) (μ++[some (.lst (ns.map D.int))])
  have hv0:0<=v:=by
   simp only[List.mem_cons,List.not_mem_nil,or_false]at hv
   rcases hv with rfl|rfl|rfl|rfl
   ·exact Int.emod_nonneg _ (by decide)
   ·exact Int.emod_nonneg _ (by decide)
   ·exact Int.emod_nonneg _ (by decide)
   ·exact Int.le_refl _
  obtain⟨ns',last',⟨i1,i2⟩,ih⟩:=jh5 c k0 least hk0 o2 o3 μ ok hok n (j+1) (ns++[last+1+v]) (last+1+v) none none (by omega) (by simp;omega) ⟨List.pairwise_append.mpr ⟨h.1,List.pairwise_singleton _ _,fun x hx y hy=>by
    have:y=last+1+v:=by simpa using hy
    have:=hb x hx
    omega⟩,fun x hx=>by
    rcases List.mem_append.mp hx with q|q
    ·exact h.2 x q
    ·have:x=last+1+v:=by simpa using q
     omega⟩ (fun x hx=>by
    rcases List.mem_append.mp hx with q|q
    ·have:=hb x q
     omega
    ·have:x=last+1+v:=by simpa using q
     omega) (by omega)
  refine⟨ns',last',⟨by rw[i1,List.length_append,List.length_singleton];omega,i2⟩,?_⟩
  rw[List.range'_succ,List.map_cons]
  rw[jbK (ρ1:=[some (.int c),some (.int k0),o2,o3,some (.cel μ.length),some (.int last),some (.int (j:Int)),o7]) (ρ2:=[some (.int c),some (.int k0),o2,o3,some (.cel μ.length),some (.int (last+1+v)),some (.int (j:Int)),some (.int m)]) (μ2:=μ++[some (.lst ((ns++[last+1+v]).map D.int))]) (hok _) rfl ?_]
  ·exact ih
  ·unfold jcz
   walk_at"ev"
   rw[hm]
   walk_at"ev"
   rw[jiE hd0 (by omega)]
   walk_at"ev"
   simp only[List.map_cons,List.map_nil]at ev'
   rw[ev']
   walk_at"ev"
   rw[jdH (jdk (by simp;omega))]
   walk_at"ev"
   rw[List.map_append]
   rfl
theorem jnc {μ:M}{ds:List D}(h:∀k,frzGs k ds=some ds):jle (μ++[some (.lst ds)]) μ.length (.cel μ.length)=some (.lst ds):=by
 unfold jle
 unfold jbP
 unfold jhI
 rw[if_neg (by omega),if_neg (by simp)]
 dsimp only
 rw[jhE]
 dsimp only
 rw[h]
 rfl
theorem jiA (c k0 least:Int)(n:Nat)(hk0:0<=k0/\k0<=10)(hn:n<=8)(μ:M):∃ns:List Int,(ns.length=n/\Ris least ns)/\jaO .frz jbn.F [.int c,.int k0,.int (n:Int),.int least] μ=.ok (.lst (ns.map D.int)) μ:=by
 have hi:∀ν:M,itD .rng1 [.int (n:Int)] ν=some ((List.range' 0 n).map fun(i:Nat)=>D.int (i:Int)):=fun ν=>by rw[jeO (by omega),List.range_eq_range']
 obtain⟨ns,last,⟨h1,h2⟩,h3⟩:=jh5 c k0 least hk0 (some (.int (n:Int))) (some (.int least)) μ (jdr .rng1 [.int (n:Int)] ((List.range' 0 n).map fun(i:Nat)=>D.int (i:Int))) (fun ν=>jbt (hi ν)) n 0 [] (least - 1) none none (by omega) (by simp) ⟨List.Pairwise.nil,fun x hx=>by cases hx⟩ (fun x hx=>by cases hx) (by omega)
 refine⟨ns,⟨by simpa using h1,h2⟩,?_⟩
 have key:jcp [.int c,.int k0,.int (n:Int),.int least] μ=.ok (.cel μ.length) (μ++[some (.lst (ns.map D.int))]):=by
  unfold jcp jdm
  walk_at"ev"
  rw[jb5 (hi _)]
  rw[List.map_nil]at h3
  rw[h3]
  walk_at"ev"
 exact jfa (F:=jcp) key (jnc fun _=>jaA (fun _=>jaH) _)
theorem jmd {least:Int}{ns:List Int}(h:Ris least ns):leB least ns=true:=by
 unfold leB jse
 rw[Bool.and_eq_true]
 refine⟨List.all_eq_true.mpr fun x hx=>decide_eq_true (h.2 x hx),List.all_eq_true.mpr fun k hk=>decide_eq_true ?_⟩
 have hk':k+1<ns.length:=by have:=List.mem_range.mp hk;omega
 have:=List.pairwise_iff_getElem.mp h.1 k (k+1) (by omega) hk' (by omega)
 rw[List.getD_eq_getElem?_getD,List.getD_eq_getElem?_getD,List.getElem?_eq_getElem (by omega),List.getElem?_eq_getElem hk']
 exact this
theorem jeI (ns:List Int)(i:Int)(h:0<=i):∃c:Int,∀μ:M,jaO .frz jcq.F [jdL ns,.int i] μ=.ok (.int c) μ:=by
 obtain⟨k,rfl⟩:=Int.eq_ofNat_of_zero_le h
 exact⟨_,fun μ=>jwx ns k μ⟩
noncomputable abbrev jdN (zs:List Str):D:=.lst (zs.map D.str)
section
variable (ns:List Int) (zs:List Str) (o1 o2 o4 o5 r10 r11 r12 r13 r14 r15 r16 r17 r18 r19 r20 r21 r22:Option D) (μ:M)
theorem jgL (hz:zs.length=10)(ok:M->Bool)(hok:∀ν,ok ν=true):∀(n j:Nat) (ks:List (Str×Int)) (o7 o8:Option D),j+n<=8->ks.map (·.1)=zs.take j->(∀p∈ks,0<=p.2) ->
  ∃(ks':List (Str×Int)) (o7' o8':Option D),(ks'.map (·.1)=zs.take (j+n)/\∀p∈ks',0<=p.2)/\jdh ok (.nm 7) (runs jbz jcV) [9] ((List.range' j n).map fun(i:Nat)=>D.int (i:Int)) [some (jdL ns),o1,o2,some (jdN zs),o4,o5,some (.cel μ.length),o7,o8,none,r10,r11,r12,r13,r14,r15,r16,r17,r18,r19,r20,r21,r22] (μ++[some (.lst (ks.map kD))])
   =.ok (.nx [some (jdL ns),o1,o2,some (jdN zs),o4,o5,some (.cel μ.length),o7',o8',none,r10,r11,r12,r13,r14,r15,r16,r17,r18,r19,r20,r21,r22]) (μ++[some (.lst (ks'.map kD))])
 |0,j,ks,o7,o8,_,h1,h2=>⟨ks,o7,o8,⟨h1,h2⟩,by
  rw[List.range'_zero,List.map_nil,jb7 (hok _)]
  rfl⟩
 |n+1,j,ks,o7,o8,hj,h1,h2=>by
  have hkl:ks.length<=8:=by have:=congrArg List.length h1;rw[List.length_map,List.length_take]at this;omega
  obtain⟨c,hc⟩:=jeI ns (3+(j:Int)) (by omega)
  obtain⟨m,m0,m1,hm⟩:=jdX c 2 (by decide) (by decide) (μ++[some (.lst (ks.map kD))])
  obtain⟨v,hv,ev'⟩:=jcu (xs:=[m % 4,m % 1000,c % 1000000000000]) (i:=m / 1000 % 3) (Int.emod_nonneg _ (by decide)) (by have:=Int.emod_lt_of_pos (m / 1000) (show(0:Int)<3 by decide);simpa using this) (μ++[some (.lst (ks.map kD))])
  have hv0:0<=v:=by
   simp only[List.mem_cons,List.not_mem_nil,or_false]at hv
   rcases hv with rfl|rfl|rfl
   ·exact Int.emod_nonneg _ (by decide)
   ·exact Int.emod_nonneg _ (by decide)
   ·exact Int.emod_nonneg _ (by decide)
  obtain⟨ks',o7',o8',⟨i1,i2⟩,ih⟩:=jgL hz ok hok n (j+1) (ks++[(zs.getD j "",v)]) (some (.int (j:Int))) (some (.int m)) (by omega) (by
   rw[List.map_append,h1,List.take_add_one,List.getElem?_eq_getElem (by omega),List.getD_eq_getElem?_getD,List.getElem?_eq_getElem (by omega)]
   rfl) (fun p hp=>by
   rcases List.mem_append.mp hp with q|q
   ·exact h2 p q
   ·have:p=(zs.getD j "",v):=by simpa using q
    subst this
    exact hv0)
  refine⟨ks',o7',o8',⟨by rw[i1,show j+1+n=j+(n+1)from by omega],i2⟩,?_⟩
  rw[List.range'_succ,List.map_cons]
  rw[jbK (ρ1:=[some (jdL ns),o1,o2,some (jdN zs),o4,o5,some (.cel μ.length),some (.int (j:Int)),o8,none,r10,r11,r12,r13,r14,r15,r16,r17,r18,r19,r20,r21,r22]) (ρ2:=[some (jdL ns),o1,o2,some (jdN zs),o4,o5,some (.cel μ.length),some (.int (j:Int)),some (.int m),some (.int v),r10,r11,r12,r13,r14,r15,r16,r17,r18,r19,r20,r21,r22]) (μ2:=μ++[some (.lst ((ks++[(zs.getD j "",v)]).map kD))]) (hok _) rfl ?_]
  ·exact ih
  ·unfold jcV
   walk_at"ev"
   rw[hc]
   walk_at"ev"
   rw[hm]
   walk_at"ev"
   rw[hc]
   walk_at"ev"
   simp only[List.map_cons,List.map_nil]at ev'
   rw[ev']
   walk_at"ev"
   rw[jiT (by omega)]
   walk_at"ev"
   rw[jdH (jdk (by simp;omega))]
   walk_at"ev"
   rw[List.map_append]
   rfl
end
section
variable (ns:List Int) (m:Int) (o2 o3 o4 o5 o6 o8 o9 r11 r13 r14 r15 r16 r17 r18 r19 r20 r21 r22:Option D) (μ:M)
theorem jgK (ok:M->Bool)(hok:∀ν,ok ν=true):∀(ls:List Int) (j:Nat) (ss:List (Int×Int)) (o7 o12:Option D),j+ls.length<=8->ss.length=j->(∀p∈ss,0<=p.2) ->
  ∃(ss':List (Int×Int)) (o7' o12':Option D),(ss'.map (·.1)=ss.map (·.1)++ls/\∀p∈ss',0<=p.2)/\jdh ok (.tp [7,12]) (runs jbz jcP) [] (jfd j (ls.map D.int)) [some (jdL ns),some (.int m),o2,o3,o4,o5,o6,o7,o8,o9,some (.cel μ.length),r11,o12,r13,r14,r15,r16,r17,r18,r19,r20,r21,r22] (μ++[some (.lst (ss.map sD))])
   =.ok (.nx [some (jdL ns),some (.int m),o2,o3,o4,o5,o6,o7',o8,o9,some (.cel μ.length),r11,o12',r13,r14,r15,r16,r17,r18,r19,r20,r21,r22]) (μ++[some (.lst (ss'.map sD))])
 |[],j,ss,o7,o12,_,_,h2=>⟨ss,o7,o12,⟨by simp,h2⟩,by
  rw[List.map_nil,show jfd j []=[]from rfl,jb7 (hok _)]
  rfl⟩
 |l::ls,j,ss,o7,o12,hj,h1,h2=>by
  have hj':j+ls.length<=7:=by simp at hj;omega
  obtain⟨c,hc⟩:=jeI ns 12 (by decide)
  obtain⟨q,q0,q1,hq⟩:=jdX c (j:Int) (by omega) (by omega) (μ++[some (.lst (ss.map sD))])
  obtain⟨v,hv,ev'⟩:=jcu (xs:=[(j:Int)*5,q % 100]) (i:=m / 2100 % 2) (Int.emod_nonneg _ (by decide)) (by have:=Int.emod_lt_of_pos (m / 2100) (show(0:Int)<2 by decide);simpa using this) (μ++[some (.lst (ss.map sD))])
  have hv0:0<=v:=by
   simp only[List.mem_cons,List.not_mem_nil,or_false]at hv
   rcases hv with rfl|rfl
   ·omega
   ·exact Int.emod_nonneg _ (by decide)
  obtain⟨ss',o7',o12',⟨i1,i2⟩,ih⟩:=jgK ok hok ls (j+1) (ss++[(l,v)]) (some (.int (j:Int))) (some (.int l)) (by omega) (by simp[h1]) (fun p hp=>by
   rcases List.mem_append.mp hp with z|z
   ·exact h2 p z
   ·have:p=(l,v):=by simpa using z
    subst this
    exact hv0)
  refine⟨ss',o7',o12',⟨by rw[i1];simp,i2⟩,?_⟩
  rw[List.map_cons,show jfd j (D.int l::ls.map D.int)=.tup [.int (j:Int),.int l]::jfd (j+1) (ls.map D.int)from rfl]
  rw[jbK (ρ1:=[some (jdL ns),some (.int m),o2,o3,o4,o5,o6,some (.int (j:Int)),o8,o9,some (.cel μ.length),r11,some (.int l),r13,r14,r15,r16,r17,r18,r19,r20,r21,r22]) (ρ2:=[some (jdL ns),some (.int m),o2,o3,o4,o5,o6,some (.int (j:Int)),o8,o9,some (.cel μ.length),r11,some (.int l),r13,r14,r15,r16,r17,r18,r19,r20,r21,r22]) (μ2:=μ++[some (.lst ((ss++[(l,v)]).map sD))]) (hok _) rfl ?_]
  ·exact ih
  ·unfold jcP
   walk_at"ev"
   rw[jhr (by decide) (by decide)]
   walk_at"ev"
   rw[hc]
   walk_at"ev"
   rw[hq]
   walk_at"ev"
   simp only[List.map_cons,List.map_nil]at ev'
   rw[ev']
   walk_at"ev"
   rw[jdH (jdk (by simp;omega))]
   walk_at"ev"
   rw[List.map_append]
   rfl
end
section
variable (ns:List Int) (o1 o2 o3 o4 o5 o6 o8 o9 o10 r11 r13 r14 r15 r18 r19 r20 r21 r22:Option D) (zs:List Str) (μ:M)
theorem jm2 {xs:List Str}{i:Int}(h0:0<=i)(h1:i<xs.length)(μ:M):∃n∈xs,ixD (jdN xs) (.int i) μ=.ok (.str n) μ:=by
 obtain⟨k,rfl⟩:=Int.eq_ofNat_of_zero_le h0
 have hk:k<xs.length:=by omega
 refine⟨xs.getD k "",?_,jiT hk⟩
 rw[List.getD_eq_getElem?_getD,List.getElem?_eq_getElem hk]
 exact List.getElem_mem hk
theorem jgx (hz:zs.length=10)(hn:∀z∈zs,jaV z=true)(ok:M->Bool)(hok:∀ν,ok ν=true):∀(ls:List Int) (j:Nat) (ss:List (Int×Str)) (o7 o12:Option D),j+ls.length<=8->ss.length=j->(∀p∈ss,jaV p.2=true) ->
  ∃(ss':List (Int×Str)) (o7' o12':Option D),(ss'.map (·.1)=ss.map (·.1)++ls/\∀p∈ss',jaV p.2=true)/\jdh ok (.tp [7,12]) (runs jbz jcY) [] (jfd j (ls.map D.int)) [some (jdL ns),o1,o2,o3,o4,o5,o6,o7,o8,o9,o10,r11,o12,r13,r14,r15,some (.cel μ.length),some (jdN zs),r18,r19,r20,r21,r22] (μ++[some (.lst (ss.map rD))])
   =.ok (.nx [some (jdL ns),o1,o2,o3,o4,o5,o6,o7',o8,o9,o10,r11,o12',r13,r14,r15,some (.cel μ.length),some (jdN zs),r18,r19,r20,r21,r22]) (μ++[some (.lst (ss'.map rD))])
 |[],j,ss,o7,o12,_,_,h2=>⟨ss,o7,o12,⟨by simp,h2⟩,by
  rw[List.map_nil,show jfd j []=[]from rfl,jb7 (hok _)]
  rfl⟩
 |l::ls,j,ss,o7,o12,hj,h1,h2=>by
  have hj':j+ls.length<=7:=by simp at hj;omega
  obtain⟨c,hc⟩:=jeI ns 21 (by decide)
  obtain⟨q,q0,q1,hq⟩:=jdX c (j:Int) (by omega) (by omega) (μ++[some (.lst (ss.map rD))])
  obtain⟨v,hv,ev'⟩:=jm2 (xs:=zs) (i:=q % 10) (Int.emod_nonneg _ (by decide)) (by have:=Int.emod_lt_of_pos q (show(0:Int)<10 by decide);rw[hz];exact this) (μ++[some (.lst (ss.map rD))])
  obtain⟨ss',o7',o12',⟨i1,i2⟩,ih⟩:=jgx hz hn ok hok ls (j+1) (ss++[(l,v)]) (some (.int (j:Int))) (some (.int l)) (by omega) (by simp[h1]) (fun p hp=>by
   rcases List.mem_append.mp hp with z|z
   ·exact h2 p z
   ·have:p=(l,v):=by simpa using z
    subst this
    exact hn v hv)
  refine⟨ss',o7',o12',⟨by rw[i1];simp,i2⟩,?_⟩
  rw[List.map_cons,show jfd j (D.int l::ls.map D.int)=.tup [.int (j:Int),.int l]::jfd (j+1) (ls.map D.int)from rfl]
  rw[jbK (ρ1:=[some (jdL ns),o1,o2,o3,o4,o5,o6,some (.int (j:Int)),o8,o9,o10,r11,some (.int l),r13,r14,r15,some (.cel μ.length),some (jdN zs),r18,r19,r20,r21,r22]) (ρ2:=[some (jdL ns),o1,o2,o3,o4,o5,o6,some (.int (j:Int)),o8,o9,o10,r11,some (.int l),r13,r14,r15,some (.cel μ.length),some (jdN zs),r18,r19,r20,r21,r22]) (μ2:=μ++[some (.lst ((ss++[(l,v)]).map rD))]) (hok _) rfl ?_]
  ·exact ih
  ·unfold jcY
   walk_at"ev"
   rw[hc]
   walk_at"ev"
   rw[hq]
   walk_at"ev"
   rw[ev']
   walk_at"ev"
   rw[jdH (jdk (by simp;omega))]
   walk_at"ev"
   rw[List.map_append]
   rfl
end
section
variable (ns:List Int) (o1 o2 o3 o4 o5 o6 o9 o10 r11 r12 r16 r17 r18 r19 r20 r21 r22:Option D) (μ:M)
theorem je4 (ok:M->Bool)(hok:∀ν,ok ν=true):∀(n j:Nat) (ks:List (Int×Int×Int)) (o7 o8:Option D),j+n<=8->ks.length=j->(∀p∈ks,dbP p=true) ->
  ∃(ks':List (Int×Int×Int)) (o7' o8':Option D),(ks'.length=j+n/\∀p∈ks',dbP p=true)/\jdh ok (.nm 7) (runs jbz jc8) [14,15] ((List.range' j n).map fun(i:Nat)=>D.int (i:Int)) [some (jdL ns),o1,o2,o3,o4,o5,o6,o7,o8,o9,o10,r11,r12,some (.cel μ.length),none,none,r16,r17,r18,r19,r20,r21,r22] (μ++[some (.lst (ks.map bD))])
   =.ok (.nx [some (jdL ns),o1,o2,o3,o4,o5,o6,o7',o8',o9,o10,r11,r12,some (.cel μ.length),none,none,r16,r17,r18,r19,r20,r21,r22]) (μ++[some (.lst (ks'.map bD))])
 |0,j,ks,o7,o8,_,h1,h2=>⟨ks,o7,o8,⟨h1,h2⟩,by
  rw[List.range'_zero,List.map_nil,jb7 (hok _)]
  rfl⟩
 |n+1,j,ks,o7,o8,hj,h1,h2=>by
  obtain⟨c,hc⟩:=jeI ns (13+(j:Int)) (by omega)
  obtain⟨m,m0,m1,hm⟩:=jdX c 4 (by decide) (by decide) (μ++[some (.lst (ks.map bD))])
  obtain⟨v,hv,ev'⟩:=jcu (xs:=[m % 60,c % 100000000000]) (i:=m / 3600 % 2) (Int.emod_nonneg _ (by decide)) (by have:=Int.emod_lt_of_pos (m / 3600) (show(0:Int)<2 by decide);simpa using this) (μ++[some (.lst (ks.map bD))])
  have hv0:0<=v:=by
   simp only[List.mem_cons,List.not_mem_nil,or_false]at hv
   rcases hv with rfl|rfl
   ·exact Int.emod_nonneg _ (by decide)
   ·exact Int.emod_nonneg _ (by decide)
  obtain⟨u,hu,eu⟩:=jcu (xs:=[0,m / 60 % 30,m]) (i:=m / 7200 % 3) (Int.emod_nonneg _ (by decide)) (by have:=Int.emod_lt_of_pos (m / 7200) (show(0:Int)<3 by decide);simpa using this) (μ++[some (.lst (ks.map bD))])
  have hu0:0<=u:=by
   simp only[List.mem_cons,List.not_mem_nil,or_false]at hu
   rcases hu with rfl|rfl|rfl
   ·exact Int.le_refl _
   ·exact Int.emod_nonneg _ (by decide)
   ·exact m0
  obtain⟨ks',o7',o8',⟨i1,i2⟩,ih⟩:=je4 ok hok n (j+1) (ks++[(v,v+u,1+m / 90 % 5)]) (some (.int (j:Int))) (some (.int m)) (by omega) (by simp[h1]) (fun p hp=>by
   rcases List.mem_append.mp hp with q|q
   ·exact h2 p q
   ·have:p=(v,v+u,1+m / 90 % 5):=by simpa using q
    subst this
    have:0<=m / 90 % 5:=Int.emod_nonneg _ (by decide)
    unfold dbP
    simp only[Bool.and_eq_true,decide_eq_true_eq]
    omega)
  refine⟨ks',o7',o8',⟨by rw[i1];omega,i2⟩,?_⟩
  rw[List.range'_succ,List.map_cons]
  rw[jbK (ρ1:=[some (jdL ns),o1,o2,o3,o4,o5,o6,some (.int (j:Int)),o8,o9,o10,r11,r12,some (.cel μ.length),none,none,r16,r17,r18,r19,r20,r21,r22]) (ρ2:=[some (jdL ns),o1,o2,o3,o4,o5,o6,some (.int (j:Int)),some (.int m),o9,o10,r11,r12,some (.cel μ.length),some (.int v),some (.int (v+u)),r16,r17,r18,r19,r20,r21,r22]) (μ2:=μ++[some (.lst ((ks++[(v,v+u,1+m / 90 % 5)]).map bD))]) (hok _) rfl ?_]
  ·exact ih
  ·unfold jc8
   walk_at"ev"
   rw[hc]
   walk_at"ev"
   rw[hm]
   walk_at"ev"
   rw[hc]
   walk_at"ev"
   simp only[List.map_cons,List.map_nil]at ev' eu
   rw[ev']
   walk_at"ev"
   rw[eu]
   walk_at"ev"
   rw[jdH (jdk (by simp;omega))]
   walk_at"ev"
   rw[List.map_append]
   rfl
end
theorem jtN {b:Bool}{μ:M}:biD .int false [.bl b] μ=.ok (.int (if b then 1 else 0)) μ:=nr rfl
theorem jqz {xs:List (Option Int)}{i:Int}(h0:0<=i)(h1:i<xs.length)(μ:M):∃n∈xs,ixD (.lst (xs.map jdM)) (.int i) μ=.ok (jdM n) μ:=by
 obtain⟨d,hd,e⟩:=jm7 (ds:=xs.map jdM) (a:=.lst (xs.map jdM)) (μ:=μ) h0 (by simpa using h1) rfl (fun z h=>by cases h)
 obtain⟨x,hx,rfl⟩:=List.mem_map.mp hd
 exact⟨x,hx,e⟩
section
variable (ns:List Int) (o1 o2 o3 o4 o5 o6 o9 o10 r11 r12 r13 r14 r15 r16 r17 r20 r21 r22:Option D) (μ:M)
theorem jia (ok:M->Bool)(hok:∀ν,ok ν=true):∀(n j:Nat) (es:List (Option Int)) (o7 o8:Option D),j+n<=3->es.length=j->(∀i e,es[i]?=some e->onB (if i=0 then 0 else 1) e=true) ->
  ∃(es':List (Option Int)) (o7' o8':Option D),(es'.length=j+n/\∀i e,es'[i]?=some e->onB (if i=0 then 0 else 1) e=true)/\jdh ok (.nm 7) (runs jbz jcS) [19] ((List.range' j n).map fun(i:Nat)=>D.int (i:Int)) [some (jdL ns),o1,o2,o3,o4,o5,o6,o7,o8,o9,o10,r11,r12,r13,r14,r15,r16,r17,some (.cel μ.length),none,r20,r21,r22] (μ++[some (.lst (es.map jdM))])
   =.ok (.nx [some (jdL ns),o1,o2,o3,o4,o5,o6,o7',o8',o9,o10,r11,r12,r13,r14,r15,r16,r17,some (.cel μ.length),none,r20,r21,r22]) (μ++[some (.lst (es'.map jdM))])
 |0,j,es,o7,o8,_,h1,h2=>⟨es,o7,o8,⟨h1,h2⟩,by
  rw[List.range'_zero,List.map_nil,jb7 (hok _)]
  rfl⟩
 |n+1,j,es,o7,o8,hj,h1,h2=>by
  obtain⟨c,hc⟩:=jeI ns (23+(j:Int)) (by omega)
  obtain⟨m,m0,m1,hm⟩:=jdX c 6 (by decide) (by decide) (μ++[some (.lst (es.map jdM))])
  obtain⟨v,hv,ev'⟩:=jqz (xs:=[none,some (if decide ((j:Int) > 0)=true then 1 else 0),some (1+m / 4 % 400),some (1+c % 100000000000)]) (i:=m % 4) (Int.emod_nonneg _ (by decide)) (by have:=Int.emod_lt_of_pos m (show(0:Int)<4 by decide);simpa using this) (μ++[some (.lst (es.map jdM))])
  have hv0:onB (if j=0 then 0 else 1) v=true:=by
   have a1:0<=m / 4 % 400:=Int.emod_nonneg _ (by decide)
   have a2:0<=c % 100000000000:=Int.emod_nonneg _ (by decide)
   simp only[List.mem_cons,List.not_mem_nil,or_false]at hv
   rcases hv with rfl|rfl|rfl|rfl
   ·rfl
   ·by_cases hj0:j=0
    ·subst hj0
     rfl
    ·rw[if_neg hj0,if_pos (by simp;omega)]
     rfl
   ·show decide (_<=_)=true
    exact decide_eq_true (by split<;>omega)
   ·show decide (_<=_)=true
    exact decide_eq_true (by split<;>omega)
  obtain⟨es',o7',o8',⟨i1,i2⟩,ih⟩:=jia ok hok n (j+1) (es++[v]) (some (.int (j:Int))) (some (.int m)) (by omega) (by simp[h1]) (fun i e hi=>by
   by_cases hlt:i<es.length
   ·rw[List.getElem?_append_left hlt]at hi
    exact h2 i e hi
   ·rw[List.getElem?_append_right (by omega)]at hi
    have hi0:i=es.length:=by
     have:=(List.getElem?_eq_some_iff.mp hi).1
     simp at this
     omega
    subst hi0
    simp at hi
    subst hi
    rw[h1]
    exact hv0)
  refine⟨es',o7',o8',⟨by rw[i1];omega,i2⟩,?_⟩
  rw[List.range'_succ,List.map_cons]
  rw[jbK (ρ1:=[some (jdL ns),o1,o2,o3,o4,o5,o6,some (.int (j:Int)),o8,o9,o10,r11,r12,r13,r14,r15,r16,r17,some (.cel μ.length),none,r20,r21,r22]) (ρ2:=[some (jdL ns),o1,o2,o3,o4,o5,o6,some (.int (j:Int)),some (.int m),o9,o10,r11,r12,r13,r14,r15,r16,r17,some (.cel μ.length),some (.int (1+c % 100000000000)),r20,r21,r22]) (μ2:=μ++[some (.lst ((es++[v]).map jdM))]) (hok _) rfl ?_]
  ·exact ih
  ·unfold jcS
   walk_at"ev"
   rw[hc]
   walk_at"ev"
   rw[hm]
   walk_at"ev"
   rw[hc]
   walk_at"ev"
   rw[jtN]
   walk_at"ev"
   simp only[List.map_cons,List.map_nil,jdM]at ev'
   rw[ev']
   walk_at"ev"
   rw[jdH (jdk (by simp;omega))]
   walk_at"ev"
   rw[List.map_append]
   rfl
end
structure HRow.Few (r:HRow):Prop where
 k:r.kinds.length<=8
 s:r.steps.length<=8
 d:r.doubles.length<=8
 r:r.ranks.length<=8
theorem jsq {zs:List Str}(h:zs.Nodup):jsT zs=true:=by
 unfold jsT
 rw[jmN h]
 exact decide_eq_true rfl
theorem jhq {z:Str}(h:jaV z=true):z.length<=8:=by
 unfold jaV at h
 simp only[Bool.and_eq_true,decide_eq_true_eq]at h
 omega
theorem jwC {α:Type}{xs:List α}(h:xs.length=3):∃a b c,xs=[a,b,c]:=by
 obtain⟨a,xs,rfl⟩:=List.exists_cons_of_length_pos (l:=xs) (by omega)
 obtain⟨b,xs,rfl⟩:=List.exists_cons_of_length_pos (l:=xs) (by simp at h;omega)
 obtain⟨c,xs,rfl⟩:=List.exists_cons_of_length_pos (l:=xs) (by simp at h;omega)
 cases xs with
 |nil=>exact⟨a,b,c,rfl⟩
 |cons d xs=>simp at h
theorem jmu (i:Int)(h0:0<=i)(h1:i<=8):∀ν:M,itD .rng1 [.int i] ν=some ((List.range' 0 i.toNat).map fun(j:Nat)=>D.int (j:Int)):=fun ν=>by
 rw[show i=((i.toNat:Nat):Int)from by omega,jeO (by omega),List.range_eq_range',Int.toNat_natCast]
theorem jjA {μ':M}{n0 k:Nat}{ds:List D}(hk:μ'[k]?=some (some (.lst ds)))(hn:n0<=k)(h:∀g,frzGs g ds=some ds):jbP (jhI μ' n0 [] 4) (.cel k)=some (.lst ds):=by
 unfold jbP
 unfold jhI
 rw[if_neg (by omega),if_neg (by simp)]
 dsimp only
 rw[hk]
 dsimp only
 rw[h]
 rfl
theorem jjx {zs:List Str}{k:Nat}(h:k<zs.length):zs.getD k ""∈zs:=by
 rw[List.getD_eq_getElem?_getD,List.getElem?_eq_getElem h]
 exact List.getElem_mem h
theorem joj (ns:List Int)(μ:M):∃r:HRow,(r.ok=true/\r.Fit/\r.Few)/\jaO .frz jbG.F [jdL ns] μ=.ok (.tup r.args) μ:=by
 obtain⟨c0,hc0⟩:=jeI ns 0 (by decide)
 obtain⟨m,m0,m1,hm⟩:=jdX c0 1 (by decide) (by decide) μ
 obtain⟨c1,hc1⟩:=jeI ns 1 (by decide)
 obtain⟨zs,⟨z1,z2,z3⟩,hz⟩:=jh3 c1 10 (by decide) μ
 obtain⟨c2,hc2⟩:=jeI ns 2 (by decide)
 obtain⟨t,ht,et⟩:=jcu (xs:=[m % 4,c2 % 1000000000000]) (i:=m / 7 % 2) (Int.emod_nonneg _ (by decide)) (by have:=Int.emod_lt_of_pos (m / 7) (show(0:Int)<2 by decide);simpa using this) μ
 obtain⟨b,hb,eb⟩:=jcu (xs:=[1,1+m / 14 % 50,1000000000000 - 1]) (i:=m / 700 % 3) (Int.emod_nonneg _ (by decide)) (by have:=Int.emod_lt_of_pos (m / 700) (show(0:Int)<3 by decide);simpa using this) μ
 have hz':jaO .frz ja6.F [.int c1,.int 10] μ=.ok (.lst (zs.map D.str)) μ:=hz
 have t0:0<=t:=by
  simp only[List.mem_cons,List.not_mem_nil,or_false]at ht
  rcases ht with rfl|rfl
  ·exact Int.emod_nonneg _ (by decide)
  ·exact Int.emod_nonneg _ (by decide)
 have b0:1<=b:=by
  have:0<=m / 14 % 50:=Int.emod_nonneg _ (by decide)
  simp only[List.mem_cons,List.not_mem_nil,or_false]at hb
  rcases hb with rfl|rfl|rfl<;>omega
 have s0:0<=m % 9/\m % 9<=8:=by omega
 have s1:0<=m / 9 % 9/\m / 9 % 9<=8:=by omega
 have s2:0<=m / 81 % 9/\m / 81 % 9<=8:=by omega
 have s3:0<=m / 729 % 9/\m / 729 % 9<=8:=by omega
 generalize hsz:(.lst [.int (m % 9),.int (m / 9 % 9),.int (m / 81 % 9),.int (m / 729 % 9)]:D)=sz
 have x0:∀ν:M,ixD sz (.int 0) ν=.ok (.int (m % 9)) ν:=fun ν=>by subst hsz;exact nr rfl
 have x1:∀ν:M,ixD sz (.int 1) ν=.ok (.int (m / 9 % 9)) ν:=fun ν=>by subst hsz;exact nr rfl
 have x2:∀ν:M,ixD sz (.int 2) ν=.ok (.int (m / 81 % 9)) ν:=fun ν=>by subst hsz;exact nr rfl
 have x3:∀ν:M,ixD sz (.int 3) ν=.ok (.int (m / 729 % 9)) ν:=fun ν=>by subst hsz;exact nr rfl
 have hi0:=jmu (m % 9) s0.1 s0.2
 obtain⟨ks,o7,o8,⟨k1,k2⟩,lk⟩:=jgL ns zs (some (.int m)) (some sz) (some (.int t)) (some (.tup [.int t,.int b])) none none none none none none none none none none none none none μ z1 (jdr .rng1 [.int (m % 9)] ((List.range' 0 (m % 9).toNat).map fun(j:Nat)=>D.int (j:Int))) (fun ν=>jbt (hi0 ν)) (m % 9).toNat 0 [] none none (by omega) (by simp) (fun p hp=>by cases hp)
 generalize hμk:μ++[some (Cl.lst (ks.map kD))]=μk at lk
 obtain⟨c11,hc11⟩:=jeI ns 11 (by decide)
 obtain⟨c12,hc12⟩:=jeI ns 12 (by decide)
 obtain⟨ls,⟨l1,l2⟩,hls⟩:=jiA c11 3 (c12 % 3) (m / 9 % 9).toNat (by decide) (by omega) (μk++[some (.lst [])])
 rw[Int.toNat_of_nonneg s1.1]at hls
 have hi1:∀ν:M,itD .enm [.lst (ls.map D.int)] ν=some (jfd 0 (ls.map D.int)):=fun ν=>rfl
 obtain⟨ss,o7',o12,⟨g1,g2⟩,lst'⟩:=jgK ns m (some sz) (some (jdN zs)) (some (.int t)) (some (.tup [.int t,.int b])) (some (.cel μ.length)) o8 none (some (.lst (ls.map D.int))) none none none none none none none none none none μk (jdr .enm [.lst (ls.map D.int)] (jfd 0 (ls.map D.int))) (fun ν=>jbt (hi1 ν)) ls 0 [] o7 none (by omega) rfl (fun p hp=>by cases hp)
 generalize hμs:μk++[some (Cl.lst (ss.map sD))]=μs at lst'
 have hi2:=jmu (m / 81 % 9) s2.1 s2.2
 obtain⟨bs,o7b,o8b,⟨d1,d2⟩,lb⟩:=je4 ns (some (.int m)) (some sz) (some (jdN zs)) (some (.int t)) (some (.tup [.int t,.int b])) (some (.cel μ.length)) none (some (.cel μk.length)) (some (.lst (ls.map D.int))) o12 none none none none none none none μs (jdr .rng1 [.int (m / 81 % 9)] ((List.range' 0 (m / 81 % 9).toNat).map fun(j:Nat)=>D.int (j:Int))) (fun ν=>jbt (hi2 ν)) (m / 81 % 9).toNat 0 [] o7' o8 (by omega) rfl (fun p hp=>by cases hp)
 generalize hμd:μs++[some (Cl.lst (bs.map bD))]=μd at lb
 obtain⟨c22,hc22⟩:=jeI ns 22 (by decide)
 obtain⟨ts,⟨t1,t2,t3⟩,hts⟩:=jh3 c22 10 (by decide) (μd++[some (.lst [])])
 have hts':jaO .frz ja6.F [.int c22,.int 10] (μd++[some (.lst [])])=.ok (.lst (ts.map D.str)) (μd++[some (.lst [])]):=hts
 obtain⟨c21,hc21⟩:=jeI ns 21 (by decide)
 obtain⟨qs,⟨q1,q2⟩,hqs⟩:=jiA c21 5 1 (m / 729 % 9).toNat (by decide) (by omega) (μd++[some (.lst [])])
 rw[Int.toNat_of_nonneg s3.1]at hqs
 have hi3:∀ν:M,itD .enm [.lst (qs.map D.int)] ν=some (jfd 0 (qs.map D.int)):=fun ν=>rfl
 obtain⟨rs,o7r,o12r,⟨r1,r2⟩,lr⟩:=jgx ns (some (.int m)) (some sz) (some (jdN zs)) (some (.int t)) (some (.tup [.int t,.int b])) (some (.cel μ.length)) o8b none (some (.cel μk.length)) (some (.lst (ls.map D.int))) (some (.cel μs.length)) none none none none none none none ts μd t1 t3 (jdr .enm [.lst (qs.map D.int)] (jfd 0 (qs.map D.int))) (fun ν=>jbt (hi3 ν)) qs 0 [] o7b o12 (by omega) rfl (fun p hp=>by cases hp)
 generalize hμr:μd++[some (Cl.lst (rs.map rD))]=μr at lr
 have hi4:∀ν:M,itD .rng1 [.int 3] ν=some ((List.range' 0 3).map fun(j:Nat)=>D.int (j:Int)):=fun ν=>jmu 3 (by decide) (by decide) ν
 obtain⟨es,o7e,o8e,⟨e1,e2⟩,le⟩:=jia ns (some (.int m)) (some sz) (some (jdN zs)) (some (.int t)) (some (.tup [.int t,.int b])) (some (.cel μ.length)) none (some (.cel μk.length)) (some (.lst (ls.map D.int))) o12r (some (.cel μs.length)) none none (some (.cel μd.length)) (some (jdN ts)) none none none μr (jdr .rng1 [.int 3] ((List.range' 0 3).map fun(j:Nat)=>D.int (j:Int))) (fun ν=>jbt (hi4 ν)) 3 0 [] o7r o8b (by omega) rfl (fun i e h=>by simp at h)
 obtain⟨ea,eb',ec,rfl⟩:=jwC (by simpa using e1)
 generalize hμe:μr++[some (Cl.lst ([ea,eb',ec].map jdM))]=μe at le
 obtain⟨c26,hc26⟩:=jeI ns 26 (by decide)
 obtain⟨n,n0,n1,hn⟩:=jdX c26 7 (by decide) (by decide) μe
 have i9:∀ν:M,ixD (jdN zs) (.int 9) ν=.ok (.str (zs.getD 9 "")) ν:=fun ν=>jiT (i:=9) (by omega)
 refine⟨⟨zs.getD 9 "",t,b,ks,ss,bs,ea,eb',ec,rs,1+n % 400,n / 400 % 50⟩,⟨?_,?_,?_⟩,?_⟩
 ·have hk1:∀p∈ks,jaV p.1=true:=fun p hp=>z3 _ (List.mem_of_mem_take (k1▸List.mem_map_of_mem hp))
  have hg:ss.map (·.1)=ls:=by simpa using g1
  have hr:rs.map (·.1)=qs:=by simpa using r1
  have hl0:Ris 0 ls:=⟨l2.1,fun x hx=>Int.le_trans (Int.emod_nonneg _ (by decide)) (l2.2 x hx)⟩
  simp only[HRow.ok,jpl,jpn,rkB,Bool.and_eq_true,hg,hr,k1]
  refine⟨⟨⟨⟨⟨⟨⟨⟨⟨⟨z3 _ (jjx (by omega)),decide_eq_true t0,decide_eq_true b0⟩,List.all_eq_true.mpr fun p hp=>by rw[hk1 p hp,decide_eq_true (k2 p hp)];rfl,jsq (z2.sublist (List.take_sublist _ _))⟩,jmd hl0,List.all_eq_true.mpr fun p hp=>decide_eq_true (g2 p hp)⟩,List.all_eq_true.mpr d2⟩,?_⟩,?_⟩,?_⟩,jmd q2,List.all_eq_true.mpr r2⟩,decide_eq_true (by omega)⟩,decide_eq_true (by omega)⟩
  ·exact e2 0 ea rfl
  ·exact e2 1 eb' rfl
  ·exact e2 2 ec rfl
 ·have hk1:∀p∈ks,jaV p.1=true:=fun p hp=>z3 _ (List.mem_of_mem_take (k1▸List.mem_map_of_mem hp))
  have a1:=congrArg List.length k1
  have a2:=congrArg List.length g1
  have a3:=congrArg List.length r1
  simp only[List.length_map,List.length_take,List.length_append,List.map_nil,List.length_nil]at a1 a2 a3
  exact⟨Nat.le_trans (jhq (z3 _ (jjx (by omega)))) (by decide),by show ks.length<=1000;omega,fun p hp=>Nat.le_trans (jhq (hk1 p hp)) (by decide),by show ss.length<=1000;omega,by show bs.length<=1000;omega,by show rs.length<=1000;omega,fun p hp=>Nat.le_trans (jhq (r2 p hp)) (by decide)⟩
 ·have a1:=congrArg List.length k1
  have a2:=congrArg List.length g1
  have a3:=congrArg List.length r1
  simp only[List.length_map,List.length_take,List.length_append,List.map_nil,List.length_nil]at a1 a2 a3
  exact⟨by show ks.length<=8;omega,by show ss.length<=8;omega,by show bs.length<=8;omega,by show rs.length<=8;omega⟩
 ·have key:jcZ [jdL ns] μ=.ok (.tup [.str (zs.getD 9 ""),.tup [.int t,.int b],.cel μ.length,.cel μk.length,.cel μs.length,jdM ea,jdM eb',jdM ec,.cel μd.length,.int (1+n % 400),.int (n / 400 % 50)]) μe:=by
   unfold jcZ je
   walk_at"ev"
   rw[hc0]
   walk_at"ev"
   rw[hm]
   walk_at"ev"
   rw[hc1]
   walk_at"ev"
   rw[hz']
   walk_at"ev"
   rw[hc2]
   walk_at"ev"
   simp only[List.map_cons,List.map_nil]at et eb
   rw[et]
   walk_at"ev"
   rw[eb]
   walk_at"ev"
   rw[hsz,x0]
   walk_at"ev"
   rw[jb5 (hi0 _)]
   rw[List.map_nil]at lk
   rw[lk]
   walk_at"ev"
   rw[hc11]
   walk_at"ev"
   rw[x1]
   walk_at"ev"
   rw[hc12]
   walk_at"ev"
   rw[hls]
   walk_at"ev"
   rw[jb5 (hi1 _)]
   rw[List.map_nil]at lst'
   rw[lst']
   walk_at"ev"
   rw[x2]
   walk_at"ev"
   rw[jb5 (hi2 _)]
   rw[List.map_nil]at lb
   rw[lb]
   walk_at"ev"
   rw[hc22]
   walk_at"ev"
   rw[hts']
   walk_at"ev"
   rw[hc21]
   walk_at"ev"
   rw[x3]
   walk_at"ev"
   rw[hqs]
   walk_at"ev"
   rw[jb5 (hi3 _)]
   rw[List.map_nil]at lr
   rw[lr]
   walk_at"ev"
   rw[jb5 (hi4 _)]
   rw[List.map_nil]at le
   rw[le]
   walk_at"ev"
   rw[hc26]
   walk_at"ev"
   rw[hn]
   walk_at"ev"
   have hu:∀ρ:S3,jv8 [20,21,22] ρ (.cel μr.length) μe=.ok (.nx (((ρ.set 20 (some (jdM ea))).set 21 (some (jdM eb'))).set 22 (some (jdM ec)))) μe:=fun ρ=>by
    subst hμe
    unfold jv8 jeS
    dsimp only
    rw[jhE]
    rfl
   rw[hu]
   walk_at"ev"
   rw[i9]
   walk_at"ev"
  have hmu:μe=μ++[some (Cl.lst (ks.map kD)),some (Cl.lst (ss.map sD)),some (Cl.lst (bs.map bD)),some (Cl.lst (rs.map rD)),some (Cl.lst ([ea,eb',ec].map jdM))]:=by
   rw[<- hμe,<- hμr,<- hμd,<- hμs,<- hμk]
   simp
  have g0:μe[μ.length]?=some (some (.lst (ks.map kD))):=by rw[hmu];simp
  have g1':μe[μk.length]?=some (some (.lst (ss.map sD))):=by rw[hmu,<- hμk];simp
  have g2':μe[μs.length]?=some (some (.lst (bs.map bD))):=by rw[hmu,<- hμs,<- hμk];simp
  have g3':μe[μd.length]?=some (some (.lst (rs.map rD))):=by rw[hmu,<- hμd,<- hμs,<- hμk];simp
  have n1':μ.length<=μk.length:=by rw[<- hμk];simp
  have n2':μ.length<=μs.length:=by rw[<- hμs];simp;omega
  have n3':μ.length<=μd.length:=by rw[<- hμd];simp;omega
  rw[hmu]at key g0 g1' g2' g3'
  refine jfa (F:=jcZ) key ?_
  unfold HRow.args
  exact jbj (jab jd6 (jab (jbj (jab jaH (jab jaH jbL))) (jab (jjA g0 (Nat.le_refl _) fun _=>jaA jfP _) (jab (jjA g1' n1' fun _=>jaA jjh _) (jab (jjA g2' n2' fun _=>jaA jfO _) (jab (jda _) (jab (jda _) (jab (jda _) (jab (jjA g3' n3' fun _=>jaA jju _) (jab jaH (jab jaH jbL)))))))))))
theorem jjg:∀(xs σ:List Str),σ.Nodup->(xs.foldl jhG σ).length=σ.length+xs.length->(σ++xs).Nodup
 |[],σ,h,_=>by simpa using h
 |x::xs,σ,h,e=>by
  rw[List.foldl_cons]at e
  by_cases hx:x∈σ
  ·have:jhG σ x=σ:=by unfold jhG;rw[if_pos hx]
   rw[this]at e
   have:=jiF xs σ
   simp at e
   omega
  ·have ha:jhG σ x=σ++[x]:=by unfold jhG;rw[if_neg hx]
   rw[ha]at e
   have:=jjg xs (σ++[x]) (List.nodup_append.mpr ⟨h,by simp,fun a haσ b hb=>by
    have:b=x:=by simpa using hb
    subst this
    intro z
    subst z
    exact hx haσ⟩) (by simp at e ⊢;omega)
   simpa using this
theorem jqr {zs:List Str}(h:¬ zs.Nodup):jsT zs=false:=by
 unfold jsT
 refine decide_eq_false fun e=>h ?_
 have:=jjg zs [] List.nodup_nil (by show(ddS zs).length=_;simp;omega)
 simpa using this
theorem jd0 (m:Int)(μ:M):∃z:Str,(jaV z=false/\z.length<=9)/\jaO .frz jaQ.F [.int m] μ=.ok (.str z) μ:=by
 obtain⟨z,hz,e⟩:=jm2 (xs:=["","abcdefghi","Tea","te a","t9","tea.","t`","{ea"]) (i:=m % 8) (Int.emod_nonneg _ (by decide)) (by have:=Int.emod_lt_of_pos m (show(0:Int)<8 by decide);simpa using this) μ
 refine⟨z,?_,jaM (F:=jcC) ?_ jd6⟩
 ·have:∀y∈(["","abcdefghi","Tea","te a","t9","tea.","t`","{ea"]:List Str),jaV y=false/\y.length<=9:=by decide +kernel
  exact this z hz
 ·unfold jcC jcx
  walk_at"ev"
  simp only[jdN,List.map_cons,List.map_nil]at e
  rw[e]
  walk_at"ev"
theorem jhf {ds:List D}(k:Nat):_L3.cutD ds (some (k:Int)) none=ds.drop k:=by
 unfold _L3.cutD
 rw[HT.sIx_none,HT.sIx_nat]
 rcases Nat.le_total k ds.length with h|h
 ·rw[Nat.min_eq_left h]
  exact List.take_of_length_le (by simp)
 ·rw[Nat.min_eq_right h,List.drop_of_length_le (Nat.le_refl _),List.drop_of_length_le h,List.take_nil]
theorem jmr {ds:List D}(k:Nat):_L3.cutD ds none (some (k:Int))=ds.take k:=by
 unfold _L3.cutD
 rw[HT.sIx_none,HT.sIx_nat]
 simp only[Nat.sub_zero,List.drop_zero]
 rcases Nat.le_total k ds.length with h|h
 ·rw[Nat.min_eq_left h]
 ·rw[Nat.min_eq_right h,List.take_of_length_le (Nat.le_refl _),List.take_of_length_le h]
theorem jmv {α:Type}(f:α->D)(xs:List α)(k:Nat)(μ:M):slD false (.lst (xs.map f)) none (some (k:Int)) μ=.ok (.lst ((xs.take k).map f)) μ:=by
 show mkL false (_L3.cutD (xs.map f) none (some (k:Int))) μ=_
 rw[jmr,<- List.map_take]
 rfl
theorem joP {α:Type}(f:α->D)(xs:List α)(k:Nat)(μ:M):slD false (.lst (xs.map f)) (some (k:Int)) none μ=.ok (.lst ((xs.drop k).map f)) μ:=by
 show mkL false (_L3.cutD (xs.map f) (some (k:Int)) none) μ=_
 rw[jhf,<- List.map_drop]
 rfl
theorem jsM {α:Type}(f:α->D)(hf:∀g x,jbP g (f x)=some (f x))(xs:List α)(hl:xs.length<=100)(m:Int)(hm:0<=m)(one:α)(μ:M):∃k:Nat,k<=xs.length/\jaO .frz jcl.F [.lst (xs.map f),.int m,f one] μ=.ok (.lst ((xs.take k++one::xs.drop k).map f)) μ:=by
 have h0:(0:Int)<(xs.length:Int)+1:=by omega
 have h1:0<=m % ((xs.length:Int)+1):=Int.emod_nonneg _ (by omega)
 have h2:m % ((xs.length:Int)+1)<(xs.length:Int)+1:=Int.emod_lt_of_pos _ h0
 obtain⟨k,hk⟩:=Int.eq_ofNat_of_zero_le h1
 refine⟨k,by omega,jaM (F:=jfp) ?_ (jcv (jaA (hf _) _))⟩
 have a1:=jmv f xs k μ
 have a2:=joP f xs k μ
 unfold jfp jfj
 walk_at"ev"
 rw[ji2]
 walk_at"ev"
 rw[List.length_map,jhm h0]
 walk_at"ev"
 rw[show m % ((xs.length:Int)+1)=(k:Int)from hk,a1]
 walk_at"ev"
 rw[jb4 (jag (by simp only[List.length_map,List.length_take,List.length_cons,List.length_nil];omega))]
 walk_at"ev"
 rw[a2]
 walk_at"ev"
 rw[jb4 (jag (by simp only[List.length_map,List.length_take,List.length_drop,List.length_append,List.length_cons,List.length_nil];omega))]
 walk_at"ev"
 simp
theorem jil (r:HRow)(h:r.Fit)(hr:r.ok=false)(μ:M):jaO .frz ja9.F [.tup r.args] μ=.ok (.bl true) μ:=by
 have e:=jjB r h μ
 rw[hr]at e
 refine jaM (F:=jb9) ?_ jeY
 unfold jb9 jvM
 rw[e]
 rfl
noncomputable def jld (ns:List Int):Prop:=∀(r:HRow),r.ok=true->r.Fit->r.Few->∀(cell:Int) (μ:M),∃r':HRow,(r'.ok=false/\r'.Fit)/\jaO .frz jb.F [.tup r.args,.int cell] μ=.ok (.tup r'.args) μ
theorem jjM (ns:List Int)(hs:jld ns)(r:HRow)(h1:r.ok=true)(h2:r.Fit)(h3:r.Few)(ok:M->Bool)(hok:ok []=true):∀(cs:List Int) (o2:Option D),jdh ok (.nm 2) (runs jom ji8) [2] (cs.map D.int) [some (jdL ns),some (.tup r.args),o2] []=.ok (.nx [some (jdL ns),some (.tup r.args),none]) []
 |[],o2=>by
  rw[List.map_nil,jb7 hok]
  rfl
 |c::cs,o2=>by
  obtain⟨r',⟨a1,a2⟩,e⟩:=hs r h1 h2 h3 c []
  have er:=jil r' a2 a1 []
  rw[List.map_cons,jbK (ρ1:=[some (jdL ns),some (.tup r.args),some (.int c)]) (ρ2:=[some (jdL ns),some (.tup r.args),some (.int c)]) (μ2:=[]) hok rfl ?_]
  ·exact jjM ns hs r h1 h2 h3 ok hok cs none
  ·unfold ji8
   walk_at"ev"
   rw[e]
   walk_at"ev"
   rw[er]
   walk_at"ev"
theorem jus (ns:List Int)(k:Nat)(μ:M):slD false (jdL ns) (some (k:Int)) none μ=.ok (.lst ((ns.drop k).map D.int)) μ:=by
 show mkL false (_L3.cutD (ns.map D.int) (some (k:Int)) none) μ=_
 rw[jhf,<- List.map_drop]
 rfl
theorem jlM (ns:List Int)(hn:ns.length<=63)(hs:jld ns):∃μ,jnT [.scr (ns.map D.int)] []=.ok (.bl true) μ:=by
 refine⟨[],?_⟩
 show jnT [jdL ns] []=_
 obtain⟨r,⟨h1,h2,h3⟩,hr⟩:=joj ns []
 have hm:=jp7 r h2 []
 rw[h1]at hm
 simp only[if_true]at hm
 have hl:=fun ok hok=>jjM ns hs r h1 h2 h3 ok hok (ns.drop 27++[0]) none
 have hsl:=jus ns 27 []
 have f0:jsP (some (.cls 268 5 hFs)) "name" (.obj 268 hFs r.ds) []=.ok (.str r.name) []:=jmZ (by unfold HRow.ds;simp only[jn,if_true])
 have f9:jsP (some (.cls 268 5 hFs)) "span" (.obj 268 hFs r.ds) []=.ok (.int r.span) []:=jmZ (by
  unfold HRow.ds
  simp only[jn]
  rw[if_neg (by decide +kernel),if_neg (by decide +kernel),if_neg (by decide +kernel),if_neg (by decide +kernel),if_neg (by decide +kernel),if_neg (by decide +kernel),if_neg (by decide +kernel),if_neg (by decide +kernel),if_neg (by decide +kernel),if_pos trivial])
 have i0:ixD (.tup r.args) (.int 0) []=.ok (.str r.name) []:=nr rfl
 have i9:ixD (.tup r.args) (.int 9) []=.ok (.int r.span) []:=nr rfl
 have hi:∀μ:M,itD .seq [.lst ((ns.drop 27++[0]).map D.int)] μ=some ((ns.drop 27++[0]).map D.int):=fun μ=>rfl
 have dg:jfS jom 2=some (.cls 268 5 hFs):=rfl
 simp only[jme,jmy]at dg
 unfold jnT jrg
 walk_at"ev"
 rw[hr]
 walk_at"ev"
 rw[hm]
 walk_at"ev"
 rw[dg,f0]
 walk_at"ev"
 rw[i0]
 walk_at"ev"
 rw[show(!decide True)=false from by simp]
 simp only[if_false,Bool.false_eq_true]
 walk_at"ev"
 rw[show slD false (jdL ns) (some 27) none []=_ from hsl]
 walk_at"ev"
 rw[show(.lst [D.int 0]:D)=.lst ([(0:Int)].map D.int)from rfl,jb4 (jag (by simp;omega)),<- List.map_append]
 walk_at"ev"
 rw[jb5 (hi _),hl _ (jbt (hi _))]
 walk_at"ev"
 rw[hm]
 walk_at"ev"
 rw[dg,f9]
 walk_at"ev"
 rw[i9]
 walk_at"ev"
 simp
noncomputable def jsJ:D->D
 |.lst ds=>.lst (ds.take 5)
 |d=>d
theorem jpW {ds:List D}{μ:M}:biD (.isT "list") false [.lst ds] μ=.ok (.bl true) μ:=nr rfl
theorem jru {z:Str}{μ:M}:biD (.isT "list") false [.str z] μ=.ok (.bl false) μ:=nr rfl
theorem jpZ {z:Int}{μ:M}:biD (.isT "list") false [.int z] μ=.ok (.bl false) μ:=nr rfl
theorem jqi {μ:M}:biD (.isT "list") false [.non] μ=.ok (.bl false) μ:=nr rfl
theorem jr {ds:List D}{μ:M}:biD (.isT "list") false [.tup ds] μ=.ok (.bl false) μ:=nr rfl
theorem sl5 {ds:List D}{μ:M}:slD false (.lst ds) none (some 5) μ=.ok (.lst (ds.take 5)) μ:=by
 show mkL false (_L3.cutD ds none (some ((5:Nat):Int))) μ=_
 rw[jmr]
 rfl
noncomputable def juv (d:D):Prop:=(∃z,d=.str z)∨(∃i,d=.int i)∨d=.non∨(∃ds,d=.tup ds)∨∃ds,d=.lst ds
theorem jfW (o:Option Int):juv (jdM o):=by
 cases o
 ·exact .inr (.inr (.inl rfl))
 ·exact .inr (.inl ⟨_,rfl⟩)
theorem jky (r:HRow):∀d∈r.args,juv d:=by
 unfold HRow.args
 intro d hd
 simp only[List.mem_cons,List.not_mem_nil,or_false]at hd
 rcases hd with rfl|rfl|rfl|rfl|rfl|rfl|rfl|rfl|rfl|rfl|rfl
 ·exact .inl ⟨_,rfl⟩
 ·exact .inr (.inr (.inr (.inl ⟨_,rfl⟩)))
 ·exact .inr (.inr (.inr (.inr ⟨_,rfl⟩)))
 ·exact .inr (.inr (.inr (.inr ⟨_,rfl⟩)))
 ·exact .inr (.inr (.inr (.inr ⟨_,rfl⟩)))
 ·exact jfW _
 ·exact jfW _
 ·exact jfW _
 ·exact .inr (.inr (.inr (.inr ⟨_,rfl⟩)))
 ·exact .inr (.inl ⟨_,rfl⟩)
 ·exact .inr (.inl ⟨_,rfl⟩)
theorem jde (r:HRow)(w m l:Int)(μ:M):(ev jbO jbv).v [some (.tup r.args),some (.int w),some (.int m),some (.int l),none] μ=.ok (.lst (r.args.map jsJ)) μ:=by
 unfold jbv
 rw[jby (ds:=[.tup r.args]) (xs:=r.args) (e:=fun d=>d) (fun _=>true) jsJ (by walk_at"ev") (by rw[List.map_id'];rfl) (jag (by unfold HRow.args;simp)) fun d hd=>⟨_,rfl,by walk_at"ev",fun _=>by
  rcases jky r d hd with⟨z,rfl⟩|⟨z,rfl⟩|rfl|⟨z,rfl⟩|⟨z,rfl⟩
  ·walk_at"ev"
   rw[jru]
   walk_at"ev"
   rfl
  ·walk_at"ev"
   rw[jpZ]
   walk_at"ev"
   rfl
  ·walk_at"ev"
   rw[jqi]
   walk_at"ev"
   rfl
  ·walk_at"ev"
   rw[jr]
   walk_at"ev"
   rfl
  ·walk_at"ev"
   rw[jpW]
   walk_at"ev"
   rw[sl5]
   rfl⟩]
 rw[List.filter_eq_self.mpr fun _ _=>rfl]
 walk_at"ev"
theorem jqT {ds:List D}(k:Nat)(μ:M):slD false (.tup ds) none (some (k:Int)) μ=.ok (.tup (ds.take k)) μ:=by
 show Out.ok (D.tup (_L3.cutD ds none (some (k:Int)))) μ=_
 rw[jmr]
theorem jq {ds:List D}(k:Nat)(μ:M):slD false (.tup ds) (some (k:Int)) none μ=.ok (.tup (ds.drop k)) μ:=by
 show Out.ok (D.tup (_L3.cutD ds (some (k:Int)) none)) μ=_
 rw[jhf]
theorem jli {xs ys:List D}(h:xs.length+ys.length<=1000)(μ:M):jjL .Add false (.tup xs) (.tup ys) μ=.ok (.tup (xs++ys)) μ:=by
 refine if_pos ?_
 rw[sizeLine_eq];omega
noncomputable def jgm:E:=.bin .Add false (.bin .Add false (.sl false (.var 0) [] [(.var 5)]) (.tup [(.var 6)])) (.sl false (.var 0) [(.bin .Add false (.var 5) (.cst (.int 1)))] [])
theorem job:jgm=.bin .Add false (.bin .Add false (.sl false (.var 0) [] [(.var 5)]) (.tup [(.var 6)])) (.sl false (.var 0) [(.bin .Add false (.var 5) (.cst (.int 1)))] []):=rfl
theorem jnQ (r:HRow):r.args.length=11:=rfl
theorem je1 (r:HRow)(w:Nat)(hw:w<11)(p:D)(o1 o2 o3 o4:Option D)(μ:M):(ev jaJ jgm).v [some (.tup r.args),o1,o2,o3,o4,some (.int (w:Int)),some p] μ=.ok (.tup (r.args.set w p)) μ:=by
 have hl:=jnQ r
 unfold jgm
 walk_at"ev"
 rw[jqT]
 walk_at"ev"
 rw[jli (by rw[List.length_take];simp only[List.length_cons,List.length_nil];omega)]
 walk_at"ev"
 rw[show((w:Int)+1)=((w+1:Nat):Int)from by omega,jq]
 walk_at"ev"
 rw[jli (by rw[List.length_append,List.length_take,List.length_drop];simp only[List.length_cons,List.length_nil];omega)]
 walk_at"ev"
 congr 2
 rw[List.append_assoc,List.set_eq_take_append_cons_drop,if_pos (by omega)]
 rfl
theorem joO (r:HRow){g:Nat->Option D}:frzGs g r.args=some r.args:=by
 unfold HRow.args
 exact jab jd6 (jab (jbj (jab jaH (jab jaH jbL))) (jab (jcv (jaA jfP _)) (jab (jcv (jaA jjh _)) (jab (jcv (jaA jfO _)) (jab (jda _) (jab (jda _) (jab (jda _) (jab (jcv (jaA jju _)) (jab jaH (jab jaH jbL))))))))))
noncomputable def jd5 (m:Int):Int:=-1 - m / 3 % 1000000000
theorem jdZ (m:Int):jd5 m<0:=by
 have:0<=m / 3 % 1000000000:=Int.emod_nonneg _ (by decide)
 unfold jd5
 omega
noncomputable def LSp:Prop:=∀(r:HRow),r.ok=true->r.Fit->r.Few->∀(w:Nat) (m:Int),w<12->0<=m->m<100000000->∀μ:M,∃(r':HRow) (k:Nat) (p:D),(r'.ok=false/\r'.Fit/\k<11/\r.args.set k p=r'.args)/\jaO .frz jar.F [.tup r.args,.int (w:Int),.int m] μ=.ok (.tup [.int (k:Int),p]) μ
theorem jwF {a b c d e f g x y:Option D}{u v:D}{μ:M}:jsI (.tp [5,6]) [a,b,c,d,e,f,g] (.tup [u,v]) μ=.ok (.nx [a,b,c,d,e,some u,some v]) μ:=rfl
theorem jpo {m:Int}{v:Int}(h:v∈[0,jd5 m]):v<=0:=by
 have:=jdZ m
 simp only[List.mem_cons,List.not_mem_nil,or_false]at h
 rcases h with rfl|rfl<;>omega
theorem jlV (hl:LSp)(ns:List Int):jld ns:=by
 intro r h1 h2 h3 cell μ
 obtain⟨m0,a0,a1,hm⟩:=jdX cell 3 (by decide) (by decide) μ
 obtain⟨z,⟨z1,z2⟩,hz⟩:=jd0 (m0 / 21) μ
 have w0:0<=m0 % 21:=Int.emod_nonneg _ (by decide)
 have w1:m0 % 21<21:=Int.emod_lt_of_pos _ (by decide)
 have hlow:=jdZ (m0 / 21)
 obtain⟨v,hv,ev'⟩:=jcu (xs:=[0,jd5 (m0 / 21)]) (i:=m0 / 21 % 2) (Int.emod_nonneg _ (by decide)) (by have:=Int.emod_lt_of_pos (m0 / 21) (show(0:Int)<2 by decide);simpa using this) μ
 have hv0:=jpo hv
 simp only[List.map_cons,List.map_nil]at ev'
 have i1:ixD (.tup r.args) (.int 1) μ=.ok (.tup [.int r.t,.int r.b]) μ:=nr rfl
 have i10:ixD (.tup [.int r.t,.int r.b]) (.int 0) μ=.ok (.int r.t) μ:=nr rfl
 have i11:ixD (.tup [.int r.t,.int r.b]) (.int 1) μ=.ok (.int r.b) μ:=nr rfl
 have key:∃(r':HRow) (k:Nat) (p:D),(r'.ok=false/\r'.Fit/\k<11/\r.args.set k p=r'.args)/\jb8 [.tup r.args,.int cell] μ=.ok (.tup r'.args) μ:=by
  unfold jb8 jcR
  rw[<- job]
  walk_at"ev"
  rw[hm]
  walk_at"ev"
  rw[hz]
  walk_at"ev"
  rw[show -1 - m0 / 21 / 3 % 1000000000=jd5 (m0 / 21)from rfl]
  by_cases c0:m0 % 21<12
  ·simp only[decide_eq_true c0,if_true]
   obtain⟨w,hw⟩:=Int.eq_ofNat_of_zero_le w0
   obtain⟨r',k,p,⟨b1,b2,b3,b4⟩,e⟩:=hl r h1 h2 h3 w (m0 / 21) (by omega) (by omega) (by omega) μ
   refine⟨r',k,p,⟨b1,b2,b3,b4⟩,?_⟩
   rw[hw]
   walk_at"ev"
   rw[e]
   walk_at"ev"
   rw[jwF (x:=none) (y:=none)]
   walk_at"ev"
   rw[je1 r k b3]
   walk_at"ev"
   rw[b4]
  ·simp only[decide_eq_false c0,if_false,Bool.false_eq_true]
   have g0:∀p o1 o2 o3 o4,(ev jaJ jgm).v [some (.tup r.args),o1,o2,o3,o4,some (.int 0),some p] μ=.ok (.tup (r.args.set 0 p)) μ:=fun p o1 o2 o3 o4=>je1 r 0 (by decide) p o1 o2 o3 o4 μ
   have g1:∀p o1 o2 o3 o4,(ev jaJ jgm).v [some (.tup r.args),o1,o2,o3,o4,some (.int 1),some p] μ=.ok (.tup (r.args.set 1 p)) μ:=fun p o1 o2 o3 o4=>je1 r 1 (by decide) p o1 o2 o3 o4 μ
   have g5:∀p o1 o2 o3 o4,(ev jaJ jgm).v [some (.tup r.args),o1,o2,o3,o4,some (.int 5),some p] μ=.ok (.tup (r.args.set 5 p)) μ:=fun p o1 o2 o3 o4=>je1 r 5 (by decide) p o1 o2 o3 o4 μ
   have g6:∀p o1 o2 o3 o4,(ev jaJ jgm).v [some (.tup r.args),o1,o2,o3,o4,some (.int 6),some p] μ=.ok (.tup (r.args.set 6 p)) μ:=fun p o1 o2 o3 o4=>je1 r 6 (by decide) p o1 o2 o3 o4 μ
   have g7:∀p o1 o2 o3 o4,(ev jaJ jgm).v [some (.tup r.args),o1,o2,o3,o4,some (.int 7),some p] μ=.ok (.tup (r.args.set 7 p)) μ:=fun p o1 o2 o3 o4=>je1 r 7 (by decide) p o1 o2 o3 o4 μ
   have g9:∀p o1 o2 o3 o4,(ev jaJ jgm).v [some (.tup r.args),o1,o2,o3,o4,some (.int 9),some p] μ=.ok (.tup (r.args.set 9 p)) μ:=fun p o1 o2 o3 o4=>je1 r 9 (by decide) p o1 o2 o3 o4 μ
   have g10:∀p o1 o2 o3 o4,(ev jaJ jgm).v [some (.tup r.args),o1,o2,o3,o4,some (.int 10),some p] μ=.ok (.tup (r.args.set 10 p)) μ:=fun p o1 o2 o3 o4=>je1 r 10 (by decide) p o1 o2 o3 o4 μ
   walk_at"ev"
   by_cases c12:m0 % 21=12
   ·refine⟨{r with t:=jd5 (m0 / 21)},1,.tup [.int (jd5 (m0 / 21)),.int r.b],⟨?_,⟨h2.n,h2.k,h2.kn,h2.s,h2.d,h2.rk,h2.rn⟩,by decide,rfl⟩,?_⟩
    ·simp only[HRow.ok,decide_eq_false (show ¬ 0<=jd5 (m0 / 21)by omega),Bool.false_and,Bool.and_false]
    ·simp only[decide_eq_true c12,if_true]
     rw[i1]
     walk_at"ev"
     rw[i11]
     walk_at"ev"
     rw[g1]
     rfl
   simp only[decide_eq_false c12,if_false,Bool.false_eq_true]
   by_cases c13:m0 % 21=13
   ·refine⟨{r with b:=v},1,.tup [.int r.t,.int v],⟨?_,⟨h2.n,h2.k,h2.kn,h2.s,h2.d,h2.rk,h2.rn⟩,by decide,rfl⟩,?_⟩
    ·simp only[HRow.ok,decide_eq_false (show ¬ 1<=v by omega),Bool.false_and,Bool.and_false]
    ·simp only[decide_eq_true c13,if_true]
     rw[i1]
     walk_at"ev"
     rw[i10]
     walk_at"ev"
     rw[ev']
     walk_at"ev"
     rw[g1]
     rfl
   simp only[decide_eq_false c13,if_false,Bool.false_eq_true]
   by_cases c14:m0 % 21=14
   ·refine⟨{r with cap:=some (jd5 (m0 / 21))},5,.int (jd5 (m0 / 21)),⟨?_,⟨h2.n,h2.k,h2.kn,h2.s,h2.d,h2.rk,h2.rn⟩,by decide,rfl⟩,?_⟩
    ·simp only[HRow.ok,onB,decide_eq_false (show ¬ 0<=jd5 (m0 / 21)by omega),Bool.false_and,Bool.and_false]
    ·simp only[decide_eq_true c14,if_true]
     walk_at"ev"
     rw[g5]
     rfl
   simp only[decide_eq_false c14,if_false,Bool.false_eq_true]
   by_cases c15:m0 % 21<17
   ·simp only[decide_eq_true c15,if_true]
    rw[ev']
    by_cases c16:m0 % 21=15
    ·refine⟨{r with age:=some v},6,.int v,⟨?_,⟨h2.n,h2.k,h2.kn,h2.s,h2.d,h2.rk,h2.rn⟩,by decide,rfl⟩,?_⟩
     ·simp only[HRow.ok,onB,decide_eq_false (show ¬ 1<=v by omega),Bool.false_and,Bool.and_false]
     ·rw[show m0 % 21 - 9=6 from by omega]
      walk_at"ev"
      rw[g6]
      rfl
    ·refine⟨{r with rest:=some v},7,.int v,⟨?_,⟨h2.n,h2.k,h2.kn,h2.s,h2.d,h2.rk,h2.rn⟩,by decide,rfl⟩,?_⟩
     ·simp only[HRow.ok,onB,decide_eq_false (show ¬ 1<=v by omega),Bool.false_and,Bool.and_false]
     ·rw[show m0 % 21 - 9=7 from by omega]
      walk_at"ev"
      rw[g7]
      rfl
   simp only[decide_eq_false c15,if_false,Bool.false_eq_true]
   by_cases c17:m0 % 21=17
   ·refine⟨{r with span:=v},9,.int v,⟨?_,⟨h2.n,h2.k,h2.kn,h2.s,h2.d,h2.rk,h2.rn⟩,by decide,rfl⟩,?_⟩
    ·simp only[HRow.ok,decide_eq_false (show ¬ 1<=v by omega),Bool.false_and,Bool.and_false]
    ·simp only[decide_eq_true c17,if_true]
     rw[ev']
     walk_at"ev"
     rw[g9]
     rfl
   simp only[decide_eq_false c17,if_false,Bool.false_eq_true]
   by_cases c18:m0 % 21=18
   ·refine⟨{r with grace:=jd5 (m0 / 21)},10,.int (jd5 (m0 / 21)),⟨?_,⟨h2.n,h2.k,h2.kn,h2.s,h2.d,h2.rk,h2.rn⟩,by decide,rfl⟩,?_⟩
    ·simp only[HRow.ok,decide_eq_false (show ¬ 0<=jd5 (m0 / 21)by omega),Bool.false_and,Bool.and_false]
    ·simp only[decide_eq_true c18,if_true]
     walk_at"ev"
     rw[g10]
     rfl
   simp only[decide_eq_false c18,if_false,Bool.false_eq_true]
   refine⟨{r with name:=z},0,.str z,⟨?_,⟨Nat.le_trans z2 (by decide),h2.k,h2.kn,h2.s,h2.d,h2.rk,h2.rn⟩,by decide,rfl⟩,?_⟩
   ·simp only[HRow.ok,z1,Bool.false_and,Bool.and_false]
   ·walk_at"ev"
    rw[g0]
    rfl
 obtain⟨r',k,p,⟨b1,b2,b3,b4⟩,e⟩:=key
 exact⟨r',⟨b1,b2⟩,jaM (F:=jb8) e (jbj (joO r'))⟩
theorem jrU (r:HRow)(μ:M):ixD (.lst (r.args.map jsJ)) (.int 2) μ=.ok (.lst ((r.kinds.take 5).map kD)) μ:=by rw[List.map_take];exact nr rfl
theorem jpX (r:HRow)(μ:M):ixD (.lst (r.args.map jsJ)) (.int 3) μ=.ok (.lst ((r.steps.take 5).map sD)) μ:=by rw[List.map_take];exact nr rfl
theorem jr0 (r:HRow)(μ:M):ixD (.lst (r.args.map jsJ)) (.int 4) μ=.ok (.lst ((r.doubles.take 5).map bD)) μ:=by rw[List.map_take];exact nr rfl
theorem jrc (r:HRow)(μ:M):ixD (.lst (r.args.map jsJ)) (.int 8) μ=.ok (.lst ((r.ranks.take 5).map rD)) μ:=by rw[List.map_take];exact nr rfl
theorem jhS {α:Type}(xs:List α):(xs.take 5).length<=5:=by rw[List.length_take];omega
noncomputable def jiB (r:HRow)(w m:Int)(μ:M):Prop:=∃(r':HRow) (k:Nat) (p:D),(r'.ok=false/\r'.Fit/\k<11/\r.args.set k p=r'.args)/\jaO .frz jar.F [.tup r.args,.int w,.int m] μ=.ok (.tup [.int (k:Int),p]) μ
theorem jht {r:HRow}(h:r.Fit){w m:Int}{μ:M}(ys:List (Str×Int))(hb:jpl ys=false)(hl:ys.length<=1000)(hn:∀p∈ys,p.1.length<=1000)(e:jaa [.tup r.args,.int w,.int m] μ=.ok (.tup [.int 2,.lst (ys.map kD)]) μ):jiB r w m μ:=
 ⟨{r with kinds:=ys},2,.lst (ys.map kD),⟨by simp only[HRow.ok,hb,Bool.false_and,Bool.and_false],⟨h.n,hl,hn,h.s,h.d,h.rk,h.rn⟩,by decide,rfl⟩,jaM (F:=jaa) e (jbj (jab jaH (jab (jcv (jaA jfP _)) jbL)))⟩
theorem jg7 {r:HRow}(h:r.Fit){w m:Int}{μ:M}(ys:List (Int×Int))(hb:jpn ys=false)(hl:ys.length<=1000)(e:jaa [.tup r.args,.int w,.int m] μ=.ok (.tup [.int 3,.lst (ys.map sD)]) μ):jiB r w m μ:=
 ⟨{r with steps:=ys},3,.lst (ys.map sD),⟨by simp only[HRow.ok,hb,Bool.false_and,Bool.and_false],⟨h.n,h.k,h.kn,hl,h.d,h.rk,h.rn⟩,by decide,rfl⟩,jaM (F:=jaa) e (jbj (jab jaH (jab (jcv (jaA jjh _)) jbL)))⟩
theorem jeE {r:HRow}(h:r.Fit){w m:Int}{μ:M}(ys:List (Int×Int×Int))(hb:ys.all dbP=false)(hl:ys.length<=1000)(e:jaa [.tup r.args,.int w,.int m] μ=.ok (.tup [.int 4,.lst (ys.map bD)]) μ):jiB r w m μ:=
 ⟨{r with doubles:=ys},4,.lst (ys.map bD),⟨by simp only[HRow.ok,hb,Bool.false_and,Bool.and_false],⟨h.n,h.k,h.kn,h.s,hl,h.rk,h.rn⟩,by decide,rfl⟩,jaM (F:=jaa) e (jbj (jab jaH (jab (jcv (jaA jfO _)) jbL)))⟩
theorem jgV {r:HRow}(h:r.Fit){w m:Int}{μ:M}(ys:List (Int×Str))(hb:rkB ys=false)(hl:ys.length<=1000)(hn:∀p∈ys,p.2.length<=1000)(e:jaa [.tup r.args,.int w,.int m] μ=.ok (.tup [.int 8,.lst (ys.map rD)]) μ):jiB r w m μ:=
 ⟨{r with ranks:=ys},8,.lst (ys.map rD),⟨by simp only[HRow.ok,hb,Bool.false_and,Bool.and_false],⟨h.n,h.k,h.kn,h.s,h.d,hl,hn⟩,by decide,rfl⟩,jaM (F:=jaa) e (jbj (jab jaH (jab (jcv (jaA jju _)) jbL)))⟩
theorem jiH {α:Type}{xs:List α}{k:Nat}{x y:α}(h:y∈xs.take k++x::xs.drop k):y=x∨y∈xs:=by
 rcases List.mem_append.mp h with q|q
 ·exact .inr (List.mem_of_mem_take q)
 ·rcases List.mem_cons.mp q with q|q
  ·exact .inl q
  ·exact .inr (List.mem_of_mem_drop q)
theorem jfR {α:Type}{xs:List α}{k:Nat}{x:α}{p:α->Bool}(h:p x=false):(xs.take k++x::xs.drop k).all p=false:=by
 simp[List.all_append,List.all_cons,h]
theorem jeQ {α:Type}{xs:List α}{k:Nat}{x:α}:(xs.take k++x::xs.drop k).length=xs.length+1:=by
 simp[List.length_append]
 omega
theorem ls0 (r:HRow)(h:r.Fit)(m:Int)(hm:0<=m)(μ:M):jiB r 0 m μ:=by
 obtain⟨z,⟨z1,z2⟩,hz⟩:=jd0 (m / 9) μ
 obtain⟨k,hk,hp⟩:=jsM kD (fun g x=>jfP x) (r.kinds.take 5) (Nat.le_trans (jhS _) (by decide)) m hm (z,1) μ
 refine jht h ((r.kinds.take 5).take k++(z,1)::(r.kinds.take 5).drop k) ?_ ?_ (fun p hp=>?_) ?_
 ·unfold jpl
  rw[jfR (by rw[z1];rfl),Bool.false_and]
 ·have:=jhS r.kinds
  rw[jeQ]
  omega
 ·rcases jiH hp with rfl|q
  ·exact Nat.le_trans z2 (by decide)
  ·exact h.kn p (List.mem_of_mem_take q)
 ·have hr:=jde r 0 m (-1 - m / 3 % 1000000000) μ
  unfold jaa jaf
  walk_at"ev"
  rw[hr]
  walk_at"ev"
  simp only[decide_true,if_true]
  rw[jrU]
  walk_at"ev"
  rw[hz]
  walk_at"ev"
  rw[show(.tup [.str z,.int 1]:D)=kD (z,1)from rfl,hp]
  walk_at"ev"
theorem jf3 (m:Int) : -1 - m / 3 % 1000000000=jd5 m:=rfl
theorem ls2 (r:HRow)(h:r.Fit)(m:Int)(hm:0<=m)(μ:M):jiB r 2 m μ:=by
 have hlow:=jdZ m
 obtain⟨k,hk,hp⟩:=jsM kD (fun g x=>jfP x) (r.kinds.take 5) (Nat.le_trans (jhS _) (by decide)) m hm (("unlike" : Str),jd5 m) μ
 refine jht h ((r.kinds.take 5).take k++(("unlike" : Str),jd5 m)::(r.kinds.take 5).drop k) ?_ ?_ (fun p hp=>?_) ?_
 ·unfold jpl
  rw[jfR (by rw[decide_eq_false (show ¬ 0<=jd5 m by omega),Bool.and_false]),Bool.false_and]
 ·have:=jhS r.kinds
  rw[jeQ]
  omega
 ·rcases jiH hp with rfl|q
  ·show(Str.ofString "unlike").length<=1000
   decide +kernel
  ·exact h.kn p (List.mem_of_mem_take q)
 ·have hr:=jde r 2 m (-1 - m / 3 % 1000000000) μ
  unfold jaa jaf
  walk_at"ev"
  rw[hr]
  walk_at"ev"
  iterate 2 (simp only[Int.reduceEq,decide_false,if_false,Bool.false_eq_true];walk_at"ev")
  simp only[decide_true,if_true]
  rw[jrU]
  walk_at"ev"
  rw[jf3,show(.tup [.str "unlike",.int (jd5 m)]:D)=kD (("unlike" : Str),jd5 m)from rfl,hp]
  walk_at"ev"
theorem ls3 (r:HRow)(h:r.Fit)(m:Int)(hm:0<=m)(μ:M):jiB r 3 m μ:=by
 have hlow:=jdZ m
 have h5:=jhS r.steps
 refine jg7 h ((jd5 m,0)::r.steps.take 5) ?_ (by rw[List.length_cons];omega) ?_
 ·unfold jpn leB
  rw[List.map_cons,List.all_cons,decide_eq_false (show ¬ 0<=jd5 m by omega)]
  simp only[Bool.false_and]
 ·have hr:=jde r 3 m (-1 - m / 3 % 1000000000) μ
  unfold jaa jaf
  walk_at"ev"
  rw[hr]
  walk_at"ev"
  iterate 3 (simp only[Int.reduceEq,decide_false,if_false,Bool.false_eq_true];walk_at"ev")
  simp only[decide_true,if_true]
  rw[jpX]
  walk_at"ev"
  rw[jf3,jb4 (jag (by simp only[List.length_map,List.length_cons,List.length_nil];omega))]
  walk_at"ev"
  rfl
theorem ls5 (r:HRow)(h:r.Fit)(m:Int)(hm:0<=m)(μ:M):jiB r 5 m μ:=by
 have hlow:=jdZ m
 have h5:=jhS r.steps
 refine jg7 h (r.steps.take 5++[(500000000000,jd5 m)]) ?_ (by rw[List.length_append,List.length_singleton];omega) ?_
 ·unfold jpn
  rw[List.all_append,List.all_cons,decide_eq_false (show ¬ 0<=jd5 m by omega)]
  simp only[Bool.false_and,Bool.and_false]
 ·have hr:=jde r 5 m (-1 - m / 3 % 1000000000) μ
  unfold jaa jaf
  walk_at"ev"
  rw[hr]
  walk_at"ev"
  iterate 5 (simp only[Int.reduceEq,decide_false,if_false,Bool.false_eq_true];walk_at"ev")
  simp only[decide_true,if_true]
  rw[jpX]
  walk_at"ev"
  rw[jf3,jb4 (jag (by simp only[List.length_map,List.length_cons,List.length_nil];omega))]
  walk_at"ev"
  rw[List.map_append]
  rfl
theorem ls6 (r:HRow)(h:r.Fit)(m:Int)(hm:0<=m)(μ:M):jiB r 6 m μ:=by
 have hlow:=jdZ m
 obtain⟨k,hk,hp⟩:=jsM bD (fun g x=>jfO x) (r.doubles.take 5) (Nat.le_trans (jhS _) (by decide)) m hm (jd5 m,m % 5,1) μ
 refine jeE h ((r.doubles.take 5).take k++(jd5 m,m % 5,1)::(r.doubles.take 5).drop k) (jfR (by unfold dbP;rw[decide_eq_false (show ¬ 0<=jd5 m by omega)];rfl)) ?_ ?_
 ·have:=jhS r.doubles
  rw[jeQ]
  omega
 ·have hr:=jde r 6 m (-1 - m / 3 % 1000000000) μ
  unfold jaa jaf
  walk_at"ev"
  rw[hr]
  walk_at"ev"
  iterate 6 (simp only[Int.reduceEq,decide_false,if_false,Bool.false_eq_true];walk_at"ev")
  simp only[decide_true,if_true]
  rw[jr0]
  walk_at"ev"
  try rw[jf3]
  rw[show(.tup [.int (jd5 m),.int (m % 5),.int (1)]:D)=bD (jd5 m,m % 5,1)from rfl,hp]
  walk_at"ev"
theorem ls7 (r:HRow)(h:r.Fit)(m:Int)(hm:0<=m)(μ:M):jiB r 7 m μ:=by
 have hlow:=jdZ m
 obtain⟨k,hk,hp⟩:=jsM bD (fun g x=>jfO x) (r.doubles.take 5) (Nat.le_trans (jhS _) (by decide)) m hm (m,m - 1 - m / 7 % 3,2) μ
 refine jeE h ((r.doubles.take 5).take k++(m,m - 1 - m / 7 % 3,2)::(r.doubles.take 5).drop k) (jfR (by unfold dbP;rw[decide_eq_false (show ¬ m<=m - 1 - m / 7 % 3 by omega)];simp only[Bool.false_and,Bool.and_false])) ?_ ?_
 ·have:=jhS r.doubles
  rw[jeQ]
  omega
 ·have hr:=jde r 7 m (-1 - m / 3 % 1000000000) μ
  unfold jaa jaf
  walk_at"ev"
  rw[hr]
  walk_at"ev"
  iterate 7 (simp only[Int.reduceEq,decide_false,if_false,Bool.false_eq_true];walk_at"ev")
  simp only[decide_true,if_true]
  rw[jr0]
  walk_at"ev"
  try rw[jf3]
  rw[show(.tup [.int (m),.int (m - 1 - m / 7 % 3),.int (2)]:D)=bD (m,m - 1 - m / 7 % 3,2)from rfl,hp]
  walk_at"ev"
theorem jxO (r:HRow)(h:r.Fit)(m:Int)(hm:0<=m)(μ:M):jiB r 11 m μ:=by
 obtain⟨z,⟨z1,z2⟩,hz⟩:=jd0 m μ
 have h5:=jhS r.ranks
 refine jgV h (r.ranks.take 5++[(500000000000,z)]) ?_ (by rw[List.length_append,List.length_singleton];omega) (fun p hp=>?_) ?_
 ·unfold rkB
  rw[List.all_append,List.all_cons,z1]
  simp only[Bool.false_and,Bool.and_false]
 ·rcases List.mem_append.mp hp with q|q
  ·exact h.rn p (List.mem_of_mem_take q)
  ·have:p=(500000000000,z):=by simpa using q
   subst this
   exact Nat.le_trans z2 (by decide)
 ·have hr:=jde r 11 m (-1 - m / 3 % 1000000000) μ
  unfold jaa jaf
  walk_at"ev"
  rw[hr]
  walk_at"ev"
  iterate 11 (simp only[Int.reduceEq,decide_false,if_false,Bool.false_eq_true];walk_at"ev")
  rw[jrc]
  walk_at"ev"
  rw[hz]
  walk_at"ev"
  rw[jb4 (jag (by simp only[List.length_map,List.length_cons,List.length_nil];omega))]
  walk_at"ev"
  rw[List.map_append]
  rfl
theorem js9 (m:Int)(μ:M):∃v:Int,v<=0/\ixD (.lst [.int 0,.int (jd5 m)]) (.int (m % 2)) μ=.ok (.int v) μ:=by
 obtain⟨v,hv,e⟩:=jcu (xs:=[0,jd5 m]) (i:=m % 2) (Int.emod_nonneg _ (by decide)) (by have:=Int.emod_lt_of_pos m (show(0:Int)<2 by decide);simpa using this) μ
 exact⟨v,jpo hv,e⟩
theorem ls1 (r:HRow)(h:r.Fit)(m:Int)(hm:0<=m)(μ:M):jiB r 1 m μ:=by
 have h5:=jhS r.kinds
 obtain⟨k,hk,hp⟩:=jsM kD (fun g x=>jfP x) (r.kinds.take 5++[(("same" : Str),2)]) (by rw[List.length_append,List.length_singleton];omega) m hm (("same" : Str),3) μ
 refine jht h ((r.kinds.take 5++[(("same" : Str),2)]).take k++(("same" : Str),3)::(r.kinds.take 5++[(("same" : Str),2)]).drop k) ?_ ?_ (fun p hp=>?_) ?_
 ·unfold jpl
  rw[jqr,Bool.and_false]
  intro nd
  rw[List.map_append,List.map_cons]at nd
  have hin:(("same" : Str),(2:Int))∈(r.kinds.take 5++[(("same" : Str),2)]).take k++(r.kinds.take 5++[(("same" : Str),2)]).drop k:=by
   rw[List.take_append_drop]
   simp
  obtain⟨n1,n2,n3⟩:=List.nodup_append.mp nd
  rcases List.mem_append.mp hin with q|q
  ·exact n3 _ (List.mem_map_of_mem q) _ (List.mem_cons_self) rfl
  ·exact(List.nodup_cons.mp n2).1 (List.mem_map_of_mem (f:=(·.1)) q)
 ·rw[jeQ,List.length_append,List.length_singleton]
  omega
 ·have hs:(Str.ofString "same").length<=1000:=by decide +kernel
  rcases jiH hp with rfl|q
  ·exact hs
  ·rcases List.mem_append.mp q with q|q
   ·exact h.kn p (List.mem_of_mem_take q)
   ·have:p=(("same" : Str),2):=by simpa using q
    subst this
    exact hs
 ·have hr:=jde r 1 m (-1 - m / 3 % 1000000000) μ
  unfold jaa jaf
  walk_at"ev"
  rw[hr]
  walk_at"ev"
  iterate 1 (simp only[Int.reduceEq,decide_false,if_false,Bool.false_eq_true];walk_at"ev")
  simp only[decide_true,if_true]
  rw[jrU]
  walk_at"ev"
  rw[show(.lst [.tup [.str "same",.int 2]]:D)=.lst ([(("same" : Str),(2:Int))].map kD)from rfl,jb4 (jag (by simp only[List.length_map,List.length_cons,List.length_nil];omega)),<- List.map_append]
  walk_at"ev"
  rw[show(.tup [.str "same",.int 3]:D)=kD (("same" : Str),3)from rfl,hp]
  walk_at"ev"
theorem ls8 (r:HRow)(h:r.Fit)(m:Int)(hm:0<=m)(μ:M):jiB r 8 m μ:=by
 obtain⟨v,hv,ev'⟩:=js9 m μ
 obtain⟨k,hk,hp⟩:=jsM bD (fun g x=>jfO x) (r.doubles.take 5) (Nat.le_trans (jhS _) (by decide)) m hm (1,2,v) μ
 refine jeE h ((r.doubles.take 5).take k++(1,2,v)::(r.doubles.take 5).drop k) (jfR (by unfold dbP;rw[decide_eq_false (show ¬ 1<=v by omega)];simp only[Bool.and_false])) ?_ ?_
 ·have:=jhS r.doubles
  rw[jeQ]
  omega
 ·have hr:=jde r 8 m (-1 - m / 3 % 1000000000) μ
  unfold jaa jaf
  walk_at"ev"
  rw[hr]
  walk_at"ev"
  iterate 8 (simp only[Int.reduceEq,decide_false,if_false,Bool.false_eq_true];walk_at"ev")
  simp only[decide_true,if_true]
  rw[jr0]
  walk_at"ev"
  rw[jf3,ev']
  walk_at"ev"
  rw[show(.tup [.int 1,.int 2,.int v]:D)=bD (1,2,v)from rfl,hp]
  walk_at"ev"
theorem ls9 (r:HRow)(h:r.Fit)(m:Int)(hm:0<=m)(μ:M):jiB r 9 m μ:=by
 obtain⟨v,hv,ev'⟩:=js9 m μ
 have h5:=jhS r.ranks
 refine jgV h ((v,("low" : Str))::r.ranks.take 5) ?_ (by rw[List.length_cons];omega) (fun p hp=>?_) ?_
 ·unfold rkB leB
  rw[List.map_cons,List.all_cons,decide_eq_false (show ¬ 1<=v by omega)]
  simp only[Bool.false_and]
 ·rcases List.mem_cons.mp hp with rfl|q
  ·show(Str.ofString "low").length<=1000
   decide +kernel
  ·exact h.rn p (List.mem_of_mem_take q)
 ·have hr:=jde r 9 m (-1 - m / 3 % 1000000000) μ
  unfold jaa jaf
  walk_at"ev"
  rw[hr]
  walk_at"ev"
  iterate 9 (simp only[Int.reduceEq,decide_false,if_false,Bool.false_eq_true];walk_at"ev")
  simp only[decide_true,if_true]
  rw[jf3,ev']
  walk_at"ev"
  rw[jrc]
  walk_at"ev"
  rw[jb4 (jag (by simp only[List.length_map,List.length_cons,List.length_nil];omega))]
  walk_at"ev"
  rfl
theorem jpF {a b:List Int}{x y:Int}(h:y<=x):jse (a++x::y::b)=false:=by
 unfold jse
 refine List.all_eq_false.mpr ⟨a.length,List.mem_range.mpr (by simp),?_⟩
 rw[List.getD_eq_getElem?_getD,List.getD_eq_getElem?_getD,List.getElem?_append_right (Nat.le_refl _),List.getElem?_append_right (by omega),Nat.sub_self,show a.length+1 - a.length=1 from by omega]
 simp only[List.getElem?_cons_zero,List.getElem?_cons_succ,Option.getD_some,decide_eq_true_eq]
 omega
theorem jur {α:Type}(x:α)(b:Nat):([x].take b).length<=1:=by rw[List.length_take];simp;omega
theorem ls4 (r:HRow)(h:r.Fit)(m:Int)(hm:0<=m)(μ:M):jiB r 4 m μ:=by
 obtain⟨v,hv,ev'⟩:=jcu (xs:=[100000000000,100000000000 - 1 - m]) (i:=m % 2) (Int.emod_nonneg _ (by decide)) (by have:=Int.emod_lt_of_pos m (show(0:Int)<2 by decide);simpa using this) μ
 have hv0:v<=100000000000:=by
  simp only[List.mem_cons,List.not_mem_nil,or_false]at hv
  rcases hv with rfl|rfl<;>omega
 obtain⟨b,hb⟩:=Int.eq_ofNat_of_zero_le (show 0<=m / 2 % 2 from Int.emod_nonneg _ (by decide))
 have h5:=jhS r.steps
 have h1:=jur ((300000000000,3):Int×Int) b
 have hsl:=jmv sD [((300000000000,3):Int×Int)] b μ
 refine jg7 h (r.steps.take 5++[(100000000000,1),(v,2)]++[((300000000000,3):Int×Int)].take b) ?_ (by rw[List.length_append,List.length_append];simp only[List.length_cons,List.length_nil];omega) ?_
 ·unfold jpn leB
  rw[List.map_append,List.map_append,List.map_cons,List.map_cons,List.map_nil,List.append_assoc,List.cons_append,List.cons_append,List.nil_append,jpF hv0]
  simp only[Bool.and_false,Bool.false_and]
 ·have hr:=jde r 4 m (-1 - m / 3 % 1000000000) μ
  unfold jaa jaf
  walk_at"ev"
  rw[hr]
  walk_at"ev"
  iterate 4 (simp only[Int.reduceEq,decide_false,if_false,Bool.false_eq_true];walk_at"ev")
  simp only[decide_true,if_true]
  walk_at"ev"
  simp only[List.map_cons,List.map_nil]at ev' hsl
  rw[ev']
  walk_at"ev"
  rw[jpX]
  walk_at"ev"
  rw[show(.lst [.tup [.int 100000000000,.int 1],.tup [.int v,.int 2]]:D)=.lst ([(100000000000,1),(v,2)].map sD)from rfl,jb4 (jag (by simp only[List.length_map,List.length_cons,List.length_nil];omega)),<- List.map_append]
  walk_at"ev"
  rw[hb,show(.tup [.int (3*100000000000),.int 3]:D)=sD (300000000000,3)from rfl,hsl]
  walk_at"ev"
  rw[jb4 (jag (by simp only[List.length_map,List.length_append,List.length_cons,List.length_nil];omega)),<- List.map_append]
  walk_at"ev"
theorem jxE (r:HRow)(h:r.Fit)(m:Int)(hm:0<=m)(μ:M):jiB r 10 m μ:=by
 have u0:0<=m % 2:=Int.emod_nonneg _ (by decide)
 have u1:0<=m / 2 % 7:=Int.emod_nonneg _ (by decide)
 have u2:=Int.mul_nonneg u0 u1
 have hv0:100000000000 - m % 2*(m / 2 % 7)<=100000000000:=by omega
 generalize hv:100000000000 - m % 2*(m / 2 % 7)=v at hv0
 obtain⟨b,hb⟩:=Int.eq_ofNat_of_zero_le (show 0<=m / 14 % 2 from Int.emod_nonneg _ (by decide))
 have h5:=jhS r.ranks
 have h1:=jur ((300000000000,("three" : Str)):Int×Str) b
 have hsl:=jmv rD [((300000000000,("three" : Str)):Int×Str)] b μ
 refine jgV h (r.ranks.take 5++[(100000000000,("one" : Str)),(v,("two" : Str))]++[((300000000000,("three" : Str)):Int×Str)].take b) ?_ (by rw[List.length_append,List.length_append];simp only[List.length_cons,List.length_nil];omega) (fun p hp=>?_) ?_
 ·unfold rkB leB
  rw[List.map_append,List.map_append,List.map_cons,List.map_cons,List.map_nil,List.append_assoc,List.cons_append,List.cons_append,List.nil_append,jpF hv0]
  simp only[Bool.and_false,Bool.false_and]
 ·have n1:(Str.ofString "one").length<=1000:=by decide +kernel
  have n2:(Str.ofString "two").length<=1000:=by decide +kernel
  have n3:(Str.ofString "three").length<=1000:=by decide +kernel
  rcases List.mem_append.mp hp with q|q
  ·rcases List.mem_append.mp q with q|q
   ·exact h.rn p (List.mem_of_mem_take q)
   ·simp only[List.mem_cons,List.not_mem_nil,or_false]at q
    rcases q with rfl|rfl
    ·exact n1
    ·exact n2
  ·have:p=(300000000000,("three" : Str)):=by simpa using List.mem_of_mem_take q
   subst this
   exact n3
 ·have hr:=jde r 10 m (-1 - m / 3 % 1000000000) μ
  unfold jaa jaf
  walk_at"ev"
  rw[hr]
  walk_at"ev"
  iterate 10 (simp only[Int.reduceEq,decide_false,if_false,Bool.false_eq_true];walk_at"ev")
  simp only[decide_true,if_true]
  walk_at"ev"
  rw[jfe (by omega) (by omega)]
  walk_at"ev"
  rw[hv]
  simp only[List.map_cons,List.map_nil]at hsl
  rw[jrc]
  walk_at"ev"
  rw[show(.lst [.tup [.int 100000000000,.str "one"],.tup [.int v,.str "two"]]:D)=.lst ([(100000000000,("one" : Str)),(v,("two" : Str))].map rD)from rfl,jb4 (jag (by simp only[List.length_map,List.length_cons,List.length_nil];omega)),<- List.map_append]
  walk_at"ev"
  rw[hb,show(.tup [.int (3*100000000000),.str "three"]:D)=rD (300000000000,("three" : Str))from rfl,hsl]
  walk_at"ev"
  rw[jb4 (jag (by simp only[List.length_map,List.length_append,List.length_cons,List.length_nil];omega)),<- List.map_append]
  walk_at"ev"
theorem lsp:LSp:=by
 intro r _ h _ w m hw h0 _ μ
 have hc:w=0∨w=1∨w=2∨w=3∨w=4∨w=5∨w=6∨w=7∨w=8∨w=9∨w=10∨w=11:=by omega
 rcases hc with rfl|rfl|rfl|rfl|rfl|rfl|rfl|rfl|rfl|rfl|rfl|rfl
 ·exact ls0 r h m h0 μ
 ·exact ls1 r h m h0 μ
 ·exact ls2 r h m h0 μ
 ·exact ls3 r h m h0 μ
 ·exact ls4 r h m h0 μ
 ·exact ls5 r h m h0 μ
 ·exact ls6 r h m h0 μ
 ·exact ls7 r h m h0 μ
 ·exact ls8 r h m h0 μ
 ·exact ls9 r h m h0 μ
 ·exact jxE r h m h0 μ
 ·exact jxO r h m h0 μ
theorem jnt (ns:List Int)(hn:ns.length<=63):∃μ,jnT [.scr (ns.map D.int)] []=.ok (.bl true) μ:=jlM ns hn (jlV lsp ns)
end _K03
namespace _K03
open PySem PySem.Spec PyProof.Rows _L2 _L3
theorem jkq {α:Type}{us:List α}(h:us.length=1):∃a0,us=[a0]:=by
 obtain⟨a0,us,rfl⟩:=List.exists_cons_of_length_pos (l:=us) (by rw[h];decide)
 replace h:us.length=0:=Nat.succ.inj h
 cases List.length_eq_zero_iff.mp h
 exact⟨_,rfl⟩
theorem jpH {α:Type}{us:List α}(h:us.length=2):∃a0 a1,us=[a0,a1]:=by
 obtain⟨a0,us,rfl⟩:=List.exists_cons_of_length_pos (l:=us) (by rw[h];decide)
 replace h:us.length=1:=Nat.succ.inj h
 obtain⟨a1,us,rfl⟩:=List.exists_cons_of_length_pos (l:=us) (by rw[h];decide)
 replace h:us.length=0:=Nat.succ.inj h
 cases List.length_eq_zero_iff.mp h
 exact⟨_,_,rfl⟩
theorem jvS {α:Type}{us:List α}(h:us.length=3):∃a0 a1 a2,us=[a0,a1,a2]:=by
 obtain⟨a0,us,rfl⟩:=List.exists_cons_of_length_pos (l:=us) (by rw[h];decide)
 replace h:us.length=2:=Nat.succ.inj h
 obtain⟨a1,us,rfl⟩:=List.exists_cons_of_length_pos (l:=us) (by rw[h];decide)
 replace h:us.length=1:=Nat.succ.inj h
 obtain⟨a2,us,rfl⟩:=List.exists_cons_of_length_pos (l:=us) (by rw[h];decide)
 replace h:us.length=0:=Nat.succ.inj h
 cases List.length_eq_zero_iff.mp h
 exact⟨_,_,_,rfl⟩
theorem jxz {α:Type}{us:List α}(h:us.length=4):∃a0 a1 a2 a3,us=[a0,a1,a2,a3]:=by
 obtain⟨a0,us,rfl⟩:=List.exists_cons_of_length_pos (l:=us) (by rw[h];decide)
 replace h:us.length=3:=Nat.succ.inj h
 obtain⟨a1,us,rfl⟩:=List.exists_cons_of_length_pos (l:=us) (by rw[h];decide)
 replace h:us.length=2:=Nat.succ.inj h
 obtain⟨a2,us,rfl⟩:=List.exists_cons_of_length_pos (l:=us) (by rw[h];decide)
 replace h:us.length=1:=Nat.succ.inj h
 obtain⟨a3,us,rfl⟩:=List.exists_cons_of_length_pos (l:=us) (by rw[h];decide)
 replace h:us.length=0:=Nat.succ.inj h
 cases List.length_eq_zero_iff.mp h
 exact⟨_,_,_,_,rfl⟩
theorem jv1 {α:Type}{us:List α}(h:us.length=12):∃a0 a1 a2 a3 a4 a5 a6 a7 a8 a9 a10 a11,us=[a0,a1,a2,a3,a4,a5,a6,a7,a8,a9,a10,a11]:=by
 obtain⟨a0,us,rfl⟩:=List.exists_cons_of_length_pos (l:=us) (by rw[h];decide)
 replace h:us.length=11:=Nat.succ.inj h
 obtain⟨a1,us,rfl⟩:=List.exists_cons_of_length_pos (l:=us) (by rw[h];decide)
 replace h:us.length=10:=Nat.succ.inj h
 obtain⟨a2,us,rfl⟩:=List.exists_cons_of_length_pos (l:=us) (by rw[h];decide)
 replace h:us.length=9:=Nat.succ.inj h
 obtain⟨a3,us,rfl⟩:=List.exists_cons_of_length_pos (l:=us) (by rw[h];decide)
 replace h:us.length=8:=Nat.succ.inj h
 obtain⟨a4,us,rfl⟩:=List.exists_cons_of_length_pos (l:=us) (by rw[h];decide)
 replace h:us.length=7:=Nat.succ.inj h
 obtain⟨a5,us,rfl⟩:=List.exists_cons_of_length_pos (l:=us) (by rw[h];decide)
 replace h:us.length=6:=Nat.succ.inj h
 obtain⟨a6,us,rfl⟩:=List.exists_cons_of_length_pos (l:=us) (by rw[h];decide)
 replace h:us.length=5:=Nat.succ.inj h
 obtain⟨a7,us,rfl⟩:=List.exists_cons_of_length_pos (l:=us) (by rw[h];decide)
 replace h:us.length=4:=Nat.succ.inj h
 obtain⟨a8,us,rfl⟩:=List.exists_cons_of_length_pos (l:=us) (by rw[h];decide)
 replace h:us.length=3:=Nat.succ.inj h
 obtain⟨a9,us,rfl⟩:=List.exists_cons_of_length_pos (l:=us) (by rw[h];decide)
 replace h:us.length=2:=Nat.succ.inj h
 obtain⟨a10,us,rfl⟩:=List.exists_cons_of_length_pos (l:=us) (by rw[h];decide)
 replace h:us.length=1:=Nat.succ.inj h
 obtain⟨a11,us,rfl⟩:=List.exists_cons_of_length_pos (l:=us) (by rw[h];decide)
 replace h:us.length=0:=Nat.succ.inj h
 cases List.length_eq_zero_iff.mp h
 exact⟨_,_,_,_,_,_,_,_,_,_,_,_,rfl⟩
theorem jaI {P:Program}{w:World}{K:PySem.W.Frag}{mg:Str->Option Value}{base:Heap}{j:Nat}(hm:∀x∈jc2,mg x=none):Tab P w K mg base j []:=⟨hm,fun i g h=>by simp at h,fun i g d h=>by simp at h⟩
theorem jad {P:Program}{w:World}{K:PySem.W.Frag}{mg:Str->Option Value}{base:Heap}{j:Nat}{g:FnE}{G:List FnE}(hn:g.dat=none)(c:_L2.Callee P w K mg base g.lv g.name g.ps (jdi K g.ps.length g.F))(T:Tab P w K mg base j G):Tab P w K mg base j (g::G):=⟨T.hm,fun i g' h hl=>by
 cases i with
 |zero=>
  simp at h
  subst h
  exact c
 |succ i=>exact T.hf i g' (by simpa using h) hl,fun i g' d h hd=>by
 cases i with
 |zero=>
  simp at h
  subst h
  rw[hn]at hd
  cases hd
 |succ i=>exact T.hd i g' d (by simpa using h) hd⟩
theorem jhj {P:Program}{w:World}{K:PySem.W.Frag}{mg:Str->Option Value}{base:Heap}{j:Nat}{g:FnE}{G:List FnE}{hs:g.dat.isSome=true}(hl:¬ 1000000<=j)(c:jkA K w mg g.name (g.dat.get hs))(T:Tab P w K mg base j G)(h0:g.lv=1000000:=by rfl):Tab P w K mg base j (g::G):=⟨T.hm,fun i g' h hlv=>by
 cases i with
 |zero=>
  simp at h
  subst h
  exact absurd (h0▸hlv) hl
 |succ i=>exact T.hf i g' (by simpa using h) hlv,fun i g' d h hd=>by
 cases i with
 |zero=>
  simp at h
  subst h
  have e:g.dat.get hs=d:=by simp[hd]
  rw[<- e]
  exact c
 |succ i=>exact T.hd i g' d (by simpa using h) hd⟩
set_option maxHeartbeats 0 in
theorem jgc {P:Program} {w:World} {K:PySem.W.Frag} {mg:Str->Option Value} {base:Heap} {f:Addr} {fd:FuncData} {x0 x1 x2 x3 x4 x5 x6 x7 x8 x9 x10:Addr} (F:Fun K "_law_refused" "_law_refused" jbs f fd) (cg:CalleeX P w K mg base 7 "_law_made" ["_law_row"] (spX K mg 1 jbH)) (R:RefOk K x1 x0 [x2,x3,x4,x5,x6,x7,x8,x9,x10]) (mP:mg "PurseError" =some (.ref x0)) (hiN:mg "isinstance" =none) (m1:mg "BadHouse" =some (.ref x1)) (mve:mg "ValueError" =none) (hcs:[("BadBook" : Str),("BadDeed" : Str),("BadText" : Str),("NoDeed" : Str),("NoRate" : Str),("NotOver" : Str),("TooFew" : Str),("Twice" : Str),("WrongDay" : Str)].map mg=[x2,x3,x4,x5,x6,x7,x8,x9,x10].map (fun a=>some (Value.ref a))) :
  FnOk P w K mg base CX0 8 f fd ["_law_row"] (jdi K 1 jb9):=
 jkB F jgs cg R rfl (by decide +kernel) (by decide +kernel) (by decide +kernel) (by decide +kernel) (by decide +kernel) (by decide +kernel) (by decide +kernel) mP (by decide +kernel) hiN (by decide +kernel) m1 (by decide +kernel) mve (jl1 (cs:=["BadBook","BadDeed","BadText","NoDeed","NoRate","NotOver","TooFew","Twice","WrongDay"]) (by decide +kernel) hcs) (by decide +kernel) (by decide)
set_option maxHeartbeats 0 in
theorem all_mk {l:PySem.W.OpenLaw}{w:World}{K:PySem.W.Frag}{h:Heap}{mg:Str->Option Value}
  {fa:Addr}
  {f1:Addr} {od1 an1:Option Addr} {sl1:Array (Option Value)} {oc1 kV1 dc1 pm1 cd1 ct1:Value}
  {f2:Addr} {od2 an2:Option Addr} {sl2:Array (Option Value)} {oc2 kV2 dc2 pm2 cd2 ct2:Value}
  {f3:Addr} {od3 an3:Option Addr} {sl3:Array (Option Value)} {oc3 kV3 dc3 pm3 cd3 ct3:Value}
  {f4:Addr} {od4 an4:Option Addr} {sl4:Array (Option Value)} {oc4 kV4 dc4 pm4 cd4 ct4:Value}
  {f5:Addr} {od5 an5:Option Addr} {sl5:Array (Option Value)} {oc5 kV5 dc5 pm5 cd5 ct5:Value}
  {f6:Addr} {od6 an6:Option Addr} {sl6:Array (Option Value)} {oc6 kV6 dc6 pm6 cd6 ct6:Value}
  {f7:Addr} {od7 an7:Option Addr} {sl7:Array (Option Value)} {oc7 kV7 dc7 pm7 cd7 ct7:Value}
  {f8:Addr} {od8 an8:Option Addr} {sl8:Array (Option Value)} {oc8 kV8 dc8 pm8 cd8 ct8:Value}
  {f9:Addr} {od9 an9:Option Addr} {sl9:Array (Option Value)} {oc9 kV9 dc9 pm9 cd9 ct9:Value}
  {f10:Addr} {od10 an10:Option Addr} {sl10:Array (Option Value)} {oc10 kV10 dc10 pm10 cd10 ct10:Value}
  {f11:Addr} {od11 an11:Option Addr} {sl11:Array (Option Value)} {oc11 kV11 dc11 pm11 cd11 ct11:Value}
  {f12:Addr} {od12 an12:Option Addr} {sl12:Array (Option Value)} {oc12 kV12 dc12 pm12 cd12 ct12:Value}
  {f13:Addr} {od13 an13:Option Addr} {sl13:Array (Option Value)} {oc13 kV13 dc13 pm13 cd13 ct13:Value}
  {f14:Addr} {od14 an14:Option Addr} {sl14:Array (Option Value)} {oc14 kV14 dc14 pm14 cd14 ct14:Value}
  {f15:Addr} {od15 an15:Option Addr} {sl15:Array (Option Value)} {oc15 kV15 dc15 pm15 cd15 ct15:Value}
  {f16:Addr} {od16 an16:Option Addr} {sl16:Array (Option Value)} {oc16 kV16 dc16 pm16 cd16 ct16:Value}
  {f17:Addr} {od17 an17:Option Addr} {sl17:Array (Option Value)} {oc17 kV17 dc17 pm17 cd17 ct17:Value}
  {f18:Addr} {od18 an18:Option Addr} {sl18:Array (Option Value)} {oc18 kV18 dc18 pm18 cd18 ct18:Value}
  {f19:Addr} {od19 an19:Option Addr} {sl19:Array (Option Value)} {oc19 kV19 dc19 pm19 cd19 ct19:Value}
  {f20:Addr} {od20 an20:Option Addr} {sl20:Array (Option Value)} {oc20 kV20 dc20 pm20 cd20 ct20:Value}
  {f21:Addr} {od21 an21:Option Addr} {sl21:Array (Option Value)} {oc21 kV21 dc21 pm21 cd21 ct21:Value}
  {f22:Addr} {od22 an22:Option Addr} {sl22:Array (Option Value)} {oc22 kV22 dc22 pm22 cd22 ct22:Value}
  {f23:Addr} {od23 an23:Option Addr} {sl23:Array (Option Value)} {oc23 kV23 dc23 pm23 cd23 ct23:Value}
  {f24:Addr} {od24 an24:Option Addr} {sl24:Array (Option Value)} {oc24 kV24 dc24 pm24 cd24 ct24:Value}
  {f25:Addr} {od25 an25:Option Addr} {sl25:Array (Option Value)} {oc25 kV25 dc25 pm25 cd25 ct25:Value}
  {f26:Addr} {od26 an26:Option Addr} {sl26:Array (Option Value)} {oc26 kV26 dc26 pm26 cd26 ct26:Value}
  {f27:Addr} {od27 an27:Option Addr} {sl27:Array (Option Value)} {oc27 kV27 dc27 pm27 cd27 ct27:Value}
  {x0:Addr} {x1:Addr} {x2:Addr} {x3:Addr} {x4:Addr} {x5:Addr} {x6:Addr} {x7:Addr} {x8:Addr} {x9:Addr} {x10:Addr}
  {f28:Addr} {od28 an28:Option Addr} {sl28:Array (Option Value)} {oc28 kV28 dc28 pm28 cd28 ct28:Value}
  {tD1:Tok}
  (X:K.In h) (G:h.Ns mainGlobals mg) (hfa:mg "law" =some (.ref fa))
  (a1:PySem.W.nsIn K mainGlobals "is_number" =some (some (.ref f1)))
  (l1:K.lookup f1=some ⟨oc1,od1,.func (PySem.W.fnOf "is_number" "is_number" (jao jbE) (jac jbE) (ja jbE) .none kV1 dc1 pm1 an1 cd1 ct1),sl1⟩) (c1:PySem.W.codeIn K cd1 "is_number" =true) (k1:PySem.W.keepIn K (.ref f1)=true)
  (a2:PySem.W.nsIn K mainGlobals "is_list" =some (some (.ref f2)))
  (l2:K.lookup f2=some ⟨oc2,od2,.func (PySem.W.fnOf "is_list" "is_list" (jao jcf) (jac jcf) (ja jcf) .none kV2 dc2 pm2 an2 cd2 ct2),sl2⟩) (c2:PySem.W.codeIn K cd2 "is_list" =true) (k2:PySem.W.keepIn K (.ref f2)=true)
  (a3:PySem.W.nsIn K mainGlobals "is_tuple_of" =some (some (.ref f3)))
  (l3:K.lookup f3=some ⟨oc3,od3,.func (PySem.W.fnOf "is_tuple_of" "is_tuple_of" (jao ja8) (jac ja8) (ja ja8) .none kV3 dc3 pm3 an3 cd3 ct3),sl3⟩) (c3:PySem.W.codeIn K cd3 "is_tuple_of" =true) (k3:PySem.W.keepIn K (.ref f3)=true)
  (a4:PySem.W.nsIn K mainGlobals "are_unlike" =some (some (.ref f4)))
  (l4:K.lookup f4=some ⟨oc4,od4,.func (PySem.W.fnOf "are_unlike" "are_unlike" (jao jbr) (jac jbr) (ja jbr) .none kV4 dc4 pm4 an4 cd4 ct4),sl4⟩) (c4:PySem.W.codeIn K cd4 "are_unlike" =true) (k4:PySem.W.keepIn K (.ref f4)=true)
  (a5:PySem.W.nsIn K mainGlobals "are_rising" =some (some (.ref f5)))
  (l5:K.lookup f5=some ⟨oc5,od5,.func (PySem.W.fnOf "are_rising" "are_rising" (jao jbk) (jac jbk) (ja jbk) .none kV5 dc5 pm5 an5 cd5 ct5),sl5⟩) (c5:PySem.W.codeIn K cd5 "are_rising" =true) (k5:PySem.W.keepIn K (.ref f5)=true)
  (a6:PySem.W.nsIn K mainGlobals "is_name" =some (some (.ref f6)))
  (l6:K.lookup f6=some ⟨oc6,od6,.func (PySem.W.fnOf "is_name" "is_name" (jao jcc) (jac jcc) (ja jcc) .none kV6 dc6 pm6 an6 cd6 ct6),sl6⟩) (c6:PySem.W.codeIn K cd6 "is_name" =true) (k6:PySem.W.keepIn K (.ref f6)=true)
  (a7:PySem.W.nsIn K mainGlobals "demand" =some (some (.ref f7)))
  (l7:K.lookup f7=some ⟨oc7,od7,.func (PySem.W.fnOf "demand" "demand" (jao jcW) (jac jcW) (ja jcW) .none kV7 dc7 pm7 an7 cd7 ct7),sl7⟩) (c7:PySem.W.codeIn K cd7 "demand" =true) (k7:PySem.W.keepIn K (.ref f7)=true)
  (a8:PySem.W.nsIn K mainGlobals "is_number_or_none" =some (some (.ref f8)))
  (l8:K.lookup f8=some ⟨oc8,od8,.func (PySem.W.fnOf "is_number_or_none" "is_number_or_none" (jao jaz) (jac jaz) (ja jaz) .none kV8 dc8 pm8 an8 cd8 ct8),sl8⟩) (c8:PySem.W.codeIn K cd8 "is_number_or_none" =true) (k8:PySem.W.keepIn K (.ref f8)=true)
  (a9:PySem.W.nsIn K mainGlobals "check_list" =some (some (.ref f9)))
  (l9:K.lookup f9=some ⟨oc9,od9,.func (PySem.W.fnOf "check_list" "check_list" (jao jbl) (jac jbl) (ja jbl) .none kV9 dc9 pm9 an9 cd9 ct9),sl9⟩) (c9:PySem.W.codeIn K cd9 "check_list" =true) (k9:PySem.W.keepIn K (.ref f9)=true)
  (a10:PySem.W.nsIn K mainGlobals "check_share" =some (some (.ref f10)))
  (l10:K.lookup f10=some ⟨oc10,od10,.func (PySem.W.fnOf "check_share" "check_share" (jao jbe) (jac jbe) (ja jbe) .none kV10 dc10 pm10 an10 cd10 ct10),sl10⟩) (c10:PySem.W.codeIn K cd10 "check_share" =true) (k10:PySem.W.keepIn K (.ref f10)=true)
  (a11:PySem.W.nsIn K mainGlobals "check_kinds" =some (some (.ref f11)))
  (l11:K.lookup f11=some ⟨oc11,od11,.func (PySem.W.fnOf "check_kinds" "check_kinds" (jao jba) (jac jba) (ja jba) .none kV11 dc11 pm11 an11 cd11 ct11),sl11⟩) (c11:PySem.W.codeIn K cd11 "check_kinds" =true) (k11:PySem.W.keepIn K (.ref f11)=true)
  (a12:PySem.W.nsIn K mainGlobals "check_leasts" =some (some (.ref f12)))
  (l12:K.lookup f12=some ⟨oc12,od12,.func (PySem.W.fnOf "check_leasts" "check_leasts" (jao ja2) (jac ja2) (ja ja2) .none kV12 dc12 pm12 an12 cd12 ct12),sl12⟩) (c12:PySem.W.codeIn K cd12 "check_leasts" =true) (k12:PySem.W.keepIn K (.ref f12)=true)
  (a13:PySem.W.nsIn K mainGlobals "check_steps" =some (some (.ref f13)))
  (l13:K.lookup f13=some ⟨oc13,od13,.func (PySem.W.fnOf "check_steps" "check_steps" (jao jbb) (jac jbb) (ja jbb) .none kV13 dc13 pm13 an13 cd13 ct13),sl13⟩) (c13:PySem.W.codeIn K cd13 "check_steps" =true) (k13:PySem.W.keepIn K (.ref f13)=true)
  (a14:PySem.W.nsIn K mainGlobals "check_doubles" =some (some (.ref f14)))
  (l14:K.lookup f14=some ⟨oc14,od14,.func (PySem.W.fnOf "check_doubles" "check_doubles" (jao jaU) (jac jaU) (ja jaU) .none kV14 dc14 pm14 an14 cd14 ct14),sl14⟩) (c14:PySem.W.codeIn K cd14 "check_doubles" =true) (k14:PySem.W.keepIn K (.ref f14)=true)
  (a15:PySem.W.nsIn K mainGlobals "check_ranks" =some (some (.ref f15)))
  (l15:K.lookup f15=some ⟨oc15,od15,.func (PySem.W.fnOf "check_ranks" "check_ranks" (jao ja7) (jac ja7) (ja ja7) .none kV15 dc15 pm15 an15 cd15 ct15),sl15⟩) (c15:PySem.W.codeIn K cd15 "check_ranks" =true) (k15:PySem.W.keepIn K (.ref f15)=true)
  (a16:PySem.W.findIn K (.ref 268) "__init__" =some (some (.ref f16))) (i16:PySem.W.isFn K (.ref f16)=true)
  (l16:K.lookup f16=some ⟨oc16,od16,.func (PySem.W.fnOf "__init__" "House.__init__" (jao ja1) (jac ja1) (ja ja1) .none kV16 dc16 pm16 an16 cd16 ct16),sl16⟩) (c16:PySem.W.codeIn K cd16 "House.__init__" =true) (k16:PySem.W.keepIn K (.ref f16)=true)
  (a17:PySem.W.nsIn K mainGlobals "_law_at" =some (some (.ref f17)))
  (l17:K.lookup f17=some ⟨oc17,od17,.func (PySem.W.fnOf "_law_at" "_law_at" (jao jc6) (jac jc6) (ja jc6) .none kV17 dc17 pm17 an17 cd17 ct17),sl17⟩) (c17:PySem.W.codeIn K cd17 "_law_at" =true) (k17:PySem.W.keepIn K (.ref f17)=true)
  (a18:PySem.W.nsIn K mainGlobals "_law_mix" =some (some (.ref f18)))
  (l18:K.lookup f18=some ⟨oc18,od18,.func (PySem.W.fnOf "_law_mix" "_law_mix" (jao jck) (jac jck) (ja jck) .none kV18 dc18 pm18 an18 cd18 ct18),sl18⟩) (c18:PySem.W.codeIn K cd18 "_law_mix" =true) (k18:PySem.W.keepIn K (.ref f18)=true)
  (a19:PySem.W.nsIn K mainGlobals "_law_names" =some (some (.ref f19)))
  (l19:K.lookup f19=some ⟨oc19,od19,.func (PySem.W.fnOf "_law_names" "_law_names" (jao jbF) (jac jbF) (ja jbF) .none kV19 dc19 pm19 an19 cd19 ct19),sl19⟩) (c19:PySem.W.codeIn K cd19 "_law_names" =true) (k19:PySem.W.keepIn K (.ref f19)=true)
  (a20:PySem.W.nsIn K mainGlobals "_law_rising" =some (some (.ref f20)))
  (l20:K.lookup f20=some ⟨oc20,od20,.func (PySem.W.fnOf "_law_rising" "_law_rising" (jao jbo) (jac jbo) (ja jbo) .none kV20 dc20 pm20 an20 cd20 ct20),sl20⟩) (c20:PySem.W.codeIn K cd20 "_law_rising" =true) (k20:PySem.W.keepIn K (.ref f20)=true)
  (a21:PySem.W.nsIn K mainGlobals "_law_house" =some (some (.ref f21)))
  (l21:K.lookup f21=some ⟨oc21,od21,.func (PySem.W.fnOf "_law_house" "_law_house" (jao jbA) (jac jbA) (ja jbA) .none kV21 dc21 pm21 an21 cd21 ct21),sl21⟩) (c21:PySem.W.codeIn K cd21 "_law_house" =true) (k21:PySem.W.keepIn K (.ref f21)=true)
  (a22:PySem.W.nsIn K mainGlobals "_law_made" =some (some (.ref f22)))
  (l22:K.lookup f22=some ⟨oc22,od22,.func (PySem.W.fnOf "_law_made" "_law_made" (jao jbS) (jac jbS) (ja jbS) .none kV22 dc22 pm22 an22 cd22 ct22),sl22⟩) (c22:PySem.W.codeIn K cd22 "_law_made" =true) (k22:PySem.W.keepIn K (.ref f22)=true)
  (a23:PySem.W.nsIn K mainGlobals "_law_bad_name" =some (some (.ref f23)))
  (l23:K.lookup f23=some ⟨oc23,od23,.func (PySem.W.fnOf "_law_bad_name" "_law_bad_name" (jao ja3) (jac ja3) (ja ja3) .none kV23 dc23 pm23 an23 cd23 ct23),sl23⟩) (c23:PySem.W.codeIn K cd23 "_law_bad_name" =true) (k23:PySem.W.keepIn K (.ref f23)=true)
  (a24:PySem.W.nsIn K mainGlobals "_law_put" =some (some (.ref f24)))
  (l24:K.lookup f24=some ⟨oc24,od24,.func (PySem.W.fnOf "_law_put" "_law_put" (jao jcb) (jac jcb) (ja jcb) .none kV24 dc24 pm24 an24 cd24 ct24),sl24⟩) (c24:PySem.W.codeIn K cd24 "_law_put" =true) (k24:PySem.W.keepIn K (.ref f24)=true)
  (a25:PySem.W.nsIn K mainGlobals "_law_list_spoiled" =some (some (.ref f25)))
  (l25:K.lookup f25=some ⟨oc25,od25,.func (PySem.W.fnOf "_law_list_spoiled" "_law_list_spoiled" (jao jaD) (jac jaD) (ja jaD) .none kV25 dc25 pm25 an25 cd25 ct25),sl25⟩) (c25:PySem.W.codeIn K cd25 "_law_list_spoiled" =true) (k25:PySem.W.keepIn K (.ref f25)=true)
  (a26:PySem.W.nsIn K mainGlobals "_law_spoiled" =some (some (.ref f26)))
  (l26:K.lookup f26=some ⟨oc26,od26,.func (PySem.W.fnOf "_law_spoiled" "_law_spoiled" (jao jbd) (jac jbd) (ja jbd) .none kV26 dc26 pm26 an26 cd26 ct26),sl26⟩) (c26:PySem.W.codeIn K cd26 "_law_spoiled" =true) (k26:PySem.W.keepIn K (.ref f26)=true)
  (a27:PySem.W.nsIn K mainGlobals "_law_refused" =some (some (.ref f27)))
  (l27:K.lookup f27=some ⟨oc27,od27,.func (PySem.W.fnOf "_law_refused" "_law_refused" (jao jbs) (jac jbs) (ja jbs) .none kV27 dc27 pm27 an27 cd27 ct27),sl27⟩) (c27:PySem.W.codeIn K cd27 "_law_refused" =true) (k27:PySem.W.keepIn K (.ref f27)=true)
  (aX0:PySem.W.nsIn K mainGlobals "PurseError" =some (some (.ref x0)))
  (aX1:PySem.W.nsIn K mainGlobals "BadHouse" =some (some (.ref x1)))
  (aX2:PySem.W.nsIn K mainGlobals "BadBook" =some (some (.ref x2)))
  (aX3:PySem.W.nsIn K mainGlobals "BadDeed" =some (some (.ref x3)))
  (aX4:PySem.W.nsIn K mainGlobals "BadText" =some (some (.ref x4)))
  (aX5:PySem.W.nsIn K mainGlobals "NoDeed" =some (some (.ref x5)))
  (aX6:PySem.W.nsIn K mainGlobals "NoRate" =some (some (.ref x6)))
  (aX7:PySem.W.nsIn K mainGlobals "NotOver" =some (some (.ref x7)))
  (aX8:PySem.W.nsIn K mainGlobals "TooFew" =some (some (.ref x8)))
  (aX9:PySem.W.nsIn K mainGlobals "Twice" =some (some (.ref x9)))
  (aX10:PySem.W.nsIn K mainGlobals "WrongDay" =some (some (.ref x10)))
  (aV:PySem.W.nsIn K mainGlobals "ValueError" =some none)
  (aR:RefOk K x1 x0 [x2,x3,x4,x5,x6,x7,x8,x9,x10])
  (a28:PySem.W.nsIn K mainGlobals "law" =some (some (.ref f28)))
  (l28:K.lookup f28=some ⟨oc28,od28,.func (PySem.W.fnOf "law" "law" (jao jgk) (jac jgk) (ja jgk) .none kV28 dc28 pm28 an28 cd28 ct28),sl28⟩) (c28:PySem.W.codeIn K cd28 "law" =true) (k28:PySem.W.keepIn K (.ref f28)=true)
  (aD1:PySem.W.nsIn K mainGlobals "LONGEST_NAME" =some (some (.int 8 tD1)))
  (aCHouse:PySem.W.nsIn K mainGlobals "House" =some (some (.ref 268)))
  (pgHouse:PySem.W.plainGet K 268 Str.empty=true) (hdHouse:PySem.W.hasDictIn K 268=true) (poHouse:PySem.W.plainOver K 268=true) (saHouse:PySem.W.findIn K (.ref 268) "__setattr__" =some (some (.builtin "object.__setattr__"))) (mkHouse:PySem.W.makesIn K 268=true) (kcHouse:PySem.W.keepIn K (.ref 268)=true)
  (nHouse1:PySem.W.findIn K (.ref 268) "name" =some none)
  (nHouse2:PySem.W.findIn K (.ref 268) "share" =some none)
  (nHouse3:PySem.W.findIn K (.ref 268) "kinds" =some none)
  (nHouse4:PySem.W.findIn K (.ref 268) "steps" =some none)
  (nHouse5:PySem.W.findIn K (.ref 268) "doubles" =some none)
  (nHouse6:PySem.W.findIn K (.ref 268) "cap" =some none)
  (nHouse7:PySem.W.findIn K (.ref 268) "age" =some none)
  (nHouse8:PySem.W.findIn K (.ref 268) "rest" =some none)
  (nHouse9:PySem.W.findIn K (.ref 268) "ranks" =some none)
  (nHouse10:PySem.W.findIn K (.ref 268) "span" =some none)
  (nHouse11:PySem.W.findIn K (.ref 268) "grace" =some none)
  (z1:PySem.W.nsIn K mainGlobals "len" =some none)
  (z2:PySem.W.nsIn K mainGlobals "sum" =some none)
  (z3:PySem.W.nsIn K mainGlobals "min" =some none)
  (z4:PySem.W.nsIn K mainGlobals "max" =some none)
  (z5:PySem.W.nsIn K mainGlobals "list" =some none)
  (z6:PySem.W.nsIn K mainGlobals "tuple" =some none)
  (z7:PySem.W.nsIn K mainGlobals "int" =some none)
  (z8:PySem.W.nsIn K mainGlobals "all" =some none)
  (z9:PySem.W.nsIn K mainGlobals "isinstance" =some none)
  (z10:PySem.W.nsIn K mainGlobals "range" =some none)
  (z11:PySem.W.nsIn K mainGlobals "str" =some none)
  (z12:PySem.W.nsIn K mainGlobals "enumerate" =some none)
  (z13:PySem.W.nsIn K mainGlobals "zip" =some none)
  (z14:PySem.W.nsIn K mainGlobals "bool" =some none)
  (z15:PySem.W.nsIn K mainGlobals "dict" =some none)
  (z16:PySem.W.nsIn K mainGlobals "set" =some none) :
  ∃fd:FuncData,(∀(s:Shared) (v:Value),BindsTo s fd ⟨[v],[]⟩ [("_law_script",v)])/\∀base:Heap,K.In base->base.Ns mainGlobals mg->FnOk l.prog w K mg base CX0 9 fa fd ["_law_script"] (spLaw K):=by
 have e:=hfa.symm.trans (PySem.W.mg_of X G a28)
 cases e
 have hm:∀x∈jc2,mg x=none:=by
  intro x hx
  rcases List.mem_cons.mp hx with e|hx
  ·rw[e];exact PySem.W.mg_none_of X G z1
  rcases List.mem_cons.mp hx with e|hx
  ·rw[e];exact PySem.W.mg_none_of X G z2
  rcases List.mem_cons.mp hx with e|hx
  ·rw[e];exact PySem.W.mg_none_of X G z3
  rcases List.mem_cons.mp hx with e|hx
  ·rw[e];exact PySem.W.mg_none_of X G z4
  rcases List.mem_cons.mp hx with e|hx
  ·rw[e];exact PySem.W.mg_none_of X G z5
  rcases List.mem_cons.mp hx with e|hx
  ·rw[e];exact PySem.W.mg_none_of X G z6
  rcases List.mem_cons.mp hx with e|hx
  ·rw[e];exact PySem.W.mg_none_of X G z7
  rcases List.mem_cons.mp hx with e|hx
  ·rw[e];exact PySem.W.mg_none_of X G z8
  rcases List.mem_cons.mp hx with e|hx
  ·rw[e];exact PySem.W.mg_none_of X G z9
  rcases List.mem_cons.mp hx with e|hx
  ·rw[e];exact PySem.W.mg_none_of X G z10
  rcases List.mem_cons.mp hx with e|hx
  ·rw[e];exact PySem.W.mg_none_of X G z11
  rcases List.mem_cons.mp hx with e|hx
  ·rw[e];exact PySem.W.mg_none_of X G z12
  rcases List.mem_cons.mp hx with e|hx
  ·rw[e];exact PySem.W.mg_none_of X G z13
  rcases List.mem_cons.mp hx with e|hx
  ·rw[e];exact PySem.W.mg_none_of X G z14
  rcases List.mem_cons.mp hx with e|hx
  ·rw[e];exact PySem.W.mg_none_of X G z15
  rcases List.mem_cons.mp hx with e|hx
  ·rw[e];exact PySem.W.mg_none_of X G z16
  cases hx
 have C_LONGEST_NAME:jkA K w mg jbT.name (Option.get jbT.dat rfl):=⟨_,.int 8,PySem.W.mg_of X G aD1,⟨_,rfl⟩,fun _ _=>by unfold Den;rfl⟩
 have hNHouse:∀f∈(["name","share","kinds","steps","doubles","cap","age","rest","ranks","span","grace"]:List Str),jeb K 268 f:=by
  intro f hf
  rcases List.mem_cons.mp hf with e|hf
  ·rw[e];exact nHouse1
  rcases List.mem_cons.mp hf with e|hf
  ·rw[e];exact nHouse2
  rcases List.mem_cons.mp hf with e|hf
  ·rw[e];exact nHouse3
  rcases List.mem_cons.mp hf with e|hf
  ·rw[e];exact nHouse4
  rcases List.mem_cons.mp hf with e|hf
  ·rw[e];exact nHouse5
  rcases List.mem_cons.mp hf with e|hf
  ·rw[e];exact nHouse6
  rcases List.mem_cons.mp hf with e|hf
  ·rw[e];exact nHouse7
  rcases List.mem_cons.mp hf with e|hf
  ·rw[e];exact nHouse8
  rcases List.mem_cons.mp hf with e|hf
  ·rw[e];exact nHouse9
  rcases List.mem_cons.mp hf with e|hf
  ·rw[e];exact nHouse10
  rcases List.mem_cons.mp hf with e|hf
  ·rw[e];exact nHouse11
  cases hf
 have C_House:jkA K w mg jcJ.name (Option.get jcJ.dat rfl):=⟨PySem.W.mg_of X G aCHouse,⟨pgHouse,hdHouse,poHouse,saHouse⟩,hNHouse⟩
 have C0_House:jkA K w mg jhy.name (Option.get jhy.dat rfl):=⟨PySem.W.mg_of X G aCHouse,⟨pgHouse,hdHouse,poHouse,saHouse⟩,hNHouse⟩
 have F1:=ja5 (st:=jbE) l1 c1 k1
 have b1:=F1.binds (ps:=["value","least"]) fun _ _ _ _ _ _ us hl=>by obtain⟨_,_,rfl⟩:=jpH hl;rfl
 have F2:=ja5 (st:=jcf) l2 c2 k2
 have b2:=F2.binds (ps:=["value"]) fun _ _ _ _ _ _ us hl=>by obtain⟨_,rfl⟩:=jkq hl;rfl
 have F3:=ja5 (st:=ja8) l3 c3 k3
 have b3:=F3.binds (ps:=["value","many"]) fun _ _ _ _ _ _ us hl=>by obtain⟨_,_,rfl⟩:=jpH hl;rfl
 have F4:=ja5 (st:=jbr) l4 c4 k4
 have b4:=F4.binds (ps:=["values"]) fun _ _ _ _ _ _ us hl=>by obtain⟨_,rfl⟩:=jkq hl;rfl
 have F5:=ja5 (st:=jbk) l5 c5 k5
 have b5:=F5.binds (ps:=["numbers"]) fun _ _ _ _ _ _ us hl=>by obtain⟨_,rfl⟩:=jkq hl;rfl
 have F6:=ja5 (st:=jcc) l6 c6 k6
 have b6:=F6.binds (ps:=["text"]) fun _ _ _ _ _ _ us hl=>by obtain⟨_,rfl⟩:=jkq hl;rfl
 have F7:=ja5 (st:=jcW) l7 c7 k7
 have b7:=F7.binds (ps:=["holds","words"]) fun _ _ _ _ _ _ us hl=>by obtain⟨_,_,rfl⟩:=jpH hl;rfl
 have F8:=ja5 (st:=jaz) l8 c8 k8
 have b8:=F8.binds (ps:=["value","least"]) fun _ _ _ _ _ _ us hl=>by obtain⟨_,_,rfl⟩:=jpH hl;rfl
 have F9:=ja5 (st:=jbl) l9 c9 k9
 have b9:=F9.binds (ps:=["value","many","words"]) fun _ _ _ _ _ _ us hl=>by obtain⟨_,_,_,rfl⟩:=jvS hl;rfl
 have F10:=ja5 (st:=jbe) l10 c10 k10
 have b10:=F10.binds (ps:=["share"]) fun _ _ _ _ _ _ us hl=>by obtain⟨_,rfl⟩:=jkq hl;rfl
 have F11:=ja5 (st:=jba) l11 c11 k11
 have b11:=F11.binds (ps:=["kinds"]) fun _ _ _ _ _ _ us hl=>by obtain⟨_,rfl⟩:=jkq hl;rfl
 have F12:=ja5 (st:=ja2) l12 c12 k12
 have b12:=F12.binds (ps:=["pairs","lowest","words"]) fun _ _ _ _ _ _ us hl=>by obtain⟨_,_,_,rfl⟩:=jvS hl;rfl
 have F13:=ja5 (st:=jbb) l13 c13 k13
 have b13:=F13.binds (ps:=["steps"]) fun _ _ _ _ _ _ us hl=>by obtain⟨_,rfl⟩:=jkq hl;rfl
 have F14:=ja5 (st:=jaU) l14 c14 k14
 have b14:=F14.binds (ps:=["doubles"]) fun _ _ _ _ _ _ us hl=>by obtain⟨_,rfl⟩:=jkq hl;rfl
 have F15:=ja5 (st:=ja7) l15 c15 k15
 have b15:=F15.binds (ps:=["ranks"]) fun _ _ _ _ _ _ us hl=>by obtain⟨_,rfl⟩:=jkq hl;rfl
 have F16:=ja5 (st:=ja1) l16 c16 k16
 have b16:=F16.binds (ps:=["self","name","share","kinds","steps","doubles","cap","age","rest","ranks","span","grace"]) fun _ _ _ _ _ _ us hl=>by obtain⟨_,_,_,_,_,_,_,_,_,_,_,_,rfl⟩:=jv1 hl;rfl
 have F17:=ja5 (st:=jc6) l17 c17 k17
 have b17:=F17.binds (ps:=["_law_script","_law_k"]) fun _ _ _ _ _ _ us hl=>by obtain⟨_,_,rfl⟩:=jpH hl;rfl
 have F18:=ja5 (st:=jck) l18 c18 k18
 have b18:=F18.binds (ps:=["_law_cell","_law_k"]) fun _ _ _ _ _ _ us hl=>by obtain⟨_,_,rfl⟩:=jpH hl;rfl
 have F19:=ja5 (st:=jbF) l19 c19 k19
 have b19:=F19.binds (ps:=["_law_cell","_law_many"]) fun _ _ _ _ _ _ us hl=>by obtain⟨_,_,rfl⟩:=jpH hl;rfl
 have F20:=ja5 (st:=jbo) l20 c20 k20
 have b20:=F20.binds (ps:=["_law_cell","_law_k","_law_many","_law_least"]) fun _ _ _ _ _ _ us hl=>by obtain⟨_,_,_,_,rfl⟩:=jxz hl;rfl
 have F21:=ja5 (st:=jbA) l21 c21 k21
 have b21:=F21.binds (ps:=["_law_script"]) fun _ _ _ _ _ _ us hl=>by obtain⟨_,rfl⟩:=jkq hl;rfl
 have F22:=ja5 (st:=jbS) l22 c22 k22
 have b22:=F22.binds (ps:=["_law_row"]) fun _ _ _ _ _ _ us hl=>by obtain⟨_,rfl⟩:=jkq hl;rfl
 have F23:=ja5 (st:=ja3) l23 c23 k23
 have b23:=F23.binds (ps:=["_law_m"]) fun _ _ _ _ _ _ us hl=>by obtain⟨_,rfl⟩:=jkq hl;rfl
 have F24:=ja5 (st:=jcb) l24 c24 k24
 have b24:=F24.binds (ps:=["_law_some","_law_m","_law_one"]) fun _ _ _ _ _ _ us hl=>by obtain⟨_,_,_,rfl⟩:=jvS hl;rfl
 have F25:=ja5 (st:=jaD) l25 c25 k25
 have b25:=F25.binds (ps:=["_law_row","_law_way","_law_m"]) fun _ _ _ _ _ _ us hl=>by obtain⟨_,_,_,rfl⟩:=jvS hl;rfl
 have F26:=ja5 (st:=jbd) l26 c26 k26
 have b26:=F26.binds (ps:=["_law_row","_law_cell"]) fun _ _ _ _ _ _ us hl=>by obtain⟨_,_,rfl⟩:=jpH hl;rfl
 have F27:=ja5 (st:=jbs) l27 c27 k27
 have b27:=F27.binds (ps:=["_law_row"]) fun _ _ _ _ _ _ us hl=>by obtain⟨_,rfl⟩:=jkq hl;rfl
 have hcs:[("BadBook" : Str),("BadDeed" : Str),("BadText" : Str),("NoDeed" : Str),("NoRate" : Str),("NotOver" : Str),("TooFew" : Str),("Twice" : Str),("WrongDay" : Str)].map mg=[x2,x3,x4,x5,x6,x7,x8,x9,x10].map (fun a=>some (Value.ref a)):=by simp only[List.map_cons,List.map_nil,PySem.W.mg_of X G aX2,PySem.W.mg_of X G aX3,PySem.W.mg_of X G aX4,PySem.W.mg_of X G aX5,PySem.W.mg_of X G aX6,PySem.W.mg_of X G aX7,PySem.W.mg_of X G aX8,PySem.W.mg_of X G aX9,PySem.W.mg_of X G aX10]
 have F28:=ja5 (st:=jgk) l28 c28 k28
 refine⟨PySem.W.fnOf "law" "law" (jao jgk) (jac jgk) (ja jgk) .none kV28 dc28 pm28 an28 cd28 ct28,fun s v=>.of_eq rfl,fun base _ _=>?_⟩
 have C_is_number:Callee l.prog w K mg base jaB.lv jaB.name jaB.ps (jdi K jaB.ps.length jaB.F):=⟨f1,_,jb0 F1 jhO (jaI hm) ji9,PySem.W.mg_of X G a1,k1,b1⟩
 have C_is_list:Callee l.prog w K mg base jcm.lv jcm.name jcm.ps (jdi K jcm.ps.length jcm.F):=⟨f2,_,jb0 F2 jkg (jaI hm) jm,PySem.W.mg_of X G a2,k2,b2⟩
 have C_is_tuple_of:Callee l.prog w K mg base jaY.lv jaY.name jaY.ps (jdi K jaY.ps.length jaY.F):=⟨f3,_,jb0 F3 jgn (jaI hm) jha,PySem.W.mg_of X G a3,k3,b3⟩
 have C_are_unlike:Callee l.prog w K mg base jbp.lv jbp.name jbp.ps (jdi K jbp.ps.length jbp.F):=⟨f4,_,jb0 F4 jgZ (jaI hm) jie,PySem.W.mg_of X G a4,k4,b4⟩
 have C_are_rising:Callee l.prog w K mg base jbm.lv jbm.name jbm.ps (jdi K jbm.ps.length jbm.F):=⟨f5,_,jb0 F5 jgW (jaI hm) jhM,PySem.W.mg_of X G a5,k5,b5⟩
 have C_is_name:Callee l.prog w K mg base jbM.lv jbM.name jbM.ps (jdi K jbM.ps.length jbM.F):=⟨f6,_,jb0 F6 jkb (jhj (by decide) C_LONGEST_NAME (jaI hm)) jl9,PySem.W.mg_of X G a6,k6,b6⟩
 have CY_demand:CalleeX l.prog w K mg base jaP.lv jaP.name jaP.ps (spY K mg jaP.ps.length jaP.F):=⟨f7,_,jdU F7 jm3 (jaI hm) (jbV) (jbU) (ji4 (PySem.W.mg_of X G aX1) aR.c (jbg)) jnY,PySem.W.mg_of X G a7,k7,b7⟩
 have C_demand:Callee l.prog w K mg base jaP.lv jaP.name jaP.ps (jdi K jaP.ps.length jaP.F):=CY_demand.toC
 have C_is_number_or_none:Callee l.prog w K mg base jay.lv jay.name jay.ps (jdi K jay.ps.length jay.F):=⟨f8,_,jb0 F8 jdO (jad rfl C_is_number (jaI hm)) jd4,PySem.W.mg_of X G a8,k8,b8⟩
 have CY_check_list:CalleeX l.prog w K mg base jaq.lv jaq.name jaq.ps (spY K mg jaq.ps.length jaq.F):=⟨f9,_,jdU F9 jhx (jad rfl C_demand (jad rfl C_is_list (jad rfl C_is_tuple_of (jaI hm)))) (jaG (i:=0) rfl CY_demand (jbV)) (jap rfl (jap rfl (jap rfl (jbU)))) (jbg) jiq,PySem.W.mg_of X G a9,k9,b9⟩
 have C_check_list:Callee l.prog w K mg base jaq.lv jaq.name jaq.ps (jdi K jaq.ps.length jaq.F):=CY_check_list.toC
 have CY_check_share:CalleeX l.prog w K mg base jaw.lv jaw.name jaw.ps (spY K mg jaw.ps.length jaw.F):=⟨f10,_,jdU F10 jgt (jad rfl C_demand (jad rfl C_is_tuple_of (jad rfl C_is_number (jaI hm)))) (jaG (i:=0) rfl CY_demand (jbV)) (jap rfl (jap rfl (jap rfl (jbU)))) (jbg) jg3,PySem.W.mg_of X G a10,k10,b10⟩
 have C_check_share:Callee l.prog w K mg base jaw.lv jaw.name jaw.ps (jdi K jaw.ps.length jaw.F):=CY_check_share.toC
 have CY_check_kinds:CalleeX l.prog w K mg base jav.lv jav.name jav.ps (spY K mg jav.ps.length jav.F):=⟨f11,_,jdU F11 jge (jad rfl C_check_list (jad rfl C_demand (jad rfl C_is_name (jad rfl C_is_number (jad rfl C_are_unlike (jaI hm)))))) (jaG (i:=0) rfl CY_check_list (jaG (i:=1) rfl CY_demand (jbV))) (jap rfl (jap rfl (jap rfl (jap rfl (jap rfl (jbU)))))) (jbg) jho,PySem.W.mg_of X G a11,k11,b11⟩
 have C_check_kinds:Callee l.prog w K mg base jav.lv jav.name jav.ps (jdi K jav.ps.length jav.F):=CY_check_kinds.toC
 have CY_check_leasts:CalleeX l.prog w K mg base jam.lv jam.name jam.ps (spY K mg jam.ps.length jam.F):=⟨f12,_,jdU F12 jfU (jad rfl C_check_list (jad rfl C_demand (jad rfl C_is_number (jad rfl C_are_rising (jaI hm))))) (jaG (i:=0) rfl CY_check_list (jaG (i:=1) rfl CY_demand (jbV))) (jap rfl (jap rfl (jap rfl (jap rfl (jbU))))) (jbg) jgr,PySem.W.mg_of X G a12,k12,b12⟩
 have C_check_leasts:Callee l.prog w K mg base jam.lv jam.name jam.ps (jdi K jam.ps.length jam.F):=CY_check_leasts.toC
 have CY_check_steps:CalleeX l.prog w K mg base jat.lv jat.name jat.ps (spY K mg jat.ps.length jat.F):=⟨f13,_,jdU F13 jgf (jad rfl C_check_leasts (jad rfl C_demand (jad rfl C_is_number (jaI hm)))) (jaG (i:=0) rfl CY_check_leasts (jaG (i:=1) rfl CY_demand (jbV))) (jap rfl (jap rfl (jap rfl (jbU)))) (jbg) jg8,PySem.W.mg_of X G a13,k13,b13⟩
 have C_check_steps:Callee l.prog w K mg base jat.lv jat.name jat.ps (jdi K jat.ps.length jat.F):=CY_check_steps.toC
 have CY_check_doubles:CalleeX l.prog w K mg base jal.lv jal.name jal.ps (spY K mg jal.ps.length jal.F):=⟨f14,_,jdU F14 je6 (jad rfl C_check_list (jad rfl C_demand (jad rfl C_is_number (jaI hm)))) (jaG (i:=0) rfl CY_check_list (jaG (i:=1) rfl CY_demand (jbV))) (jap rfl (jap rfl (jap rfl (jbU)))) (jbg) jfJ,PySem.W.mg_of X G a14,k14,b14⟩
 have C_check_doubles:Callee l.prog w K mg base jal.lv jal.name jal.ps (jdi K jal.ps.length jal.F):=CY_check_doubles.toC
 have CY_check_ranks:CalleeX l.prog w K mg base jau.lv jau.name jau.ps (spY K mg jau.ps.length jau.F):=⟨f15,_,jdU F15 jgl (jad rfl C_check_leasts (jad rfl C_demand (jad rfl C_is_name (jaI hm)))) (jaG (i:=0) rfl CY_check_leasts (jaG (i:=1) rfl CY_demand (jbV))) (jap rfl (jap rfl (jap rfl (jbU)))) (jbg) jg2,PySem.W.mg_of X G a15,k15,b15⟩
 have C_check_ranks:Callee l.prog w K mg base jau.lv jau.name jau.ps (jdi K jau.ps.length jau.F):=CY_check_ranks.toC
 have M_House:MakerX l.prog w K mg base 5 jcJ.name 268 jcJ.ps (spY K mg jcJ.ps.length jcJ.F):=⟨f16,_,⟨mkHouse,a16,i16,kcHouse⟩,jdU F16 jfx (jad rfl C_demand (jad rfl C_is_name (jad rfl C_check_share (jad rfl C_check_kinds (jad rfl C_check_steps (jad rfl C_check_doubles (jad rfl C_is_number_or_none (jad rfl C_check_ranks (jad rfl C_is_number (jhj (by decide) C0_House (jaI hm))))))))))) (jaG (i:=0) rfl CY_demand (jaG (i:=2) rfl CY_check_share (jaG (i:=3) rfl CY_check_kinds (jaG (i:=4) rfl CY_check_steps (jaG (i:=5) rfl CY_check_doubles (jaG (i:=7) rfl CY_check_ranks (jbV))))))) (jap rfl (jap rfl (jap rfl (jap rfl (jap rfl (jap rfl (jap rfl (jap rfl (jap rfl (jnD rfl (by decide) (jbU))))))))))) (jbg) jgu,PySem.W.mg_of X G aCHouse,b16⟩
 have C_law_at:Callee l.prog w K mg base jcq.lv jcq.name jcq.ps (jdi K jcq.ps.length jcq.F):=⟨f17,_,jb0 F17 jmf (jaI hm) jn2,PySem.W.mg_of X G a17,k17,b17⟩
 have C_law_mix:Callee l.prog w K mg base jbw.lv jbw.name jbw.ps (jdi K jbw.ps.length jbw.F):=⟨f18,_,jb0 F18 jkE (jaI hm) jk4,PySem.W.mg_of X G a18,k18,b18⟩
 have C_law_names:Callee l.prog w K mg base ja6.lv ja6.name ja6.ps (jdi K ja6.ps.length ja6.F):=⟨f19,_,jb0 F19 jig (jad rfl C_law_mix (jaI hm)) jiY,PySem.W.mg_of X G a19,k19,b19⟩
 have C_law_rising:Callee l.prog w K mg base jbn.lv jbn.name jbn.ps (jdi K jbn.ps.length jbn.F):=⟨f20,_,jb0 F20 jhl (jad rfl C_law_mix (jaI hm)) jik,PySem.W.mg_of X G a20,k20,b20⟩
 have C_law_house:Callee l.prog w K mg base jbG.lv jbG.name jbG.ps (jdi K jbG.ps.length jbG.F):=⟨f21,_,jb0 F21 jhR (jad rfl C_law_mix (jad rfl C_law_at (jad rfl C_law_names (jad rfl C_law_rising (jaI hm))))) jiI,PySem.W.mg_of X G a21,k21,b21⟩
 have CY_law_made:CalleeX l.prog w K mg base jaX.lv jaX.name jaX.ps (spY K mg jaX.ps.length jaX.F):=⟨f22,_,jdU F22 jiU (jhj (by decide) C_House (jaI hm)) (jbV) (joV rfl M_House (jbU)) (jbg) jkm,PySem.W.mg_of X G a22,k22,b22⟩
 have C_law_made:Callee l.prog w K mg base jaX.lv jaX.name jaX.ps (jdi K jaX.ps.length jaX.F):=CY_law_made.toC
 have C_law_bad_name:Callee l.prog w K mg base jaQ.lv jaQ.name jaQ.ps (jdi K jaQ.ps.length jaQ.F):=⟨f23,_,jb0 F23 jf9 (jaI hm) jgv,PySem.W.mg_of X G a23,k23,b23⟩
 have C_law_put:Callee l.prog w K mg base jcl.lv jcl.name jcl.ps (jdi K jcl.ps.length jcl.F):=⟨f24,_,jb0 F24 jkw (jaI hm) jmh,PySem.W.mg_of X G a24,k24,b24⟩
 have C_law_list_spoiled:Callee l.prog w K mg base jar.lv jar.name jar.ps (jdi K jar.ps.length jar.F):=⟨f25,_,jb0 F25 jd8 (jad rfl C_law_put (jad rfl C_law_bad_name (jaI hm))) jet,PySem.W.mg_of X G a25,k25,b25⟩
 have C_law_spoiled:Callee l.prog w K mg base jb.lv jb.name jb.ps (jdi K jb.ps.length jb.F):=⟨f26,_,jb0 F26 jgj (jad rfl C_law_mix (jad rfl C_law_bad_name (jad rfl C_law_list_spoiled (jaI hm)))) jhv,PySem.W.mg_of X G a26,k26,b26⟩
 have CX_law_made:CalleeX l.prog w K mg base 7 "_law_made" ["_law_row"] (spX K mg 1 jbH):=CY_law_made.toX
 have C_law_refused:Callee l.prog w K mg base ja9.lv ja9.name ja9.ps (jdi K ja9.ps.length ja9.F):=⟨f27,_,jgc F27 CX_law_made aR (PySem.W.mg_of X G aX0) (hm "isinstance" (by decide)) (PySem.W.mg_of X G aX1) (PySem.W.mg_none_of X G aV) hcs,PySem.W.mg_of X G a27,k27,b27⟩
 exact jsC (jb0 F28 jvq (jad rfl C_law_house (jad rfl C_law_made (jhj (by decide) C_House (jad rfl C_law_refused (jad rfl C_law_spoiled (jaI hm)))))) jwn) jnt
end _K03
open PySem PySem.W PyProof.Rows
 def PySem.W.Fast.tw13011771064273387267:Unit:=()
 def PySem.W.Fast.tw16614365347548595876:Unit:=()
 def PySem.W.Fast.tw2755044553264249511:Unit:=()
 def PySem.W.Fast.tw1161717807065553581:Unit:=()
 def PySem.W.Fast.tw4438671679734406721:Unit:=()
 def PySem.W.Fast.tw10315814847767897482:Unit:=()
 def PySem.W.Fast.tw17208682078066101756:Unit:=()
 def PySem.W.Fast.tw3047290293805980850:Unit:=()
 def PySem.W.Fast.tw16958071219818003917:Unit:=()
 def PySem.W.Fast.tw9444563168351322133:Unit:=()
 def PySem.W.Fast.tw1800374267596159529:Unit:=()
 def PySem.W.Fast.tw1457026970075226186:Unit:=()
 def PySem.W.Fast.tw4637149053682728760:Unit:=()
 def PySem.W.Fast.tw11770749978397607021:Unit:=()
 def PySem.W.Fast.tw433766287965342107:Unit:=()
 def PySem.W.Fast.tw9062302518599884164:Unit:=()
 def PySem.W.Fast.tw3563987208464880413:Unit:=()
 def PySem.W.Fast.tw2753796989363096256:Unit:=()
 def PySem.W.Fast.tw10892195595525068896:Unit:=()
 def PySem.W.Fast.tw12028414767861113805:Unit:=()
 def PySem.W.Fast.tw7990756285835948051:Unit:=()
 def PySem.W.Fast.tw37178872287574295:Unit:=()
 def PySem.W.Fast.tw9873470520583792538:Unit:=()
 def PySem.W.Fast.tw17574140503097914219:Unit:=()
 def PySem.W.Fast.tw14973855591509730095:Unit:=()
 def PySem.W.Fast.tw3681846941905321665:Unit:=()
 def PySem.W.Fast.tw17709981642770417813:Unit:=()
 def PySem.W.Fast.tw5252899817858158465:Unit:=()
 def PySem.W.Fast.tw1715343107888995364:Unit:=()
 def PySem.W.Fast.tw230957039972075668:Unit:=()
 def PySem.W.Fast.tw8918614557706776459:Unit:=()
 def PySem.W.Fast.tw13328574716142308789:Unit:=()
 def PySem.W.Fast.tw2758333077175666575:Unit:=()
 def PySem.W.Fast.tw6202626288358071039:Unit:=()
 def PySem.W.Fast.tw1751146713360792939:Unit:=()
 def PySem.W.Fast.tw12562876291778125398:Unit:=()
 def PySem.W.Fast.tw16747400819447013828:Unit:=()
 def PySem.W.Fast.tw15208723601399823486:Unit:=()
 def PySem.W.Fast.tw4410095846216475044:Unit:=()
 def PySem.W.Fast.tw9985654566416440057:Unit:=()
 def PySem.W.Fast.tw6886948362973985295:Unit:=()
 def PySem.W.Fast.tw9325108483958699144:Unit:=()
 def PySem.W.Fast.tw4856153338940037714:Unit:=()
 def PySem.W.Fast.tw5777137706205631315:Unit:=()
 def PySem.W.Fast.tw11209720360138202061:Unit:=()
 def PySem.W.Fast.tw11241939870350407419:Unit:=()
 def PySem.W.Fast.tw6304838420059122898:Unit:=()
 def PySem.W.Fast.tw3716233627480617335:Unit:=()
 def PySem.W.Fast.tw17359323395373309951:Unit:=()
 def PySem.W.Fast.tw3397624479929829900:Unit:=()
 def PySem.W.Fast.tw12367154079832620875:Unit:=()
 def PySem.W.Fast.tw3529138297534158737:Unit:=()
 def PySem.W.Fast.tw15820023680139961011:Unit:=()
set_option compiler.extract_closed true
 def _K03.zb:List PySem.Stmt:=PySem.Challenge.pw_pointpurse_k03_houses_refused.main.body
 def _K03.zN:PySem.Stmt:=.Pass ⟨0,0,0,0⟩
 def _K03.zs0:PySem.Stmt:=_K03.zb.getD 0 _K03.zN
 def _K03.zs1:PySem.Stmt:=_K03.zb.getD 1 _K03.zN
 def _K03.zs2:PySem.Stmt:=_K03.zb.getD 2 _K03.zN
 def _K03.zs3:PySem.Stmt:=_K03.zb.getD 3 _K03.zN
 def _K03.zs4:PySem.Stmt:=_K03.zb.getD 4 _K03.zN
 def _K03.zs5:PySem.Stmt:=_K03.zb.getD 5 _K03.zN
 def _K03.zs6:PySem.Stmt:=_K03.zb.getD 6 _K03.zN
 def _K03.zs7:PySem.Stmt:=_K03.zb.getD 7 _K03.zN
 def _K03.zs8:PySem.Stmt:=_K03.zb.getD 8 _K03.zN
 def _K03.zs9:PySem.Stmt:=_K03.zb.getD 9 _K03.zN
 def _K03.zs10:PySem.Stmt:=_K03.zb.getD 10 _K03.zN
 def _K03.zs11:PySem.Stmt:=_K03.zb.getD 11 _K03.zN
 def _K03.zs12:PySem.Stmt:=_K03.zb.getD 12 _K03.zN
 def _K03.zs13:PySem.Stmt:=_K03.zb.getD 13 _K03.zN
 def _K03.zs14:PySem.Stmt:=_K03.zb.getD 14 _K03.zN
 def _K03.zs15:PySem.Stmt:=_K03.zb.getD 15 _K03.zN
 def _K03.zs16:PySem.Stmt:=_K03.zb.getD 16 _K03.zN
 def _K03.zs17:PySem.Stmt:=_K03.zb.getD 17 _K03.zN
 def _K03.zs18:PySem.Stmt:=_K03.zb.getD 18 _K03.zN
 def _K03.zs19:PySem.Stmt:=_K03.zb.getD 19 _K03.zN
 def _K03.zs20:PySem.Stmt:=_K03.zb.getD 20 _K03.zN
 def _K03.zs21:PySem.Stmt:=_K03.zb.getD 21 _K03.zN
 def _K03.zs22:PySem.Stmt:=_K03.zb.getD 22 _K03.zN
 def _K03.zs23:PySem.Stmt:=_K03.zb.getD 23 _K03.zN
 def _K03.zs24:PySem.Stmt:=_K03.zb.getD 24 _K03.zN
 def _K03.zs25:PySem.Stmt:=_K03.zb.getD 25 _K03.zN
 def _K03.zs26:PySem.Stmt:=_K03.zb.getD 26 _K03.zN
 def _K03.zs27:PySem.Stmt:=_K03.zb.getD 27 _K03.zN
 def _K03.zs28:PySem.Stmt:=_K03.zb.getD 28 _K03.zN
 def _K03.zs29:PySem.Stmt:=_K03.zb.getD 29 _K03.zN
 def _K03.zs30:PySem.Stmt:=_K03.zb.getD 30 _K03.zN
 def _K03.zs31:PySem.Stmt:=_K03.zb.getD 31 _K03.zN
 def _K03.zs32:PySem.Stmt:=_K03.zb.getD 32 _K03.zN
 def _K03.zs33:PySem.Stmt:=_K03.zb.getD 33 _K03.zN
 def _K03.zs34:PySem.Stmt:=_K03.zb.getD 34 _K03.zN
 def _K03.zs35:PySem.Stmt:=_K03.zb.getD 35 _K03.zN
 def _K03.zs36:PySem.Stmt:=_K03.zb.getD 36 _K03.zN
 def _K03.zs37:PySem.Stmt:=_K03.zb.getD 37 _K03.zN
 def _K03.zs38:PySem.Stmt:=_K03.zb.getD 38 _K03.zN
 def _K03.zs39:PySem.Stmt:=_K03.zb.getD 39 _K03.zN
 def _K03.zs40:PySem.Stmt:=_K03.zb.getD 40 _K03.zN
 def _K03.zs41:PySem.Stmt:=_K03.zb.getD 41 _K03.zN
 def _K03.zs42:PySem.Stmt:=_K03.zb.getD 42 _K03.zN
 def _K03.zs43:PySem.Stmt:=_K03.zb.getD 43 _K03.zN
 def _K03.zp:PySem.Program:={PySem.Challenge.pw_pointpurse_k03_houses_refused with main:={PySem.Challenge.pw_pointpurse_k03_houses_refused.main with body:=[_K03.zs0,_K03.zs1,_K03.zs2,_K03.zs3,_K03.zs4,_K03.zs5,_K03.zs6,_K03.zs7,_K03.zs8,_K03.zs9,_K03.zs10,_K03.zs11,_K03.zs12,_K03.zs13,_K03.zs14,_K03.zs15,_K03.zs16,_K03.zs17,_K03.zs18,_K03.zs19,_K03.zs20,_K03.zs21,_K03.zs22,_K03.zs23,_K03.zs24,_K03.zs25,_K03.zs26,_K03.zs27,_K03.zs28,_K03.zs29,_K03.zs30,_K03.zs31,_K03.zs32,_K03.zs33,_K03.zs34,_K03.zs35,_K03.zs36,_K03.zs37,_K03.zs38,_K03.zs39,_K03.zs40,_K03.zs41,_K03.zs42,_K03.zs43]}}
 def _K03.zl:PySem.W.OpenLaw:={PySem.Challenge.rw_pointpurse_k03_houses_refused with prog:=_K03.zp}
set_option maxRecDepth 100000 in
theorem _K03.zl_eq:PySem.Challenge.rw_pointpurse_k03_houses_refused=_K03.zl:=rfl
set_option maxRecDepth 100000 in
set_option maxHeartbeats 0 in
theorem PySem.Challenge.cw_pointpurse_k03_houses_refused_holds : PySem.Challenge.rw_pointpurse_k03_houses_refused.Holds := by
 rw[_K03.zl_eq]
 w_on;o_law;k_head;(case hw=>w_witness2)
 k_fill
 refine _L2.walk_ofK (l:=_K03.zl) (n:=63) (k:=9) (x:="_law_script") (CX:=_L2.CX0) (sp:=_L2.spLaw) rfl (by decide) rfl ⟨rfl,by decide,by decide⟩ (fun w h Y=>PySem.W.kIn_of Y) ?F ?S ?C
 case F=>
  intro w mg fa h KX G hmg
  refine' _K03.all_mk KX G hmg ?a1 ?l1 ?c1 ?k1 ?a2 ?l2 ?c2 ?k2 ?a3 ?l3 ?c3 ?k3 ?a4 ?l4 ?c4 ?k4 ?a5 ?l5 ?c5 ?k5 ?a6 ?l6 ?c6 ?k6 ?a7 ?l7 ?c7 ?k7 ?a8 ?l8 ?c8 ?k8 ?a9 ?l9 ?c9 ?k9 ?a10 ?l10 ?c10 ?k10 ?a11 ?l11 ?c11 ?k11 ?a12 ?l12 ?c12 ?k12 ?a13 ?l13 ?c13 ?k13 ?a14 ?l14 ?c14 ?k14 ?a15 ?l15 ?c15 ?k15 ?a16 ?i16 ?l16 ?c16 ?k16 ?a17 ?l17 ?c17 ?k17 ?a18 ?l18 ?c18 ?k18 ?a19 ?l19 ?c19 ?k19 ?a20 ?l20 ?c20 ?k20 ?a21 ?l21 ?c21 ?k21 ?a22 ?l22 ?c22 ?k22 ?a23 ?l23 ?c23 ?k23 ?a24 ?l24 ?c24 ?k24 ?a25 ?l25 ?c25 ?k25 ?a26 ?l26 ?c26 ?k26 ?a27 ?l27 ?c27 ?k27 ?aX0 ?aX1 ?aX2 ?aX3 ?aX4 ?aX5 ?aX6 ?aX7 ?aX8 ?aX9 ?aX10 ?aV ?aR ?a28 ?l28 ?c28 ?k28 ?aD1 ?aCHouse ?pgHouse ?hdHouse ?poHouse ?saHouse ?mkHouse ?kcHouse ?nHouse1 ?nHouse2 ?nHouse3 ?nHouse4 ?nHouse5 ?nHouse6 ?nHouse7 ?nHouse8 ?nHouse9 ?nHouse10 ?nHouse11 ?z1 ?z2 ?z3 ?z4 ?z5 ?z6 ?z7 ?z8 ?z9 ?z10 ?z11 ?z12 ?z13 ?z14 ?z15 ?z16
  (case a1=>k_is)
  (case l1=>k_is)
  (case c1=>k_is)
  (case k1=>k_is)
  (case a2=>k_is)
  (case l2=>k_is)
  (case c2=>k_is)
  (case k2=>k_is)
  (case a3=>k_is)
  (case l3=>k_is)
  (case c3=>k_is)
  (case k3=>k_is)
  (case a4=>k_is)
  (case l4=>k_is)
  (case c4=>k_is)
  (case k4=>k_is)
  (case a5=>k_is)
  (case l5=>k_is)
  (case c5=>k_is)
  (case k5=>k_is)
  (case a6=>k_is)
  (case l6=>k_is)
  (case c6=>k_is)
  (case k6=>k_is)
  (case a7=>k_is)
  (case l7=>k_is)
  (case c7=>k_is)
  (case k7=>k_is)
  (case a8=>k_is)
  (case l8=>k_is)
  (case c8=>k_is)
  (case k8=>k_is)
  (case a9=>k_is)
  (case l9=>k_is)
  (case c9=>k_is)
  (case k9=>k_is)
  (case a10=>k_is)
  (case l10=>k_is)
  (case c10=>k_is)
  (case k10=>k_is)
  (case a11=>k_is)
  (case l11=>k_is)
  (case c11=>k_is)
  (case k11=>k_is)
  (case a12=>k_is)
  (case l12=>k_is)
  (case c12=>k_is)
  (case k12=>k_is)
  (case a13=>k_is)
  (case l13=>k_is)
  (case c13=>k_is)
  (case k13=>k_is)
  (case a14=>k_is)
  (case l14=>k_is)
  (case c14=>k_is)
  (case k14=>k_is)
  (case a15=>k_is)
  (case l15=>k_is)
  (case c15=>k_is)
  (case k15=>k_is)
  (case a16=>k_is)
  (case i16=>k_is)
  (case l16=>k_is)
  (case c16=>k_is)
  (case k16=>k_is)
  (case a17=>k_is)
  (case l17=>k_is)
  (case c17=>k_is)
  (case k17=>k_is)
  (case a18=>k_is)
  (case l18=>k_is)
  (case c18=>k_is)
  (case k18=>k_is)
  (case a19=>k_is)
  (case l19=>k_is)
  (case c19=>k_is)
  (case k19=>k_is)
  (case a20=>k_is)
  (case l20=>k_is)
  (case c20=>k_is)
  (case k20=>k_is)
  (case a21=>k_is)
  (case l21=>k_is)
  (case c21=>k_is)
  (case k21=>k_is)
  (case a22=>k_is)
  (case l22=>k_is)
  (case c22=>k_is)
  (case k22=>k_is)
  (case a23=>k_is)
  (case l23=>k_is)
  (case c23=>k_is)
  (case k23=>k_is)
  (case a24=>k_is)
  (case l24=>k_is)
  (case c24=>k_is)
  (case k24=>k_is)
  (case a25=>k_is)
  (case l25=>k_is)
  (case c25=>k_is)
  (case k25=>k_is)
  (case a26=>k_is)
  (case l26=>k_is)
  (case c26=>k_is)
  (case k26=>k_is)
  (case a27=>k_is)
  (case l27=>k_is)
  (case c27=>k_is)
  (case k27=>k_is)
  (case aX0=>k_is)
  (case aX1=>k_is)
  (case aX2=>k_is)
  (case aX3=>k_is)
  (case aX4=>k_is)
  (case aX5=>k_is)
  (case aX6=>k_is)
  (case aX7=>k_is)
  (case aX8=>k_is)
  (case aX9=>k_is)
  (case aX10=>k_is)
  (case aV=>k_is)
  (case aR=>exact⟨_L3.excC_of (by kernel_rfl),⟨by kernel_rfl,by kernel_rfl,by kernel_rfl,by kernel_rfl,by kernel_rfl,by kernel_rfl,by kernel_rfl⟩,by kernel_rfl,by kernel_rfl,by kernel_rfl,by kernel_rfl,by kernel_rfl,by decide⟩)
  (case a28=>k_is)
  (case l28=>k_is)
  (case c28=>k_is)
  (case k28=>k_is)
  (case aD1=>k_is)
  (case aCHouse=>k_is)
  (case pgHouse=>k_is)
  (case hdHouse=>k_is)
  (case poHouse=>k_is)
  (case saHouse=>k_is)
  (case mkHouse=>k_is)
  (case kcHouse=>k_is)
  (case nHouse1=>k_is)
  (case nHouse2=>k_is)
  (case nHouse3=>k_is)
  (case nHouse4=>k_is)
  (case nHouse5=>k_is)
  (case nHouse6=>k_is)
  (case nHouse7=>k_is)
  (case nHouse8=>k_is)
  (case nHouse9=>k_is)
  (case nHouse10=>k_is)
  (case nHouse11=>k_is)
  (case z1=>k_is)
  (case z2=>k_is)
  (case z3=>k_is)
  (case z4=>k_is)
  (case z5=>k_is)
  (case z6=>k_is)
  (case z7=>k_is)
  (case z8=>k_is)
  (case z9=>k_is)
  (case z10=>k_is)
  (case z11=>k_is)
  (case z12=>k_is)
  (case z13=>k_is)
  (case z14=>k_is)
  (case z15=>k_is)
  (case z16=>k_is)
 case S=>exact fun K H a ns hl hO hS=>⟨a,ns,rfl,hS,hl,fun _=>rfl⟩
 case C=>exact fun _ _ _ _ z=>z
#print axioms PySem.Challenge.cw_pointpurse_k03_houses_refused_holds
