import PyProof.Rows.All
import Wide.All
import OpenK.AllK
import Wide.FinOn
import Lean
import PyProof.EqAt
import PyProof.EqKinds
import PyProof.TupleCall
import PySem.Challenge.RW_pointpurse_k08_deeds_that_are_none
set_option Elab.async false
set_option linter.all false
set_option maxRecDepth 100000
set_option maxHeartbeats 4000000
set_option bootstrap.genMatcherCode false
set_option genSizeOf false
set_option genInjectivity false
set_option compiler.extract_closed false
namespace _L2
open PySem PySem.Spec PyProof.Rows
noncomputable abbrev Key:=Sum Int Str
noncomputable def jkn:Key→Value→Bool
 |.inl k,v=>Value.isInt k v
 |.inr x,v=>Value.isStrOf x v
noncomputable def jyz (w:World):Key→Int
 |.inl k=>hashInt k
 |.inr x=>hashStr w x
theorem jbk:∀{k:Key} {v:Value},jkn k v=true→(∃i t,k=Sum.inl i∧v=Value.int i t)∨(∃x t,k=Sum.inr x∧v=Value.str x t)
 |.inl i,v,h=>by
  obtain⟨t,e⟩:=Value.isInt_shape (k:=i) (v:=v) h
  exact .inl ⟨i,t,rfl,e⟩
 |.inr x,v,h=>by
  obtain⟨t,e⟩:=Value.isStrOf_shape (x:=x) (v:=v) h
  exact .inr ⟨x,t,rfl,e⟩
theorem jm9 (i:Int)(t:Tok):jkn (.inl i) (.int i t)=true:=by simp[jkn,Value.isInt]
theorem jlZ (x:Str)(t:Tok):jkn (.inr x) (.str x t)=true:=by simp[jkn,Value.isStrOf]
theorem jtN (a b:Int):decide ((Sum.inl a:Key)=Sum.inl b)=(a == b):=by
 by_cases e:a=b
 ·subst e;simp
 ·have h:¬ (Sum.inl a:Key)=Sum.inl b:=fun q=>e (Sum.inl.inj q)
  rw[decide_eq_false h]
  exact (beq_eq_false_iff_ne.mpr e).symm
theorem juL (a b:Str):decide ((Sum.inr a:Key)=Sum.inr b)=decide (a=b):=by
 by_cases e:a=b
 ·subst e;simp
 ·have h:¬ (Sum.inr a:Key)=Sum.inr b:=fun q=>e (Sum.inr.inj q)
  rw[decide_eq_false h,decide_eq_false e]
theorem jtY (a:Int)(b:Str):decide ((Sum.inl a:Key)=Sum.inr b)=false:=decide_eq_false (fun q=>nomatch q)
theorem jtG (a:Str)(b:Int):decide ((Sum.inr a:Key)=Sum.inl b)=false:=decide_eq_false (fun q=>nomatch q)
noncomputable def jaY (prog:Program)(w:World):PySem.KeyKind prog w Key where
 is:=jkn
 hash:=jyz w
 inj:=fun v a b ha hb=>by
  rcases jbk ha with ⟨i,t,rfl,rfl⟩ | ⟨x,t,rfl,rfl⟩
  ·rcases jbk hb with ⟨j,u,rfl,e⟩ | ⟨y,u,rfl,e⟩
   ·injection e with e1 _;rw[e1]
   ·exact nomatch e
  ·rcases jbk hb with ⟨j,u,rfl,e⟩ | ⟨y,u,rfl,e⟩
   ·exact nomatch e
   ·injection e with e1 _;rw[e1]
 byValue:=fun k v h=>by
  rcases jbk h with ⟨i,t,rfl,rfl⟩ | ⟨x,t,rfl,rfl⟩ <;> rfl
 pyHash:=fun hv h=>by
  rcases jbk hv with ⟨i,t,rfl,rfl⟩ | ⟨x,t,rfl,rfl⟩
  ·exact wpAny_pyHash_int h
  ·exact wpAny_pyHash_str h
 eqBool:=fun hu hv h=>by
  rcases jbk hu with ⟨i,t,rfl,rfl⟩ | ⟨x,t,rfl,rfl⟩
  ·rcases jbk hv with ⟨j,u,rfl,rfl⟩ | ⟨y,u,rfl,rfl⟩
   ·rw[jtN]at h;exact wpAny_eqBool_int h
   ·rw[jtY]at h;exact SeqAt.EqAt.int_str i t y u _ _ _ _ h
  ·rcases jbk hv with ⟨j,u,rfl,rfl⟩ | ⟨y,u,rfl,rfl⟩
   ·rw[jtG]at h;exact SeqAt.EqAt.str_int x t j u _ _ _ _ h
   ·rw[juL]at h;exact wpAny_eqBool_str h
 «strs»:=fun k x t v h=>by
  rcases jbk h with ⟨i,u,rfl,e⟩ | ⟨y,u,rfl,e⟩
  ·exact nomatch e
  ·injection e with e1 _
   subst e1
   cases v <;> rfl
theorem jiH (prog:Program)(w:World)(i:Int)(t:Tok):(jaY prog w).is (.inl i) (.int i t)=true:=jm9 i t
theorem jf8 (prog:Program)(w:World)(x:Str)(t:Tok):(jaY prog w).is (.inr x) (.str x t)=true:=jlZ x t
end _L2
namespace _L2
open PySem PySem.Spec PyProof.Rows
set_option genInjectivity true in
inductive V where
 |non | bl (b:Bool) | int (i:Int) | str (x:Str) | byt (b:Array UInt8) | flt (b:UInt64) | ref (a:Addr) | ty (n:String)
 deriving DecidableEq
noncomputable def jba:V→Value→Prop
 |.non,u=>u=Value.none
 |.bl b,u=>u=Value.bool b
 |.int i,u=>∃t,u=Value.int i t
 |.str x,u=>∃t,u=Value.str x t
 |.byt b,u=>∃t,u=Value.bytes b t
 |.flt b,u=>∃t,u=Value.float b t
 |.ref a,u=>u=Value.ref a
 |.ty n,u=>u=Value.type n
noncomputable abbrev ja6:List V→List Value→Prop:=Paired jba
theorem ja6.length {xs:List V}{us:List Value}(r:ja6 xs us):xs.length=us.length:=Paired.length r
theorem ja6.get:∀{xs:List V} {us:List Value} {i:Nat} {x:V},ja6 xs us→xs[i]?=some x→∃u,us[i]?=some u∧jba x u
 |_,_,_,_,.nil,e=>by simp at e
 |_,_,0,_,.cons r _,e=>by simp at e;subst e;exact⟨_,rfl,r⟩
 |_,_,i+1,x,.cons _ t,e=>by
  obtain⟨u,h1,h2⟩:=ja6.get (i:=i) (x:=x) t (by simpa using e)
  exact⟨u,by simpa using h1,h2⟩
theorem ja6.set {x:V}{u:Value}(r:jba x u):∀{xs:List V} {us:List Value} (i:Nat),ja6 xs us→ja6 (xs.set i x) (us.set i u)
 |_,_,_,.nil=>.nil
 |_,_,0,.cons _ t=>.cons r t
 |_,_,i+1,.cons q t=>.cons q (ja6.set r i t)
theorem ja6.append:∀{xs ys:List V} {us ws:List Value},ja6 xs us→ja6 ys ws→ja6 (xs++ys) (us++ws)
 |_,_,_,_,.nil,s=>s
 |_,_,_,_,.cons r t,s=>.cons r (ja6.append t s)
theorem ja6.take:∀{xs:List V} {us:List Value} (n:Nat),ja6 xs us→ja6 (xs.take n) (us.take n)
 |_,_,0,_=>.nil
 |_,_,_+1,.nil=>.nil
 |_,_,n+1,.cons r t=>.cons r (ja6.take n t)
theorem ja6.drop:∀{xs:List V} {us:List Value} (n:Nat),ja6 xs us→ja6 (xs.drop n) (us.drop n)
 |_,_,0,r=>r
 |_,_,_+1,.nil=>.nil
 |_,_,n+1,.cons _ t=>ja6.drop n t
theorem ja6.none_of:∀{xs:List V} {us:List Value} {i:Nat},ja6 xs us→xs[i]?=none→us[i]?=none:=fun {xs us i} r e=>by
 have h1:=r.length
 have h2:xs.length≤i:=List.getElem?_eq_none_iff.mp e
 exact List.getElem?_eq_none_iff.mpr (by omega)
noncomputable def jhw:Option V→Option Value→Prop
 |some v,some u=>jba v u
 |none,none=>True
 |_,_=>False
noncomputable def KV {κ:Type}:List (κ×V)→List (κ×Value)→Prop:=Paired fun (p:κ×V) (q:κ×Value)=>p.1=q.1∧jba p.2 q.2
noncomputable def kV:Key→V
 |.inl i=>.int i
 |.inr x=>.str x
set_option genInjectivity true in
inductive HO where
 |lst (xs:List V)
 |tup (xs:List V)
 |dK (kvs:List (Key×V)) | dT (kvs:List (List Key×V))
 |set (S:Int→Bool) (n:Nat)
 |ins (C dx:Addr) (fs:List (Str×V))
 |own (x:Addr)
 |xd (fs:List (Str×V))
 |met (f x:Addr)
 |rng (lo hi:Int)
 |frz (o:Obj) (u:HO)
 |tbl (ps:Array Value)
 |ext (φ:Heap→Prop)
noncomputable abbrev Hp:=Addr→Option HO
noncomputable def upd (H:Hp)(a:Addr)(o:HO):Hp:=fun b=>if b=a then some o else H b
theorem jay {H:Hp}{a:Addr}{o:HO}:upd H a o a=some o:=by unfold upd;rw[if_pos rfl]
theorem jal {H:Hp}{a b:Addr}{o:HO}(h:b≠a):upd H a o b=H b:=by unfold upd;rw[if_neg h]
theorem jaj {H:Hp}{a b:Addr}{o:HO}(h:H a=some o)(h':H b=none):a≠b:=by
 intro e;subst e;rw[h]at h';cases h'
section
variable (P:Program) (w:World)
noncomputable def jca (H:Hp)(h:Heap)(a:Addr):HO→Prop
 |.lst xs=>xs.length≤sizeLine∧∃(its:List Value) (n:Nat),ja6 xs its∧h.get? a=some {cls:=.type "list",data:=.seq its.toArray n}
 |.tup xs=>xs.length≤sizeLine∧∃its:List Value,ja6 xs its∧IsTup h a its.toArray
 |.dK kvs=>kvs.length≤sizeLine∧(a == sysModules)=false∧∃vs,KV kvs vs∧h.DictOf (jaY P w) a vs
 |.dT kvs=>kvs.length≤sizeLine∧(a == sysModules)=false∧∃xs:List (List Key×Addr×Value),
   Paired (fun (p:List Key×V) (q:List Key×Addr×Value)=>p.1=q.1∧H q.2.1=some (.tup (p.1.map kV))∧jba p.2 q.2.2) kvs xs ∧
   ∃o es ep,h.get? a=some o∧o.ExactDict∧o.data=.dict es ep∧es.toList=xs.map (entryOfKey (tupleKind (jaY P w)))∧(xs.map (·.1)).Nodup
 |.set S n=>h.SetOf (intKind P w) a S n
 |.ins C dx fs=>H dx=some (.own a)∧fs.length≤1000∧dx≠a∧h.get? a=some (PySem.W.instObj C dx) ∧
   ∃mA,h.Ns1 dx mA∧(∀f,jhw (fs.lookup f) (mA f))∧PySem.Within mA (fs.map (·.1))
 |.own _=>∃o,h.get? a=some o
 |.xd fs=>∃mA,h.Ns1 a mA∧∀f,jhw (fs.lookup f) (mA f)
 |.rng lo hi=>∃t u v,h.get? a=some {cls:=.type "range",data:=.fields #[.int lo t,.int hi u,.int 1 v]}
 |.frz o u=>h.get? a=some o∧jca H h a u
 |.tbl ps=>h.get? a=some {cls:=.none,data:=.fields ps}
 |.met f x=>h.get? a=some (PySem.W.methodObj (.ref f) (.ref x))
 |.ext φ=>φ h∧(∃o,h.get? a=some o)∧∀h1 h2:Heap,φ h1→(∀o,h1.get? a=some o→h2.get? a=some o)→φ h2
noncomputable def HOk (H:Hp)(h:Heap):Prop:=∀a o,H a=some o→jca P w H h a o
end
section
variable {P:Program} {w:World} {H H':Hp} {h h':Heap} {a:Addr} {o:HO}
theorem jca.lt (x:jca P w H h a o):a < h.objs.size:=by
 cases o with
 |lst xs=>obtain⟨_,_,_,_,e⟩:=x;exact Heap.lt_size e
 |tup xs=>obtain⟨_,_,_,p⟩:=x;exact p.lt
 |dK kvs=>obtain⟨_,_,_,_,o,_,_,e,_⟩:=x;exact Heap.lt_size e
 |dT kvs=>obtain⟨_,_,_,_,o,_,_,e,_⟩:=x;exact Heap.lt_size e
 |set S n=>obtain⟨o,_,_,_,e,_⟩:=x;exact Heap.lt_size e
 |ins C dx fs=>obtain⟨_,_,_,e,_⟩:=x;exact Heap.lt_size e
 |own y=>obtain⟨_,e⟩:=x;exact Heap.lt_size e
 |xd fs=>obtain⟨_,⟨_,_,_,e,_⟩,_⟩:=x;exact Heap.lt_size e
 |rng lo hi=>obtain⟨_,_,_,e⟩:=x;exact Heap.lt_size e
 |frz ob u=>obtain⟨e,_⟩:=x;exact Heap.lt_size e
 |tbl ps=>exact Heap.lt_size (show h.get? a=some _ from x)
 |met f y=>exact Heap.lt_size (show h.get? a=some _ from x)
 |ext φ=>obtain⟨_,⟨_,e⟩,_⟩:=x;exact Heap.lt_size e
theorem Paired.mapP {α β:Type}{F G:α→β→Prop}:∀{l₁:List α} {l₂:List β},Paired F l₁ l₂→(∀a b,F a b→G a b)→Paired G l₁ l₂
 |_,_,.nil,_=>.nil
 |_,_,.cons r t,f=>.cons (f _ _ r) (Paired.mapP t f)
theorem jca.stay (x:jca P w H h a o)(k:∀b u,(b=a∨H b=some (.own a))→h.get? b=some u→h'.get? b=some u)
  (ho:∀b,H b=some (.own a)→H' b=some (.own a)) (ht:∀b xs,H b=some (.tup xs)→H' b=some (.tup xs)):jca P w H' h' a o:=by
 induction o with
 |lst xs=>obtain⟨z,its,n,r,e⟩:=x;exact⟨z,its,n,r,k _ _ (.inl rfl) e⟩
 |tup xs=>obtain⟨z,its,r,ob,e,c⟩:=x;exact⟨z,its,r,ob,k _ _ (.inl rfl) e,c⟩
 |dK kvs=>obtain⟨z,y,vs,r,ob,es,ep,e,c⟩:=x;exact⟨z,y,vs,r,ob,es,ep,k _ _ (.inl rfl) e,c⟩
 |dT kvs =>
  obtain⟨z,y,xs,r,ob,es,ep,e,c⟩:=x
  exact⟨z,y,xs,Paired.mapP r fun p q z=>⟨z.1,ht _ _ z.2.1,z.2.2⟩,ob,es,ep,k _ _ (.inl rfl) e,c⟩
 |set S n=>obtain⟨ob,es,ep,t,e,c⟩:=x;exact⟨ob,es,ep,t,k _ _ (.inl rfl) e,c⟩
 |ins C dx fs =>
  obtain⟨d,z,ne,e,mA,⟨od,es,ep,e2,c⟩,r⟩:=x
  exact⟨ho _ d,z,ne,k _ _ (.inl rfl) e,mA,⟨od,es,ep,k _ _ (.inr d) e2,c⟩,r⟩
 |own y=>obtain⟨ob,e⟩:=x;exact⟨ob,k _ _ (.inl rfl) e⟩
 |xd fs=>obtain⟨mA,⟨od,es,ep,e,c⟩,r⟩:=x;exact⟨mA,⟨od,es,ep,k _ _ (.inl rfl) e,c⟩,r⟩
 |rng lo hi=>obtain⟨t,u,v,e⟩:=x;exact⟨t,u,v,k _ _ (.inl rfl) e⟩
 |frz ob u ih=>obtain⟨e,q⟩:=x;exact⟨k _ _ (.inl rfl) e,ih q⟩
 |tbl ps =>
  have e:h.get? a=some {cls:=.none,data:=.fields ps}:=x
  show h'.get? a=some {cls:=.none,data:=.fields ps}
  exact k a _ (.inl rfl) e
 |met f y =>
  have e:h.get? a=some (PySem.W.methodObj (.ref f) (.ref y)):=x
  show h'.get? a=some (PySem.W.methodObj (.ref f) (.ref y))
  exact k a _ (.inl rfl) e
 |ext φ=>obtain⟨p,⟨o,e⟩,st⟩:=x;exact⟨st _ _ p fun o q=>k _ _ (.inl rfl) q,⟨o,k _ _ (.inl rfl) e⟩,st⟩
theorem HOk.lt (x:HOk P w H h)(e:H a=some o):a < h.objs.size:=(x a o e).lt
theorem HOk.fresh (x:HOk P w H h)(e:h.objs.size≤a):H a=none:=by
 cases q:H a with
 |none=>rfl
 |some u=>exact absurd (Nat.lt_of_lt_of_le (x.lt q) e) (Nat.lt_irrefl _)
theorem HOk.kept (x:HOk P w H h)(k:∀b u,h.get? b=some u→h'.get? b=some u):HOk P w H h':=fun a o e =>
 (x a o e).stay (fun b u _ q=>k b u q) (fun _ q=>q) fun _ _ q=>q
theorem HOk.laid (x:HOk P w H h)(k:∀b u,h.get? b=some u→h'.get? b=some u)(hp:h.objs.size≤a)(new:jca P w (upd H a o) h' a o):HOk P w (upd H a o) h':=fun b u e=>by
 have hn:=x.fresh hp
 by_cases hb:b=a
 ·subst hb;rw[jay]at e;cases e;exact new
 ·rw[jal hb]at e
  exact (x b u e).stay (fun c v _ q=>k c v q) (fun c q=>by rw[jal (jaj q hn)];exact q) fun c xs q=>by rw[jal (jaj q hn)];exact q
end
noncomputable def Rd (H:Hp)(a:Addr)(u:HO):Prop:=H a=some u∨∃o,H a=some (.frz o u)
theorem Rd.of {H:Hp}{a:Addr}{u:HO}(h:H a=some u):Rd H a u:=.inl h
theorem Rd.ok {P:Program}{w:World}{H:Hp}{h:Heap}{a:Addr}{u:HO}(r:Rd H a u)(x:HOk P w H h):jca P w H h a u:=by
 rcases r with r | ⟨o,r⟩
 ·exact x a u r
 ·obtain⟨_,q⟩:=x a _ r
  exact q
noncomputable def Mut:Option HO→Prop
 |some (.lst _)=>True
 |some (.dK _)=>True
 |some (.dT _)=>True
 |some (.set _ _)=>True
 |some (.ins _ _ _)=>True
 |some (.ext _)=>True
 |_=>False
section
variable {P:Program} {w:World} {H:Hp} {h h':Heap} {x e:Addr} {o':HO}
theorem HOk.write (ok:HOk P w H h)(mu:Mut (H x))(he:e=x∨H e=some (.own x))(k:∀b u,b≠e→h.get? b=some u→h'.get? b=some u)(heo:∃u,h'.get? e=some u)
  (new:jca P w (upd H x o') h' x o'):HOk P w (upd H x o') h':=fun b u q=>by
 have nown:∀c y,H c=some (.own y)→c≠x:=fun c y r z=>by subst z;rw[r]at mu;exact mu
 have ntup:∀c xs,H c=some (.tup xs)→c≠x:=fun c xs r z=>by subst z;rw[r]at mu;exact mu
 by_cases hb:b=x
 ·subst hb;rw[jay]at q;cases q;exact new
 ·rw[jal hb]at q
  by_cases hbe:b=e
  ·have q':H b=some (.own x):=by
    rcases he with z | z
    ·exact absurd (hbe.trans z) hb
    ·rw[hbe];exact z
   rw[q]at q';cases q'
   obtain⟨v,hv⟩:=heo
   exact⟨v,by rw[hbe];exact hv⟩
  ·refine (ok b u q).stay (fun c v hc r=>k c v ?_ r) (fun c r=>by rw[jal (nown c b r)];exact r) fun c xs r=>by rw[jal (ntup c xs r)];exact r
   rcases hc with rfl | hc
   ·exact hbe
   ·rintro rfl
    rcases he with z | z
    ·exact nown c b hc z
    ·rw[hc]at z;cases z;exact hb rfl
end
structure Un (fs ex:List Addr) (H H':Hp) (h h':Heap):Prop where
 keep:∀b o,h.get? b=some o→H b=none→b∉fs→b∉ex→h'.get? b=some o
 slot:∀b o,h.get? b=some o→H b=none→b∈fs→b∉ex→∃sl,h'.get? b=some {o with slots:=sl}
 free:∀b o,h.get? b=some o→H b=none→b∉ex→H' b=none
 there:∀b o,h.get? b=some o→b∉ex→∃o',h'.get? b=some o'
 tups:∀b xs,H b=some (.tup xs)→H' b=some (.tup xs)
 frzs:∀b o u,H b=some (.frz o u)→H' b=some (.frz o u)
 tbls:∀b ps,H b=some (.tbl ps)→∃more,H' b=some (.tbl (ps++more))
section
variable {fs fs' ex ex':List Addr} {H H1 H2:Hp} {h h1 h2 h':Heap} {a x e:Addr} {o:HO}
theorem Un.any (u:Un fs ex H H1 h h1){b:Addr}{ob:Obj}(q:h.get? b=some ob)(n:H b=none)(hx:b∉ex):∃sl,h1.get? b=some {ob with slots:=sl}:=by
 by_cases hb:b∈fs
 ·exact u.slot b ob q n hb hx
 ·exact⟨ob.slots,u.keep b ob q n hb hx⟩
theorem Un.trans (a:Un fs ex H H1 h h1)(b:Un fs ex H1 H2 h1 h2):Un fs ex H H2 h h2 where
 keep:=fun c ob q n hc hx=>b.keep c ob (a.keep c ob q n hc hx) (a.free c ob q n hx) hc hx
 slot:=fun c ob q n hc hx=>by
  obtain⟨sl,e1⟩:=a.slot c ob q n hc hx
  obtain⟨sl',e2⟩:=b.slot c _ e1 (a.free c ob q n hx) hc hx
  exact⟨sl',e2⟩
 free:=fun c ob q n hx=>by
  obtain⟨o',e1⟩:=a.there c ob q hx
  exact b.free c o' e1 (a.free c ob q n hx) hx
 there:=fun c ob q hx=>by
  obtain⟨o',e1⟩:=a.there c ob q hx
  exact b.there c o' e1 hx
 tups:=fun c xs q=>b.tups c xs (a.tups c xs q)
 frzs:=fun c ob xs q=>b.frzs c ob xs (a.frzs c ob xs q)
 tbls:=fun c ps q=>by
  obtain⟨m1,e1⟩:=a.tbls c ps q
  obtain⟨m2,e2⟩:=b.tbls c _ e1
  exact⟨m1++m2,by rw[e2,Array.append_assoc]⟩
theorem Un.kept (k:∀b u,h.get? b=some u→h'.get? b=some u):Un fs ex H H h h' :=
 ⟨fun b ob q _ _ _=>k b ob q,fun b ob q _ _ _=>⟨ob.slots,k b ob q⟩,fun _ _ _ n _=>n,fun b ob q _=>⟨ob,k b ob q⟩,fun _ _ q=>q,fun _ _ _ q=>q,fun _ ps q=>⟨#[],by rw[q];simp⟩⟩
theorem Un.refl:Un fs ex H H h h:=Un.kept fun _ _ q=>q
theorem Un.laid (k:∀b u,h.get? b=some u→h'.get? b=some u)(hp:h.objs.size≤a)(hn:H a=none):Un fs ex H (upd H a o) h h' where
 keep:=fun b u q _ _ _=>k b u q
 slot:=fun b u q _ _ _=>⟨u.slots,k b u q⟩
 free:=fun b u q n _=>by rw[jal (Nat.ne_of_lt (Nat.lt_of_lt_of_le (Heap.lt_size q) hp))];exact n
 there:=fun b u q _=>⟨u,k b u q⟩
 tups:=fun b xs q=>by rw[jal (jaj q hn)];exact q
 frzs:=fun b u xs q=>by rw[jal (jaj q hn)];exact q
 tbls:=fun b ps q=>⟨#[],by rw[jal (jaj q hn),q];simp⟩
theorem Un.write (mu:Mut (H x))(he:e=x∨H e=some (.own x))(k:∀b u,b≠e→h.get? b=some u→h'.get? b=some u)(heo:∃u,h'.get? e=some u):Un fs ex H (upd H x o) h h':=by
 have hx:∀b,H b=none→b≠x:=fun b n z=>by subst z;rw[n]at mu;exact mu
 have hb:∀b,H b=none→b≠e:=fun b n z=>by
  subst z
  rcases he with r | r
  ·exact hx b n r
  ·rw[n]at r;cases r
 have hm:∀b u,H b=some u→¬ Mut (some u)→b≠x:=fun b u q nm z=>by subst z;rw[q]at mu;exact nm mu
 refine⟨fun b u q n _ _=>k b u (hb b n) q,fun b u q n _ _=>⟨u.slots,k b u (hb b n) q⟩,fun b u q n _=>by rw[jal (hx b n)];exact n,fun b u q _=>?_,
  fun b xs q=>by rw[jal (hm b _ q fun z=>z)];exact q,fun b u xs q=>by rw[jal (hm b _ q fun z=>z)];exact q,fun b ps q=>⟨#[],by rw[jal (hm b _ q fun z=>z),q];simp⟩⟩
 by_cases hbe:b=e
 ·subst hbe;exact heo
 ·exact⟨u,k b u hbe q⟩
theorem Un.mono (u:Un fs ex H H1 h h1)(hs:∀b∈fs,b∈fs')(hx:∀b∈ex,b∈ex'):Un fs' ex' H H1 h h1 :=
 ⟨fun b ob q n hb he=>u.keep b ob q n (fun z=>hb (hs b z)) fun z=>he (hx b z),fun _ _ q n _ he=>u.any q n fun z=>he (hx _ z),fun b ob q n he=>u.free b ob q n fun z=>he (hx b z),fun b ob q he=>u.there b ob q fun z=>he (hx b z),u.tups,u.frzs,u.tbls⟩
end
noncomputable def trk (h:Heap)(H:Hp):List Addr:=(List.range h.objs.size).filter fun a=>(H a).isSome
noncomputable def jpv (h:Heap)(H:Hp):Heap:=PySem.W.hideAll h (trk h H)
theorem jny (h:Heap)(H:Hp):(jpv h H).objs.size=h.objs.size:=PySem.W.hideAll_size _ _
theorem jpt {h:Heap}{H:Hp}{b:Addr}{o:Obj}(e:h.get? b=some o)(n:H b=none):(jpv h H).get? b=some o :=
 PySem.W.hideAll_get _ e fun hm=>by
  have q:(H b).isSome=true:=(List.mem_filter.mp hm).2
  rw[n]at q;simp at q
theorem jrF {h:Heap}{H:Hp}{b:Addr}{o:Obj}(e:(jpv h H).get? b=some o):h.get? b=some o∧H b=none:=by
 have e':h.get? b=some o:=PySem.W.of_hideAll (trk h H) e
 refine⟨e',?_⟩
 cases q:H b with
 |none=>rfl
 |some x =>
  have hm:b∈trk h H:=List.mem_filter.mpr ⟨List.mem_range.mpr (Heap.lt_size e'),by simp[q]⟩
  have z:(jpv h H).get? b=none:=PySem.W.hideAll_none (trk h H) hm
  rw[z]at e;cases e
noncomputable def jsx (g h:Heap)(L:Addr):List (Addr×Obj):=(List.range h.objs.size).filterMap fun a=>if a=L∨(g.get? a).isSome=true then none else (h.get? a).map fun o=>(a,o)
noncomputable def rest (g h:Heap)(L d:Addr):List (Addr×Obj):=(jsx g h L).filter fun p=>decide (p.1≠d)
end _L2
namespace _L2
open PySem PySem.Spec PyProof.Rows
structure Mod (K:PySem.W.Frag) (mg:Str→Option Value) (base:Heap):Prop where
 kin:K.In base
 glob:base.Ns mainGlobals mg
 blt:∃mb,base.Ns builtinsNs mb∧∀x:Str,x≠"__name__"→mb x=bootBuiltins x
 nolimit:base.NoLimit
structure Cx where
 prog:Program
 w:World
 K:PySem.W.Frag
 mg:Str→Option Value
 base:Heap
 A:Around
 N:List Str
 s₀:Shared
 H₀:Hp
 env:Env
 outer:List Env
 stack:List Env
 ex:List Addr
 fn:Str→Bool
 calm:Bool
 pn:List (Addr×Obj)
 xe:Value→Shared→Prop
noncomputable def frs (l:List Env):List Addr:=l.filterMap (·.frame)
noncomputable abbrev Cx.fs (X:Cx):List Addr:=frs X.outer
noncomputable def Vis (sc:Scope)(x:Str):Prop:=sc.names.lookup x=some .local∨sc.names.lookup x=some .cell∨sc.names.lookup x=some .free
noncomputable def Loc (sc:Scope)(x:Str):Prop:=sc.names.lookup x=some .local∨sc.names.lookup x=some .cell
noncomputable def jx4 (env:Env)(h:Heap)(m:Str→Option Value)(x:Str)(u:Value):Prop :=
 (env.kindOf x=some .local∧m x=some u)∨((env.kindOf x=some .cell∨env.kindOf x=some .free)∧∃c,env.cells.lookup x=some c∧h.IsCell c (some u))
structure Cx.Ok (X:Cx):Prop where
 mod:Mod X.K X.mg X.base
 kind:X.env.scope.kind=.function
 glob:X.env.globals=mainGlobals
 blt:X.env.builtins=builtinsNs
 above:X.s₀.heap.objs.size≤X.env.locals
 inj:∀x y c,X.env.cells.lookup x=some c→X.env.cells.lookup y=some c→x=y
 has:∀x,(X.env.kindOf x=some .cell∨X.env.kindOf x=some .free)→∃c,X.env.cells.lookup x=some c
 cab:∀x c,X.fn x=true→X.env.cells.lookup x=some c→X.s₀.heap.objs.size≤c
 hd:X.calm=true→X.A.handled=none
 frames:X.A.frames=some X.stack
 stk:X.stack=X.outer∨(X.stack=X.env :: X.outer∧X.env.frame=some X.env.locals)
 exf:∀b∈X.ex,b≠X.env.locals∧∀x c,X.env.cells.lookup x=some c→c≠b
 bs:∀b o,X.base.get? b=some o→X.s₀.heap.get? b=some o∧X.H₀ b=none
 bsz:X.base.objs.size≤X.s₀.heap.objs.size
 noex:∀b o,X.base.get? b=some o→b∉X.ex
 exfs:∀b∈X.ex,b∉X.fs
 funs:X.s₀.heap.FunFrames X.base X.outer
 frf:∀b∈X.fs,X.H₀ b=none
structure Inv (X:Cx) (pins:List (Addr×Obj)) (σ:List (Option V)) (H:Hp) (s:Shared):Prop where
 ok:X.Ok
 os:s.os=X.s₀.os
 bare:AllBare s.gens
 base:Un X.fs X.ex X.H₀ H X.s₀.heap s.heap
 loc:∃m,s.heap.Ns X.env.locals m∧∀(i:Nat) (x:Str) (v:V),X.N[i]?=some x→σ[i]?=some (some v)→Vis X.env.scope x→∃u,jba v u∧jx4 X.env s.heap m x u
 cell:∀x c,X.env.cells.lookup x=some c→∃v,s.heap.IsCell c v
 free:H X.env.locals=none
 freeC:∀x c,X.env.cells.lookup x=some c→H c=none
 pin:∀p∈X.pn++pins,s.heap.get? p.1=some p.2∧H p.1=none∧p.1≠X.env.locals∧p.1∉X.fs∧∀v,p.2.data≠.cell v
 hok:HOk X.prog X.w H s.heap
 len:σ.length=X.N.length
section
variable {X:Cx} {pins:List (Addr×Obj)} {σ:List (Option V)} {H H':Hp} {s:Shared} {h':Heap}
theorem Cx.Ok.nofr (ok:X.Ok){b:Addr}{o:Obj}(e:X.base.get? b=some o):b∉X.fs:=fun hb=>by
 have:=(ok.funs.mem hb).1
 rw[e]at this;cases this
theorem Inv.bs (I:Inv X pins σ H s):∀b o,X.base.get? b=some o→s.heap.get? b=some o∧H b=none:=fun b o e =>
 ⟨I.base.keep b o (I.ok.bs b o e).1 (I.ok.bs b o e).2 (I.ok.nofr e) (I.ok.noex b o e),I.base.free b o (I.ok.bs b o e).1 (I.ok.bs b o e).2 (I.ok.noex b o e)⟩
theorem Inv.bk (I:Inv X pins σ H s):∀b o,X.base.get? b=some o→s.heap.get? b=some o:=fun b o e=>(I.bs b o e).1
theorem Inv.mod (I:Inv X pins σ H s):Mod X.K X.mg X.base:=I.ok.mod
theorem Inv.kIn (I:Inv X pins σ H s):X.K.In s.heap:=I.ok.mod.kin.keeps I.bk
theorem Inv.nolimit (I:Inv X pins σ H s):s.heap.NoLimit:=I.ok.mod.nolimit.keeps I.bk
theorem Inv.fr (I:Inv X pins σ H s):∃m,Fr X.base X.env.locals s.heap m :=
 let ⟨m,hn,_⟩:=I.loc
 ⟨m,hn,I.bk,Nat.le_trans I.ok.bsz I.ok.above⟩
theorem Inv.lt (I:Inv X pins σ H s):X.env.locals < s.heap.objs.size:=let ⟨_,hn,_⟩:=I.loc;hn.lt
theorem Inv.sz (I:Inv X pins σ H s):X.s₀.heap.objs.size≤s.heap.objs.size:=Nat.le_trans I.ok.above (Nat.le_of_lt I.lt)
theorem Inv.nofs (I:Inv X pins σ H s){a:Addr}(h:s.heap.objs.size≤a):a∉X.fs:=fun hb=>by
 obtain⟨_,o,ho,_⟩:=I.ok.funs.mem hb
 exact absurd (Nat.lt_of_lt_of_le (Heap.lt_size ho) (Nat.le_trans I.sz h)) (Nat.lt_irrefl _)
theorem Inv.cne (I:Inv X pins σ H s):∀x c,X.env.cells.lookup x=some c→c≠X.env.locals:=fun x c e z=>by
 obtain⟨v,o,ho,hd⟩:=I.cell x c e
 obtain⟨m,⟨o',es,ep,ho',hd',_⟩,_⟩:=I.loc
 rw[z,ho']at ho;cases ho;rw[hd']at hd;cases hd
theorem Inv.funs (I:Inv X pins σ H s):s.heap.FunFrames X.base X.outer:=by
 have all:∀(l:List Env),(∀b∈frs l,b∈X.fs)→X.s₀.heap.FunFrames X.base l→s.heap.FunFrames X.base l:=by
  intro l
  induction l with
  |nil=>intro _ _;trivial
  |cons env r ih =>
   intro hs hl
   obtain⟨hk,⟨L,o,hf,hn,ho,hd⟩,hr⟩:=hl
   have hL:L∈X.fs:=hs L (by unfold frs;rw[List.filterMap_cons,hf];exact List.mem_cons_self)
   obtain⟨sl,e⟩:=I.base.slot L o ho (I.ok.frf L hL) hL fun z=>I.ok.exfs L z hL
   exact⟨hk,⟨L,_,hf,hn,e,hd⟩,ih (fun b hb=>hs b (by unfold frs;rw[List.filterMap_cons,hf];exact List.mem_cons_of_mem _ hb)) hr⟩
 exact all X.outer (fun _ hb=>hb) I.ok.funs
theorem Inv.stack (I:Inv X pins σ H s):s.heap.FunFrames X.base X.stack:=by
 rcases I.ok.stk with e | ⟨e,hf⟩
 ·rw[e];exact I.funs
 ·rw[e]
  obtain⟨m,hn,_⟩:=I.loc
  refine .cons (by rw[I.ok.kind];decide) hf hn ?_ I.funs
  exact Heap.get?_none_of_le (Nat.le_trans I.ok.bsz I.ok.above)
theorem Inv.stkSub (I:Inv X pins σ H s):∀b∈frs X.stack,b∈X.env.locals :: X.fs:=fun b hb=>by
 rcases I.ok.stk with e | ⟨e,hf⟩
 ·rw[e]at hb;exact List.mem_cons_of_mem _ hb
 ·rw[e]at hb
  unfold frs at hb
  rw[List.filterMap_cons,hf]at hb
  exact hb
theorem Inv.stkFree (I:Inv X pins σ H s):∀b∈frs X.stack,H b=none:=fun b hb=>by
 rcases List.mem_cons.mp (I.stkSub b hb) with e | hb
 ·rw[e];exact I.free
 ·obtain⟨_,o,ho,_⟩:=I.ok.funs.mem hb
  exact I.base.free b o ho (I.ok.frf b hb) fun z=>I.ok.exfs b z hb
theorem Inv.step {g':Array GenState}{t':Nat}{d':Drawn}{ch:List Addr}(I:Inv X pins σ H s)
  (hch:∀b∈ch,(b∈X.ex∨X.s₀.heap.objs.size≤b)∧b≠X.env.locals∧(∀x c,X.env.cells.lookup x=some c→c≠b)∧∀p∈X.pn++pins,p.1≠b)
  (keep:∀b o,b≠X.env.locals→b∉X.fs→b∉ch→s.heap.get? b=some o→H b=none→h'.get? b=some o)
  (slot:∀b o,b≠X.env.locals→b∈X.fs→b∉ch→s.heap.get? b=some o→H b=none→∃sl,h'.get? b=some {o with slots:=sl}) (free:∀b o,b∉ch→s.heap.get? b=some o→H b=none→H' b=none)
  (there:∀b o,b∉ch→s.heap.get? b=some o→∃o',h'.get? b=some o')
  (tups:∀b xs,H b=some (.tup xs)→H' b=some (.tup xs)) (frzs:∀b o u,H b=some (.frz o u)→H' b=some (.frz o u)) (tbls:∀b ps,H b=some (.tbl ps)→∃more,H' b=some (.tbl (ps++more)))
  (ns:∀m,s.heap.Ns X.env.locals m→h'.Ns X.env.locals m) (hok:HOk X.prog X.w H' h') (hg:AllBare g') :
  Inv X pins σ H' {s with heap:=h',gens:=g',drawn:=d',toks:=t'}:=by
 have neL:∀b o,X.s₀.heap.get? b=some o→b≠X.env.locals:=fun b o e=>Nat.ne_of_lt (Nat.lt_of_lt_of_le (Heap.lt_size e) I.ok.above)
 have neC:∀b o,X.s₀.heap.get? b=some o→b∉X.ex→b∉ch:=fun b o e hx hb=>by
  rcases (hch b hb).1 with z | z
  ·exact hx z
  ·exact absurd (Nat.lt_of_lt_of_le (Heap.lt_size e) z) (Nat.lt_irrefl _)
 have cellK:∀x c,X.env.cells.lookup x=some c→∀v,s.heap.IsCell c v→h'.IsCell c v:=fun x c e v ⟨o,ho,hd⟩=>by
  have nch:c∉ch:=fun z=>(hch c z).2.2.1 x c e rfl
  by_cases hc:c∈X.fs
  ·obtain⟨sl,q⟩:=slot c o (I.cne x c e) hc nch ho (I.freeC x c e)
   exact⟨_,q,hd⟩
  ·exact⟨o,keep c o (I.cne x c e) hc nch ho (I.freeC x c e),hd⟩
 refine⟨I.ok,I.os,hg,⟨fun b o e n hb hx=>?_,fun b o e n hb hx=>?_,fun b o e n hx=>?_,fun b o e hx=>?_,fun b xs e=>tups b xs (I.base.tups b xs e),fun b o xs e=>frzs b o xs (I.base.frzs b o xs e),fun b ps e=>?_⟩,?_,fun x c e=>?_,?_,fun x c e=>?_,fun p hp=>?_,hok,I.len⟩
 ·exact keep b o (neL b o e) hb (neC b o e hx) (I.base.keep b o e n hb hx) (I.base.free b o e n hx)
 ·obtain⟨sl,e1⟩:=I.base.slot b o e n hb hx
  obtain⟨sl',e2⟩:=slot b _ (neL b o e) hb (neC b o e hx) e1 (I.base.free b o e n hx)
  exact⟨sl',e2⟩
 ·obtain⟨o',e1⟩:=I.base.there b o e hx
  exact free b o' (neC b o e hx) e1 (I.base.free b o e n hx)
 ·obtain⟨o',e1⟩:=I.base.there b o e hx
  exact there b o' (neC b o e hx) e1
 ·obtain⟨m1,e1⟩:=I.base.tbls b ps e
  obtain⟨m2,e2⟩:=tbls b _ e1
  exact⟨m1++m2,by rw[e2,Array.append_assoc]⟩
 ·obtain⟨m,hn,hl⟩:=I.loc
  refine⟨m,ns m hn,fun i x v e1 e2 e3=>?_⟩
  obtain⟨u,r,l⟩:=hl i x v e1 e2 e3
  refine⟨u,r,?_⟩
  rcases l with l | ⟨k,c,e,z⟩
  ·exact .inl l
  ·exact .inr ⟨k,c,e,cellK x c e _ z⟩
 ·obtain⟨v,z⟩:=I.cell x c e
  exact⟨v,cellK x c e v z⟩
 ·obtain⟨m,⟨o,_,_,ho,_⟩,_⟩:=I.loc
  exact free _ o (fun z=>(hch _ z).2.1 rfl) ho I.free
 ·obtain⟨v,o,ho,hd⟩:=I.cell x c e
  exact free c o (fun z=>(hch c z).2.2.1 x c e rfl) ho (I.freeC x c e)
 ·obtain⟨e,n,ne,nf,d⟩:=I.pin p hp
  have nch:p.1∉ch:=fun z=>(hch p.1 z).2.2.2 p hp rfl
  exact⟨keep p.1 p.2 ne nf nch e n,free p.1 p.2 nch e n,ne,nf,d⟩
theorem Inv.un {t':Nat}(I:Inv X pins σ H s)(u:Un X.fs [] H H' s.heap h')(hok:HOk X.prog X.w H' h'):Inv X pins σ H' {s with heap:=h',toks:=t'}:=by
 obtain⟨m,⟨o,es,ep,ho,r⟩,_⟩:=id I.loc
 obtain⟨sl,hL⟩:=u.any ho I.free (by simp)
 exact I.step (g':=s.gens) (d':=s.drawn) (ch:=[]) (fun _ z=>nomatch z) (fun b o _ hb _ e n=>u.keep b o e n hb (by simp)) (fun b o _ hb _ e n=>u.slot b o e n hb (by simp)) (fun b o _ e n=>u.free b o e n (by simp)) (fun b o _ e=>u.there b o e (by simp)) u.tups u.frzs u.tbls (fun m' hm=>by
  obtain⟨o',es',ep',ho',r'⟩:=hm
  rw[ho]at ho';cases ho'
  exact⟨_,es',ep',hL,r'⟩) hok I.bare
theorem Inv.call {g':Array GenState}{t':Nat}{d':Drawn}{ch:List Addr}(I:Inv X pins σ H s)(u:Un (frs X.stack) ch H H' s.heap h')(hok:HOk X.prog X.w H' h')(hg:AllBare g')
  (hch:∀b∈ch,(b∈X.ex∨X.s₀.heap.objs.size≤b)∧b≠X.env.locals∧(∀x c,X.env.cells.lookup x=some c→c≠b)∧∀p∈X.pn++pins,p.1≠b) :
  Inv X pins σ H' {s with heap:=h',gens:=g',drawn:=d',toks:=t'}:=by
 obtain⟨m,⟨o,es,ep,ho,r⟩,_⟩:=id I.loc
 obtain⟨sl,hL⟩:=u.any ho I.free fun z=>(hch _ z).2.1 rfl
 exact I.step (ch:=ch) hch (fun b o hL hb hc e n=>u.keep b o e n (fun z=>(List.mem_cons.mp (I.stkSub b z)).elim hL hb) hc) (fun b o _ _ hc e n=>u.any e n hc) (fun b o hc e n=>u.free b o e n hc) (fun b o hc e=>u.there b o e hc) u.tups u.frzs u.tbls (fun m' hm=>by
  obtain⟨o',es',ep',ho',r'⟩:=hm
  rw[ho]at ho';cases ho'
  exact⟨_,es',ep',hL,r'⟩) hok hg
theorem Inv.turned {t':Nat}{it:Addr}(I:Inv X pins σ H s)(k:∀b o,b≠it→s.heap.get? b=some o→h'.get? b=some o)(hn:H it=none)(hL:it≠X.env.locals)
  (h1:it∈X.ex∨X.s₀.heap.objs.size≤it) (h2:∀x c,X.env.cells.lookup x=some c→c≠it) (h3:∀p∈X.pn++pins,p.1≠it):Inv X pins σ H {s with heap:=h',toks:=t'}:=by
 have nit:∀b u,H b=some u→b≠it:=fun b u e z=>by rw[z,hn]at e;cases e
 refine I.step (g':=s.gens) (d':=s.drawn) (ch:=[it]) (fun b hb=>?_) (fun b o _ _ hc e _=>k b o (fun z=>hc (by simp[z])) e) (fun b o _ _ hc e _=>⟨o.slots,k b o (fun z=>hc (by simp[z])) e⟩) (fun _ _ _ _ n=>n)
  (fun b o hc e=>⟨o,k b o (fun z=>hc (by simp[z])) e⟩) (fun _ _ e=>e) (fun _ _ _ e=>e) (fun b ps e=>⟨#[],by rw[e];simp⟩) (fun m hm=>?_) (fun b u e=>?_) I.bare
 ·have e:b=it:=by simpa using hb
  subst e
  exact⟨h1,hL,h2,h3⟩
 ·obtain⟨o,es,ep,ho,r⟩:=hm
  exact⟨o,es,ep,k _ o (Ne.symm hL) ho,r⟩
 ·refine (I.hok b u e).stay (fun c v hc q=>k c v ?_ q) (fun _ q=>q) fun _ _ q=>q
  rcases hc with z | z
  ·rw[z];exact nit b u e
  ·exact nit c _ z
theorem Inv.tok (I:Inv X pins σ H s)(t:Nat):Inv X pins σ H {s with toks:=t}:=I.un (h':=s.heap) (t':=t) Un.refl I.hok
theorem Inv.kept {t':Nat}(I:Inv X pins σ H s)(k:∀b u,s.heap.get? b=some u→h'.get? b=some u):Inv X pins σ H {s with heap:=h',toks:=t'}:=I.un (Un.kept k) (I.hok.kept k)
theorem Inv.laid {a:Addr}{o:HO}{t':Nat}(I:Inv X pins σ H s)(k:∀b u,s.heap.get? b=some u→h'.get? b=some u)(hp:s.heap.objs.size≤a)(new:jca X.prog X.w (upd H a o) h' a o) :
  Inv X pins σ (upd H a o) {s with heap:=h',toks:=t'}:=I.un (Un.laid k hp (I.hok.fresh hp)) (I.hok.laid k hp new)
theorem Inv.write {x e:Addr}{o:HO}{t':Nat}(I:Inv X pins σ H s)(mu:Mut (H x))(he:e=x∨H e=some (.own x))(k:∀b u,b≠e→s.heap.get? b=some u→h'.get? b=some u)(heo:∃u,h'.get? e=some u)
  (new:jca X.prog X.w (upd H x o) h' x o):Inv X pins σ (upd H x o) {s with heap:=h',toks:=t'}:=I.un (Un.write mu he k heo) (I.hok.write mu he k heo new)
theorem Inv.weak {σ':List (Option V)}(I:Inv X pins σ H s)(hl:σ'.length=σ.length)(w:∀(i:Nat) v,σ'[i]?=some (some v)→σ[i]?=some (some v)):Inv X pins σ' H s :=
 ⟨I.ok,I.os,I.bare,I.base,let ⟨m,hn,hl'⟩:=I.loc;⟨m,hn,fun i x v e1 e2 e3=>hl' i x v e1 (w i v e2) e3⟩,I.cell,I.free,I.freeC,I.pin,I.hok,hl.trans I.len⟩
theorem Inv.pins_of {pins':List (Addr×Obj)}(I:Inv X pins σ H s)(h:∀p∈pins',s.heap.get? p.1=some p.2∧H p.1=none∧p.1≠X.env.locals∧p.1∉X.fs∧∀v,p.2.data≠.cell v):Inv X pins' σ H s :=
 ⟨I.ok,I.os,I.bare,I.base,I.loc,I.cell,I.free,I.freeC,fun p hp=>(List.mem_append.mp hp).elim (fun z=>I.pin p (List.mem_append_left _ z)) (h p),I.hok,I.len⟩
theorem jfv {N:List Str}(hN:N.Nodup){i j:Nat}{x:Str}(a:N[i]?=some x)(b:N[j]?=some x):i=j:=by
 obtain⟨h1,e1⟩:=List.getElem?_eq_some_iff.mp a
 obtain⟨h2,e2⟩:=List.getElem?_eq_some_iff.mp b
 exact (List.getElem_inj hN).mp (e1.trans e2.symm)
theorem jh5 {M:Model}{A:Around}{E:Value→Shared→Prop}{i:Nat}{x:Str}{v:V}{u:Value}{Q:Unit→Shared→Prop}(I:Inv X pins σ H s)(hN:X.N.Nodup)(hi:X.N[i]?=some x)(hx:Loc X.env.scope x)(r:jba v u)
  (h:∀s',Inv X pins (σ.set i (some v)) H s'→(∃a,Heap.SameBut a s.heap s'.heap∧(a=X.env.locals∨X.env.cells.lookup x=some a))→Q () s') (hf:X.fn x=true∨X.env.scope.names.lookup x=some .local:=by first | exact .inl rfl | exact .inr rfl | assumption):wpAny M A (storeName X.env x u) Q E s:=by
 obtain⟨m,hn,hl⟩:=id I.loc
 have hcls:(X.env.scope.kind == .class || (X.env.scope.kind == .module && X.env.locals != X.env.globals))=false:=by rw[I.ok.kind];rfl
 have hiσ:i < σ.length:=by rw[I.len];exact (List.getElem?_eq_some_iff.mp hi).1
 have cne:=I.cne
 have tracked:∀{a:Addr} {h':Heap},(∃o,s.heap.get? a=some o∧H a=none)→Heap.SameBut a s.heap h'→HOk X.prog X.w H h':=fun {a h'} ha hs b ob e=>by
  obtain⟨_,_,hfree⟩:=ha
  refine (I.hok b ob e).stay (fun c w' hc q=>(hs.2 c ?_).trans q) (fun _ q=>q) fun _ _ q=>q
  rintro rfl
  rcases hc with rfl | hc
  ·rw[hfree]at e;cases e
  ·rw[hfree]at hc;cases hc
 rcases hx with hk | hk
 ·refine wpAny_storeName_local hk hn (fun h' hn' hs=>?_) hcls
  obtain⟨oL,_,_,hoL,_⟩:=id hn
  refine h _ ⟨I.ok,I.os,I.bare,⟨fun b o e n hb hx=>?_,fun b o e n hb hx=>?_,I.base.free,fun b o e hx=>?_,I.base.tups,I.base.frzs,I.base.tbls⟩,⟨_,hn',fun j y v' e1 e2 e3=>?_⟩,fun y c e=>?_,I.free,I.freeC,fun p hp=>?_,tracked ⟨oL,hoL,I.free⟩ hs,by simpa using I.len⟩ ⟨_,hs,.inl rfl⟩
  ·exact (hs.2 b (Nat.ne_of_lt (Nat.lt_of_lt_of_le (Heap.lt_size e) I.ok.above))).trans (I.base.keep b o e n hb hx)
  ·obtain⟨sl,e1⟩:=I.base.slot b o e n hb hx
   exact⟨sl,(hs.2 b (Nat.ne_of_lt (Nat.lt_of_lt_of_le (Heap.lt_size e) I.ok.above))).trans e1⟩
  ·obtain⟨o',e1⟩:=I.base.there b o e hx
   exact⟨o',(hs.2 b (Nat.ne_of_lt (Nat.lt_of_lt_of_le (Heap.lt_size e) I.ok.above))).trans e1⟩
  ·by_cases hj:j=i
   ·subst hj
    rw[hi]at e1;cases e1
    rw[List.getElem?_set_self hiσ]at e2
    cases e2
    exact⟨u,r,.inl ⟨hk,by simp⟩⟩
   ·rw[List.getElem?_set_ne (Ne.symm hj)]at e2
    obtain⟨u',r',q⟩:=hl j y v' e1 e2 e3
    refine⟨u',r',?_⟩
    rcases q with ⟨k,e⟩ | ⟨k,c,e,z⟩
    ·refine .inl ⟨k,?_⟩
     have:y≠x:=fun e=>hj (jfv hN e1 (e ▸ hi))
     simp[this,e]
    ·exact .inr ⟨k,c,e,z.sameBut hs (cne y c e)⟩
  ·obtain⟨w',z⟩:=I.cell y c e
   exact⟨w',z.sameBut hs (cne y c e)⟩
  ·obtain⟨e,n,ne,nf,d⟩:=I.pin p hp
   exact⟨(hs.2 p.1 ne).trans e,n,ne,nf,d⟩
 ·have hfn:X.fn x=true:=by
   rcases hf with z | z
   ·exact z
   ·rw[z]at hk;cases hk
  obtain⟨c,hc⟩:=I.ok.has x (.inl hk)
  obtain⟨w',z⟩:=I.cell x c hc
  refine wpAny_storeName_cell I.ok.kind hk hc z (fun h' hc' hs=>?_)
  obtain⟨oc,hoc,hocd⟩:=id z
  refine h {s with heap:=h'} ⟨I.ok,I.os,I.bare,⟨fun b o e n hb hx=>?_,fun b o e n hb hx=>?_,I.base.free,fun b o e hx=>?_,I.base.tups,I.base.frzs,I.base.tbls⟩,⟨m,hn.sameBut hs (Ne.symm (cne x c hc)),fun j y v' e1 e2 e3=>?_⟩,fun y c' e=>?_,I.free,I.freeC,fun p hp=>?_,tracked ⟨oc,hoc,I.freeC x c hc⟩ hs,by simpa using I.len⟩ ⟨c,hs,.inr hc⟩
  ·exact (hs.2 b (Nat.ne_of_lt (Nat.lt_of_lt_of_le (Heap.lt_size e) (I.ok.cab x c hfn hc)))).trans (I.base.keep b o e n hb hx)
  ·obtain⟨sl,e1⟩:=I.base.slot b o e n hb hx
   exact⟨sl,(hs.2 b (Nat.ne_of_lt (Nat.lt_of_lt_of_le (Heap.lt_size e) (I.ok.cab x c hfn hc)))).trans e1⟩
  ·obtain⟨o',e1⟩:=I.base.there b o e hx
   exact⟨o',(hs.2 b (Nat.ne_of_lt (Nat.lt_of_lt_of_le (Heap.lt_size e) (I.ok.cab x c hfn hc)))).trans e1⟩
  ·by_cases hj:j=i
   ·subst hj
    rw[hi]at e1;cases e1
    rw[List.getElem?_set_self hiσ]at e2
    cases e2
    exact⟨u,r,.inr ⟨.inl hk,c,hc,hc'⟩⟩
   ·rw[List.getElem?_set_ne (Ne.symm hj)]at e2
    obtain⟨u',r',q⟩:=hl j y v' e1 e2 e3
    refine⟨u',r',?_⟩
    rcases q with q | ⟨k,c',e,z'⟩
    ·exact .inl q
    ·refine .inr ⟨k,c',e,z'.sameBut hs ?_⟩
     rintro rfl
     exact hj (jfv hN e1 (I.ok.inj _ _ _ e hc ▸ hi))
  ·by_cases hcc:c'=c
   ·subst hcc;exact⟨_,hc'⟩
   ·obtain⟨w2,z2⟩:=I.cell y c' e
    exact⟨w2,z2.sameBut hs hcc⟩
  ·obtain⟨e,n,ne,nf,d⟩:=I.pin p hp
   refine⟨(hs.2 p.1 ?_).trans e,n,ne,nf,d⟩
   intro q
   rw[q,hoc]at e
   have q':oc=p.2:=Option.some.inj e
   exact d w' (by rw[← q'];exact hocd)
theorem jgU {M:Model}{A:Around}{E:Value→Shared→Prop}{i:Nat}{x:Str}{v:V}{u:Value}{Q:Unit→Shared→Prop}(I:Inv X pins σ H s)(hN:X.N.Nodup)(hi:X.N[i]?=some x)(hx:Loc X.env.scope x)(r:jba v u)
  (h:∀s',Inv X pins (σ.set i (some v)) H s'→Q () s') (hf:X.fn x=true∨X.env.scope.names.lookup x=some .local:=by first | exact .inl rfl | exact .inr rfl | assumption):wpAny M A (storeName X.env x u) Q E s :=
 jh5 I hN hi hx r (fun s' I' _=>h s' I') hf
theorem Inv.call' {s':Shared}{ch:List Addr}(I:Inv X pins σ H s)(ho:s'.os=s.os)(u:Un (frs X.stack) ch H H' s.heap s'.heap)(hok:HOk X.prog X.w H' s'.heap)(hg:AllBare s'.gens)
  (hch:∀b∈ch,(b∈X.ex∨X.s₀.heap.objs.size≤b)∧b≠X.env.locals∧(∀x c,X.env.cells.lookup x=some c→c≠b)∧∀p∈X.pn++pins,p.1≠b):Inv X pins σ H' s':=by
 obtain⟨h',g',d',t',o'⟩:=s'
 have e:o'=s.os:=ho
 subst e
 exact I.call (g':=g') (t':=t') (d':=d') u hok hg hch
end
noncomputable abbrev XK:=Value→Option Addr→Hp→Prop
noncomputable abbrev St:=List (Option V)
noncomputable abbrev VK:=V→Hp→Prop
noncomputable abbrev TE:=St→Hp→VK→Prop
noncomputable abbrev TT:=St→Hp→(Bool→Hp→Prop)→Prop
noncomputable abbrev TA:=St→Hp→(List V→Hp→Prop)→Prop
structure Ends where
 nx:St→Hp→Prop
 rt:VK
 bk:St→Hp→Prop:=fun _ _=>False
 ct:St→Hp→Prop:=fun _ _=>False
noncomputable abbrev TS:=Ends→St→Hp→Prop
noncomputable def EP (X:Cx)(pins:List (Addr×Obj))(σ:St)(Q:VK)(u:Value)(s':Shared):Prop:=∃v H',Inv X pins σ H' s'∧jba v u∧Q v H'
noncomputable def TP (X:Cx)(pins:List (Addr×Obj))(σ:St)(Q:Bool→Hp→Prop)(b:Bool)(s':Shared):Prop:=∃H',Inv X pins σ H' s'∧Q b H'
noncomputable def AP (X:Cx)(pins:List (Addr×Obj))(σ:St)(Q:List V→Hp→Prop)(us:List Value)(s':Shared):Prop:=∃vs H',Inv X pins σ H' s'∧ja6 vs us∧Q vs H'
noncomputable def SP (X:Cx)(pins:List (Addr×Obj))(D:Ends)(f:Flow)(s':Shared):Prop :=
 match f with
 |.next=>∃σ' H',Inv X pins σ' H' s'∧D.nx σ' H'
 |.brk=>∃σ' H',Inv X pins σ' H' s'∧D.bk σ' H'
 |.cont=>∃σ' H',Inv X pins σ' H' s'∧D.ct σ' H'
 |.ret u=>∃v σ' H',Inv X pins σ' H' s'∧jba v u∧D.rt v H'
noncomputable def PE (X:Cx)(e:Expr)(t:TE):Prop :=
 ∀(pins:List (Addr×Obj)) (s:Shared) (σ:St) (H:Hp) (Q:VK),Inv X pins σ H s→t σ H Q→wpAny (model X.prog X.w) X.A (eval e X.env) (EP X pins σ Q) X.xe s
noncomputable def PT (X:Cx)(e:Expr)(t:TT):Prop :=
 ∀(pins:List (Addr×Obj)) (s:Shared) (σ:St) (H:Hp) (Q:Bool→Hp→Prop),Inv X pins σ H s→t σ H Q→wpAny (model X.prog X.w) X.A (isTrue e X.env (eval e X.env)) (TP X pins σ Q) X.xe s
noncomputable def PW (X:Cx)(e:Expr)(t:TT):Prop :=
 ∀(whole:Sem Value) (pins:List (Addr×Obj)) (s:Shared) (σ:St) (H:Hp) (Q:Bool→Hp→Prop),Inv X pins σ H s→t σ H Q→wpAny (model X.prog X.w) X.A (isTrue e X.env whole) (TP X pins σ Q) X.xe s
theorem PW.pt {X:Cx}{e:Expr}{t:TT}(h:PW X e t):PT X e t:=h _
noncomputable def PA (X:Cx)(es:List Expr)(t:TA):Prop :=
 ∀(pos:Pos) (pins:List (Addr×Obj)) (s:Shared) (σ:St) (H:Hp) (Q:List V→Hp→Prop),Inv X pins σ H s→t σ H Q→wpAny (model X.prog X.w) X.A (spliced (backTo pos (starEach es X.env))) (AP X pins σ Q) X.xe s
noncomputable def PS (X:Cx)(st:Stmt)(t:TS):Prop :=
 ∀(pins:List (Addr×Obj)) (s:Shared) (σ:St) (H:Hp) (D:Ends),Inv X pins σ H s→t D σ H→wpAny (model X.prog X.w) X.A (exec st X.env) (SP X pins D) X.xe s
noncomputable def PSs (X:Cx)(st:List Stmt)(t:TS):Prop :=
 ∀(pins:List (Addr×Obj)) (s:Shared) (σ:St) (H:Hp) (D:Ends),Inv X pins σ H s→t D σ H→wpAny (model X.prog X.w) X.A (execs st X.env) (SP X pins D) X.xe s
theorem thn {α:Type}{t:Sem α}{Q Q':α→Shared→Prop}{M:Model}{A:Around}{E:Value→Shared→Prop}{s:Shared}(h:wpAny M A t Q E s)(hQ:∀a s,Q a s→Q' a s):wpAny M A t Q' E s:=wpAny_mono h hQ fun _ _ x=>x
end _L2
namespace _L2
open PySem PySem.Spec PyProof.Rows
section
variable {X:Cx}
theorem bin {a b:Expr}{ta tb:TE}(ha:PE X a ta)(hb:PE X b tb){pins:List (Addr×Obj)}{s:Shared}{σ:St}{H:Hp}{R:V→V→Hp→Prop}(I:Inv X pins σ H s)(h:ta σ H fun x H1=>tb σ H1 fun y H2=>R x y H2)
  {α:Type} {Q:α→Shared→Prop} {f:Value→Value→Sem α}
  (hf:∀v u s2 x y H2,Inv X pins σ H2 s2→jba x v→jba y u→R x y H2→wpAny (model X.prog X.w) X.A (f v u) Q X.xe s2) :
  wpAny (model X.prog X.w) X.A (eval a X.env) (fun v s₁=>wpAny (model X.prog X.w) X.A (eval b X.env) (fun u s₂=>wpAny (model X.prog X.w) X.A (f v u) Q X.xe s₂) X.xe s₁) X.xe s:=by
 refine thn (ha pins s σ H _ I h) fun v s1 ⟨x,H1,I1,r1,q1⟩=>?_
 refine thn (hb pins s1 σ H1 _ I1 q1) fun u s2 ⟨y,H2,I2,r2,q2⟩=>?_
 exact hf v u s2 x y H2 I2 r1 r2 q2
noncomputable def jxD (i:Nat):TE:=fun σ H Q=>∃v,σ[i]?=some (some v)∧Q v H
noncomputable def tC (v:V):TE:=fun _ H Q=>Q v H
theorem jqa {i:Nat} {x:Str} {pos:Pos} (hN:X.N[i]?=some x) (hv:Vis X.env.scope x) (hd:(x == ("__debug__" : Str))=false:=by decide) (hcd:(x == ("__classdict__" : Str))=false:=by decide):PE X (.Name x pos) (jxD i):=by
 intro pins s σ H Q I h
 obtain⟨v,e,h⟩:=h
 obtain⟨m,hn,hl⟩:=I.loc
 obtain⟨u,r,l⟩:=hl i x v hN e hv
 have fin:EP X pins σ Q u s:=⟨v,H,I,r,h⟩
 rcases l with ⟨hk,hm⟩ | ⟨hk,c,hc,hcell⟩
 ·exact wpAny_Name (wpAny_loadName_local I.ok.kind hk hn hm fin) hd
 ·rcases hk with hk | hk
  ·exact wpAny_Name (wpAny_loadName_cell I.ok.kind hk hc hcell fin) hd
  ·exact wpAny_Name (wpAny_loadName_free I.ok.kind hk hc hcell fin hcd) hd
theorem jpV {i j pos}:PE X (.Constant (.int i) j pos) (tC (.int i)):=fun _ _ _ H _ I h=>wpAny_Constant_int ⟨.int i,H,I.tok _,⟨_,rfl⟩,h⟩
theorem jok {b j pos}:PE X (.Constant (.bool b) j pos) (tC (.bl b)):=fun _ _ _ H _ I h=>Constant_bool ⟨.bl b,H,I,rfl,h⟩
theorem jtC {j pos}:PE X (.Constant .none j pos) (tC .non):=fun _ _ _ H _ I h=>Constant_none ⟨.non,H,I,rfl,h⟩
theorem jqt {x j pos}:PE X (.Constant (.str x) j pos) (tC (.str x)):=fun _ _ _ H _ I h=>Calls.Constant_str ⟨.str x,H,I.tok _,⟨_,rfl⟩,h⟩
noncomputable def Gl (X:Cx)(x:Str):Prop:=X.env.kindOf x=some .globalImplicit
theorem jfC {E:Value→Shared→Prop}{pins:List (Addr×Obj)}{s:Shared}{σ:St}{H:Hp}{x:Str}{u:Value}{pos:Pos}{Q:Value→Shared→Prop}(I:Inv X pins σ H s)(hg:Gl X x)(hm:X.mg x=some u)(h:Q u s)
  (hd:(x == ("__debug__" : Str))=false:=by decide):wpAny (model X.prog X.w) X.A (eval (.Name x pos) X.env) Q E s :=
 Calls.Name_function_global I.ok.kind hg (Calls.loadGlobal_global (by rw[I.ok.glob];exact I.mod.glob.keeps I.bk) hm h) hd
theorem jdJ {E:Value→Shared→Prop}{pins:List (Addr×Obj)}{s:Shared}{σ:St}{H:Hp}{x:Str}{u:Value}{pos:Pos}{Q:Value→Shared→Prop}(I:Inv X pins σ H s)(hg:Gl X x)(hm:X.mg x=none)(hv:bootBuiltins x=some u)(h:Q u s)
  (hn:x≠"__name__":=by decide) (hd:(x == ("__debug__" : Str))=false:=by decide):wpAny (model X.prog X.w) X.A (eval (.Name x pos) X.env) Q E s:=by
 obtain⟨mb,h1,h2⟩:=I.mod.blt
 exact Calls.Name_function_global I.ok.kind hg (Calls.loadGlobal_builtin (by rw[I.ok.glob];exact I.mod.glob.keeps I.bk) hm (by rw[I.ok.blt];exact h1.keeps I.bk) ((h2 x hn).trans hv) h) hd
theorem ji3 {x:Str} {v:V} {u:Value} {pos:Pos} (hg:Gl X x) (hm:X.mg x=some u) (r:jba v u) (hd:(x == ("__debug__" : Str))=false:=by decide):PE X (.Name x pos) (tC v) :=
 fun _ _ _ H _ I h=>jfC I hg hm ⟨v,H,I,r,h⟩ hd
theorem jsc {x:Str} {v:V} {u:Value} {pos:Pos} (hg:Gl X x) (hm:X.mg x=none) (hv:bootBuiltins x=some u) (r:jba v u) (hn:x≠"__name__":=by decide) (hd:(x == ("__debug__" : Str))=false:=by decide):PE X (.Name x pos) (tC v) :=
 fun _ _ _ H _ I h=>jdJ I hg hm hv ⟨v,H,I,r,h⟩ hn hd
variable {a b:Expr} {ta tb:TE} {pos:Pos}
noncomputable def PC (X:Cx)(op:CmpOp)(a b:Expr)(t:TE):Prop :=
 ∀(pins:List (Addr×Obj)) (s:Shared) (σ:St) (H:Hp) (Q:VK),Inv X pins σ H s→t σ H Q →
  wpAny (model X.prog X.w) X.A (eval a X.env) (fun v s₁=>wpAny (model X.prog X.w) X.A (eval b X.env) (fun u s₂=>wpAny (model X.prog X.w) X.A (compareOp op v u) (EP X pins σ Q) X.xe s₂) X.xe s₁) X.xe s
theorem jkd (b:Expr){op:CmpOp}(h:op≠.In)(h2:op≠.NotIn):behindInMarks op b=false:=by
 have e1:(op == CmpOp.In)=false:=by cases op <;> first | rfl | exact absurd rfl h
 have e2:(op == CmpOp.NotIn)=false:=by cases op <;> first | rfl | exact absurd rfl h2
 cases b <;> simp[behindInMarks,e1,e2]
noncomputable def jwq (ta:TE):TE:=fun σ H Q=>ta σ H fun x H1=>Q (.bl (decide (x=.non))) H1
noncomputable def joL (ta:TE):TE:=fun σ H Q=>ta σ H fun x H1=>Q (.bl (!decide (x=.non))) H1
theorem jba.none_iff {x:V}{v:Value}(r:jba x v):(v == Value.none)=decide (x=.non):=by
 cases x with
 |non=>cases r;rfl
 |bl _=>cases r;rfl
 |int _=>obtain⟨t,rfl⟩:=r;rfl
 |str _=>obtain⟨t,rfl⟩:=r;rfl
 |byt _=>obtain⟨t,rfl⟩:=r;rfl
 |flt _=>obtain⟨t,rfl⟩:=r;rfl
 |ref _=>cases r;rfl
 |ty _=>cases r;rfl
theorem jp4 {j pos'}(ha:PE X a ta):PC X .Is a (.Constant .none j pos') (jwq ta):=by
 intro pins s σ H Q I h
 refine thn (ha pins s σ H _ I h) fun v s1 ⟨x,H1,I1,r1,q1⟩=>?_
 exact Constant_none (is_none_gen ⟨.bl _,H1,I1,by rw[r1.none_iff];rfl,q1⟩)
theorem jmQ {j pos'}(ha:PE X a ta):PC X .IsNot a (.Constant .none j pos') (joL ta):=by
 intro pins s σ H Q I h
 refine thn (ha pins s σ H _ I h) fun v s1 ⟨x,H1,I1,r1,q1⟩=>?_
 exact Constant_none (isnot_none_gen ⟨.bl _,H1,I1,by rw[r1.none_iff];rfl,q1⟩)
noncomputable def tB (t:TE):TT:=fun σ H Q=>t σ H fun x H1=>∃c,x=.bl c∧Q c H1
theorem jqr {op:CmpOp}{t:TE}(h:PC X op a b t)(h1:behindInMarks op b=false:=by first | exact jkd _ (by decide) (by decide) | rfl):PE X (.Compare a [op] [b] pos) t:=fun pins s σ H Q I hw=>wpAny_Compare1 (h pins s σ H Q I hw) h1
theorem jpU {op:CmpOp}{t:TE}(h:PC X op a b t)(h1:behindInMarks op b=false:=by first | exact jkd _ (by decide) (by decide) | rfl):PT X (.Compare a [op] [b] pos) (tB t):=by
 intro pins s σ H Q I hw
 refine wpAny_isTrue_Compare1 (thn (h pins s σ H _ I hw) fun v s1 h1=>thn h1 fun u s2 h2=>thn h2 fun c s3 ⟨x,H1,I1,r1,q1⟩=>?_) h1
 obtain⟨d,rfl,q⟩:=q1
 cases r1
 exact wpAny_truthy_bool ⟨H1,I1,q⟩
variable {tA tB':TT} {rest:List Expr}
noncomputable def jxe (t u:TT):TT:=fun σ H Q=>t σ H fun c H1=>if c=true then u σ H1 Q else Q false H1
noncomputable def tOr (t u:TT):TT:=fun σ H Q=>t σ H fun c H1=>if c=true then Q true H1 else u σ H1 Q
noncomputable def jxX (t:TT):TT:=fun σ H Q=>t σ H fun c H1=>Q (!c) H1
theorem jtg (ha:PT X a tA):PW X (.BoolOp .And [a] pos) tA:=by
 intro wh pins s σ H Q I h
 refine isTrue_and (thn (ha pins s σ H Q I h) fun c s1 e=>?_)
 cases c with
 |true=>exact isTrue_and_nil e
 |false=>exact e
theorem jvn (ha:PT X a tA):PW X (.BoolOp .Or [a] pos) tA:=by
 intro wh pins s σ H Q I h
 refine isTrue_or (thn (ha pins s σ H Q I h) fun c s1 e=>?_)
 cases c with
 |false=>exact isTrue_or_nil e
 |true=>exact e
theorem jv (ha:PT X a tA)(hb:PW X (.BoolOp .And (b :: rest) pos) tB'):PW X (.BoolOp .And (a :: b :: rest) pos) (jxe tA tB'):=by
 intro wh pins s σ H Q I h
 refine isTrue_and (thn (ha pins s σ H _ I h) fun c s1 ⟨H1,I1,q1⟩=>?_)
 cases c with
 |true=>exact hb wh pins s1 σ H1 Q I1 q1
 |false=>exact⟨H1,I1,q1⟩
theorem jwz (ha:PT X a tA)(hb:PW X (.BoolOp .Or (b :: rest) pos) tB'):PW X (.BoolOp .Or (a :: b :: rest) pos) (tOr tA tB'):=by
 intro wh pins s σ H Q I h
 refine isTrue_or (thn (ha pins s σ H _ I h) fun c s1 ⟨H1,I1,q1⟩=>?_)
 cases c with
 |true=>exact⟨H1,I1,q1⟩
 |false=>exact hb wh pins s1 σ H1 Q I1 q1
theorem jvB (ha:PT X a tA):PT X (.UnaryOp .Not a pos) (jxX tA):=by
 intro pins s σ H Q I h
 exact isTrue_not (ha pins s σ H (fun c H1=>Q (!c) H1) I h)
noncomputable def jrf (ta tb:TE):TE:=fun σ H Q=>ta σ H fun x H1=>∃c,x=.bl c∧if c=true then tb σ H1 Q else Q (.bl false) H1
noncomputable def jw6 (ta tb:TE):TE:=fun σ H Q=>ta σ H fun x H1=>∃c,x=.bl c∧if c=true then Q (.bl true) H1 else tb σ H1 Q
noncomputable def juJ (ta:TE):TE:=fun σ H Q=>ta σ H fun x H1=>∃c,x=.bl c∧Q (.bl (!c)) H1
theorem jvZ {op}{t:TE}(h:PE X a t):PE X (.BoolOp op [a] pos) t:=fun pins s σ H Q I hw=>BoolOp_one (h pins s σ H Q I hw)
theorem juO (ha:PE X a ta)(hb:PE X (.BoolOp .And (b :: rest) pos) tb):PE X (.BoolOp .And (a :: b :: rest) pos) (jrf ta tb):=by
 intro pins s σ H Q I h
 refine BoolOp_and (thn (ha pins s σ H _ I h) fun v s1 ⟨x,H1,I1,r1,q1⟩=>?_)
 obtain⟨c,rfl,q1⟩:=q1
 cases r1
 refine wpAny_truthy_bool ?_
 cases c with
 |true=>exact hb pins s1 σ H1 Q I1 q1
 |false=>exact⟨.bl false,H1,I1,rfl,q1⟩
theorem jwO (ha:PE X a ta)(hb:PE X (.BoolOp .Or (b :: rest) pos) tb):PE X (.BoolOp .Or (a :: b :: rest) pos) (jw6 ta tb):=by
 intro pins s σ H Q I h
 refine BoolOp_or (thn (ha pins s σ H _ I h) fun v s1 ⟨x,H1,I1,r1,q1⟩=>?_)
 obtain⟨c,rfl,q1⟩:=q1
 cases r1
 refine wpAny_truthy_bool ?_
 cases c with
 |false=>exact hb pins s1 σ H1 Q I1 q1
 |true=>exact⟨.bl true,H1,I1,rfl,q1⟩
theorem jun (ha:PE X a ta):PE X (.UnaryOp .Not a pos) (juJ ta):=by
 intro pins s σ H Q I h
 refine UnaryOp_ (thn (ha pins s σ H _ I h) fun v s1 ⟨x,H1,I1,r1,q1⟩=>?_)
 obtain⟨c,rfl,q1⟩:=q1
 cases r1
 exact not_of (wpAny_truthy_bool ⟨.bl (!c),H1,I1,rfl,q1⟩)
noncomputable def tIf (t:TT)(ta tb:TE):TE:=fun σ H Q=>t σ H fun c H1=>if c=true then ta σ H1 Q else tb σ H1 Q
theorem jol {c:Expr}(hc:PT X c tA)(ha:PE X a ta)(hb:PE X b tb):PE X (.IfExp c a b pos) (tIf tA ta tb):=by
 intro pins s σ H Q I h
 refine wpAny_IfExp (thn (hc pins s σ H _ I h) fun d s1 ⟨H1,I1,q1⟩=>?_)
 cases d with
 |true=>exact ha pins s1 σ H1 Q I1 q1
 |false=>exact hb pins s1 σ H1 Q I1 q1
end
end _L2
namespace _L2
open PySem PySem.Spec PyProof.Rows
noncomputable def SqL (K:PySem.W.Frag)(H:Hp)(a:Addr)(xs:List V):Prop :=
 Rd H a (.lst xs) ∨
  ∃(o:Obj) (its:Array Value) (n:Nat),K.lookup a=some o∧o.cls=.type "list"∧o.dict=none∧o.data=.seq its n∧its.size≤sizeLine∧ja6 xs its.toList
noncomputable def SqT (K:PySem.W.Frag)(H:Hp)(a:Addr)(xs:List V):Prop :=
 Rd H a (.tup xs) ∨
  ∃(o:Obj) (its:Array Value) (n:Nat),K.lookup a=some o∧o.cls=.type "tuple"∧o.data=.seq its n∧its.size≤sizeLine∧ja6 xs its.toList
noncomputable def jym:Value→Option V
 |.none=>some .non
 |.bool b=>some (.bl b)
 |.int i _=>some (.int i)
 |.str x _=>some (.str x)
 |.bytes b _=>some (.byt b)
 |.float b _=>some (.flt b)
 |.ref a=>some (.ref a)
 |.type n=>some (.ty n)
 |_=>none
theorem jba.abs {x:V}{u:Value}(r:jba x u):jym u=some x:=by
 cases x with
 |non=>cases r;rfl
 |bl _=>cases r;rfl
 |int _=>obtain⟨t,rfl⟩:=r;rfl
 |str _=>obtain⟨t,rfl⟩:=r;rfl
 |byt _=>obtain⟨t,rfl⟩:=r;rfl
 |flt _=>obtain⟨t,rfl⟩:=r;rfl
 |ref _=>cases r;rfl
 |ty _=>cases r;rfl
theorem jba.inj {x y:V}{u:Value}(r:jba x u)(q:jba y u):x=y:=Option.some.inj (r.abs.symm.trans q.abs)
theorem ja6.inj {xs ys:List V}{us:List Value}(h:ja6 xs us)(k:ja6 ys us):xs=ys:=by
 induction h generalizing ys with
 |nil=>cases k;rfl
 |cons r t ih =>
  cases k with
  |cons r' t'=>rw[r.inj r',ih t']
section
variable {X:Cx} {pins:List (Addr×Obj)} {σ:St} {H:Hp} {s:Shared} {a:Addr} {xs ys:List V}
theorem SqL.of {K:PySem.W.Frag}(h:H a=some (.lst xs)):SqL K H a xs:=.inl (.inl h)
theorem SqT.of {K:PySem.W.Frag}(h:H a=some (.tup xs)):SqT K H a xs:=.inl (.inl h)
theorem Inv.list (I:Inv X pins σ H s)(h:SqL X.K H a xs):∃its:List Value,ja6 xs its∧PlainL s.heap a its.toArray∧xs.length≤sizeLine:=by
 rcases h with h | ⟨o,its,n,hk,hc,hd,hs,hz,r⟩
 ·obtain⟨z,its,n,r,e⟩:=h.ok I.hok
  exact⟨its,r,⟨_,n,e,rfl,rfl,rfl⟩,z⟩
 ·refine⟨its.toList,r,⟨o,n,I.kIn a o hk,hc,hd,by simpa using hs⟩,?_⟩
  have e:=r.length
  simp only[Array.length_toList]at e
  omega
theorem Inv.tuple (I:Inv X pins σ H s)(h:SqT X.K H a xs):∃its:List Value,ja6 xs its∧IsTup s.heap a its.toArray∧xs.length≤sizeLine:=by
 rcases h with h | ⟨o,its,n,hk,hc,hs,hz,r⟩
 ·obtain⟨z,its,r,p⟩:=h.ok I.hok
  exact⟨its,r,p,z⟩
 ·refine⟨its.toList,r,⟨o,I.kIn a o hk,hc,n,by simpa using hs⟩,?_⟩
  have e:=r.length
  simp only[Array.length_toList]at e
  omega
theorem Inv.list_inj (I:Inv X pins σ H s)(h:SqL X.K H a xs)(h':SqL X.K H a ys):xs=ys:=by
 obtain⟨its,r,⟨o,n,e,_,_,d⟩,_⟩:=I.list h
 obtain⟨its',r',⟨o',n',e',_,_,d'⟩,_⟩:=I.list h'
 rw[e]at e';cases e'
 rw[d]at d'
 injection d' with d1 _
 have:its=its':=by simpa using congrArg Array.toList d1
 subst this
 exact r.inj r'
theorem Inv.tuple_inj (I:Inv X pins σ H s)(h:SqT X.K H a xs)(h':SqT X.K H a ys):xs=ys:=by
 obtain⟨its,r,⟨o,e,_,n,d⟩,_⟩:=I.tuple h
 obtain⟨its',r',⟨o',e',_,n',d'⟩,_⟩:=I.tuple h'
 rw[e]at e';cases e'
 rw[d]at d'
 injection d' with d1 _
 have:its=its':=by simpa using congrArg Array.toList d1
 subst this
 exact r.inj r'
end
noncomputable abbrev Cx.wish (X:Cx) (E:Value→Shared→Prop):Cx:={X with xe:=E}
noncomputable abbrev Cx.nox (X:Cx):Cx:=X.wish fun _ _=>False
theorem Cx.Ok.wish {X:Cx}(ok:X.Ok)(E:Value→Shared→Prop):(X.wish E).Ok :=
 ⟨ok.mod,ok.kind,ok.glob,ok.blt,ok.above,ok.inj,ok.has,ok.cab,ok.hd,ok.frames,ok.stk,ok.exf,ok.bs,ok.bsz,ok.noex,ok.exfs,ok.funs,ok.frf⟩
theorem Cx.Ok.unwish {X:Cx}{E:Value→Shared→Prop}(ok:(X.wish E).Ok):X.Ok :=
 ⟨ok.mod,ok.kind,ok.glob,ok.blt,ok.above,ok.inj,ok.has,ok.cab,ok.hd,ok.frames,ok.stk,ok.exf,ok.bs,ok.bsz,ok.noex,ok.exfs,ok.funs,ok.frf⟩
section
variable {X:Cx} {pins:List (Addr×Obj)} {σ:St} {H:Hp} {s:Shared} {E:Value→Shared→Prop}
theorem Inv.wish (I:Inv X pins σ H s)(E:Value→Shared→Prop):Inv (X.wish E) pins σ H s:=⟨I.ok.wish E,I.os,I.bare,I.base,I.loc,I.cell,I.free,I.freeC,I.pin,I.hok,I.len⟩
theorem Inv.unwish (I:Inv (X.wish E) pins σ H s):Inv X pins σ H s:=⟨I.ok.unwish,I.os,I.bare,I.base,I.loc,I.cell,I.free,I.freeC,I.pin,I.hok,I.len⟩
theorem SP.unwish {D:Ends}{f:Flow}{s':Shared}(h:SP (X.wish E) pins D f s'):SP X pins D f s':=by
 cases f with
 |next=>obtain⟨σ',H',I,q⟩:=h;exact⟨σ',H',I.unwish,q⟩
 |brk=>obtain⟨σ',H',I,q⟩:=h;exact⟨σ',H',I.unwish,q⟩
 |cont=>obtain⟨σ',H',I,q⟩:=h;exact⟨σ',H',I.unwish,q⟩
 |ret u=>obtain⟨v,σ',H',I,r,q⟩:=h;exact⟨v,σ',H',I.unwish,r,q⟩
theorem PE.nox {e:Expr}{t:TE}(h:PE X.nox e t):PE X e t:=fun pins s σ H Q I hw =>
 wpAny_mono (h pins s σ H Q (I.wish _) hw) (fun _ _ ⟨v,H',I',r,q⟩=>⟨v,H',I'.unwish,r,q⟩) fun _ _ z=>False.elim z
theorem PT.nox {e:Expr}{t:TT}(h:PT X.nox e t):PT X e t:=fun pins s σ H Q I hw =>
 wpAny_mono (h pins s σ H Q (I.wish _) hw) (fun _ _ ⟨H',I',q⟩=>⟨H',I'.unwish,q⟩) fun _ _ z=>False.elim z
theorem PSs.nox {st:List Stmt}{t:TS}(h:PSs X.nox st t):PSs X st t:=fun pins s σ H D I hw =>
 wpAny_mono (h pins s σ H D (I.wish _) hw) (fun _ _ q=>q.unwish) fun _ _ z=>False.elim z
end
section
variable {X:Cx} {st:Stmt} {rest:List Stmt} {t u:TS} {e:Expr} {te:TE} {pos:Pos}
noncomputable def jtX:TS:=fun D σ H=>D.nx σ H
noncomputable def jyu (t u:TS):TS:=fun D σ H=>t {D with nx:=u D} σ H
theorem jiz:PSs X [] jtX:=fun _ _ σ H _ I h=>wpAny_execs_nil ⟨σ,H,I,h⟩
theorem jc0 (h1:PS X st t)(h2:PSs X rest u):PSs X (st :: rest) (jyu t u):=by
 intro pins s σ H D I h
 refine wpAny_execs_cons (thn (h1 pins s σ H {D with nx:=u D} I h) fun f s1 q=>?_)
 cases f with
 |next =>
  obtain⟨σ',H',I',q⟩:=q
  exact h2 pins s1 σ' H' D I' q
 |ret v=>exact q
 |brk=>exact q
 |cont=>exact q
theorem jje (h1:PS X st t):PSs X [st] t:=by
 intro pins s σ H D I h
 refine wpAny_execs_cons (thn (h1 pins s σ H D I h) fun f s1 q=>?_)
 cases f with
 |next=>exact wpAny_execs_nil q
 |ret v=>exact q
 |brk=>exact q
 |cont=>exact q
theorem jsq:PS X (.Pass pos) jtX:=fun _ _ σ H _ I h=>wpAny_Pass ⟨σ,H,I,h⟩
theorem Inv.quiet {pins:List (Addr×Obj)}{σ:St}{H:Hp}{s:Shared}(I:Inv X pins σ H s):interactive X.env=false:=by simp[interactive,I.ok.kind]
noncomputable def jxf (te:TE):TS:=fun D σ H=>te σ H fun _ H1=>D.nx σ H1
theorem jne (he:PE X e te)(hs:swapsWith e none pos.line X.env=pure false:=by rfl):PS X (.Expr e pos) (jxf te):=by
 intro pins s σ H D I h
 exact wpAny_Expr_any (thn (he pins s σ H _ I h) fun v s1 ⟨x,H1,I1,r1,q1⟩=>⟨σ,H1,I1,q1⟩) I.quiet hs
noncomputable def jyk (te:TE):TS:=fun D σ H=>te σ H D.rt
theorem jpS (he:PE X e te):PS X (.Return (some e) pos) (jyk te):=by
 intro pins s σ H D I h
 exact wpAny_Return_some (thn (he pins s σ H _ I h) fun v s1 ⟨x,H1,I1,r1,q1⟩=>⟨x,σ,H1,I1,r1,q1⟩)
noncomputable def jwW:TS:=fun D _ H=>D.rt .non H
theorem jth:PS X (.Return none pos) jwW:=fun _ _ σ H _ I h=>wpAny_Return_none ⟨.non,σ,H,I,rfl,h⟩
noncomputable def jyF (c:TT)(t u:TS):TS:=fun D σ H=>c σ H fun b H1=>if b=true then t D σ H1 else u D σ H1
theorem juh {c:Expr}{a b:List Stmt}{tc:TT}(hc:PT X c tc)(ha:PSs X a t)(hb:PSs X b u):PS X (.If c a b pos) (jyF tc t u):=by
 intro pins s σ H D I h
 refine wpAny_If (thn (hc pins s σ H _ I h) fun d s1 ⟨H1,I1,q1⟩=>?_)
 cases d with
 |true=>exact ha pins s1 σ H1 D I1 q1
 |false=>exact hb pins s1 σ H1 D I1 q1
noncomputable def jtK:TS:=fun _ _ _=>False
theorem jp:PS X st jtK:=fun _ _ _ _ _ _ h=>h.elim
end
noncomputable abbrev TG:=V→St→Hp→(St→Hp→Prop)→Prop
noncomputable abbrev TGs:=List V→St→Hp→(St→Hp→Prop)→Prop
noncomputable def PG (X:Cx)(target:Expr)(t:TG):Prop :=
 ∀(pins:List (Addr×Obj)) (s:Shared) (σ:St) (H:Hp) (v:V) (u:Value) (Q:St→Hp→Prop),Inv X pins σ H s→jba v u→t v σ H Q →
  wpAny (model X.prog X.w) X.A (assign target X.env u) (fun _ s'=>∃σ' H',Inv X pins σ' H' s'∧Q σ' H') X.xe s
noncomputable def PGs (X:Cx)(ts:List Expr)(t:TGs):Prop :=
 ∀(pins:List (Addr×Obj)) (s:Shared) (σ:St) (H:Hp) (vs:List V) (us:List Value) (Q:St→Hp→Prop),Inv X pins σ H s→ja6 vs us→t vs σ H Q →
  wpAny (model X.prog X.w) X.A (assignInOrder ((assignEach ts X.env).map (·.2)) us) (fun _ s'=>∃σ' H',Inv X pins σ' H' s'∧Q σ' H') X.xe s
noncomputable abbrev jxB:=V→V→V→Hp→(Hp→Prop)→Prop
noncomputable def jyj (X:Cx)(t:jxB):Prop :=
 ∀(pins:List (Addr×Obj)) (s:Shared) (σ:St) (H:Hp) (o i v:V) (ov iv u:Value) (Q:Hp→Prop),Inv X pins σ H s→jba o ov→jba i iv→jba v u→t o i v H Q →
  wpAny (model X.prog X.w) X.A (setItem ov iv u) (fun _ s'=>∃H',Inv X pins σ H' s'∧Q H') X.xe s
section
variable {X:Cx} {pos:Pos}
noncomputable def je4 (i:Nat):TG:=fun v σ H Q=>Q (σ.set i (some v)) H
theorem jmr {i:Nat}{x:Str}(hN:X.N.Nodup)(hi:X.N[i]?=some x)(hx:Loc X.env.scope x)(hf:X.fn x=true∨X.env.scope.names.lookup x=some .local:=by first | exact .inl rfl | exact .inr rfl | assumption):PG X (.Name x pos) (je4 i):=by
 intro pins s σ H v u Q I r h
 exact wpAny_assign_Name (jgU I hN hi hx r (fun s' I'=>⟨_,H,I',h⟩) hf)
noncomputable def jxY:TGs:=fun vs σ H Q=>vs=[]∧Q σ H
noncomputable def jvd (t:TG)(u:TGs):TGs:=fun vs σ H Q=>∃v r,vs=v :: r∧t v σ H fun σ' H'=>u r σ' H' Q
theorem jsX:PGs X [] jxY:=by
 intro pins s σ H vs us Q I r h
 obtain⟨e,h⟩:=h
 subst e
 cases r
 exact assignInOrder_nil ⟨σ,H,I,h⟩
theorem jnQ {e:Expr}{es:List Expr}{t:TG}{u:TGs}(h1:PG X e t)(h2:PGs X es u)
  (hs:(assignEach (e :: es) X.env).map (·.2)=assign e X.env :: (assignEach es X.env).map (·.2):=by rfl):PGs X (e :: es) (jvd t u):=by
 intro pins s σ H vs us Q I r h
 obtain⟨v,vr,e1,h⟩:=h
 subst e1
 cases r with
 |cons r rr =>
  rw[hs]
  refine assignInOrder_cons (thn (h1 pins s σ H _ _ _ I r h) fun _ s1 ⟨σ1,H1,I1,q1⟩=>?_)
  exact h2 pins s1 σ1 H1 _ _ Q I1 rr q1
noncomputable def jyh (K:PySem.W.Frag)(n:Nat)(t:TGs):TG:=fun v σ H Q=>∃a xs,v=.ref a∧SqT K H a xs∧xs.length=n∧t xs σ H Q
theorem juz {es:List Expr}{k:Nat}{t:TGs}{n:Nat}(hc:X.calm=true)(h:PGs X es t)
  (hn:(assignEach es X.env).length=n:=by rfl) (hst:(assignEach es X.env).findIdx? (·.1)=none:=by rfl):PG X (.Tuple es k pos) (jyh X.K n t):=by
 intro pins s σ H v u Q I r hw
 obtain⟨a,xs,e1,hq,hl,hw⟩:=hw
 subst e1
 cases r
 obtain⟨its,rv,ht,hz⟩:=I.tuple hq
 refine assign_Tuple_tuple (I.ok.hd hc) ht (by simp[hn,← hl,rv.length]) hst fun h' hx=>?_
 have I1:Inv X pins σ H {s with heap:=h'}:=I.kept (t':=s.toks) fun b o e=>hx b o (Nat.ne_of_lt (Heap.lt_size e)) e
 exact h pins _ σ H xs _ Q I1 (by simpa using rv) hw
noncomputable def jyy (to ti:TE)(t:jxB):TG:=fun v σ H Q=>to σ H fun o H1=>ti σ H1 fun i H2=>t o i v H2 fun H3=>Q σ H3
theorem jtR {o i:Expr}{to ti:TE}{t:jxB}(ho:PE X o to)(hi:PE X i ti)(hs:jyj X t)
  (ha:∀v,assign (.Subscript o i pos) X.env v=(do
   let ov ← holding [v] (eval o X.env)
   let iv ← holding [v,ov] (eval i X.env)
   standAt pos
   holding [v,ov,iv] (setItem ov iv v)
   release [v,ov,iv] []):=by intro _;rfl):PG X (.Subscript o i pos) (jyy to ti t):=by
 intro pins s σ H v u Q I r h
 rw[ha]
 refine wpAny_bind (wpAny_holding (thn (ho pins s σ H _ I h) fun ov s1 ⟨x,H1,I1,r1,q1⟩=>?_))
 refine wpAny_bind (wpAny_holding (thn (hi pins s1 σ H1 _ I1 q1) fun iv s2 ⟨y,H2,I2,r2,q2⟩=>?_))
 refine wpAny_bind (wpAny_standAt (wpAny_bind (wpAny_holding (thn (hs pins s2 σ H2 x y v ov iv u _ I2 r1 r2 r q2) fun _ s3 ⟨H3,I3,q3⟩=>?_))))
 exact wpAny_release ⟨σ,H3,I3,q3⟩
noncomputable def jvG (te:TE)(g:TG):TS:=fun D σ H=>te σ H fun x H1=>g x σ H1 D.nx
theorem jpQ {tg e:Expr}{te:TE}{g:TG}(he:PE X e te)(hg:PG X tg g)(hs:swapsWithSole [tg] e pos.line X.env=pure false:=by rfl)(hw:swappedStores [tg] e X.env=pure none:=by rfl)
  (h1:(assignEach [tg] X.env).map (·.2)=[assign tg X.env]:=by rfl):PS X (.Assign [tg] e pos) (jvG te g):=by
 intro pins s σ H D I h
 refine wpAny_Assign_stores (thn (he pins s σ H _ I h) fun v s1 ⟨x,H1,I1,r1,q1⟩=>?_) hs hw
 rw[h1]
 exact thn (hg pins s1 σ H1 x v _ I1 r1 q1) fun _ s2 q=>q
theorem jp6 {i:Nat}{x:Str}{e:Expr}{te:TE}{pos':Pos}(hN:X.N.Nodup)(hi:X.N[i]?=some x)(hx:Loc X.env.scope x)(he:PE X e te)(hs:swapsWith e (some (.Name x pos')) pos.line X.env=pure false:=by rfl)(hf:X.fn x=true∨X.env.scope.names.lookup x=some .local:=by first | exact .inl rfl | exact .inr rfl | assumption) :
  PS X (.Assign [.Name x pos'] e pos) (jvG te (je4 i)):=by
 intro pins s σ H D I h
 refine wpAny_Assign_Name (thn (he pins s σ H _ I h) fun v s1 ⟨y,H1,I1,r1,q1⟩=>?_) hs
 exact jgU I1 hN hi hx r1 (fun s2 I2=>⟨_,H1,I2,q1⟩) hf
end
section
variable {X:Cx} {pos:Pos}
end
structure It where
 go:Nat→Hp→Prop
 yld:Nat→Hp→V→Hp→Prop
 stop:Nat→Hp→Prop
noncomputable def jnG (X:Cx)(pins:List (Addr×Obj))(H:Hp)(b:Addr):Prop :=
 H b=none∧b≠X.env.locals∧b∉X.fs∧(b∈X.ex∨X.s₀.heap.objs.size≤b)∧(∀x c,X.env.cells.lookup x=some c→c≠b)∧∀p∈X.pn++pins,p.1≠b
theorem Inv.fpOk {X:Cx}{pins:List (Addr×Obj)}{σ:St}{H H':Hp}{s:Shared}{b:Addr}(I:Inv X pins σ H s)(hb:s.heap.objs.size≤b)(hn:H' b=none):jnG X pins H' b:=by
 refine⟨hn,Nat.ne_of_gt (Nat.lt_of_lt_of_le I.lt hb),I.nofs hb,.inr (Nat.le_trans I.sz hb),fun x c e z=>?_,fun p hp z=>?_⟩
 ·obtain⟨v,q⟩:=I.cell x c e
  exact absurd (Nat.lt_of_lt_of_le q.lt (by rw[z];exact hb)) (Nat.lt_irrefl _)
 ·exact absurd (Nat.lt_of_lt_of_le (Heap.lt_size (I.pin p hp).1) (by rw[z];exact hb)) (Nat.lt_irrefl _)
structure Turn (P:Program) (w:World) (K:PySem.W.Frag) (tg:Expr) (J:It) (fp:List Addr) (it:Addr) (tn:Nat→Heap→Prop):Prop where
 mem:it∈fp
 obj:∀i h,tn i h→∀b∈fp,∃o,h.get? b=some o∧∀v,o.data≠.cell v
 keep:∀i h h',tn i h→(∀b∈fp,∀o,h.get? b=some o→h'.get? b=some o)→tn i h'
 item:∀(X:Cx),X.prog=P→X.w=w→X.K=K→X.calm=true→∀(i:Nat) (pins:List (Addr×Obj)) (s:Shared) (σ:St) (H:Hp) (E:Value→Shared→Prop),Inv X pins σ H s→(∀b∈fp,jnG X pins H b)→tn i s.heap→J.go i H →
  wpAny (model P w) X.A (pyNext (.ref it)) (fun r s1=>∃u,r=some u ∧
   wpAny (model P w) X.A (letOwnedTupleGo tg (.ref it) u) (fun _ s2=>∃x H',Inv X pins σ H' s2∧jba x u∧J.yld i H x H'∧tn (i+1) s2.heap∧∀b∈fp,H' b=none) E s1) E s
 done:∀(X:Cx),X.prog=P→X.w=w→X.K=K→X.calm=true→∀(i:Nat) (pins:List (Addr×Obj)) (s:Shared) (σ:St) (H:Hp) (E:Value→Shared→Prop),Inv X pins σ H s→(∀b∈fp,jnG X pins H b)→tn i s.heap→J.stop i H →
  wpAny (model P w) X.A (pyNext (.ref it)) (fun r s1=>r=none∧Inv X pins σ H s1) E s
 self:∀(A:Around) (i:Nat) (s:Shared) (Q:Value→Shared→Prop) (E:Value→Shared→Prop),tn i s.heap→Q (.ref it) s→wpAny (model P w) A (pyIter (.ref it)) Q E s
noncomputable abbrev TI:=St→Hp→(It→Hp→Prop)→Prop
noncomputable def PIE (X:Cx)(pins:List (Addr×Obj))(σ:St)(tg:Expr)(R:It→Hp→Prop)(itv:Value)(s2:Shared):Prop :=
 ∃(it:Addr) (fp:List Addr) (tn:Nat→Heap→Prop) (J:It) (H':Hp),itv=.ref it∧Inv X pins σ H' s2∧Turn X.prog X.w X.K tg J fp it tn∧tn 0 s2.heap∧(∀b∈fp,jnG X pins H' b)∧R J H'
noncomputable def PI (X:Cx)(tg iter:Expr)(wi:TI):Prop :=
 ∀(pins:List (Addr×Obj)) (s:Shared) (σ:St) (H:Hp) (R:It→Hp→Prop),Inv X pins σ H s→wi σ H R →
  wpAny (model X.prog X.w) X.A (eval iter X.env) (fun v s1=>wpAny (model X.prog X.w) X.A (pyIter v) (PIE X pins σ tg R) X.xe s1) X.xe s
theorem jkZ {M:Model}{A:Around}{E:Value→Shared→Prop}{s:Shared}{tg:Expr}{it:Addr}{u:Value}{o:Obj}{n:String}{vs:Array Value}{Q:Unit→Shared→Prop}(ho:s.heap.get? it=some o)(hc:o.cls=.type n)(hd:o.data=.fields vs)
  (hn:["enumerate","zip","dict_itemiterator","dict_reverseitemiterator","odict_iterator","itertools.zip_longest","itertools.pairwise"].contains n=false) (hQ:Q () s):wpAny M A (letOwnedTupleGo tg (.ref it) u) Q E s:=by
 unfold letOwnedTupleGo
 cases tg <;> first
  |exact wpAny_pure hQ
  |(cases u <;> first
    |exact wpAny_pure hQ
    |(refine wpAny_bind (wpAny_load ho ?_)
      rw[hc,hd]
      show wpAny M A (if (["enumerate","zip","dict_itemiterator","dict_reverseitemiterator","odict_iterator","itertools.zip_longest","itertools.pairwise"].contains n && vs[0]? == some (rawInt _))=true then _ else _) Q E s
      rw[if_neg (by intro h;rw[hn,Bool.false_and]at h;cases h)]
      exact wpAny_pure hQ))
noncomputable def Itl (K:PySem.W.Frag)(a:Addr):It :=
 ⟨fun i H=>∃xs x,SqL K H a xs∧xs[i]?=some x,fun i H x H'=>H'=H∧∀xs,SqL K H a xs→xs[i]?=some x,fun i H=>∃xs,SqL K H a xs∧xs.length≤i⟩
noncomputable def Itt (K:PySem.W.Frag)(a:Addr):It :=
 ⟨fun i H=>∃xs x,SqT K H a xs∧xs[i]?=some x,fun i H x H'=>H'=H∧∀xs,SqT K H a xs→xs[i]?=some x,fun i H=>∃xs,SqT K H a xs∧xs.length≤i⟩
noncomputable def Itr (lo:Int)(n:Nat):It:=⟨fun i _=>i < n,fun i H x H'=>H'=H∧x=.int (lo+i),fun i _=>n≤i⟩
theorem jnB {P:Program}{w:World}{K:PySem.W.Frag}{tg:Expr}(a it:Addr):Turn P w K tg (Itl K a) [it] it (fun i h=>h.IsListIter it a i) where
 mem:=by simp
 obj:=fun i h st b hb=>by
  have e:b=it:=by simpa using hb
  subst e
  obtain⟨o,e,c,d⟩:=st
  exact⟨o,e,fun v z=>by rw[d]at z;cases z⟩
 keep:=fun i h h' st k=>st.at fun o e=>k it (by simp) o e
 item:=by
  intro X hP hw hK hc i pins s σ H E I hf st hg
  subst hP hw hK
  obtain⟨xs,x,hq,hx⟩:=hg
  obtain⟨its,rv,p,hz⟩:=I.list hq
  obtain⟨u,hu,ru⟩:=rv.get hx
  obtain⟨f0,f1,f2,f3,f4,f5⟩:=hf it (by simp)
  refine wpAny_pyNext_list_item st p.isList (x:=u) (by simpa using hu) fun h' st' sb=>?_
  have I1:Inv X pins σ H {s with heap:=h'}:=I.turned (t':=s.toks) (fun b o hb e=>(sb.2 b hb).trans e) f0 f1 f3 f4 f5
  obtain⟨o,e,c,d⟩:=id st'
  exact⟨u,rfl,jkZ (s:={s with heap:=h'}) e c d (by decide) ⟨x,H,I1,ru,⟨rfl,fun ys hy=>by rw[I.list_inj hy hq];exact hx⟩,st',fun b hb=>(hf b hb).1⟩⟩
 done:=by
  intro X hP hw hK hc i pins s σ H E I hf st hg
  subst hP hw hK
  obtain⟨xs,hq,hx⟩:=hg
  obtain⟨its,rv,p,hz⟩:=I.list hq
  obtain⟨f0,f1,f2,f3,f4,f5⟩:=hf it (by simp)
  have hl:=rv.length
  exact wpAny_pyNext_list_end (I.ok.hd hc) st p.isList (by simp;omega) fun h' eb=>⟨rfl,I.turned (t':=s.toks) (fun b o hb e=>eb b o hb e) f0 f1 f3 f4 f5⟩
 self:=fun _ _ _ _ _ st h=>wpAny_pyIter_listiter st h
theorem jlc {P:Program}{w:World}{K:PySem.W.Frag}{tg:Expr}(a it:Addr):Turn P w K tg (Itt K a) [it] it (fun i h=>h.IsTupleIter it a i) where
 mem:=by simp
 obj:=fun i h st b hb=>by
  have e:b=it:=by simpa using hb
  subst e
  obtain⟨o,e,c,d⟩:=st
  exact⟨o,e,fun v z=>by rw[d]at z;cases z⟩
 keep:=fun i h h' st k=>st.at fun o e=>k it (by simp) o e
 item:=by
  intro X hP hw hK hc i pins s σ H E I hf st hg
  subst hP hw hK
  obtain⟨xs,x,hq,hx⟩:=hg
  obtain⟨its,rv,p,hz⟩:=I.tuple hq
  obtain⟨u,hu,ru⟩:=rv.get hx
  obtain⟨f0,f1,f2,f3,f4,f5⟩:=hf it (by simp)
  refine wpAny_pyNext_tuple_item st (show s.heap.IsTuple a its.toArray from p) (x:=u) (by simpa using hu) fun h' st' sb=>?_
  have I1:Inv X pins σ H {s with heap:=h'}:=I.turned (t':=s.toks) (fun b o hb e=>(sb.2 b hb).trans e) f0 f1 f3 f4 f5
  obtain⟨o,e,c,d⟩:=id st'
  exact⟨u,rfl,jkZ (s:={s with heap:=h'}) e c d (by decide) ⟨x,H,I1,ru,⟨rfl,fun ys hy=>by rw[I.tuple_inj hy hq];exact hx⟩,st',fun b hb=>(hf b hb).1⟩⟩
 done:=by
  intro X hP hw hK hc i pins s σ H E I hf st hg
  subst hP hw hK
  obtain⟨xs,hq,hx⟩:=hg
  obtain⟨its,rv,p,hz⟩:=I.tuple hq
  obtain⟨f0,f1,f2,f3,f4,f5⟩:=hf it (by simp)
  have hl:=rv.length
  exact wpAny_pyNext_tuple_end (I.ok.hd hc) st (show s.heap.IsTuple a its.toArray from p) (by simp;omega) fun h' eb=>⟨rfl,I.turned (t':=s.toks) (fun b o hb e=>eb b o hb e) f0 f1 f3 f4 f5⟩
 self:=fun _ _ _ _ _ st h=>wpAny_pyIter_tupleiter st h
theorem jkl {P:Program}{w:World}{K:PySem.W.Frag}{tg:Expr}(it:Addr)(lo:Int)(n:Nat):Turn P w K tg (Itr lo n) [it] it (fun i h=>IsRangeIter h it (lo+(i:Nat) * 1) ((n:Int) - (i:Nat)) 1) where
 mem:=by simp
 obj:=fun i h st b hb=>by
  have e:b=it:=by simpa using hb
  subst e
  exact⟨_,st,fun v z=>by
   have z':Data.fields _=Data.cell v:=z
   cases z'⟩
 keep:=fun i h h' st k=>k it (by simp) _ st
 item:=by
  intro X hP hw hK hc i pins s σ H E I hf st hg
  subst hP hw hK
  obtain⟨f0,f1,f2,f3,f4,f5⟩:=hf it (by simp)
  have W:=Walks.range (prog:=X.prog) (w:=X.w) (I.ok.hd hc) it lo 1 n
  refine W.item i s _ _ hg st fun v h' tk hv st' kk=>?_
  obtain⟨t,rfl⟩:=hv
  have I1:Inv X pins σ H {s with heap:=h',toks:=tk}:=I.turned (fun b o hb e=>kk b o (by simpa using hb) e) f0 f1 f3 f4 f5
  refine⟨_,rfl,jkZ (s:={s with heap:=h',toks:=tk}) (n:="range_iterator") st' rfl rfl (by decide) ⟨.int (lo+i),H,I1,⟨t,?_⟩,⟨rfl,rfl⟩,st',fun b hb=>(hf b hb).1⟩⟩
  rw[Int.mul_one]
 done:=by
  intro X hP hw hK hc i pins s σ H E I hf st hg
  subst hP hw hK
  obtain⟨f0,f1,f2,f3,f4,f5⟩:=hf it (by simp)
  exact wpAny_pyNext_range_end (I.ok.hd hc) st (by have:n≤i:=hg;omega) fun h' eb=>⟨rfl,I.turned (t':=s.toks) (fun b o hb e=>eb b o hb e) f0 f1 f3 f4 f5⟩
 self:=fun _ _ _ _ _ st h=>wpAny_pyIter_rangeiter st h
end _L2
namespace _L2
open PySem PySem.Spec PyProof.Rows
section
variable {X:Cx} {tg:Expr}
theorem jjQ {pins:List (Addr×Obj)}{σ:St}{H:Hp}{s:Shared}{R:It→Hp→Prop}{E:Value→Shared→Prop}{lo hi:Int}{t u v:Tok}{tk:Nat}(I:Inv X pins σ H s)(h1 : -(2 ^ 62)≤lo)(h2:lo < 2 ^ 62)(h3 : -(2 ^ 62)≤hi)(h4:hi < 2 ^ 62)
  (q:R (Itr lo (hi - lo).toNat) H):wpAny (model X.prog X.w) X.A (pyIter (.ref s.heap.objs.size)) (PIE X pins σ tg R) E {s with heap:=s.heap.push {cls:=.type "range",data:=.fields #[.int lo t,.int hi u,.int 1 v]},toks:=tk}:=by
 refine wpAny_pyIter_range (IsRange.new ..) (small_one h1 h2 h3 h4) ?_
 have I1:Inv X pins σ H {s with heap:=s.heap.push {cls:=.type "range",data:=.fields #[.int lo t,.int hi u,.int 1 v]},toks:=tk}:=I.kept fun b o e=>Heap.get?_push_of_some _ e
 refine⟨(s.heap.push {cls:=.type "range",data:=.fields #[.int lo t,.int hi u,.int 1 v]}).objs.size,[(s.heap.push {cls:=.type "range",data:=.fields #[.int lo t,.int hi u,.int 1 v]}).objs.size],_,_,H,rfl,
  I1.kept (t':=tk) fun b o e=>Heap.get?_push_of_some _ e,jkl _ lo (hi - lo).toNat,?_,fun b hb=>?_,q⟩
 ·have e1:lo+((0:Nat):Int) * 1=lo:=by simp
  have e2:(((hi - lo).toNat:Nat):Int) - ((0:Nat):Int)=Builtin.Range.rangeSize lo hi 1:=by rw[rangeSize_one];split <;> omega
  show IsRangeIter _ _ (lo+((0:Nat):Int) * 1) ((((hi - lo).toNat:Nat):Int) - ((0:Nat):Int)) 1
  rw[e1,e2]
  exact Heap.get?_push_size _ rfl
 ·have e:b=(s.heap.push {cls:=.type "range",data:=.fields #[.int lo t,.int hi u,.int 1 v]}).objs.size:=by simpa using hb
  subst e
  exact I1.fpOk (Nat.le_refl _) (I1.hok.fresh (Nat.le_refl _))
noncomputable def jvM (ta:TA):TI:=fun σ H R=>ta σ H fun vs H1=>∃j:Int,vs=[.int j]∧-(2 ^ 62)≤j∧j < 2 ^ 62∧R (Itr 0 j.toNat) H1
noncomputable def jvl (ta:TA):TI:=fun σ H R=>ta σ H fun vs H1=>∃i j:Int,vs=[.int i,.int j]∧(-(2 ^ 62)≤i∧i < 2 ^ 62∧-(2 ^ 62)≤j∧j < 2 ^ 62)∧R (Itr i (j - i).toNat) H1
theorem jlQ {a:Expr} {ta:TA} {p pos:Pos} (hg:Gl X "range") (hm:X.mg "range" = none) (ha:PA X [a] ta) (hs:starEach [a] X.env=[(false,eval a X.env)]:=by rfl):PI X tg (.Call (.Name "range" p) [a] [] pos) (jvM ta):=by
 intro pins s σ H R I h
 refine Call_ (jdJ I hg hm boot_range (PyProof.Rows.callWith_type1 (thn (ha pos pins s σ H _ I h) fun us s1 ⟨vs,H1,I1,r1,q1⟩=>?_) hs rfl))
 obtain⟨j,e,q1,q2,q⟩:=q1
 subst e
 cases r1 with
 |cons r rr =>
  cases rr
  obtain⟨t,rfl⟩:=r
  exact call_range_1 (jjQ I1 (by omega) (by omega) q1 q2 (by simpa using q))
theorem jl2 {a b:Expr} {ta:TA} {p pos:Pos} (hg:Gl X "range") (hm:X.mg "range" = none) (ha:PA X [a,b] ta) (hs:starEach [a,b] X.env=[(false,eval a X.env),(false,eval b X.env)]:=by rfl) (hs2:starEach [b] X.env=[(false,eval b X.env)]:=by rfl) :
  PI X tg (.Call (.Name "range" p) [a,b] [] pos) (jvl ta):=by
 intro pins s σ H R I h
 refine Call_ (jdJ I hg hm boot_range (PyProof.Rows.callWith_type1 (thn (ha pos pins s σ H _ I h) fun us s1 ⟨vs,H1,I1,r1,q1⟩=>?_) (by rw[hs,hs2]) (by rw[hs2];rfl)))
 obtain⟨i,j,e,⟨q1,q2,q3,q4⟩,q⟩:=q1
 subst e
 cases r1 with
 |cons r rr =>
  cases rr with
  |cons r' rr =>
   cases rr
   obtain⟨t,rfl⟩:=r
   obtain⟨t',rfl⟩:=r'
   exact call_range_2 (jjQ I1 q1 q2 q3 q4 q)
noncomputable def jyG (wi:TI)(g:TG)(tb:TS):TS:=fun D σ H=>wi σ H fun J H1=>∃W:Nat→Nat→St→Hp→Prop,(∃m,W 0 m σ H1)∧∀i m σ H,W i m σ H →
 (J.stop i H∧D.nx σ H)∨(J.go i H∧∃N:St→Hp→Prop,(∀σ' H',N σ' H'→∃m',m' < m∧W (i+1) m' σ' H')∧∀x H',J.yld i H x H'→g x σ H' fun σ2 H2=>tb {D with nx:=N,ct:=N,bk:=D.nx} σ2 H2)
noncomputable def jh1 (fp:List Addr)(h:Heap):List (Addr×Obj):=fp.filterMap fun b=>(h.get? b).map fun o=>(b,o)
theorem jd0 {fp:List Addr}{h:Heap}{b:Addr}{o:Obj}(hb:b∈fp)(e:h.get? b=some o):(b,o)∈jh1 fp h:=List.mem_filterMap.mpr ⟨b,hb,by rw[e];rfl⟩
theorem jnC {fp:List Addr}{h:Heap}{p:Addr×Obj}(hp:p∈jh1 fp h):p.1∈fp∧h.get? p.1=some p.2:=by
 obtain⟨b,hb,e⟩:=List.mem_filterMap.mp hp
 cases q:h.get? b with
 |none=>rw[q]at e;cases e
 |some o =>
  rw[q]at e
  have e':(b,o)=p:=Option.some.inj e
  subst e'
  exact⟨hb,q⟩
theorem Inv.pinned {pins:List (Addr×Obj)}{σ:St}{H:Hp}{s:Shared}{fp:List Addr}(I:Inv X pins σ H s)(hf:∀b∈fp,jnG X pins H b)(ho:∀b∈fp,∃o,s.heap.get? b=some o∧∀v,o.data≠.cell v):Inv X (pins++jh1 fp s.heap) σ H s :=
 I.pins_of fun p hp=>(List.mem_append.mp hp).elim (fun z=>I.pin p (List.mem_append_right _ z)) fun z=>by
  obtain⟨hb,e⟩:=jnC z
  obtain⟨f0,f1,f2,_⟩:=hf p.1 hb
  obtain⟨o,e',d⟩:=ho p.1 hb
  rw[e]at e';cases e'
  exact⟨e,f0,f1,f2,d⟩
theorem Inv.unpinned {pins pl:List (Addr×Obj)}{σ:St}{H:Hp}{s:Shared}(I:Inv X (pins++pl) σ H s):Inv X pins σ H s:=I.pins_of fun p hp=>I.pin p (List.mem_append_right _ (List.mem_append_left _ hp))
theorem juy {iter:Expr}{body:List Stmt}{wi:TI}{g:TG}{tb:TS}{pos:Pos}(hp:PassesOwn (model X.prog X.w) X.A X.env X.xe)(hc:X.calm=true)(hi:PI X tg iter wi)(hg:PG X tg g)(hb:PSs X body tb)
  (hs:∀x,foldedSetIterable iter X.env x=pure x:=by intro _;rfl):PS X (.For tg iter body [] pos) (jyG wi g tb):=by
 intro pins s σ H D I h
 refine wpAny_For (thn (hi pins s σ H _ I h) fun v s1 h1=>thn h1 fun itv s2 h2=>?_) hs
 obtain⟨it,fp,tn,J,H2,e,I2,T,st2,f2,W,⟨m0,w0⟩,turn⟩:=h2
 subst e
 have stat:∀{H':Hp},(∀b∈fp,H' b=none)→∀b∈fp,jnG X pins H' b:=fun hn b hb=>⟨hn b hb,(f2 b hb).2⟩
 refine codeAny_forLoop_any (fun n s'=>∃i σ' H',Inv X pins σ' H' s'∧tn i s'.heap∧(∀b∈fp,H' b=none)∧W i n σ' H') ?_ m0 ⟨0,σ,H2,I2,st2,fun b hb=>(f2 b hb).1,w0⟩
 rintro n s3 ⟨i,σ3,H3,I3,st3,fr3,w3⟩
 rcases turn i n σ3 H3 w3 with ⟨stop,qn⟩ | ⟨go,N,hN,step⟩
 ·refine wpAny_passesOwn hp (thn (T.done X rfl rfl rfl hc i pins s3 σ3 H3 X.xe I3 (stat fr3) st3 stop) fun r s4 ⟨hr,I4⟩=>?_)
  subst hr
  exact wpAny_execs_nil ⟨σ3,H3,I4,qn⟩
 ·refine wpAny_passesOwn hp (thn (T.item X rfl rfl rfl hc i pins s3 σ3 H3 X.xe I3 (stat fr3) st3 go) fun r s4 ⟨u,hr,h4⟩=>?_)
  subst hr
  refine wpAny_passesOwn hp (thn h4 fun _ s5 ⟨x,H5,I5,r5,y5,st5,fr5⟩=>?_)
  have I5':=I5.pinned (stat fr5) (T.obj _ _ st5)
  refine wpAny_passesOwn hp (thn (hg _ s5 σ3 H5 x u _ I5' r5 (step x H5 y5)) fun _ s6 ⟨σ6,H6,I6,q6⟩=>?_)
  refine wpAny_passesOwn hp (thn (hb _ s6 σ6 H6 _ I6 q6) fun f s7 q7=>?_)
  have again:∀{σ7:St} {H7:Hp},Inv X (pins++jh1 fp s5.heap) σ7 H7 s7→N σ7 H7→∃m,m < n∧∃i σ' H',Inv X pins σ' H' s7∧tn i s7.heap∧(∀b∈fp,H' b=none)∧W i m σ' H':=fun {σ7 H7} I7 n7=>by
   obtain⟨m',hm,w7⟩:=hN σ7 H7 n7
   refine⟨m',hm,i+1,σ7,H7,I7.unpinned,T.keep _ _ _ st5 fun b hb o e=>(I7.pin (b,o) (List.mem_append_right _ (List.mem_append_right _ (jd0 hb e)))).1,fun b hb=>?_,w7⟩
   obtain⟨o,e,d⟩:=T.obj _ _ st5 b hb
   exact (I7.pin (b,o) (List.mem_append_right _ (List.mem_append_right _ (jd0 hb e)))).2.1
  cases f with
  |next=>obtain⟨σ7,H7,I7,n7⟩:=q7;exact again I7 n7
  |cont=>obtain⟨σ7,H7,I7,n7⟩:=q7;exact again I7 n7
  |brk=>obtain⟨σ7,H7,I7,q7⟩:=q7;exact⟨σ7,H7,I7.unpinned,q7⟩
  |ret v=>obtain⟨x7,σ7,H7,I7,r7,q7⟩:=q7;exact⟨x7,σ7,H7,I7.unpinned,r7,q7⟩
end
end _L2
namespace _L2
open PySem PySem.Spec PyProof.Rows
noncomputable abbrev R2:=V→V→Hp→VK→Prop
noncomputable def OpR (X:Cx)(f:Value→Value→Sem Value)(r:R2):Prop :=
 ∀(pins:List (Addr×Obj)) (s:Shared) (σ:St) (H:Hp) (x y:V) (v u:Value) (Q:VK),Inv X pins σ H s→jba x v→jba y u→r x y H Q →
  wpAny (model X.prog X.w) X.A (f v u) (EP X pins σ Q) X.xe s
noncomputable def UnR (X:Cx)(f:Value→Sem Value)(r:V→Hp→VK→Prop):Prop :=
 ∀(pins:List (Addr×Obj)) (s:Shared) (σ:St) (H:Hp) (x:V) (v:Value) (Q:VK),Inv X pins σ H s→jba x v→r x H Q →
  wpAny (model X.prog X.w) X.A (f v) (EP X pins σ Q) X.xe s
noncomputable def jcd (X:Cx)(f:Value)(r:List V→Hp→VK→Prop):Prop :=
 ∀(pins:List (Addr×Obj)) (s:Shared) (σ:St) (H:Hp) (xs:List V) (us:List Value) (Q:VK),Inv X pins σ H s→ja6 xs us→r xs H Q →
  wpAny (model X.prog X.w) X.A (call f us) (EP X pins σ Q) X.xe s
noncomputable def jyH (X:Cx)(r:V→Hp→(Bool→Hp→Prop)→Prop):Prop :=
 ∀(pins:List (Addr×Obj)) (s:Shared) (σ:St) (H:Hp) (x:V) (v:Value) (Q:Bool→Hp→Prop),Inv X pins σ H s→jba x v→r x H Q →
  wpAny (model X.prog X.w) X.A (truthy v) (TP X pins σ Q) X.xe s
noncomputable def tOp (r:R2)(ta tb:TE):TE:=fun σ H Q=>ta σ H fun x H1=>tb σ H1 fun y H2=>r x y H2 Q
noncomputable def tUn (r:V→Hp→VK→Prop)(ta:TE):TE:=fun σ H Q=>ta σ H fun x H1=>r x H1 Q
noncomputable def rI (C:Int→Int→Prop)(g:Int→Int→V):R2:=fun x y H Q=>∃i j,x=.int i∧y=.int j∧C i j∧Q (g i j) H
noncomputable def rI0 (g:Int→Int→V):R2:=fun x y H Q=>∃i j,x=.int i∧y=.int j∧Q (g i j) H
noncomputable def rU (g:Int→V):V→Hp→VK→Prop:=fun x H Q=>∃i,x=.int i∧Q (g i) H
section
variable {X:Cx} {a b c:Expr} {ta tb tc:TE} {pos:Pos}
theorem jxd (ha:PE X a ta)(hb:PE X b tb){pins:List (Addr×Obj)}{s:Shared}{σ:St}{H:Hp}{R:V→V→Hp→Prop}(I:Inv X pins σ H s)
  (h:ta σ H fun x H1=>tb σ H1 fun y H2=>R x y H2) {Q:Value→Shared→Prop} {f:Value→Value→Sem Value}
  (hf:∀v u s2 x y H2,Inv X pins σ H2 s2→jba x v→jba y u→R x y H2→wpAny (model X.prog X.w) X.A (f v u) Q X.xe s2) :
  wpAny (model X.prog X.w) X.A (eval a X.env) (fun v s₁=>wpAny (model X.prog X.w) X.A (eval b X.env) (fun u s₂=>wpAny (model X.prog X.w) X.A (f v u) Q X.xe s₂) X.xe s₁) X.xe s:=by
 refine thn (ha pins s σ H _ I h) fun v s1 ⟨x,H1,I1,r1,q1⟩=>?_
 refine thn (hb pins s1 σ H1 _ I1 q1) fun u s2 ⟨y,H2,I2,r2,q2⟩=>?_
 exact hf v u s2 x y H2 I2 r1 r2 q2
theorem jxM {op:Operator}{r:R2}(ho:OpR X (binaryOp op) r)(ha:PE X a ta)(hb:PE X b tb):PE X (.BinOp a op b pos) (tOp r ta tb):=by
 intro pins s σ H Q I h
 exact wpAny_BinOp (jxd ha hb I h fun v u s2 x y H2 I2 rx ry q=>ho pins s2 σ H2 x y v u Q I2 rx ry q)
theorem jxj {op:UnaryOp}{r:V→Hp→VK→Prop}(ho:UnR X (unaryOp op) r)(ha:PE X a ta):PE X (.UnaryOp op a pos) (tUn r ta):=by
 intro pins s σ H Q I h
 exact UnaryOp_ (thn (ha pins s σ H _ I h) fun v s1 ⟨x,H1,I1,r1,q1⟩=>ho pins s1 σ H1 x v Q I1 r1 q1)
theorem opI {f:Value→Value→Sem Value}{C:Int→Int→Prop}{g:Int→Int→Int}
  (rule:∀(i j:Int) (t u:Tok) (s:Shared) (Q:Value→Shared→Prop) (E:Value→Shared→Prop),C i j→Q (.int (g i j) s.toks) {s with toks:=s.toks+1}→wpAny (model X.prog X.w) X.A (f (.int i t) (.int j u)) Q E s) :
  OpR X f (rI C fun i j=>.int (g i j)):=by
 intro pins s σ H x y v u Q I rx ry h
 obtain⟨i,j,rfl,rfl,hc,q⟩:=h
 obtain⟨t,rfl⟩:=rx
 obtain⟨t',rfl⟩:=ry
 exact rule i j t t' s _ _ hc ⟨.int (g i j),H,I.tok _,⟨_,rfl⟩,q⟩
theorem jyi {f:Value→Value→Sem Value}{g:Int→Int→Int}
  (rule:∀(i j:Int) (t u:Tok) (s:Shared) (Q:Value→Shared→Prop) (E:Value→Shared→Prop),Q (.int (g i j) s.toks) {s with toks:=s.toks+1}→wpAny (model X.prog X.w) X.A (f (.int i t) (.int j u)) Q E s) :
  OpR X f (rI0 fun i j=>.int (g i j)):=by
 intro pins s σ H x y v u Q I rx ry h
 obtain⟨i,j,rfl,rfl,q⟩:=h
 obtain⟨t,rfl⟩:=rx
 obtain⟨t',rfl⟩:=ry
 exact rule i j t t' s _ _ ⟨.int (g i j),H,I.tok _,⟨_,rfl⟩,q⟩
theorem jwo {f:Value→Value→Sem Value}{g:Int→Int→Bool}
  (rule:∀(i j:Int) (t u:Tok) (s:Shared) (Q:Value→Shared→Prop) (E:Value→Shared→Prop),Q (.bool (g i j)) s→wpAny (model X.prog X.w) X.A (f (.int i t) (.int j u)) Q E s) :
  OpR X f (rI0 fun i j=>.bl (g i j)):=by
 intro pins s σ H x y v u Q I rx ry h
 obtain⟨i,j,rfl,rfl,q⟩:=h
 obtain⟨t,rfl⟩:=rx
 obtain⟨t',rfl⟩:=ry
 exact rule i j t t' s _ _ ⟨.bl (g i j),H,I,rfl,q⟩
noncomputable def jyw (i j:Int):Prop:=0≤j∧j≤1000000∧i.natAbs < 2 ^ 64
noncomputable def jwr (i j:Int):Prop:=(-(2 ^ 64) < i∧i < 2 ^ 64)∨(-(2 ^ 64) < j∧j < 2 ^ 64)
theorem jwr.ok {i j:Int}(h:jwr i j):IntMulOk i j:=by
 rcases h with ⟨h1,h2⟩ | ⟨h1,h2⟩
 ·exact .of_left (intBits_le_64 h1 h2)
 ·exact .of_right (intBits_le_64 h1 h2)
theorem jty:OpR X (binaryOp .Add) (rI0 fun i j=>.int (i+j)):=jyi fun _ _ _ _ _ _ _ q=>add_int q
theorem juI:OpR X (binaryOp .Sub) (rI0 fun i j=>.int (i - j)):=jyi fun _ _ _ _ _ _ _ q=>sub_int q
theorem jvX:OpR X (binaryOp .Mult) (rI jwr fun i j=>.int (i * j)):=opI fun _ _ _ _ _ _ _ hc q=>mul_int q hc.ok
theorem juP:OpR X (binaryOp .Mod) (rI (fun _ j=>0 < j) fun i j=>.int (i % j)):=opI fun i j _ _ _ _ _ hc q=>by
 have h1:(0:Int) < j:=hc
 exact mod_int' (by omega) (by rw[Int.fmod_eq_emod_of_nonneg i (by omega)];exact q)
theorem jts:OpR X (binaryOp .Pow) (rI jyw fun i j=>.int (i ^ j.toNat)):=opI fun _ _ _ _ _ _ _ hc q=>pow_int_small hc.1 hc.2.1 hc.2.2 q
theorem unI {f:Value→Sem Value}{g:Int→Int}
  (rule:∀(i:Int) (t:Tok) (s:Shared) (Q:Value→Shared→Prop) (E:Value→Shared→Prop),Q (.int (g i) s.toks) {s with toks:=s.toks+1}→wpAny (model X.prog X.w) X.A (f (.int i t)) Q E s) :
  UnR X f (rU fun i=>.int (g i)):=by
 intro pins s σ H x v Q I rx h
 obtain⟨i,rfl,q⟩:=h
 obtain⟨t,rfl⟩:=rx
 exact rule i t s _ _ ⟨.int (g i),H,I.tok _,⟨_,rfl⟩,q⟩
theorem jt3:UnR X (unaryOp .USub) (rU fun i=>.int (-i)):=unI fun _ _ _ _ _ q=>neg_int q
end
noncomputable def jwt:V→V→Bool
 |.non,.non=>true | .non,.int _=>true | .int _,.non=>true | .non,.bl _=>true | .bl _,.non=>true | .non,.str _=>true | .str _,.non=>true
 |.int _,.int _=>true | .bl _,.bl _=>true | .str _,.str _=>true | .byt _,.byt _=>true
 |.int _,.str _=>true | .str _,.int _=>true | .bl _,.str _=>true | .str _,.bl _=>true
 |_,_=>false
noncomputable def rEq:R2:=fun x y H Q=>jwt x y=true∧Q (.bl (decide (x=y))) H
noncomputable def rNe:R2:=fun x y H Q=>jwt x y=true∧Q (.bl (!decide (x=y))) H
theorem jmW {i j:Int}:decide (V.int i=V.int j)=(i == j):=by
 rw[Bool.eq_iff_iff]
 simp
theorem jqo {i j:Bool}:decide (V.bl i=V.bl j)=(i == j):=by
 rw[Bool.eq_iff_iff]
 simp
theorem jll {i j:Str}:decide (V.str i=V.str j)=(i == j):=by
 rw[Bool.eq_iff_iff]
 simp
theorem jl7 {i j:Array UInt8}:decide (V.byt i=V.byt j)=(i.toList == j.toList):=by
 rw[Bool.eq_iff_iff]
 cases i
 cases j
 simp
section
variable {X:Cx} {a b c:Expr} {ta tb tc:TE} {pos:Pos}
theorem jbf {pins:List (Addr×Obj)}{σ:St}{H:Hp}{s:Shared}{Q:VK}{k k':Bool}(I:Inv X pins σ H s)(q:Q (.bl k) H)(e:k=k'):EP X pins σ Q (.bool k') s:=by
 subst e
 exact⟨.bl k,H,I,rfl,q⟩
theorem jxz:OpR X (compareOp .Eq) rEq:=by
 intro pins s σ H x y v u Q I rx ry h
 obtain⟨hs,q⟩:=h
 cases x with
 |non =>
  cases rx
  cases y with
  |non=>cases ry;exact PySem.EqNone.eq_none_none (jbf I q (by simp))
  |bl j=>cases ry;exact PySem.EqNone.eq_none_bool (jbf I q (by simp))
  |int j=>obtain⟨t',rfl⟩:=ry;exact PySem.EqNone.eq_none_int (jbf I q (by simp))
  |str j=>obtain⟨t',rfl⟩:=ry;exact PySem.EqNone.eq_none_str (jbf I q (by simp))
  |_=>exact absurd (show false=true from hs) Bool.false_ne_true
 |bl i =>
  cases rx
  cases y with
  |non=>cases ry;exact PySem.EqNone.eq_bool_none (jbf I q (by simp))
  |bl j=>cases ry;exact eq_bool (jbf I q jqo)
  |str j=>obtain⟨t',rfl⟩:=ry;exact PySem.EqMixed.eq_bool_str (jbf I q (by simp))
  |_=>exact absurd (show false=true from hs) Bool.false_ne_true
 |int i =>
  obtain⟨t,rfl⟩:=rx
  cases y with
  |non=>cases ry;exact PySem.EqNone.eq_int_none (jbf I q (by simp))
  |int j=>obtain⟨t',rfl⟩:=ry;exact eq_int (jbf I q jmW)
  |str j=>obtain⟨t',rfl⟩:=ry;exact PySem.EqMixed.eq_int_str (jbf I q (by simp))
  |_=>exact absurd (show false=true from hs) Bool.false_ne_true
 |str i =>
  obtain⟨t,rfl⟩:=rx
  cases y with
  |non=>cases ry;exact PySem.EqNone.eq_str_none (jbf I q (by simp))
  |bl j=>cases ry;exact PySem.EqMixed.eq_str_bool (jbf I q (by simp))
  |int j=>obtain⟨t',rfl⟩:=ry;exact PySem.EqMixed.eq_str_int (jbf I q (by simp))
  |str j=>obtain⟨t',rfl⟩:=ry;exact eq_str (jbf I q jll)
  |_=>exact absurd (show false=true from hs) Bool.false_ne_true
 |byt i =>
  obtain⟨t,rfl⟩:=rx
  cases y with
  |byt j=>obtain⟨t',rfl⟩:=ry;exact PySem.W.eq_bytes (jbf I q jl7)
  |_=>exact absurd (show false=true from hs) Bool.false_ne_true
 |_=>cases y <;> exact absurd (show false=true from hs) Bool.false_ne_true
theorem jwP:OpR X (compareOp .NotEq) rNe:=by
 intro pins s σ H x y v u Q I rx ry h
 obtain⟨hs,q⟩:=h
 cases x with
 |non =>
  cases rx
  cases y with
  |non=>cases ry;exact PySem.EqNone.ne_none_none (jbf I q (by simp))
  |bl j=>cases ry;exact PySem.EqNone.ne_none_bool (jbf I q (by simp))
  |int j=>obtain⟨t',rfl⟩:=ry;exact PySem.EqNone.ne_none_int (jbf I q (by simp))
  |str j=>obtain⟨t',rfl⟩:=ry;exact PySem.EqNone.ne_none_str (jbf I q (by simp))
  |_=>exact absurd (show false=true from hs) Bool.false_ne_true
 |bl i =>
  cases rx
  cases y with
  |non=>cases ry;exact PySem.EqNone.ne_bool_none (jbf I q (by simp))
  |bl j=>cases ry;exact ne_bool (jbf I q (congrArg not jqo))
  |str j=>obtain⟨t',rfl⟩:=ry;exact PySem.EqMixed.ne_bool_str (jbf I q (by simp))
  |_=>exact absurd (show false=true from hs) Bool.false_ne_true
 |int i =>
  obtain⟨t,rfl⟩:=rx
  cases y with
  |non=>cases ry;exact PySem.EqNone.ne_int_none (jbf I q (by simp))
  |int j=>obtain⟨t',rfl⟩:=ry;exact ne_int (jbf I q (congrArg not jmW))
  |str j=>obtain⟨t',rfl⟩:=ry;exact PySem.EqMixed.ne_int_str (jbf I q (by simp))
  |_=>exact absurd (show false=true from hs) Bool.false_ne_true
 |str i =>
  obtain⟨t,rfl⟩:=rx
  cases y with
  |non=>cases ry;exact PySem.EqNone.ne_str_none (jbf I q (by simp))
  |bl j=>cases ry;exact PySem.EqMixed.ne_str_bool (jbf I q (by simp))
  |int j=>obtain⟨t',rfl⟩:=ry;exact PySem.EqMixed.ne_str_int (jbf I q (by simp))
  |str j=>obtain⟨t',rfl⟩:=ry;exact ne_str (jbf I q (congrArg not jll))
  |_=>exact absurd (show false=true from hs) Bool.false_ne_true
 |byt i =>
  obtain⟨t,rfl⟩:=rx
  cases y with
  |byt j=>obtain⟨t',rfl⟩:=ry;exact PySem.W.ne_bytes (jbf I q (congrArg not jl7))
  |_=>exact absurd (show false=true from hs) Bool.false_ne_true
 |_=>cases y <;> exact absurd (show false=true from hs) Bool.false_ne_true
theorem jxI:OpR X (compareOp .Lt) (rI0 fun i j=>.bl (decide (i < j))):=jwo fun _ _ _ _ _ _ _ q=>lt_int q
theorem jwC:OpR X (compareOp .LtE) (rI0 fun i j=>.bl (decide (i≤j))):=jwo fun _ _ _ _ _ _ _ q=>le_int q
theorem jxy:OpR X (compareOp .Gt) (rI0 fun i j=>.bl (decide (j < i))):=jwo fun _ _ _ _ _ _ _ q=>gt_int q
theorem jw9:OpR X (compareOp .GtE) (rI0 fun i j=>.bl (decide (j≤i))):=jwo fun _ _ _ _ _ _ _ q=>ge_int q
theorem jmk:OpR X (compareOp .Lt) (fun x y H Q=>∃i j,x=.str i∧y=.str j∧Q (.bl (decide (i.cps.toList < j.cps.toList))) H):=by
 intro pins s σ H x y v u Q I rx ry h
 obtain⟨i,j,rfl,rfl,q⟩:=h
 obtain⟨t,rfl⟩:=rx
 obtain⟨t',rfl⟩:=ry
 exact lt_str (jbf I q rfl)
theorem OpR.or {f:Value→Value→Sem Value}{r r':R2}(h:OpR X f r)(h':OpR X f r'):OpR X f (fun x y H Q=>r x y H Q∨r' x y H Q):=by
 intro pins s σ H x y v u Q I rx ry q
 rcases q with q | q
 ·exact h pins s σ H x y v u Q I rx ry q
 ·exact h' pins s σ H x y v u Q I rx ry q
theorem jmp (b:Expr){op:CmpOp}(h:op≠.In:=by decide)(h2:op≠.NotIn:=by decide):behindInMarks op b=false:=by
 have e1:(op == CmpOp.In)=false:=by cases op <;> first | rfl | exact absurd rfl h
 have e2:(op == CmpOp.NotIn)=false:=by cases op <;> first | rfl | exact absurd rfl h2
 cases b <;> simp[behindInMarks,e1,e2]
theorem jl9 {op:CmpOp}{r:R2}(ho:OpR X (compareOp op) r)(ha:PE X a ta)(hb:PE X b tb)(hm:behindInMarks op b=false):PE X (.Compare a [op] [b] pos) (tOp r ta tb):=by
 intro pins s σ H Q I h
 exact wpAny_Compare1 (jxd ha hb I h fun v u s2 x y H2 I2 rx ry q=>ho pins s2 σ H2 x y v u Q I2 rx ry q) hm
noncomputable def jnR (t:TE):TT:=fun σ H Q=>t σ H fun x H'=>∃k,x=.bl k∧Q k H'
theorem jsY {op:CmpOp}{r:R2}(ho:OpR X (compareOp op) r)(ha:PE X a ta)(hb:PE X b tb)(hm:behindInMarks op b=false):PT X (.Compare a [op] [b] pos) (jnR (tOp r ta tb)):=by
 intro pins s σ H Q I h
 refine wpAny_isTrue_Compare1 (thn (ha pins s σ H _ I h) fun v s1 ⟨x,H1,I1,r1,q1⟩=>thn (hb pins s1 σ H1 _ I1 q1) fun u s2 ⟨y,H2,I2,r2,q2⟩ =>
  thn (ho pins s2 σ H2 x y v u _ I2 r1 r2 q2) fun c s3 ⟨z,H3,I3,r3,k,e,q3⟩=>?_) hm
 subst e
 cases r3
 exact wpAny_truthy_bool ⟨H3,I3,q3⟩
noncomputable def jhI (r r':R2)(ta tb tc:TE):TE:=fun σ H Q=>ta σ H fun x H1=>tb σ H1 fun y H2=>r x y H2 fun z H3=>∃k,z=.bl k ∧
 (if k=true then tc σ H3 fun w' H4=>r' y w' H4 Q else Q (.bl false) H3)
theorem jo {op op':CmpOp}{r r':R2}(ho:OpR X (compareOp op) r)(ho':OpR X (compareOp op') r')(ha:PE X a ta)(hb:PE X b tb)(hc:PE X c tc)
  (hm:lastMarks [op,op'] [b,c]=false:=by with_unfolding_all rfl):PE X (.Compare a [op,op'] [b,c] pos) (jhI r r' ta tb tc):=by
 intro pins s σ H Q I h
 refine Compare_chain (thn (ha pins s σ H _ I h) fun v s1 ⟨x,H1,I1,r1,q1⟩=>chain_link (thn (hb pins s1 σ H1 _ I1 q1) fun u s2 ⟨y,H2,I2,r2,q2⟩ =>
  thn (ho pins s2 σ H2 x y v u _ I2 r1 r2 q2) fun d s3 ⟨z,H3,I3,r3,k,e,q3⟩=>?_)) hm
 subst e
 cases r3
 refine wpAny_truthy_bool ?_
 cases k with
 |false=>exact ite_ff ⟨.bl false,H3,I3,rfl,q3⟩
 |true=>exact ite_tt (chain_last (thn (hc pins s3 σ H3 _ I3 q3) fun w' s4 ⟨z',H4,I4,r4,q4⟩=>ho' pins s4 σ H4 y z' u w' Q I4 r2 r4 q4))
theorem joH {op op':CmpOp}{r r':R2}(ho:OpR X (compareOp op) r)(ho':OpR X (compareOp op') r')(ha:PE X a ta)(hb:PE X b tb)(hc:PE X c tc)
  (hm:lastMarks [op,op'] [b,c]=false:=by with_unfolding_all rfl):PT X (.Compare a [op,op'] [b,c] pos) (jnR (jhI r r' ta tb tc)):=by
 intro pins s σ H Q I h
 refine isTrue_chain (thn (ha pins s σ H _ I h) fun v s1 ⟨x,H1,I1,r1,q1⟩=>test_link (thn (hb pins s1 σ H1 _ I1 q1) fun u s2 ⟨y,H2,I2,r2,q2⟩ =>
  thn (ho pins s2 σ H2 x y v u _ I2 r1 r2 q2) fun d s3 ⟨z,H3,I3,r3,k,e,q3⟩=>?_)) hm
 subst e
 cases r3
 refine wpAny_truthy_bool ?_
 cases k with
 |false =>
  obtain⟨k',e',q'⟩:=q3
  cases e'
  exact ite_ff ⟨H3,I3,q'⟩
 |true =>
  refine ite_tt (test_last (thn (hc pins s3 σ H3 _ I3 q3) fun w' s4 ⟨z',H4,I4,r4,q4⟩=>thn (ho' pins s4 σ H4 y z' u w' _ I4 r2 r4 q4) fun d' s5 ⟨z2,H5,I5,r5,k2,e2,q5⟩=>?_))
  subst e2
  cases r5
  exact wpAny_truthy_bool ⟨H5,I5,q5⟩
noncomputable def jwe (K:PySem.W.Frag)(x:V)(H:Hp)(k:Bool):Prop :=
 match x with
 |.non=>k=false
 |.bl b=>k=b
 |.int i=>k=(i != 0)
 |.str y=>y.length≤sizeLine∧k=((y.length:Int) != 0)
 |.byt y=>y.size≤sizeLine∧k=((y.size:Int) != 0)
 |.ref p=>(∃xs,SqL K H p xs∧k = !xs.isEmpty)∨(∃xs,SqT K H p xs∧k = !xs.isEmpty)∨∃kvs,H p=some (.dK kvs)∧k = !kvs.isEmpty
 |_=>False
theorem jks {κ:Type}{kvs:List (κ×V)}{vs:List (κ×Value)}(r:KV kvs vs):(!vs.isEmpty) = !kvs.isEmpty:=by
 cases r <;> rfl
theorem jgP {xs:List V}{its:List Value}(r:ja6 xs its):(!its.toArray.isEmpty) = !xs.isEmpty:=by
 cases r <;> simp
theorem jfV:(sizeLine:Nat) < 2 ^ 63:=by rw[sizeLine_eq];decide
theorem juB:jyH X (fun x H Q=>∃k,jwe X.K x H k∧Q k H):=by
 intro pins s σ H x v Q I rx h
 obtain⟨k,e,q⟩:=h
 have hl:=jfV
 have hs:sizeLine=16777216:=sizeLine_eq
 cases x with
 |non =>
  cases rx
  have e':k=false:=e
  subst e'
  exact truthy_none ⟨H,I,q⟩
 |bl b =>
  cases rx
  have e':k=b:=e
  subst e'
  exact wpAny_truthy_bool ⟨H,I,q⟩
 |int i =>
  obtain⟨t,rfl⟩:=rx
  have e':k=(i != 0):=e
  subst e'
  exact PySem.P.truthy_int ⟨H,I,q⟩
 |str y =>
  obtain⟨t,rfl⟩:=rx
  obtain⟨hy,e'⟩:y.length≤sizeLine∧k=((y.length:Int) != 0):=e
  subst e'
  exact PySem.P.truthy_str (by omega) ⟨H,I.tok _,q⟩
 |byt y =>
  obtain⟨t,rfl⟩:=rx
  obtain⟨hy,e'⟩:y.size≤sizeLine∧k=((y.size:Int) != 0):=e
  subst e'
  exact PySem.W.truthy_bytes (by omega) ⟨H,I.tok _,q⟩
 |ref p =>
  cases rx
  have e':(∃xs,SqL X.K H p xs∧k = !xs.isEmpty)∨(∃xs,SqT X.K H p xs∧k = !xs.isEmpty)∨∃kvs,H p=some (.dK kvs)∧k = !kvs.isEmpty:=e
  rcases e' with ⟨xs,hx,e'⟩ | ⟨xs,hx,e'⟩ | ⟨kvs,hx,e'⟩
  ·subst e'
   obtain⟨its,r,pl,hz⟩:=I.list hx
   have hlen:=r.length
   exact wpAny_truthy_list pl.isList (by simp only[List.size_toArray];omega) ⟨H,I.tok _,by rw[jgP r];exact q⟩
  ·subst e'
   obtain⟨its,r,pl,hz⟩:=I.tuple hx
   have hlen:=r.length
   exact truthy_tuple pl (by simp only[List.size_toArray];omega) ⟨H,I.tok _,by rw[jgP r];exact q⟩
  ·subst e'
   obtain⟨hz,hS,vs,r,m⟩:kvs.length≤sizeLine∧(p == sysModules)=false∧∃vs,KV kvs vs∧s.heap.DictOf (jaY X.prog X.w) p vs:=I.hok p _ hx
   have hlen:kvs.length=vs.length:=Paired.length r
   exact wpAny_truthy_dict hS m (by omega) ⟨H,I.tok _,by rw[jks r];exact q⟩
 |_=>exact (show False from e).elim
theorem jpn (ha:PE X a ta)(he:∀whole,isTrue a X.env whole=(do let v ← whole;standAt a.pos;holding [v] (truthy v))) :
  PT X a (fun σ H Q=>ta σ H fun x H'=>∃k,jwe X.K x H' k∧Q k H'):=by
 intro pins s σ H Q I h
 exact isTrue_plain (thn (ha pins s σ H _ I h) fun v s1 ⟨x,H1,I1,r1,q1⟩=>juB pins s1 σ H1 x v Q I1 r1 q1) (he _)
theorem jk9:OpR X (binaryOp .Add) (fun x y H Q=>∃i j,x=.str i∧y=.str j∧i.length+j.length≤sizeLine∧Q (.str (i++j)) H):=by
 intro pins s σ H x y v u Q I rx ry h
 obtain⟨i,j,rfl,rfl,hz,q⟩:=h
 obtain⟨t,rfl⟩:=rx
 obtain⟨t',rfl⟩:=ry
 exact add_str (fun t' tk=>⟨.str (i++j),H,I.tok _,⟨_,rfl⟩,q⟩) hz
theorem je2 {x:V}{us:List Value}(r:ja6 [x] us):∃u,us=[u]∧jba x u:=by
 cases r with
 |cons r1 r2=>cases r2;exact⟨_,rfl,r1⟩
theorem joZ {x y:V}{us:List Value}(r:ja6 [x,y] us):∃u w',us=[u,w']∧jba x u∧jba y w':=by
 cases r with
 |cons r1 r2 =>
  cases r2 with
  |cons r3 r4=>cases r4;exact⟨_,_,rfl,r1,r3⟩
theorem jnx (hc:X.calm=true):jcd X (.builtin "max") (fun xs H Q=>∃i j,xs=[.int i,.int j]∧Q (.int (if j > i then j else i)) H):=by
 intro pins s σ H xs us Q I r h
 obtain⟨i,j,rfl,q⟩:=h
 obtain⟨u,w',rfl,⟨t,rfl⟩,⟨t',rfl⟩⟩:=joZ r
 refine max_two_ints (I.ok.hd hc) fun h' tk k=>⟨_,H,I.kept k,?_,q⟩
 by_cases hj:j > i
 ·rw[if_pos hj,if_pos hj];exact⟨_,rfl⟩
 ·rw[if_neg hj,if_neg hj];exact⟨_,rfl⟩
theorem jlq (hc:X.calm=true):jcd X (.builtin "min") (fun xs H Q=>∃i j,xs=[.int i,.int j]∧Q (.int (if j < i then j else i)) H):=by
 intro pins s σ H xs us Q I r h
 obtain⟨i,j,rfl,q⟩:=h
 obtain⟨u,w',rfl,⟨t,rfl⟩,⟨t',rfl⟩⟩:=joZ r
 refine min_two_ints (I.ok.hd hc) fun h' tk k=>⟨_,H,I.kept k,?_,q⟩
 by_cases hj:j < i
 ·rw[if_pos hj,if_pos hj];exact⟨_,rfl⟩
 ·rw[if_neg hj,if_neg hj];exact⟨_,rfl⟩
theorem jnj:jcd X (.type "int") (fun xs H Q=>(∃i,xs=[.int i]∧Q (.int i) H)∨∃k,xs=[.bl k]∧Q (.int (if k then 1 else 0)) H):=by
 intro pins s σ H xs us Q I r h
 rcases h with ⟨i,rfl,q⟩ | ⟨k,rfl,q⟩
 ·obtain⟨u,rfl,t,rfl⟩:=je2 r
  exact call_int_int ⟨.int i,H,I,⟨_,rfl⟩,q⟩
 ·obtain⟨u,rfl,r1⟩:=je2 r
  cases r1
  exact call_int_bool ⟨.int (if k then 1 else 0),H,I.tok _,⟨_,rfl⟩,q⟩
theorem jhV:jcd X (.type "str") (fun xs H Q=>∃i,xs=[.int i]∧i.natAbs.log2 < 1920∧Q (.str (toString i)) H):=by
 intro pins s σ H xs us Q I r h
 obtain⟨i,rfl,hz,q⟩:=h
 obtain⟨u,rfl,t,rfl⟩:=je2 r
 exact PySem.P.str_of_int hz ⟨.str _,H,I.tok _,⟨_,rfl⟩,q⟩
end
end _L2
namespace _L2
open PySem PySem.Spec PyProof.Rows
structure ObjM (h:Heap) (x dx C:Addr) (mA:Str→Option Value):Prop where
 obj:h.get? x=some (PySem.W.instObj C dx)
 ns:h.Ns1 dx mA
 ne:dx≠x
theorem jm1 {h:Heap}{dx:Addr}{mA:Str→Option Value}(n:h.Ns1 dx mA):∃od,h.get? dx=some od∧∀name,PySem.W.lookIn name od=some (mA name):=by
 obtain⟨o,es,ep,ho,hd,hk,_,hm⟩:=n
 refine⟨o,ho,fun name=>?_⟩
 have e:=hm name
 unfold nsFind findBy at e
 rw[← Array.find?_toList]at e
 unfold PySem.W.lookIn
 rw[hd]
 dsimp only
 split
 ·rename_i y q
  rw[q]at e
  exact congrArg some e
 ·rename_i q
  rw[q]at e
  have a:es.toList.any (·.refKey)=false:=by
   rw[List.any_eq_false]
   intro y hy
   obtain⟨z,t,hkey⟩:=hk y (Array.mem_toList_iff.mp hy)
   simp[DictEntry.refKey,hkey]
  have a':¬ es.toList.any (·.refKey)=true:=by rw[a];exact Bool.false_ne_true
  rw[if_neg a']
  exact congrArg some e
theorem ObjM.look {h:Heap}{x dx C:Addr}{mA:Str→Option Value}(I:ObjM h x dx C mA):∃od,PySem.W.InstAt h x (PySem.W.instObj C dx) C (some od)∧∀name,PySem.W.lookIn name od=some (mA name) :=
 let ⟨od,ho,hl⟩:=jm1 I.ns
 ⟨od,⟨I.obj,rfl,rfl,ho⟩,hl⟩
section
variable {prog:Program} {w:World} {A:Around} {E:Value→Shared→Prop} {s:Shared} {K:PySem.W.Frag} {x dx C f:Addr} {mA:Str→Option Value} {name:Str} {v:Value}
end
theorem jhw.some_of {v:V}{o:Option Value}(r:jhw (some v) o):∃u,o=some u∧jba v u:=by
 cases o with
 |none=>exact (show False from r).elim
 |some u=>exact⟨u,rfl,r⟩
theorem jhw.none_of {o:Option Value}(r:jhw none o):o=none:=by
 cases o with
 |none=>rfl
 |some u=>exact (show False from r).elim
section
variable {P:Program} {w:World} {H H':Hp} {h h':Heap} {a C dx:Addr} {fs fs':List (Str×V)}
theorem jqZ (hok:HOk P w H h)(e:H a=some (.ins C dx fs)):∃mA,ObjM h a dx C mA∧(∀f,jhw (fs.lookup f) (mA f))∧PySem.Within mA (fs.map (·.1))∧fs.length≤1000∧H dx=some (.own a):=by
 obtain⟨d,z,ne,ob,mA,n,r,q⟩:=(show jca P w H h a (.ins C dx fs) from hok a _ e)
 exact⟨mA,⟨ob,n,ne⟩,r,q,z,d⟩
end
structure Cls (K:PySem.W.Frag) (C:Addr):Prop where
 pg:PySem.W.plainGet K C Str.empty=true
 hd:PySem.W.hasDictIn K C=true
 po:PySem.W.plainOver K C=true
 sa:PySem.W.findIn K (.ref C) "__setattr__" = some (some (.builtin "object.__setattr__"))
theorem Cls.get {K:PySem.W.Frag}{C:Addr}(c:Cls K C)(f:Str):PySem.W.plainGet K C f=true:=c.pg
structure Con (K:PySem.W.Frag) (C:Addr) (f:Str) (v:V) (u:Value):Prop where
 at_:PySem.W.findIn K (.ref C) f=some (some u)
 rel:jba v u
 get:PySem.W.specialIn K u "__get__" = some none
 cp:PySem.W.copiedNames.contains f=false
structure Meth (K:PySem.W.Frag) (C:Addr) (m:Str) (f:Addr):Prop where
 at_:PySem.W.findIn K (.ref C) m=some (some (.ref f))
 fn:PySem.W.isFn K (.ref f)=true
 kp:PySem.W.keepIn K (.ref f)=true
section
variable {X:Cx} {pins:List (Addr×Obj)} {σ:St} {H:Hp} {s:Shared} {a C dx:Addr} {fs:List (Str×V)} {f:Str} {v:V} {A:Around} {E:Value→Shared→Prop}
theorem Inv.made (I:Inv X pins σ H s):Inv X pins σ (upd (upd H s.heap.objs.size (.own (s.heap.objs.size+1))) (s.heap.objs.size+1) (.ins C s.heap.objs.size []))
  {s with heap:=(s.heap.push PySem.W.emptyDict).push (PySem.W.instObj C s.heap.objs.size)}:=by
 have e1:(s.heap.push PySem.W.emptyDict).get? s.heap.objs.size=some PySem.W.emptyDict:=Heap.get?_push_size s.heap rfl
 have e2:((s.heap.push PySem.W.emptyDict).push (PySem.W.instObj C s.heap.objs.size)).get? (s.heap.objs.size+1)=some (PySem.W.instObj C s.heap.objs.size):=by
  have:=Heap.get?_push_size (s.heap.push PySem.W.emptyDict) (o:=PySem.W.instObj C s.heap.objs.size) rfl
  rwa [Heap.size_push]at this
 have e3:(s.heap.push PySem.W.emptyDict).Ns s.heap.objs.size (fun _=>none):=⟨PySem.W.emptyDict,#[],_,e1,rfl,(fun e he=>absurd he (by simp)),fun _=>rfl⟩
 have I1:=I.laid (a:=s.heap.objs.size) (o:=.own (s.heap.objs.size+1)) (h':=s.heap.push PySem.W.emptyDict) (t':=s.toks) (fun b u q=>Heap.get?_push_of_some _ q) (Nat.le_refl _) ⟨_,e1⟩
 refine I1.laid (a:=s.heap.objs.size+1) (o:=.ins C s.heap.objs.size []) (t':=s.toks) (fun b u q=>Heap.get?_push_of_some _ q) (Nat.le_of_eq (Heap.size_push _ _)) ?_
 have ne:s.heap.objs.size≠s.heap.objs.size+1:=Nat.ne_of_lt (Nat.lt_succ_self _)
 refine⟨by rw[jal ne,jay],Nat.zero_le _,ne,e2,fun _=>none,(Heap.Ns1.of_empty e3).at fun o q=>Heap.get?_push_of_some _ q,fun _=>True.intro,fun y hy=>absurd rfl hy⟩
end
section
variable {X:Cx} {o e value:Expr} {f:Str} {pos pos' tpos:Pos} {ta tv:TE}
end
section
variable {X:Cx} {pins:List (Addr×Obj)} {σ:St} {H:Hp} {s:Shared} {A:Around} {E:Value→Shared→Prop} {Q:Value→Shared→Prop} {c:Value} {b:Bool}
inductive TyOf (K:PySem.W.Frag) (H:Hp):V→Value→Prop where
 |non:TyOf K H .non (.type "NoneType")
 |bl (x:Bool):TyOf K H (.bl x) (.type "bool")
 |int (i:Int):TyOf K H (.int i) (.type "int")
 |str (x:Str):TyOf K H (.str x) (.type "str")
 |flt (x:UInt64):TyOf K H (.flt x) (.type "float")
 |lst {a:Addr} {xs:List V} (e:H a=some (.lst xs)):TyOf K H (.ref a) (.type "list")
 |frz {a:Addr} {o:Obj} {xs:List V} (e:H a=some (.frz o (.lst xs))):TyOf K H (.ref a) (.type "list")
 |tup {a:Addr} {xs:List V} (e:H a=some (.tup xs)):TyOf K H (.ref a) (.type "tuple")
 |dK {a:Addr} {kvs:List (Key×V)} (e:H a=some (.dK kvs)):TyOf K H (.ref a) (.type "dict")
 |dT {a:Addr} {kvs:List (List Key×V)} (e:H a=some (.dT kvs)):TyOf K H (.ref a) (.type "dict")
 |ins {a C dx:Addr} {fs:List (Str×V)} (e:H a=some (.ins C dx fs)) (cl:Cls K C) (ha:PySem.W.findIn K (.ref C) "__class__" = some (some (.builtin "object.__class__")))
   (hn:PySem.W.specialIn K (.builtin "object.__class__") "__get__" = some (some (.builtin "getset_descriptor.__get__"))) (htk:PySem.W.takesIn K (.builtin "object.__class__")=some true)
   (hm:PySem.W.mroIn K C (.type "object")=some true):TyOf K H (.ref a) (.ref C)
theorem jem {x:V}{u t:Value}(I:Inv X pins σ H s)(rx:jba x u)(ty:TyOf X.K H x t)(e:PySem.W.kitOne X.K t c=some b)(h:∀tk,Q (.bool b) {s with toks:=tk}) :
  wpAny (model X.prog X.w) A (call (.builtin "isinstance") [u,c]) Q E s:=by
 cases ty with
 |non=>cases (show u=Value.none from rx);exact PySem.W.kia_one PySem.W.kitx_none I.kIn True.intro e (fun z=>nomatch z) h
 |bl y=>cases (show u=Value.bool y from rx);exact PySem.W.kia_one PySem.W.kitx_bool I.kIn True.intro e (fun z=>nomatch z) h
 |int i=>obtain⟨t,q⟩:=(show ∃t,u=Value.int i t from rx);cases q;exact PySem.W.kia_one PySem.W.kitx_int I.kIn True.intro e (fun z=>nomatch z) h
 |str y=>obtain⟨t,q⟩:=(show ∃t,u=Value.str y t from rx);cases q;exact PySem.W.kia_one PySem.W.kitx_str I.kIn True.intro e (fun z=>nomatch z) h
 |flt y=>obtain⟨t,q⟩:=(show ∃t,u=Value.float y t from rx);cases q;exact PySem.W.kia_one PySem.W.kitx_float I.kIn True.intro e (fun z=>nomatch z) h
 | @lst a xs ea =>
  cases (show u=Value.ref a from rx)
  obtain⟨_,_,n,_,h1⟩:=(show jca X.prog X.w H s.heap a (.lst xs) from I.hok a _ ea)
  exact PySem.W.kia_one PySem.W.kitx_list I.kIn ⟨_,h1,rfl⟩ e (fun z=>nomatch z) h
 | @frz a ob xs ea =>
  cases (show u=Value.ref a from rx)
  obtain⟨_,_,_,n,_,h1⟩:=(show jca X.prog X.w H s.heap a (.frz ob (.lst xs)) from I.hok a _ ea)
  exact PySem.W.kia_one PySem.W.kitx_list I.kIn ⟨_,h1,rfl⟩ e (fun z=>nomatch z) h
 | @tup a xs ea =>
  cases (show u=Value.ref a from rx)
  obtain⟨_,_,_,p⟩:=(show jca X.prog X.w H s.heap a (.tup xs) from I.hok a _ ea)
  obtain⟨o,h1,h2,_⟩:=p
  exact PySem.W.kia_one PySem.W.kitx_tuple I.kIn ⟨o,h1,h2⟩ e (fun z=>nomatch z) h
 | @dK a kvs ea =>
  cases (show u=Value.ref a from rx)
  obtain⟨_,_,vs,_,p⟩:=(show jca X.prog X.w H s.heap a (.dK kvs) from I.hok a _ ea)
  obtain⟨o,es,ep,h1,h2,_⟩:=p
  exact PySem.W.kia_one PySem.W.kitx_dict I.kIn ⟨o,h1,h2.1⟩ e (fun z=>nomatch z) h
 | @dT a kvs ea =>
  cases (show u=Value.ref a from rx)
  obtain⟨_,_,xs,_,o,es,ep,h1,h2,_⟩:=(show jca X.prog X.w H s.heap a (.dT kvs) from I.hok a _ ea)
  exact PySem.W.kia_one PySem.W.kitx_dict I.kIn ⟨o,h1,h2.1⟩ e (fun z=>nomatch z) h
 | @ins a C dx fs ea cl ha hn htk hm =>
  cases (show u=Value.ref a from rx)
  obtain⟨mA,O,_⟩:=jqZ I.hok ea
  obtain⟨od,J,_⟩:=O.look
  exact PySem.W.kia_one (PySem.W.kitx_own (cl.get _) cl.hd ha hn htk hm) I.kIn J e (fun z=>nomatch z) h
end
end _L2
namespace _L2
open PySem PySem.Spec PyProof.Rows
structure Room (k:Nat) (A:Around):Prop where
 hd:A.handled=none
 dp:A.depth+3 * k+5 < recursionLimit
 un:A.units+16 * k+200 < cLine
theorem Room.mono {j k:Nat}{A:Around}(r:Room k A)(h:j≤k):Room j A:=⟨r.hd,by have:=r.dp;omega,by have:=r.un;omega⟩
theorem Room.deeper {k:Nat}{A:Around}(r:Room (k+1) A)(env:Env):Room k (A.deeper env) :=
 ⟨r.hd,by have:=r.dp;show A.depth+1+3 * k+5 < _;omega,by have:=r.un;show A.units+3+16 * k+200 < _;omega⟩
theorem Room.in1 {k:Nat}{A:Around}(r:Room (k+1) A):Room k A.in1 :=
 ⟨r.hd,by have:=r.dp;show A.depth+3 * k+5 < _;omega,by have:=r.un;show A.units+1+16 * k+200 < _;omega⟩
theorem Room.depth {k:Nat}{A:Around}(r:Room k A):A.depth < recursionLimit:=by have:=r.dp;omega
theorem Room.units {k:Nat}{A:Around}(r:Room k A):A.units+64 < cLine:=by have:=r.un;omega
noncomputable def jyb:TA:=fun _ H Q=>Q [] H
noncomputable def jlW (ta:TE)(tr:TA):TA:=fun σ H Q=>ta σ H fun x H1=>tr σ H1 fun xs H2=>Q (x :: xs) H2
section
variable {X:Cx} {e:Expr} {es:List Expr} {te:TE} {t:TA} {pos:Pos}
theorem jdr:PA X [] jyb:=fun _ _ _ _ H Q I h=>Calls.spliced_nil ⟨[],H,I,.nil,h⟩
theorem jbS (ha:PE X e te)(hr:PA X es t)(hs:starEach (e :: es) X.env=(false,eval e X.env) :: starEach es X.env:=by rfl):PA X (e :: es) (jlW te t):=by
 intro pos pins s σ H Q I h
 rw[hs]
 show wpAny _ _ (spliced ((false,eval e X.env) :: backTo pos (starEach es X.env))) _ _ s
 refine Calls.spliced_cons (thn (ha pins s σ H _ I h) fun u s1 ⟨x,H1,I1,r1,q1⟩=>?_)
 exact thn (hr pos pins s1 σ H1 _ I1 q1) fun us s2 ⟨xs,H2,I2,r2,q2⟩=>⟨x :: xs,H2,I2,.cons r1 r2,q2⟩
noncomputable def jyq (t:TA):TE:=fun σ H Q=>t σ H fun xs H1=>xs.length≤sizeLine∧∀p,H1 p=none→Q (.ref p) (upd H1 p (.tup xs))
noncomputable def jyt (t:TA):TE:=fun σ H Q=>t σ H fun xs H1=>xs.length≤sizeLine∧∀p,H1 p=none→Q (.ref p) (upd H1 p (.lst xs))
theorem jmv {x1}(h:PA X es t):PE X (.Tuple es x1 pos) (jyq t):=by
 intro pins s σ H Q I hq
 refine wpAny_Tuple_spliced (thn (h pos pins s σ H _ I hq) fun us s1 ⟨xs,H1,I1,r,z,q⟩=>⟨by rw[← r.length];exact z,?_⟩)
 have hf:H1 s1.heap.objs.size=none:=I1.hok.fresh (Nat.le_refl _)
 refine⟨.ref s1.heap.objs.size,upd H1 s1.heap.objs.size (.tup xs),I1.laid (t':=s1.toks) (fun b u e=>Heap.get?_push_of_some _ e) (Nat.le_refl _) ?_,rfl,q _ hf⟩
 exact⟨z,us,r,⟨_,Heap.get?_push_size _ rfl,rfl,_,rfl⟩⟩
theorem jjR (h:PA X es t):PE X (.List es pos) (jyt t):=by
 intro pins s σ H Q I hq
 refine wpAny_List_spliced (thn (h pos pins s σ H _ I hq) fun us s1 ⟨xs,H1,I1,r,z,q⟩=>⟨by rw[← r.length];exact z,?_⟩)
 have hf:H1 s1.heap.objs.size=none:=I1.hok.fresh (Nat.le_refl _)
 refine⟨.ref s1.heap.objs.size,upd H1 s1.heap.objs.size (.lst xs),I1.laid (t':=s1.toks) (fun b u e=>Heap.get?_push_of_some _ e) (Nat.le_refl _) ?_,rfl,q _ hf⟩
 exact⟨z,us,0,r,Heap.get?_push_size _ rfl⟩
end
noncomputable abbrev Sp:=List V→Hp→VK→XK→Prop
noncomputable abbrev CXT:=List Env→Hp→Shared→XK→Value→Shared→Prop
structure Env0 (P:Program) (w:World) (K:PySem.W.Frag) (mg:Str→Option Value) (base:Heap) (A:Around) (outer:List Env) (s:Shared) (H:Hp):Prop where
 frames:A.frames=some outer
 mod:Mod K mg base
 bs:∀b o,base.get? b=some o→s.heap.get? b=some o∧H b=none
 bsz:base.objs.size≤s.heap.objs.size
 funs:s.heap.FunFrames base outer
 frf:∀b∈frs outer,H b=none
 hok:HOk P w H s.heap
 bare:AllBare s.gens
noncomputable def CE (outer:List Env)(P:Program)(w:World)(H:Hp)(s:Shared)(Q:VK)(u:Value)(s':Shared):Prop :=
 ∃v H',s'.os=s.os∧AllBare s'.gens∧Un (frs outer) [] H H' s.heap s'.heap∧HOk P w H' s'.heap∧jba v u∧Q v H'
noncomputable def CR (CX:CXT)(outer:List Env)(P:Program)(w:World)(H:Hp)(s:Shared)(Q:VK)(E:XK)(r:Result)(s':Shared):Prop :=
 match r with
 |.ok (.ret u)=>CE outer P w H s Q u s'
 |.ok _=>False
 |.error e=>CX outer H s E e s'
structure FnOk (P:Program) (w:World) (K:PySem.W.Frag) (mg:Str→Option Value) (base:Heap) (CX:CXT) (k:Nat) (f:Addr) (fd:FuncData) (ps:List Str) (sp:Sp):Prop where
 len:∀vs H Q E,sp vs H Q E→vs.length=ps.length
 run:∀(A:Around) (outer:List Env) (s:Shared) (H:Hp) (args:Args) (us:List Value) (vs:List V) (Q:VK) (E:XK),Room k A→Env0 P w K mg base A outer s H→BindsTo s fd args (ps.zip us)→ja6 vs us→sp vs H Q E →
  codeAny (model P w) A (.call (.ref f) args) (CR CX outer P w H s Q E) s
theorem FnOk.mono {P:Program}{w:World}{K:PySem.W.Frag}{mg:Str→Option Value}{base:Heap}{CX:CXT}{j k:Nat}{f:Addr}{fd:FuncData}{ps:List Str}{sp:Sp}(F:FnOk P w K mg base CX j f fd ps sp)(h:j≤k) :
  FnOk P w K mg base CX k f fd ps sp:=⟨F.len,fun A outer s H args us vs Q E hr=>F.run A outer s H args us vs Q E (hr.mono h)⟩
theorem FnOk.imp {P:Program}{w:World}{K:PySem.W.Frag}{mg:Str→Option Value}{base:Heap}{CX:CXT}{k:Nat}{f:Addr}{fd:FuncData}{ps:List Str}{sp sp':Sp}(F:FnOk P w K mg base CX k f fd ps sp)
  (h:∀vs H Q E,sp' vs H Q E→sp vs H Q E):FnOk P w K mg base CX k f fd ps sp' :=
 ⟨fun vs H Q E q=>F.len vs H Q E (h _ _ _ _ q),fun A outer s H args us vs Q E hr he hb hv hs=>F.run A outer s H args us vs Q E hr he hb hv (h _ _ _ _ hs)⟩
theorem Env0.in1 {P:Program}{w:World}{K:PySem.W.Frag}{mg:Str→Option Value}{base:Heap}{A:Around}{outer:List Env}{s:Shared}{H:Hp}(e:Env0 P w K mg base A outer s H) :
  Env0 P w K mg base A.in1 outer s H:=⟨e.frames,e.mod,e.bs,e.bsz,e.funs,e.frf,e.hok,e.bare⟩
section
variable {X:Cx} {pins:List (Addr×Obj)} {σ:St} {H:Hp} {s s':Shared}
theorem Inv.env0 (I:Inv X pins σ H s):Env0 X.prog X.w X.K X.mg X.base X.A X.stack s H :=
 ⟨I.ok.frames,I.ok.mod,I.bs,Nat.le_trans I.ok.bsz I.sz,I.stack,I.stkFree,I.hok,I.bare⟩
theorem Inv.after {Q:VK}{u:Value}(I:Inv X pins σ H s)(h:CE X.stack X.prog X.w H s Q u s'):EP X pins σ Q u s':=by
 obtain⟨v,H',os,bare,un,hok,r,q⟩:=h
 obtain⟨hh,g,d,t,os'⟩:=s'
 obtain rfl:os'=s.os:=os
 exact⟨v,H',I.call (h':=hh) (g':=g) (d':=d) (t':=t) (ch:=[]) un hok bare (fun b z=>absurd z (by simp)),r,q⟩
end
noncomputable def jsi (sp:Sp)(dvs:List V)(E:XK)(t:TA):TE:=fun σ H Q=>t σ H fun vs H1=>sp (vs++dvs) H1 Q E
noncomputable def jgu (K:PySem.W.Frag)(fd:FuncData)(ps:List Str)(ds:List Value):Prop :=
 ∀(s:Shared) (us:List Value),K.In s.heap→(us++ds).length=ps.length→BindsTo s fd ⟨us,[]⟩ (ps.zip (us++ds))
theorem jgu.all {K:PySem.W.Frag}{fd:FuncData}{ps:List Str}(h:∀us:List Value,us.length=ps.length→bindArgs fd ⟨us,[]⟩=pure (ps.zip us)):jgu K fd ps []:=fun s us _ hl=>by
 rw[List.append_nil]at hl ⊢
 exact .of_eq (h us hl)
noncomputable def jlY (CX:CXT)(X:Cx)(E:XK):Prop:=∀(pins:List (Addr×Obj)) (σ:St) (H:Hp) (s:Shared) (e:Value) (s':Shared),Inv X pins σ H s→CX X.stack H s E e s'→X.xe e s'
section
variable {X:Cx} {CX:CXT} {k:Nat} {f C:Addr} {fd:FuncData} {ps:List Str} {sp:Sp} {dvs:List V} {ds:List Value} {E:XK} {x m:Str} {p pos apos:Pos} {e o:Expr} {es:List Expr} {ta:TE} {t:TA}
theorem jue {pins:List (Addr×Obj)}{σ:St}{H:Hp}{s:Shared}{Q:VK}{us:List Value}{vs:List V}(F:FnOk X.prog X.w X.K X.mg X.base CX k f fd ps sp)(hr:Room k X.A)(hb:jgu X.K fd ps ds)(hd:ja6 dvs ds)(hx:jlY CX X E)
  (I:Inv X pins σ H s) (r:ja6 vs us) (h:sp (vs++dvs) H Q E):wpAny (model X.prog X.w) X.A (call (.ref f) us) (EP X pins σ Q) X.xe s:=by
 have r2:ja6 (vs++dvs) (us++ds):=r.append hd
 have hl:(us++ds).length=ps.length:=by rw[← r2.length];exact F.len _ _ _ _ h
 refine wpAny_call (codeAny_mono (F.run X.A X.stack s H ⟨us,[]⟩ (us++ds) (vs++dvs) Q E hr I.env0 (hb s us I.kIn hl) r2 h) fun r s' hq=>?_)
 cases r with
 |error e=>exact hx pins σ H s e s' I hq
 |ok fl =>
  cases fl with
  |ret u=>exact I.after hq
  |next=>exact False.elim hq
  |brk=>exact False.elim hq
  |cont=>exact False.elim hq
theorem jqT (F:FnOk X.prog X.w X.K X.mg X.base CX k f fd ps sp)(hr:Room k X.A)(hg:Gl X x)(hm:X.mg x=some (.ref f))(hk:PySem.W.keepIn X.K (.ref f)=true)(hb:jgu X.K fd ps ds)(hd:ja6 dvs ds)(hx:jlY CX X E)
  (ha:PA X (e :: es) t) (hdb:(x == ("__debug__" : Str))=false:=by decide) (he:starEach (e :: es) X.env=(false,eval e X.env) :: starEach es X.env:=by rfl) (hpl:(backTo pos (starEach es X.env)).any (·.1)=false:=by rfl) :
  PE X (.Call (.Name x p) (e :: es) [] pos) (jsi sp dvs E t):=by
 intro pins s σ H Q I h
 refine wpAny_Call_Name_kw (jfC I hg hm ?_ hdb)
 refine PySem.W.callWith_K (h₀:=X.base) I.ok.mod.kin hk (thn (ha pos pins s σ H _ I h) fun us s1 ⟨vs,H1,I1,r,q⟩=>⟨I1.kIn,?_⟩) he hpl
 exact jue F hr hb hd hx I1 r q
structure Mk (K:PySem.W.Frag) (C f:Addr):Prop where
 makes:PySem.W.makesIn K C=true
 init:PySem.W.findIn K (.ref C) "__init__" = some (some (.ref f))
 fn:PySem.W.isFn K (.ref f)=true
 kp:PySem.W.keepIn K (.ref C)=true
end
section
variable {X:Cx} {CX:CXT} {k:Nat} {f C:Addr} {fd:FuncData} {ps ks:List Str} {sp:Sp} {E:XK} {x m:Str} {p pos apos kpos:Pos} {e o:Expr} {es:List Expr} {kws:List Keyword} {te ta:TE} {t tk:TA} {nm:Option Str}
structure KBinds (K:PySem.W.Frag) (fd:FuncData) (ps ks:List Str) (g:List Value→List Value→List Value) (gV:List V→List V→List V):Prop where
 to:∀(s:Shared) (us ws:List Value),K.In s.heap→(g us ws).length=ps.length→BindsTo s fd ⟨us,ks.zip ws⟩ (ps.zip (g us ws))
 rel:∀{vs:List V} {us:List Value} {zs:List V} {ws:List Value},ja6 vs us→ja6 zs ws→ja6 (gV vs zs) (g us ws)
variable {g:List Value→List Value→List Value} {gV:List V→List V→List V}
end
structure FnScope (N P:List Str) (sc:Scope):Prop where
 kind:sc.kind=.function
 co:sc.isCoroutine=false
 gen:sc.isGenerator=false
 nd:N.Nodup
 pre:N.take P.length=P
 par:∀x∈P,sc.names.lookup x=some .local∨sc.names.lookup x=some .cell
 nofree:∀y∈sc.names,y.2≠.free
theorem jhH {kindOf:Str→Option NameKind}{x:Str}:∀{binds:List (Str×Value)} {m:Str→Option Value},(∀v,(x,v)∉binds)→bindL kindOf binds m x=m x
 |[],_,_=>rfl
 |(n,v) :: r,m,h=>by
  unfold bindL
  rw[jhH fun w hw=>h w (List.mem_cons_of_mem _ hw)]
  split
  ·have:x≠n:=by rintro rfl;exact h v List.mem_cons_self
   simp[this]
  ·rfl
theorem jhS {kindOf:Str→Option NameKind}{x:Str}:∀{binds:List (Str×Value)} {m:Str→Option Value},(∀v,(x,v)∉binds)→bindC kindOf binds m x=m x
 |[],_,_=>rfl
 |(n,v) :: r,m,h=>by
  unfold bindC
  rw[jhS fun w hw=>h w (List.mem_cons_of_mem _ hw)]
  split
  ·rfl
  ·have:x≠n:=by rintro rfl;exact h v List.mem_cons_self
   simp[this]
theorem jhB {kindOf:Str→Option NameKind}{x:Str}{v:Value}:∀{P:List Str} {vs:List Value} {i:Nat} {m:Str→Option Value},P.Nodup→P[i]?=some x→vs[i]?=some v→kindOf x=some .local →
  bindL kindOf (P.zip vs) m x=some v
 |[],_,_,_,_,h,_,_=>by simp at h
 |_ :: _,[],_,_,_,_,h,_=>by simp at h
 |p :: P,w :: vs,0,m,nd,h1,h2,hk=>by
  simp at h1 h2;subst h1;subst h2
  show bindL kindOf ((p,w) :: P.zip vs) m p=_
  unfold bindL
  rw[jhH fun v hv=>(List.nodup_cons.mp nd).1 (List.of_mem_zip hv).1,if_pos hk]
  simp
 |p :: P,w :: vs,i+1,m,nd,h1,h2,hk=>by
  show bindL kindOf ((p,w) :: P.zip vs) m x=_
  unfold bindL
  exact jhB (i:=i) (List.nodup_cons.mp nd).2 (by simpa using h1) (by simpa using h2) hk
theorem jhA {kindOf:Str→Option NameKind}{x:Str}{v:Value}:∀{P:List Str} {vs:List Value} {i:Nat} {m:Str→Option Value},P.Nodup→P[i]?=some x→vs[i]?=some v→kindOf x≠some .local →
  bindC kindOf (P.zip vs) m x=some v
 |[],_,_,_,_,h,_,_=>by simp at h
 |_ :: _,[],_,_,_,_,h,_=>by simp at h
 |p :: P,w :: vs,0,m,nd,h1,h2,hk=>by
  simp at h1 h2;subst h1;subst h2
  show bindC kindOf ((p,w) :: P.zip vs) m p=_
  unfold bindC
  rw[jhS fun v hv=>(List.nodup_cons.mp nd).1 (List.of_mem_zip hv).1,if_neg hk]
  simp
 |p :: P,w :: vs,i+1,m,nd,h1,h2,hk=>by
  show bindC kindOf ((p,w) :: P.zip vs) m x=_
  unfold bindC
  exact jhA (i:=i) (List.nodup_cons.mp nd).2 (by simpa using h1) (by simpa using h2) hk
noncomputable def start (N:List Str)(vs:List V):St:=vs.map some++List.replicate (N.length - vs.length) none
noncomputable def jhv (CX:CXT)(P:Program)(w:World)(K:PySem.W.Frag)(mg:Str→Option Value)(base:Heap)(N:List Str)(qual:Str)(scope:Scope)(f:Addr)(cd:Value)(A:Around)(outer:List Env)(s:Shared)(H:Hp)(E:XK):Cx where
 prog:=P
 w:=w
 K:=K
 mg:=mg
 base:=base
 A:=A.deeper (envOfC qual scope s.heap.objs.size f cd)
 N:=N
 s₀:=s
 H₀:=H
 env:=envOfC qual scope s.heap.objs.size f cd
 outer:=outer
 stack:=envOfC qual scope s.heap.objs.size f cd :: outer
 ex:=[]
 calm:=true
 fn:=fun _=>true
 pn:=[]
 xe:=fun e s'=>wpAny (model P w) (A.deeper (envOfC qual scope s.heap.objs.size f cd)) (leaving (envOfC qual scope s.heap.objs.size f cd) e) (fun _ s''=>CX outer H s E e s'') (fun e' s''=>CX outer H s E e' s'') s'
theorem jj5 {sc:Scope}{n:Nat}{x:Str}(h:sc.names.lookup x=some .cell):∃c,(cellsFrom n sc.names []).lookup x=some c:=by
 have q:=PySem.W.cellsFrom_some sc.names n [] (.inl h)
 exact Option.isSome_iff_exists.mp q
theorem jmz {CX:CXT}{P:Program}{w:World}{K:PySem.W.Frag}{mg:Str→Option Value}{base:Heap}{N ps:List Str}{qual:Str}{scope:Scope}{f:Addr}{cd:Value}{A:Around}{outer:List Env}{s s1:Shared}{H:Hp}{E:XK}{us:List Value}{vs:List V}
  (S:FnScope N ps scope) (hd:A.handled=none) (e0:Env0 P w K mg base A outer s H) (hl:vs.length=ps.length) (r:ja6 vs us)
  (x:InCallC s s.heap.objs.size (bindL (envOfC qual scope s.heap.objs.size f cd).kindOf (ps.zip us) fun _=>none) (cellsFrom (s.heap.objs.size+1) scope.names []) (bindC (envOfC qual scope s.heap.objs.size f cd).kindOf (ps.zip us) fun _=>none) s1) :
  Inv (jhv CX P w K mg base N qual scope f cd A outer s H E) [] (start N vs) H s1:=by
 have hpl:ps.length≤N.length:=by have:=congrArg List.length S.pre;rw[List.length_take]at this;omega
 obtain⟨h1,tk,rfl,hk⟩:=x.done
 have noA:∀b:Addr,b∉(jhv CX P w K mg base N qual scope f cd A outer s H E).ex:=fun b z=>absurd (show b∈([]:List Addr) from z) (by simp)
 refine⟨⟨e0.mod,S.kind,rfl,rfl,Nat.le_refl _,fun y z c h1 h2=>?_,fun y hy=>?_,fun y c _ h=>?_,fun _=>hd,Around.frames_deeper e0.frames,.inr ⟨rfl,rfl⟩,fun b z=>absurd z (noA b),e0.bs,e0.bsz,fun b _ _=>noA b,fun b z=>absurd z (noA b),e0.funs,e0.frf⟩,
  rfl,e0.bare,Un.kept hk,⟨_,x.toInCall.ns,fun i y v h1 h2 h3=>?_⟩,fun y c h=>⟨_,x.cell y c h⟩,e0.hok.fresh (Nat.le_refl _),fun y c h=>?_,fun p hp=>absurd (show p∈([]:List (Addr×Obj)) from hp) (by simp),e0.hok.kept hk,?_⟩
 ·exact name_of_addr x.apart (PySem.mem_of_lookup h1) (PySem.mem_of_lookup h2)
 ·have hy:scope.names.lookup y=some .cell∨scope.names.lookup y=some .free:=hy
  rcases hy with hy | hy
  ·exact jj5 hy
  ·exact absurd rfl (S.nofree _ (PySem.mem_of_lookup hy))
 ·exact Nat.le_of_lt (x.above y c (PySem.mem_of_lookup h))
 ·have hi:i < vs.length:=by
   unfold start at h2
   by_cases hi:i < vs.length
   ·exact hi
   ·rw[List.getElem?_append_right (by simpa using hi)]at h2
    rw[List.getElem?_replicate]at h2
    split at h2 <;> cases h2
  have ha:vs[i]?=some v:=by
   unfold start at h2
   rw[List.getElem?_append_left (by simpa using hi),List.getElem?_map]at h2
   cases e:vs[i]? with
   |none=>rw[e]at h2;cases h2
   |some a=>rw[e]at h2;cases h2;rfl
  obtain⟨u,hu,rv⟩:=r.get ha
  have hp:ps[i]?=some y:=by
   rw[← S.pre,List.getElem?_take_of_lt (by omega)];exact h1
  have ndP:ps.Nodup:=by rw[← S.pre];exact S.nd.sublist (List.take_sublist _ _)
  refine⟨u,rv,?_⟩
  rcases S.par y (List.mem_of_getElem? hp) with k | k
  ·exact .inl ⟨k,jhB ndP hp hu k⟩
  ·obtain⟨c,e⟩:=jj5 (n:=s.heap.objs.size+1) k
   refine .inr ⟨.inl k,c,e,?_⟩
   have q:=x.cell y c e
   rw[jhA ndP hp hu (by show scope.names.lookup y≠_;rw[k];decide)]at q
   exact q
 ·exact e0.hok.fresh (Nat.le_of_lt (x.above y c (PySem.mem_of_lookup h)))
 ·unfold start
  show _=N.length
  rw[List.length_append,List.length_map,List.length_replicate]
  omega
theorem jv5 {CX:CXT}{P:Program}{w:World}{K:PySem.W.Frag}{mg:Str→Option Value}{base:Heap}{k:Nat}{f:Addr}{name qual:Str}{params:Arguments}{body:List Stmt}{scope:Scope}{dV kV doc pm cdv ct oc:Value}{an od:Option Addr}
  {osl:Array (Option Value)} {N ps:List Str} {sp:Sp} (lk:K.lookup f=some ⟨oc,od,.func (PySem.W.fnOf name qual params body scope dV kV doc pm an cdv ct),osl⟩) (hcd:PySem.W.codeIn K cdv qual=true) (S:FnScope N ps scope)
  (len:∀vs H Q E,sp vs H Q E→vs.length=ps.length)
  (hbody:∀(A:Around) (outer:List Env) (s:Shared) (H:Hp) (vs:List V) (Q:VK) (E:XK),Room k (A.deeper (envOfC qual scope s.heap.objs.size f cdv))→sp vs H Q E →
   ∃t,PSs (jhv CX P w K mg base N qual scope f cdv A outer s H E) body t∧t {nx:=fun _ H'=>Q .non H',rt:=Q} (start N vs) H) :
  FnOk P w K mg base CX (k+1) f (PySem.W.fnOf name qual params body scope dV kV doc pm an cdv ct) ps sp:=by
 refine⟨len,fun A outer s H args us vs Q E hr e0 hb r hsp=>?_⟩
 have hl:=len _ _ _ _ hsp
 have KX:K.In s.heap:=e0.mod.kin.keeps fun b o e=>(e0.bs b o e).1
 have lim:s.heap.NoLimit:=e0.mod.nolimit.keeps fun b o e=>(e0.bs b o e).1
 have hkind:∀y∈ps.zip us,scope.names.lookup y.1=some .local∨(scope.names.lookup y.1=some .cell∧((cellsFrom (s.heap.objs.size+1) scope.names []).lookup y.1).isSome=true):=fun ⟨n,v⟩ hy=>by
  rcases S.par n (List.of_mem_zip hy).1 with q | q
  ·exact .inl q
  ·exact .inr ⟨q,PySem.W.cellsFrom_some _ _ _ (.inl q)⟩
 refine codeAny_call_function hr.depth (KX _ _ lk) rfl S.co S.gen rfl (PySem.W.codeRec_of KX hcd) (hb _ _ _ _ ?_)
 refine wpAny_newFunctionEnv_cells S.kind hkind fun env he s1 x=>?_
 subst he
 refine⟨lim.keeps x.toInCall.keep,codeAny_func ?_⟩
 obtain⟨t,ht,hq⟩:=hbody A outer s H vs Q E (hr.deeper _) hsp
 have I:Inv (jhv CX P w K mg base N qual scope f cdv A outer s H E) [] (start N vs) H s1:=jmz S hr.hd e0 hl r x
 refine wpAny_mono (ht [] s1 (start N vs) H _ I hq) (fun fl s' hs=>?_) fun e s' hs=>hs
 have fin:∀{σ':St} {H':Hp} {v:V} {u:Value},Inv (jhv CX P w K mg base N qual scope f cdv A outer s H E) [] σ' H' s'→jba v u→Q v H'→CE outer P w H s Q u s' :=
  fun {σ' H' v u} J rv q=>⟨v,H',J.os,J.bare,J.base,J.hok,rv,q⟩
 cases fl with
 |ret u =>
  obtain⟨v,σ',H',J,rv,q⟩:=hs
  exact fin J rv q
 |next =>
  obtain⟨σ',H',J,q⟩:=hs
  exact fin (v:=V.non) (u:=Value.none) J rfl q
 |brk =>
  obtain⟨_,_,_,q⟩:=hs
  exact False.elim q
 |cont =>
  obtain⟨_,_,_,q⟩:=hs
  exact False.elim q
end _L2
namespace _L2
open PySem PySem.Spec PyProof.Rows
section
variable {X:Cx} {x:Str} {p pos:Pos} {e:Expr} {es:List Expr} {t:TA} {id T:String} {r:List V→Hp→VK→Prop}
noncomputable def tCB (r:List V→Hp→VK→Prop)(t:TA):TE:=fun σ H Q=>t σ H fun vs H1=>r vs H1 Q
theorem jnP (hc:jcd X (.builtin id) r) (hg:Gl X x) (hm:X.mg x=none) (hv:bootBuiltins x=some (.builtin id)) (ha:PA X (e :: es) t) (hn:x≠"__name__":=by decide) (hdb:(x == ("__debug__" : Str))=false:=by decide)
  (he:starEach (e :: es) X.env=(false,eval e X.env) :: starEach es X.env:=by rfl) (hpl:(backTo pos (starEach es X.env)).any (·.1)=false:=by rfl):PE X (.Call (.Name x p) (e :: es) [] pos) (tCB r t):=by
 intro pins s σ H Q I h
 refine wpAny_Call_Name_kw (jdJ I hg hm hv ?_ hn hdb)
 exact PyProof.Rows.callWith_builtin1 (thn (ha pos pins s σ H _ I h) fun us s1 ⟨vs,H1,I1,r1,q1⟩=>hc pins s1 σ H1 vs us Q I1 r1 q1) he hpl
theorem jmC (hc:jcd X (.type T) r) (hg:Gl X x) (hm:X.mg x=none) (hv:bootBuiltins x=some (.type T)) (ha:PA X (e :: es) t) (hn:x≠"__name__":=by decide) (hdb:(x == ("__debug__" : Str))=false:=by decide)
  (he:starEach (e :: es) X.env=(false,eval e X.env) :: starEach es X.env:=by rfl) (hpl:(backTo pos (starEach es X.env)).any (·.1)=false:=by rfl):PE X (.Call (.Name x p) (e :: es) [] pos) (tCB r t):=by
 intro pins s σ H Q I h
 refine wpAny_Call_Name_kw (jdJ I hg hm hv ?_ hn hdb)
 exact PyProof.Rows.callWith_type1 (thn (ha pos pins s σ H _ I h) fun us s1 ⟨vs,H1,I1,r1,q1⟩=>hc pins s1 σ H1 vs us Q I1 r1 q1) he hpl
end
end _L2
namespace HT
open PySem PyProof.Rows
section
open PySem.SeqAt
open PySem.AutoSeq1 (wpAny_loadPart')
open PySem.MeetsSeq PySem.MeetsSeq2 PySem.MeetsSeq3
end
section
variable {prog:Program} {w:World} {A:Around} {E:Value→Shared→Prop} {s:Shared}
theorem cat_tup {t b:Addr}{vs ws:List Value}{Q:Value→Shared→Prop}(ht:IsTup s.heap t vs.toArray)(hb:IsTup s.heap b ws.toArray)(hv:vs≠[])
  (h1:ws=[]→Q (.ref t) s) (h2:ws≠[]→Q (.ref s.heap.objs.size) {s with heap:=s.heap.push {cls:=.type "tuple",data:=.seq (vs++ws).toArray}})
  (hsz:vs.length+ws.length≤sizeLine):wpAny (model prog w) A (binaryOp .Add (.ref t) (.ref b)) Q E s:=by
 obtain⟨⟨cls,dd,data,sl⟩,ho,hc,n,hd⟩:=id ht
 obtain⟨⟨cls2,dd2,data2,sl2⟩,ho2,hc2,n2,hd2⟩:=id hb
 simp only at hc hd hc2 hd2
 subst hc hd hc2 hd2
 have e:vs.toArray++ws.toArray=(vs++ws).toArray:=by simp
 by_cases hw:ws=[]
 ·exact concat_meets ⟨_,ho,rfl⟩ ⟨_,ho2,rfl⟩ noFill_tuple_add seq_tuple_add PySem.F.slot_tuple_add PySem.F.entry_tuple_add (PySem.F.args_tuple_add_2 _ _)
   (tuple_addW1 t b vs.toArray ws.toArray n n2 dd dd2 sl sl2 (by simpa using hv) (by simp[hw])) ⟨ho,ho2,h1 hw⟩
 ·refine concat_meets ⟨_,ho,rfl⟩ ⟨_,ho2,rfl⟩ noFill_tuple_add seq_tuple_add PySem.F.slot_tuple_add PySem.F.entry_tuple_add (PySem.F.args_tuple_add_2 _ _)
   (tuple_addW2 t b vs.toArray ws.toArray n n2 dd dd2 sl sl2 (by simpa using hv) (by simpa using hw) (by rw[List.size_toArray,List.size_toArray];exact hsz)) ⟨ho,ho2,?_⟩
  rw[e]
  exact h2 hw
noncomputable def sIx (n d:Nat):Option Int→Nat
 |none=>d
 |some v=>if v < 0 then (v+(n:Int)).toNat else min v.toNat n
theorem sIx_none (n d:Nat):sIx n d none=d:=rfl
theorem sIx_nat (n d k:Nat):sIx n d (some (k:Int))=min k n:=by
 show (if (k:Int) < 0 then ((k:Int)+(n:Int)).toNat else min (k:Int).toNat n)=min k n
 rw[if_neg (by omega),Int.toNat_natCast]
theorem juH (n d:Nat)(hd:d≤n)(o:Option Int):sIx n d o≤n:=by
 cases o with
 |none=>exact hd
 |some v =>
  show (if v < 0 then (v+(n:Int)).toNat else min v.toNat n)≤n
  by_cases hv:v < 0
  ·rw[if_pos hv];omega
  ·rw[if_neg hv];exact Nat.min_le_right _ _
theorem jmX (v:Int)(n d:Nat):(if v < 0 then max (v+(n:Int)) 0 else min v (n:Int))=((sIx n d (some v):Nat):Int):=by
 show (if v < 0 then max (v+(n:Int)) 0 else min v (n:Int))=(((if v < 0 then (v+(n:Int)).toNat else min v.toNat n):Nat):Int)
 by_cases hv:v < 0
 ·simp only[if_pos hv];omega
 ·simp only[if_neg hv];omega
theorem jk5 (lo hi:Option Int)(n:Nat):Builtin.Slice.sliceAdjust lo hi 1 (n:Int)=(((sIx n 0 lo:Nat):Int),((sIx n n hi:Nat):Int)):=by
 have h1:¬ ((1:Int) < 0):=by omega
 unfold Builtin.Slice.sliceAdjust
 simp only[h1,if_false]
 refine Prod.ext ?_ ?_
 ·cases lo with
  |none=>rfl
  |some v=>exact jmX v n 0
 ·cases hi with
  |none=>rfl
  |some v=>exact jmX v n n
theorem jkm (i j:Nat):Builtin.Slice.slicePlaces (i:Int) (j:Int) 1=j - i:=by
 unfold Builtin.Slice.slicePlaces
 have h1:(1:Int) > 0:=by omega
 simp only[h1,if_true,Int.ediv_one]
 split <;> omega
theorem jgG {v:Value}{o:Option Int}{Q:Option Int→Shared→Prop}(p:IsPart v o)(h:Q o s):wpAny (model prog w) A (Builtin.Slice.slicePartIndex v) Q E s:=by
 cases p with
 |none=>exact slicePart_none h
 |int i t=>exact slicePart_int h
theorem jdt {sl:Addr}{vl vu:Value}{lo hi:Option Int}{n:Nat}{Q:Int×Int×Nat→Shared→Prop}(hs:s.heap.IsSliceOf sl vl vu .none)(pl:IsPart vl lo)(pu:IsPart vu hi)
  (h:Q (((sIx n 0 lo:Nat):Int),1,sIx n n hi - sIx n 0 lo) s):wpAny (model prog w) A (Builtin.Slice.sliceApplied (.ref sl) (pure (n:Int))) Q E s:=by
 obtain⟨os,hos,hcs,hds⟩:=id hs
 unfold Builtin.Slice.sliceApplied Builtin.Slice.sliceFields
 refine wpAny_bind (wpAny_bind (wpAny_field hos hds (x:=vl) rfl (wpAny_bind (wpAny_field hos hds (x:=vu) rfl (wpAny_bind (wpAny_field hos hds (x:=.none) rfl (wpAny_pure ?_)))))))
 refine wpAny_bind (slicePart_none ?_)
 show wpAny _ _ (if ((1:Int) == 0)=true then _ else _) _ _ s
 rw[if_neg (by decide)]
 refine wpAny_bind (jgG pl (wpAny_bind (jgG pu (wpAny_bind (wpAny_pure ?_)))))
 show wpAny _ _ (match Builtin.Slice.sliceAdjust lo hi 1 (n:Int) with | (lo,hi)=>pure (lo,(1:Int),Builtin.Slice.slicePlaces lo hi 1)) _ _ s
 rw[jk5 lo hi n]
 show wpAny _ _ (pure (((sIx n 0 lo:Nat):Int),(1:Int),Builtin.Slice.slicePlaces ((sIx n 0 lo:Nat):Int) ((sIx n n hi:Nat):Int) 1)) _ _ s
 rw[jkm]
 exact wpAny_pure h
theorem joI (xs:Array Value)(i k:Nat):((List.range k).filterMap fun (m:Nat)=>xs[((i:Int)+(m:Int) * 1).toNat]?).toArray=((xs.toList.drop i).take k).toArray:=by
 have e:(fun (m:Nat)=>xs[((i:Int)+(m:Int) * 1).toNat]?)=fun m=>xs[i+m]?:=by
  funext m
  have:((i:Int)+(m:Int) * 1).toNat=i+m:=by omega
  rw[this]
 rw[e]
 have:=pick_run xs i k
 rw[List.filterMap_map]at this
 have e2:((fun x=>xs[x]?) ∘ fun x=>i+x)=fun m=>xs[i+m]?:=rfl
 rw[e2]at this
 rw[this]
theorem getItem_tuple_cut {t sl:Addr}{items:Array Value}{vl vu:Value}{lo hi:Option Int}{Q:Value→Shared→Prop}(ht:IsTup s.heap t items)(hs:s.heap.IsSliceOf sl vl vu .none)(pl:IsPart vl lo)(pu:IsPart vu hi)
  (hw:¬ (sIx items.size 0 lo=0∧sIx items.size items.size hi=items.size))
  (h:Q (.ref s.heap.objs.size) {s with heap:=s.heap.push {cls:=.type "tuple",data:=.seq ((items.toList.drop (sIx items.size 0 lo)).take (sIx items.size items.size hi - sIx items.size 0 lo)).toArray}})
  (hsz:items.size≤sizeLine):wpAny (model prog w) A (getItem (.ref t) (.ref sl)) Q E s:=by
 have htake:sizeOk (.seq ((items.toList.drop (sIx items.size 0 lo)).take (sIx items.size items.size hi - sIx items.size 0 lo)).toArray):=by
  show ((items.toList.drop (sIx items.size 0 lo)).take (sIx items.size items.size hi - sIx items.size 0 lo)).toArray.size≤sizeLine
  rw[List.size_toArray,List.length_take,List.length_drop,Array.length_toList]
  omega
 have hj:sIx items.size items.size hi≤items.size:=juH _ _ (Nat.le_refl _) hi
 obtain⟨os,hos,hcs,hds⟩:=id hs
 have hTs:s.TypeIs (.ref sl) "slice":=⟨os,hos,hcs⟩
 unfold getItem
 try with_reducible refine wpAny_holding ?_
 first | refine wpAny_bind (wpAny_pure ?_) | skip
 refine wpAny_bind (wpAny_sequenceKey ht.typeIs (by decide) ?_)
 refine wpAny_bind (wpAny_callSpecial?_slot (name:=Str.ofString "__getitem__") ht.typeIs PyProof.Rows.slot_tuple_getitem
  (wpAny_call_entry PyProof.Rows.slot_tuple_getitem ht.typeIs entry_tuple_getitem ?_ (args_tuple_getitem _ _)))
 show wpAny _ _ (Builtin.Tuple.tupleItemsOf (.ref t) >>= _) _ _ s
 refine wpAny_bind (tupleItemsOf_ ht ?_)
 refine wpAny_bind (wpAny_typeOf hTs ?_)
 rw[if_pos (by decide)]
 refine wpAny_bind (jdt hs pl pu ?_)
 have hno:¬ ((((sIx items.size 0 lo:Nat):Int) == 0 && (1:Int) == 1 && (sIx items.size items.size hi - sIx items.size 0 lo) == items.size)=true):=by
  intro q
  rw[Bool.and_eq_true,Bool.and_eq_true]at q
  have q1:((sIx items.size 0 lo:Nat):Int)=0:=eq_of_beq q.1.1
  have q2:sIx items.size items.size hi - sIx items.size 0 lo=items.size:=eq_of_beq q.2
  exact hw ⟨by omega,by omega⟩
 show wpAny _ _ (if (((sIx items.size 0 lo:Nat):Int) == 0 && (1:Int) == 1 && (sIx items.size items.size hi - sIx items.size 0 lo) == items.size)=true then _ else _) _ _ s
 rw[if_neg hno,joI]
 first
  |exact wpAny_bind (m:=Builtin.Tuple.tupleExact _) (wpAny_newObj_type (wpAny_pure ⟨_,rfl,wpAny_pure h⟩) htake)
  |exact wpAny_bind (m:=Builtin.Tuple.tupleExact _) (wpAny_newObj_type (wpAny_bind (wpAny_pure (wpAny_pure ⟨_,rfl,wpAny_pure h⟩))) htake)
  |exact wpAny_bind (wpAny_bind (m:=Builtin.Tuple.tupleExact _) (wpAny_newObj_type (wpAny_pure (wpAny_pure ⟨_,rfl,wpAny_pure h⟩)) htake))
  |exact wpAny_bind (wpAny_bind (m:=Builtin.Tuple.tupleExact _) (wpAny_newObj_type (wpAny_pure ⟨_,rfl,wpAny_pure h⟩) htake))
end
end HT
namespace _L2
open PySem PySem.Spec PyProof.Rows
noncomputable abbrev TO:=St→Hp→(Option Int→Hp→Prop)→Prop
noncomputable def PO (X:Cx)(e:Option Expr)(t:TO):Prop :=
 ∀(pins:List (Addr×Obj)) (s:Shared) (σ:St) (H:Hp) (Q:Option Int→Hp→Prop),Inv X pins σ H s→t σ H Q →
  wpAny (model X.prog X.w) X.A (evalPart e X.env) (fun u s'=>∃o H',Inv X pins σ H' s'∧IsPart u o∧Q o H') X.xe s
noncomputable def jsu:TO:=fun _ H Q=>Q none H
noncomputable def jxl (t:TE):TO:=fun σ H Q=>t σ H fun x H1=>∃i,x=.int i∧Q (some i) H1
theorem jkw {ns:List Int}:∀{us:List Value},ja6 (ns.map V.int) us→IntsAre us ns:=by
 induction ns with
 |nil=>intro us r;rw[List.map_nil]at r;cases r;exact .nil
 |cons n ns ih =>
  intro us r
  rw[List.map_cons]at r
  cases r with
  |cons r1 r2 =>
   obtain⟨t,e⟩:=r1
   subst e
   exact .cons n t (ih r2)
section
variable {X:Cx} {e:Expr} {te:TE} {lo hi:Option Expr} {tl th:TO} {pos p2:Pos}
theorem jqH:PO X none jsu:=by
 intro pins s σ H Q I h
 rw[evalPart_none]
 exact wpAny_pure ⟨none,H,I,.none,h⟩
theorem jrI (h:PE X e te):PO X (some e) (jxl te):=by
 intro pins s σ H Q I hw
 rw[evalPart_some]
 refine thn (h pins s σ H _ I hw) fun u s1 ⟨x,H1,I1,r1,q1⟩=>?_
 obtain⟨i,rfl,q⟩:=q1
 obtain⟨t,rfl⟩:=r1
 exact⟨some i,H1,I1,.int i t,q⟩
noncomputable def SlR (X:Cx)(r:V→Option Int→Option Int→Hp→VK→Prop):Prop :=
 ∀(pins:List (Addr×Obj)) (s:Shared) (σ:St) (H:Hp) (x:V) (v vl vu:Value) (lo hi:Option Int) (sl:Addr) (Q:VK),Inv X pins σ H s→jba x v→s.heap.IsSliceOf sl vl vu .none→IsPart vl lo→IsPart vu hi→r x lo hi H Q →
  ∃T id,typeLookup (.type T) "__getitem__" = pure (some (.builtin id))∧s.TypeIs v T∧wpAny (model X.prog X.w) X.A (getItem v (.ref sl)) (EP X pins σ Q) X.xe s
theorem SlR.or {r r':V→Option Int→Option Int→Hp→VK→Prop}(h:SlR X r)(h':SlR X r'):SlR X (fun x lo hi H Q=>r x lo hi H Q∨r' x lo hi H Q):=by
 intro pins s σ H x v vl vu lo hi sl Q I rx hs pl pu q
 rcases q with q | q
 ·exact h pins s σ H x v vl vu lo hi sl Q I rx hs pl pu q
 ·exact h' pins s σ H x v vl vu lo hi sl Q I rx hs pl pu q
noncomputable def tSl (r:V→Option Int→Option Int→Hp→VK→Prop)(te:TE)(tl th:TO):TE:=fun σ H Q=>te σ H fun x H1=>tl σ H1 fun l H2=>th σ H2 fun u H3=>r x l u H3 Q
theorem jpq {r:V→Option Int→Option Int→Hp→VK→Prop}(hr:SlR X r)(he:PE X e te)(hl:PO X lo tl)(hu:PO X hi th):PE X (.Subscript e (.Slice lo hi none p2) pos) (tSl r te tl th):=by
 intro pins s σ H Q I h
 refine Subscript_ (thn (he pins s σ H _ I h) fun v s1 ⟨x,H1,I1,r1,q1⟩=>?_)
 refine wpAny_Slice (thn (hl pins s1 σ H1 _ I1 q1) fun vl s2 ⟨l,H2,I2,pl,q2⟩=>thn (hu pins s2 σ H2 _ I2 q2) fun vu s3 ⟨u,H3,I3,pu,q3⟩=>?_)
 rw[evalPart_none]
 refine wpAny_pure ?_
 have I4:Inv X pins σ H3 {s3 with heap:=s3.heap.push {cls:=.type "slice",data:=.fields #[vl,vu,.none]}}:=I3.kept (t':=s3.toks) fun b ob q=>Heap.get?_push_of_some _ q
 obtain⟨T,id,hT,ht,hg⟩:=hr pins {s3 with heap:=s3.heap.push {cls:=.type "slice",data:=.fields #[vl,vu,.none]}} σ H3 x v vl vu l u s3.heap.objs.size Q I4 r1 (Heap.IsSliceOf.new ..) pl pu q3
 show wpAny (model X.prog X.w) X.A (subscriptTail e (.Slice lo hi none p2) v (.ref s3.heap.objs.size)) (EP X pins σ Q) X.xe {s3 with heap:=s3.heap.push {cls:=.type "slice",data:=.fields #[vl,vu,.none]}}
 exact tail_any (ops:=[.ref s3.heap.objs.size,v]) ht hT hg (by with_unfolding_all rfl)
noncomputable def jpJ (xs:List V)(lo hi:Option Int):List V:=(xs.drop (HT.sIx xs.length 0 lo)).take (HT.sIx xs.length xs.length hi - HT.sIx xs.length 0 lo)
theorem jf2 (xs:List V)(lo hi:Option Int):(jpJ xs lo hi).length≤xs.length:=by
 unfold jpJ
 rw[List.length_take,List.length_drop]
 omega
noncomputable def jx7 (K:PySem.W.Frag):V→Option Int→Option Int→Hp→VK→Prop:=fun x lo hi H Q=>∃a xs,x=.ref a∧SqT K H a xs ∧
 ¬ (HT.sIx xs.length 0 lo=0∧HT.sIx xs.length xs.length hi=xs.length)∧∀p,H p=none→Q (.ref p) (upd H p (.tup (jpJ xs lo hi)))
theorem jub:SlR X (jx7 X.K):=by
 intro pins s σ H x v vl vu lo hi sl Q I rx hs pl pu h
 obtain⟨a,xs,rfl,hx,hw,q⟩:=h
 cases rx
 obtain⟨its,r,ht,hz⟩:=I.tuple hx
 have hlen:its.toArray.size=xs.length:=by rw[List.size_toArray];exact r.length.symm
 refine⟨"tuple",_,PyProof.Rows.slot_tuple_getitem.lookup,ht.typeIs,?_⟩
 refine HT.getItem_tuple_cut ht hs pl pu (by rw[hlen];exact hw) ?_ (by rw[hlen];exact hz)
 rw[hlen]
 refine⟨.ref s.heap.objs.size,_,I.laid (t':=s.toks) (o:=.tup (jpJ xs lo hi)) (fun b ob q=>Heap.get?_push_of_some _ q) (Nat.le_refl _) ?_,rfl,q _ (I.hok.fresh (Nat.le_refl _))⟩
 exact⟨Nat.le_trans (jf2 xs lo hi) hz,_,(r.drop (HT.sIx xs.length 0 lo)).take (HT.sIx xs.length xs.length hi - HT.sIx xs.length 0 lo),IsTup.new _ _⟩
noncomputable def juY (K:PySem.W.Frag):R2:=fun x y H Q=>∃a b xs ys,x=.ref a∧y=.ref b∧SqT K H a xs∧SqT K H b ys∧xs≠[]∧xs.length+ys.length≤sizeLine ∧
 (ys=[]→Q (.ref a) H)∧(ys≠[]→∀p,H p=none→Q (.ref p) (upd H p (.tup (xs++ys))))
theorem ja6.nil_iff {xs:List V}{us:List Value}(r:ja6 xs us):us=[] ↔ xs=[]:=by
 cases r with
 |nil=>simp
 |cons _ _=>simp
theorem jrH:OpR X (binaryOp .Add) (juY X.K):=by
 intro pins s σ H x y v u Q I rx ry h
 obtain⟨a,b,xs,ys,rfl,rfl,ha,hb,hx,hz,q1,q2⟩:=h
 cases rx
 cases ry
 obtain⟨its,r1,p1,_⟩:=I.tuple ha
 obtain⟨its2,r2,p2,_⟩:=I.tuple hb
 refine HT.cat_tup p1 p2 (fun z=>hx (r1.nil_iff.mp z)) (fun z=>⟨.ref a,H,I,rfl,q1 (r2.nil_iff.mp z)⟩) (fun z=>?_) (by rw[← r1.length,← r2.length];exact hz)
 refine⟨.ref s.heap.objs.size,_,I.laid (t':=s.toks) (o:=.tup (xs++ys)) (fun b ob q=>Heap.get?_push_of_some _ q) (Nat.le_refl _) ?_,rfl,q2 (fun w=>z (r2.nil_iff.mpr w)) _ (I.hok.fresh (Nat.le_refl _))⟩
 exact⟨by rw[List.length_append];exact hz,_,r1.append r2,IsTup.new _ _⟩
end
end _L2
namespace _L2
open PySem PySem.Spec PyProof.Rows
noncomputable def ixN (n:Nat)(i:Int):Option Nat:=if 0≤i then (if i < n then some i.toNat else none) else if -(n:Int)≤i then some (i+n).toNat else none
noncomputable def atI {α:Type}(xs:List α)(i:Int):Option α:=(ixN xs.length i).bind fun j=>xs[j]?
theorem jm5 {n:Nat}{i:Int}{j:Nat}(h:ixN n i=some j):seqIndex? i n=some j∧j < n∧-(n:Int)≤i∧i < n:=by
 unfold ixN at h
 by_cases h0:0≤i
 ·rw[if_pos h0]at h
  by_cases h1:i < n
  ·rw[if_pos h1]at h
   have e:i.toNat=j:=Option.some.inj h
   exact⟨by rw[seqIndex_of h0 h1,e],by omega,by omega,h1⟩
  ·rw[if_neg h1]at h;cases h
 ·rw[if_neg h0]at h
  by_cases h1 : -(n:Int)≤i
  ·rw[if_pos h1]at h
   have e:(i+n).toNat=j:=Option.some.inj h
   exact⟨by rw[seqIndex_neg (by omega) h1,e],by omega,h1,by omega⟩
  ·rw[if_neg h1]at h;cases h
theorem jiN {α:Type}{xs:List α}{i:Int}{v:α}(h:atI xs i=some v):∃j,seqIndex? i xs.length=some j∧xs[j]?=some v∧j < xs.length∧-(xs.length:Int)≤i∧i < xs.length:=by
 unfold atI at h
 cases e:ixN xs.length i with
 |none=>rw[e]at h;cases h
 |some j =>
  rw[e]at h
  obtain⟨h1,h2,h3,h4⟩:=jm5 e
  exact⟨j,h1,h,h2,h3,h4⟩
theorem jdq {α:Type}{xs:List α}{j:Nat}{v:α}(h:xs[j]?=some v):atI xs (j:Int)=some v:=by
 have hj:j < xs.length:=(List.getElem?_eq_some_iff.mp h).1
 have e:ixN xs.length (j:Int)=some j:=by
  unfold ixN
  rw[if_pos (by omega),if_pos (by omega)];simp
 unfold atI;rw[e];exact h
noncomputable def jml (b:Expr):Prop:=∀o i,subscripted b false o i=operate [o,i] (getItem o i)
noncomputable def IxR (X:Cx)(r:R2):Prop :=
 ∀(value slice:Expr) (pins:List (Addr×Obj)) (s:Shared) (σ:St) (H:Hp) (x y:V) (v u:Value) (Q:VK),Inv X pins σ H s→jba x v→jba y u→r x y H Q →
  subscripted slice false v u=operate [v,u] (getItem v u)→wpAny (model X.prog X.w) X.A (subscriptTail value slice v u) (EP X pins σ Q) X.xe s
noncomputable def MtR (X:Cx)(id:String)(r:V→List V→Hp→VK→Prop):Prop :=
 ∀(pins:List (Addr×Obj)) (s:Shared) (σ:St) (H:Hp) (x:V) (xs:List V) (v:Value) (us:List Value) (Q:VK),Inv X pins σ H s→jba x v→ja6 xs us→r x xs H Q →
  wpAny (model X.prog X.w) X.A (call (.builtin id) (v :: us)) (EP X pins σ Q) X.xe s
section
variable {X:Cx} {a b:Expr} {ta tb:TE} {pos:Pos}
theorem IxR.or {r r':R2}(h:IxR X r)(h':IxR X r'):IxR X (fun x y H Q=>r x y H Q∨r' x y H Q):=by
 intro value slice pins s σ H x y v u Q I rx ry q hs
 rcases q with q | q
 ·exact h value slice pins s σ H x y v u Q I rx ry q hs
 ·exact h' value slice pins s σ H x y v u Q I rx ry q hs
theorem MtR.or {id:String}{r r':V→List V→Hp→VK→Prop}(h:MtR X id r)(h':MtR X id r'):MtR X id (fun x xs H Q=>r x xs H Q∨r' x xs H Q):=by
 intro pins s σ H x xs v us Q I rx rs q
 rcases q with q | q
 ·exact h pins s σ H x xs v us Q I rx rs q
 ·exact h' pins s σ H x xs v us Q I rx rs q
theorem juw {r:R2}(hr:IxR X r)(ha:PE X a ta)(hb:PE X b tb)(hs:jml b):PE X (.Subscript a b pos) (tOp r ta tb):=by
 intro pins s σ H Q I h
 exact Subscript_ (jxd ha hb I h fun v u s2 x y H2 I2 rx ry q=>hr a b pins s2 σ H2 x y v u Q I2 rx ry q (hs _ _))
noncomputable def jx2 (K:PySem.W.Frag):R2:=fun x y H Q=>∃p xs i v,x=.ref p∧y=.int i∧SqL K H p xs∧atI xs i=some v∧Q v H
noncomputable def jye (K:PySem.W.Frag):R2:=fun x y H Q=>∃p xs i v,x=.ref p∧y=.int i∧SqT K H p xs∧atI xs i=some v∧Q v H
noncomputable def jyf:R2:=fun x y H Q=>∃z i c,x=.str z∧y=.int i∧z.length≤sizeLine∧atI z.cps.toList i=some c∧Q (.str ⟨#[c]⟩) H
theorem jqM:IxR X (jx2 X.K):=by
 intro value slice pins s σ H x y v u Q I rx ry h hs
 obtain⟨p,xs,i,z,rfl,rfl,hq,he,q⟩:=h
 cases rx
 obtain⟨t,rfl⟩:=ry
 obtain⟨its,r,pl,hz⟩:=I.list hq
 obtain⟨j,h1,h2,h3,h4,h5⟩:=jiN he
 obtain⟨w,ew,rw'⟩:=r.get h2
 have hl:=r.length
 have hn:=jfV
 have fin:EP X pins σ Q w s:=⟨z,H,I,rw',q⟩
 by_cases h0:0≤i
 ·have hj:i.toNat=j:=by
   rw[seqIndex_of h0 h5]at h1
   exact Option.some.inj h1
  exact item_listR pl.isList h0 (by omega) (by rw[hj];simpa using ew) fin hs
 ·have hj:(i+(its.toArray.size:Int)).toNat=j:=by
   rw[seqIndex_neg (by omega) h4]at h1
   rw[List.size_toArray,← hl]
   exact Option.some.inj h1
  exact subscriptTail_builtinR (x:=w) pl.isList.typeIs slot_list_getitem.lookup
   (wpAny_getItem_list_neg (Q:=fun r s'=>r=w∧EP X pins σ Q r s') pl.isList (by omega) (by rw[List.size_toArray] <;> omega) (by omega) (by rw[hj];simpa using ew) ⟨rfl,fin⟩) hs
theorem jvH:IxR X (jye X.K):=by
 intro value slice pins s σ H x y v u Q I rx ry h hs
 obtain⟨p,xs,i,z,rfl,rfl,hq,he,q⟩:=h
 cases rx
 obtain⟨t,rfl⟩:=ry
 obtain⟨its,r,pl,hz⟩:=I.tuple hq
 obtain⟨j,h1,h2,h3,h4,h5⟩:=jiN he
 obtain⟨w,ew,rw'⟩:=r.get h2
 have hl:=r.length
 have hn:=jfV
 have fin:EP X pins σ Q w s:=⟨z,H,I,rw',q⟩
 exact subscriptTail_builtinR (x:=w) pl.typeIs slot_tuple_getitem.lookup
  (getItem_tuple (j:=j) (Q:=fun r s'=>r=w∧EP X pins σ Q r s') pl (by omega) (by omega) (by rw[List.size_toArray,← hl];exact h1) (by simpa using ew) ⟨rfl,fin⟩) hs
theorem jvf:IxR X jyf:=by
 intro value slice pins s σ H x y v u Q I rx ry h hs
 obtain⟨z,i,c,rfl,rfl,hz,he,q⟩:=h
 obtain⟨t,rfl⟩:=rx
 obtain⟨t',rfl⟩:=ry
 obtain⟨j,h1,h2,h3,h4,h5⟩:=jiN he
 have hl:z.cps.toList.length=z.length:=by simp[Str.length]
 rw[hl]at h1 h4 h5
 have hn:=jfV
 exact tail_any (typeIs_str s z t) slot_str_getitem.lookup (getItem_str (c:=c) (by
  have e1:decide (i < -(2 ^ 63:Int))=false:=decide_eq_false (by omega)
  have e2:decide (i ≥ 2 ^ 63)=false:=decide_eq_false (by omega)
  rw[e1,e2,Bool.or_false]) (by rw[h1];simpa using h2) ⟨.str ⟨#[c]⟩,H,I.tok _,⟨_,rfl⟩,q⟩) hs
noncomputable def rIx (K:PySem.W.Frag):R2:=fun x y H Q=>jx2 K x y H Q∨jye K x y H Q∨jyf x y H Q
theorem jwf:IxR X (rIx X.K):=jqM.or (jvH.or jvf)
theorem jku (its:List Value)(n j:Nat)(u:Value):Obj.mapSeq (·.setIfInBounds j u) {cls:=.type "list",data:=.seq its.toArray n}={cls:=.type "list",data:=.seq (its.set j u).toArray n}:=by
 simp[Obj.mapSeq]
theorem Inv.lst {pins:List (Addr×Obj)}{σ:St}{H:Hp}{s:Shared}{p:Addr}{xs:List V}(I:Inv X pins σ H s)(h:H p=some (.lst xs)) :
  ∃(its:List Value) (n:Nat),ja6 xs its∧s.heap.get? p=some {cls:=.type "list",data:=.seq its.toArray n}∧xs.length≤sizeLine:=by
 obtain⟨z,its,n,r,e⟩:=I.hok p _ h
 exact⟨its,n,r,e,z⟩
theorem Inv.lstUpd {pins:List (Addr×Obj)}{σ:St}{H:Hp}{s:Shared}{p:Addr}{xs ys:List V}{its its':List Value}{n n':Nat}{f:Obj→Obj}(I:Inv X pins σ H s)(h:H p=some (.lst xs))
  (ho:s.heap.get? p=some {cls:=.type "list",data:=.seq its.toArray n}) (hf:f {cls:=.type "list",data:=.seq its.toArray n}={cls:=.type "list",data:=.seq its'.toArray n'}) (r:ja6 ys its') (hz:ys.length≤sizeLine) (t:Nat) :
  Inv X pins σ (upd H p (.lst ys)) {s with heap:=s.heap.update p f,toks:=t}:=by
 have e:(s.heap.update p f).get? p=some {cls:=.type "list",data:=.seq its'.toArray n'}:=by
  rw[Heap.get?_update_self f ho (by rw[hf] <;> rfl),hf]
 refine I.write (x:=p) (e:=p) (by rw[h];trivial) (.inl rfl) (fun b u hb q=>(Heap.get?_update_other _ _ (Ne.symm hb)).trans q) ⟨_,e⟩ ?_
 exact⟨hz,its',n',r,e⟩
noncomputable def jxH:V→V→V→Hp→(Hp→Prop)→Prop:=fun o i v H Q=>∃p xs k j,o=.ref p∧i=.int k∧H p=some (.lst xs)∧ixN xs.length k=some j∧Q (upd H p (.lst (xs.set j v)))
theorem jpi:jyj X jxH:=by
 intro pins s σ H o i v ov iv u Q I ro ri rv h
 obtain⟨p,xs,k,j,rfl,rfl,hp,hj,q⟩:=h
 cases ro
 obtain⟨t,rfl⟩:=ri
 obtain⟨its,n,r,ho,hz⟩:=I.lst hp
 obtain⟨h1,h2,h3,h4⟩:=jm5 hj
 have hl:=r.length
 have hn:=jfV
 have I':Inv X pins σ (upd H p (.lst (xs.set j v))) {s with heap:=s.heap.update p (Obj.mapSeq (·.setIfInBounds j u))} :=
  I.lstUpd hp ho (jku its n j u) (r.set rv j) (by rw[List.length_set];exact hz) s.toks
 by_cases h0:0≤k
 ·have hk:k.toNat=j:=by
   rw[seqIndex_of h0 h4]at h1
   exact Option.some.inj h1
  exact PySem.W.ki_setAt ho h0 (by omega) (by rw[List.size_toArray,← hl];exact h4) (by rw[hk];exact⟨_,I',q⟩)
 ·have hk:(k+(its.toArray.size:Int)).toNat=j:=by
   rw[seqIndex_neg (by omega) h3]at h1
   rw[List.size_toArray,← hl]
   exact Option.some.inj h1
  exact PySem.W.ki_setBack ho (by omega) (by rw[List.size_toArray,← hl];exact h3) (by omega) (by rw[hk];exact⟨_,I',q⟩)
theorem jit (lo hi:Option Int)(n:Nat):(sliceBounds lo hi none n).1=((HT.sIx n 0 lo:Nat):Int)∧(sliceBounds lo hi none n).2.1=((HT.sIx n n hi:Nat):Int)∧(sliceBounds lo hi none n).2.2=1:=by
 refine⟨?_,?_,rfl⟩
 ·cases lo with
  |none=>simp[sliceBounds,HT.sIx]
  |some i =>
   simp only[sliceBounds,HT.sIx,Option.getD_none,show (1:Int) > 0 by decide,if_true]
   by_cases h:i < 0
   ·simp only[h,if_true] <;> omega
   ·simp only[h,if_false] <;> omega
 ·cases hi with
  |none=>simp[sliceBounds,HT.sIx]
  |some i =>
   simp only[sliceBounds,HT.sIx,Option.getD_none,show (1:Int) > 0 by decide,if_true]
   by_cases h:i < 0
   ·simp only[h,if_true] <;> omega
   ·simp only[h,if_false] <;> omega
theorem jhi (its:List Value)(lo hi:Option Int):slicePick its.toArray lo hi none=((its.drop (HT.sIx its.length 0 lo)).take (HT.sIx its.length its.length hi - HT.sIx its.length 0 lo)).toArray:=by
 obtain⟨h1,h2,h3⟩:=jit lo hi its.toArray.size
 unfold slicePick
 rw[h1,h2,h3]
 simp only[sliceRange_one,pick_run,List.size_toArray] <;> rfl
noncomputable def jx8 (K:PySem.W.Frag):V→Option Int→Option Int→Hp→VK→Prop:=fun x lo hi H Q=>∃a xs,x=.ref a∧SqL K H a xs∧∀p,H p=none→Q (.ref p) (upd H p (.lst (jpJ xs lo hi)))
theorem jrW:SlR X (jx8 X.K):=by
 intro pins s σ H x v vl vu lo hi sl Q I rx hs pl pu h
 obtain⟨a,xs,rfl,hx,q⟩:=h
 cases rx
 obtain⟨its,r,ht,hz⟩:=I.list hx
 have hlen:=r.length
 refine⟨"list",_,slot_list_getitem.lookup,ht.isList.typeIs,?_⟩
 refine wpAny_getItem_list_slice ht.isList hs pl pu .none (by simp) ?_ (by rw[List.size_toArray] <;> omega)
 rw[jhi,← hlen]
 refine⟨.ref s.heap.objs.size,_,I.laid (t':=s.toks) (o:=.lst (jpJ xs lo hi)) (fun b ob q=>Heap.get?_push_of_some _ q) (Nat.le_refl _) ?_,rfl,q _ (I.hok.fresh (Nat.le_refl _))⟩
 exact⟨Nat.le_trans (jf2 xs lo hi) hz,_,0,(r.drop (HT.sIx xs.length 0 lo)).take (HT.sIx xs.length xs.length hi - HT.sIx xs.length 0 lo),Heap.get?_push_size _ rfl⟩
noncomputable def jdx:V→Bool
 |.non=>true
 |.bl _=>true
 |.int _=>true
 |.str _=>true
 |_=>false
noncomputable def eqV:V→V→Bool
 |.non,.non=>true
 |.bl a,.bl b=>a == b
 |.bl a,.int b=>(if a then 1 else 0) == b
 |.int a,.bl b=>a == (if b then 1 else 0)
 |.int a,.int b=>a == b
 |.str a,.str b=>a == b
 |_,_=>false
theorem jjY {A:Around}{s:Shared}{y x:V}{u v:Value}(ry:jba y u)(rx:jba x v)(fy:jdx y=true)(fx:jdx x=true):SeqAt.EqAt A s u v (eqV y x):=by
 cases y with
 |non =>
  cases ry
  cases x with
  |non=>cases rx;exact SeqAt.EqAt.same _
  |bl b=>cases rx;exact SeqAt.EqAt.none_bool b
  |int b=>obtain⟨t,rfl⟩:=rx;exact SeqAt.EqAt.none_int b t
  |str b=>obtain⟨t,rfl⟩:=rx;exact SeqAt.EqAt.none_str b t
  |_=>exact absurd (show false=true from fx) Bool.false_ne_true
 |bl a =>
  cases ry
  cases x with
  |non=>cases rx;exact SeqAt.EqAt.bool_none a
  |bl b=>cases rx;exact SeqAt.EqAt.bool_bool a b
  |int b=>obtain⟨t,rfl⟩:=rx;exact SeqAt.EqAt.bool_int a b t
  |str b=>obtain⟨t,rfl⟩:=rx;exact SeqAt.EqAt.bool_str a b t
  |_=>exact absurd (show false=true from fx) Bool.false_ne_true
 |int a =>
  obtain⟨t',rfl⟩:=ry
  cases x with
  |non=>cases rx;exact SeqAt.EqAt.int_none a t'
  |bl b=>cases rx;exact SeqAt.EqAt.int_bool a t' b
  |int b=>obtain⟨t,rfl⟩:=rx;exact SeqAt.EqAt.int_int a t' b t
  |str b=>obtain⟨t,rfl⟩:=rx;exact SeqAt.EqAt.int_str a t' b t
  |_=>exact absurd (show false=true from fx) Bool.false_ne_true
 |str a =>
  obtain⟨t',rfl⟩:=ry
  cases x with
  |non=>cases rx;exact SeqAt.EqAt.str_none a t'
  |bl b=>cases rx;exact SeqAt.EqAt.str_bool a t' b
  |int b=>obtain⟨t,rfl⟩:=rx;exact SeqAt.EqAt.str_int a t' b t
  |str b=>obtain⟨t,rfl⟩:=rx;exact SeqAt.EqAt.str_str a t' b t
  |_=>exact absurd (show false=true from fx) Bool.false_ne_true
 |_=>exact absurd (show false=true from fy) Bool.false_ne_true
noncomputable def eqU (x:V)(u:Value):Bool:=match u with
 |.none=>eqV .non x
 |.bool b=>eqV (.bl b) x
 |.int i _=>eqV (.int i) x
 |.str z _=>eqV (.str z) x
 |_=>false
theorem jqi {x y:V}{u:Value}(r:jba y u)(f:jdx y=true):eqU x u=eqV y x:=by
 cases y with
 |non=>cases r;rfl
 |bl b=>cases r;rfl
 |int i=>obtain⟨t,rfl⟩:=r;rfl
 |str z=>obtain⟨t,rfl⟩:=r;rfl
 |_=>exact absurd (show false=true from f) Bool.false_ne_true
theorem jf5 {x:V}:∀{xs:List V} {us:List Value},ja6 xs us→xs.all jdx=true→us.any (eqU x)=xs.any fun y=>eqV y x
 |_,_,.nil,_=>rfl
 |y :: xs,u :: us,.cons r t,f=>by
  rw[List.all_cons,Bool.and_eq_true]at f
  rw[List.any_cons,List.any_cons,jqi r f.1,jf5 t f.2]
theorem jeo {A:Around}{s:Shared}{x:V}{v:Value}(rx:jba x v)(fx:jdx x=true):∀{xs:List V} {us:List Value},ja6 xs us→xs.all jdx=true→∀u∈us,SeqAt.EqAt A s u v (eqU x u)
 |_,_,.nil,_=>fun u hu=>by cases hu
 |y :: xs,u :: us,.cons r t,f=>fun u' hu=>by
  rw[List.all_cons,Bool.and_eq_true]at f
  rcases List.mem_cons.mp hu with rfl | hu
  ·rw[jqi r f.1];exact jjY r rx f.1 fx
  ·exact jeo rx fx t f.2 u' hu
noncomputable def inV (x:V)(xs:List V):Bool:=xs.any fun y=>eqV y x
noncomputable def rIn (K:PySem.W.Frag)(neg:Bool):R2:=fun x y H Q=>∃p xs,y=.ref p∧(SqL K H p xs∨SqT K H p xs)∧jdx x=true∧xs.all jdx=true∧Q (.bl (if neg then !inV x xs else inV x xs)) H
theorem jlC:OpR X (compareOp .In) (rIn X.K false):=by
 intro pins s σ H x y v u Q I rx ry h
 obtain⟨p,xs,rfl,hq,fx,fs,q⟩:=h
 cases ry
 rcases hq with hq | hq
 ·obtain⟨its,r,pl,hz⟩:=I.list hq
  refine SeqAt.in_listAt (eqU x) pl.isList (fun w hw=>jeo rx fx r fs w (by simpa using hw)) ⟨.bl _,H,I,rfl,?_⟩
  rw[show its.toArray.any (eqU x)=its.any (eqU x) by simp,jf5 r fs]
  exact q
 ·obtain⟨its,r,pl,hz⟩:=I.tuple hq
  refine SeqAt.in_tupleAt (eqU x) pl (fun w hw=>jeo rx fx r fs w (by simpa using hw)) ⟨.bl _,H,I,rfl,?_⟩
  rw[show its.toArray.any (eqU x)=its.any (eqU x) by simp,jf5 r fs]
  exact q
theorem jix:OpR X (compareOp .NotIn) (rIn X.K true):=by
 intro pins s σ H x y v u Q I rx ry h
 obtain⟨p,xs,rfl,hq,fx,fs,q⟩:=h
 cases ry
 rcases hq with hq | hq
 ·obtain⟨its,r,pl,hz⟩:=I.list hq
  refine SeqAt.notIn_listAt (eqU x) pl.isList (fun w hw=>jeo rx fx r fs w (by simpa using hw)) ⟨.bl _,H,I,rfl,?_⟩
  rw[show its.toArray.any (eqU x)=its.any (eqU x) by simp,jf5 r fs]
  exact q
 ·obtain⟨its,r,pl,hz⟩:=I.tuple hq
  refine SeqAt.notIn_tupleAt (eqU x) pl (fun w hw=>jeo rx fx r fs w (by simpa using hw)) ⟨.bl _,H,I,rfl,?_⟩
  rw[show its.toArray.any (eqU x)=its.any (eqU x) by simp,jf5 r fs]
  exact q
theorem jip:jcd X (.builtin "len") (fun xs H Q=>∃p ys,xs=[.ref p]∧(SqL X.K H p ys∨SqT X.K H p ys)∧Q (.int ys.length) H):=by
 intro pins s σ H xs us Q I r h
 obtain⟨p,ys,rfl,hq,q⟩:=h
 obtain⟨u,rfl,rx⟩:=je2 r
 cases rx
 have hn:=jfV
 rcases hq with hq | hq
 ·obtain⟨its,r',pl,hz⟩:=I.list hq
  have hlen:=r'.length
  exact Calls.call_len_list pl.isList (by simp only[List.size_toArray] <;> omega) ⟨.int ys.length,H,I.tok _,⟨s.toks+1,by rw[List.size_toArray,hlen]⟩,q⟩
 ·obtain⟨its,r',pl,hz⟩:=I.tuple hq
  have hlen:=r'.length
  exact len_tuple pl (by simp only[List.size_toArray] <;> omega) ⟨.int ys.length,H,I.tok _,⟨s.toks+1,by rw[List.size_toArray,hlen]⟩,q⟩
theorem jhN:jcd X (.builtin "len") (fun xs H Q=>∃z,xs=[.str z]∧z.length≤sizeLine∧Q (.int z.length) H):=by
 intro pins s σ H xs us Q I r h
 obtain⟨z,rfl,hz,q⟩:=h
 obtain⟨u,rfl,t,rfl⟩:=je2 r
 have hn:=jfV
 exact len_str (by omega) ⟨.int z.length,H,I.tok _,⟨_,rfl⟩,q⟩
theorem jcd.or {f:Value}{r r':List V→Hp→VK→Prop}(h:jcd X f r)(h':jcd X f r'):jcd X f (fun xs H Q=>r xs H Q∨r' xs H Q):=by
 intro pins s σ H xs us Q I rs q
 rcases q with q | q
 ·exact h pins s σ H xs us Q I rs q
 ·exact h' pins s σ H xs us Q I rs q
theorem jhU:jcd X (.type "list") (fun xs H Q=>∃p ys,xs=[.ref p]∧(SqL X.K H p ys∨SqT X.K H p ys)∧∀l,H l=none→Q (.ref l) (upd H l (.lst ys))):=by
 intro pins s σ H xs us Q I r h
 obtain⟨p,ys,rfl,hq,q⟩:=h
 obtain⟨u,rfl,rx⟩:=je2 r
 cases rx
 have fin:∀(its:List Value),ja6 ys its→ys.length≤sizeLine→∀(h':Heap) (c':Nat),(∀b o',s.heap.get? b=some o'→h'.get? b=some o') →
   h'.get? s.heap.objs.size=some {cls:=.type "list",dict:=none,data:=.seq its.toArray c',slots:=#[]}→EP X pins σ Q (.ref s.heap.objs.size) {s with heap:=h'}:=fun its r' hz h' c' kp e =>
  ⟨.ref s.heap.objs.size,_,I.laid (t':=s.toks) kp (Nat.le_refl _) (show jca X.prog X.w _ h' _ (.lst ys) from ⟨hz,its,c',r',e⟩),rfl,q _ (I.hok.fresh (Nat.le_refl _))⟩
 rcases hq with hq | hq
 ·obtain⟨its,r',pl,hz⟩:=I.list hq
  have hlen:=r'.length
  obtain⟨o,ho,hc,n,hd⟩:=pl.isList
  exact call_list_seq p (.inl rfl) ho hc hd (fun h' c' kp e=>fin its r' hz h' c' kp e) (by simp only[List.size_toArray] <;> omega)
 ·obtain⟨its,r',pl,hz⟩:=I.tuple hq
  have hlen:=r'.length
  obtain⟨o,ho,hc,n,hd⟩:=pl
  exact call_list_seq p (.inr rfl) ho hc hd (fun h' c' kp e=>fin its r' hz h' c' kp e) (by simp only[List.size_toArray] <;> omega)
theorem jgS:jcd X (.type "tuple") (fun xs H Q=>∃p ys,xs=[.ref p]∧((SqL X.K H p ys∧∀l,H l=none→Q (.ref l) (upd H l (.tup ys)))∨(SqT X.K H p ys∧Q (.ref p) H))):=by
 intro pins s σ H xs us Q I r h
 obtain⟨p,ys,rfl,h⟩:=h
 obtain⟨u,rfl,rx⟩:=je2 r
 cases rx
 rcases h with ⟨hq,q⟩ | ⟨hq,q⟩
 ·obtain⟨its,r',pl,hz⟩:=I.list hq
  have hlen:=r'.length
  refine call_tuple_list pl.isList (fun h' kp=>?_) (by simp only[List.size_toArray] <;> omega)
  have I1:Inv X pins σ H {s with heap:=h'}:=I.kept (t':=s.toks) kp
  have I2:Inv X pins σ (upd H h'.objs.size (.tup ys)) {s with heap:=h'.push {cls:=.type "tuple",data:=.seq its.toArray}} :=
   I1.laid (t':=s.toks) (fun b o e=>Heap.get?_push_of_some _ e) (Nat.le_refl _) (show jca X.prog X.w _ _ _ (.tup ys) from ⟨hz,its,r',IsTup.new _ _⟩)
  exact⟨.ref h'.objs.size,_,I2,rfl,q _ (I1.hok.fresh (Nat.le_refl _))⟩
 ·obtain⟨its,r',pl,hz⟩:=I.tuple hq
  exact call_tuple_same pl ⟨.ref p,H,I,rfl,q⟩
noncomputable def tyV (K:PySem.W.Frag)(T:String)(x:V)(H:Hp):Prop:=match x with
 |.str _=>T = "str"
 |.int _=>T = "int"
 |.ref p=>(T = "list"∧∃xs,SqL K H p xs)∨(T = "tuple"∧∃o,K.lookup p=some o∧o.cls=.type "tuple"∧o.dict=none) ∨
   (T = "dict"∧((∃kvs,H p=some (.dK kvs))∨∃kvs,H p=some (.dT kvs)))∨(T = "set"∧∃S n,H p=some (.set S n))
 |_=>False
theorem juq {pins:List (Addr×Obj)}{σ:St}{H:Hp}{s:Shared}{T:String}{x:V}{v:Value}(I:Inv X pins σ H s)(r:jba x v)(ty:tyV X.K T x H) :
  s.TypeIs v T∧∀a,v=.ref a→∃ob,s.heap.get? a=some ob∧ob.dict=none:=by
 cases x with
 |str z =>
  obtain⟨t,rfl⟩:=r
  cases (show T = "str" from ty)
  exact⟨typeIs_str s z t,fun _ e=>nomatch e⟩
 |int i =>
  obtain⟨t,rfl⟩:=r
  cases (show T = "int" from ty)
  exact⟨typeIs_int s i t,fun _ e=>nomatch e⟩
 |ref p =>
  cases r
  rcases ty with ⟨rfl,xs,hq⟩ | ⟨rfl,o,hk,hc,hd⟩ | ⟨rfl,hk⟩ | ⟨rfl,S,n,hk⟩
  ·obtain⟨its,_,pl,_⟩:=I.list hq
   refine⟨pl.isList.typeIs,fun a e=>?_⟩
   cases e
   obtain⟨o,n,e,c,hd,_⟩:=pl
   exact⟨o,e,hd⟩
  ·refine⟨⟨o,I.kIn p o hk,hc⟩,fun a e=>?_⟩
   cases e
   exact⟨o,I.kIn _ o hk,hd⟩
  ·have z:∃o,s.heap.get? p=some o∧o.ExactDict:=by
    rcases hk with ⟨kvs,hk⟩ | ⟨kvs,hk⟩
    ·obtain⟨_,_,_,_,o,_,_,e,ex,_⟩:=I.hok p _ hk
     exact⟨o,e,ex⟩
    ·obtain⟨_,_,_,_,o,_,_,e,ex,_⟩:=I.hok p _ hk
     exact⟨o,e,ex⟩
   obtain⟨o,e,ex⟩:=z
   refine⟨⟨o,e,ex.1⟩,fun a e2=>?_⟩
   cases e2
   exact⟨o,e,ex.2.1⟩
  ·obtain⟨o,_,_,_,e,ex,_⟩:=I.hok p _ hk
   refine⟨⟨o,e,ex.1⟩,fun a e2=>?_⟩
   cases e2
   exact⟨o,e,ex.2.1⟩
 |_=>exact False.elim ty
noncomputable def tBM (K:PySem.W.Frag)(T:String)(r:V→List V→Hp→VK→Prop)(to:TE)(t:TA):TE:=fun σ H Q=>to σ H fun x H1=>tyV K T x H1∧t σ H1 fun xs H2=>r x xs H2 Q
variable {o e:Expr} {es:List Expr} {to:TE} {t:TA} {name:Str} {apos cpos:Pos} {T id:String} {r:V→List V→Hp→VK→Prop}
theorem jwV (pa:PlainAttrs T) (slot:Slot T name id) (hty:typeOf (.builtin id)=pure (.type "method_descriptor")) (hm:MtR X id r) (ho:PE X o to) (ha:PA X (e :: es) t)
  (hbase:attributeBase o name X.env (eval o X.env)=eval o X.env:=by rfl)
  (hfew:((backTo cpos (starEach (e :: es) X.env)).all (fun x=>!x.1) && (backToKw cpos (keywordEach [] X.env)).all (fun x=>x.1.isSome)
   && decide ((e :: es).length+([]:List Keyword).length+(if ([]:List Keyword).isEmpty then 0 else 1) < 30))=true:=by rfl)
  (hline:(apos.endLine == cpos.line)=true:=by rfl) (hs:starEach (e :: es) X.env=(false,eval e X.env) :: starEach es X.env:=by rfl) (hplain:(backTo cpos (starEach es X.env)).any (·.1)=false:=by rfl) :
  PE X (.Call (.Attribute o name apos) (e :: es) [] cpos) (tBM X.K T r to t):=by
 intro pins s σ H Q I h
 refine wpAny_Call_method_late hbase hfew hline rfl (thn (ho pins s σ H _ I h) fun v s1 ⟨x,H1,I1,r1,ty,q1⟩=>?_)
 obtain⟨h1,h2⟩:=juq I1 r1 ty
 refine⟨T,id,pa,slot,hty,h1,h2,?_⟩
 have hA:=ha cpos pins s1 σ H1 _ I1 q1
 rw[hs]at hA ⊢
 refine Calls.callWith_builtin (by show (false || (backTo cpos (starEach es X.env)).any (·.1))=false;rw[hplain] <;> rfl) (Calls.evalArgs_plain ?_)
 exact thn hA fun us s2 ⟨vs,H2,I2,r2,q2⟩=>hm pins s2 σ H2 x vs v us Q I2 r1 r2 q2
end
end _L2
namespace _L2
open PySem PySem.Spec PyProof.Rows
noncomputable def MtM (X:Cx)(id:String)(r:V→List V→Hp→VK→Prop):Prop :=
 ∀(pins:List (Addr×Obj)) (s:Shared) (σ:St) (H:Hp) (x:V) (xs:List V) (v:Value) (us:List Value) (Q:VK),Inv X pins σ H s→jba x v→ja6 xs us→r x xs H Q →
  wpAny (model X.prog X.w) X.A (call (.builtin id) (v :: us)) (EP X pins σ Q) X.xe s
theorem ja6.one:∀{x:V} {us:List Value},ja6 [x] us→∃u,us=[u]∧jba x u
 |_,_,.cons r .nil=>⟨_,rfl,r⟩
theorem ja6.two {x y:V}{us:List Value}(h:ja6 [x,y] us):∃u v,us=[u,v]∧jba x u∧jba y v:=by
 cases h with
 |cons r t =>
  cases t with
  |cons q s =>
   cases s
   exact⟨_,_,rfl,r,q⟩
theorem ja6.zero:∀{us:List Value},ja6 [] us→us=[]
 |_,.nil=>rfl
theorem ja6.reverse {xs:List V}{us:List Value}(h:ja6 xs us):ja6 xs.reverse us.reverse:=by
 induction h with
 |nil=>exact .nil
 |cons r t ih=>rw[List.reverse_cons,List.reverse_cons];exact ja6.append ih (.cons r .nil)
theorem ja6.rep {xs:List V}{us:List Value}(h:ja6 xs us):∀k:Nat,ja6 (List.replicate k xs).flatten (List.replicate k us).flatten
 |0=>.nil
 |k+1=>by
  rw[List.replicate_succ,List.replicate_succ,List.flatten_cons,List.flatten_cons]
  exact ja6.append h (ja6.rep h k)
theorem foldl_rep (its:List Value):∀(k:Nat) (acc:List Value),
  List.foldl (fun x1 x2=>x1++x2) acc.toArray (List.replicate k its.toArray)=(acc++(List.replicate k its).flatten).toArray
 |0,acc=>by simp
 |k+1,acc=>by
  have e:acc.toArray++its.toArray=(acc++its).toArray:=by simp
  have e2:(acc++its)++(List.replicate k its).flatten=acc++(List.replicate (k+1) its).flatten:=by
   rw[List.replicate_succ,List.flatten_cons,List.append_assoc]
  rw[← e2,← foldl_rep its k (acc++its),← e,List.replicate_succ,List.foldl_cons]
section
variable {X:Cx} {pins:List (Addr×Obj)} {σ:St} {H:Hp} {s:Shared} {l b:Addr} {xs ys zs:List V}
theorem Inv.lset {its its':List Value}{n:Nat}{f:Array Value→Array Value}{t':Nat}(I:Inv X pins σ H s)(hH:H l=some (.lst xs))
  (e:s.heap.get? l=some {cls:=.type "list",data:=.seq its.toArray n}) (hf:f its.toArray=its'.toArray) (hv:ja6 ys its') (hz:ys.length≤sizeLine) :
  Inv X pins σ (upd H l (.lst ys)) {s with heap:=s.heap.update l (Obj.mapSeq f),toks:=t'}:=by
 have q:=PySem.IsL.update e f
 rw[hf]at q
 refine I.write (x:=l) (e:=l) (by rw[hH];exact trivial) (.inl rfl) (fun b' u hb hu=>(Heap.get?_update_other s.heap (Obj.mapSeq f) (Ne.symm hb)).trans hu) ⟨_,q⟩ ?_
 exact⟨hz,its',_,hv,q⟩
theorem Inv.lnew {its:List Value}{t':Nat}(I:Inv X pins σ H s)(hv:ja6 ys its)(hz:ys.length≤sizeLine) :
  Inv X pins σ (upd H s.heap.objs.size (.lst ys)) {s with heap:=s.heap.push {cls:=.type "list",data:=.seq its.toArray},toks:=t'} :=
 I.laid (fun _ _ q=>Heap.get?_push_of_some _ q) (Nat.le_refl _) ⟨hz,its,0,hv,Heap.get?_push_size _ rfl⟩
theorem Inv.fresh (I:Inv X pins σ H s):H s.heap.objs.size=none:=I.hok.fresh (Nat.le_refl _)
theorem Inv.lstM (I:Inv X pins σ H s)(hH:H l=some (.lst xs)):xs.length≤sizeLine∧∃(its:List Value) (n:Nat),ja6 xs its∧xs.length=its.length∧s.heap.get? l=some {cls:=.type "list",data:=.seq its.toArray n}:=by
 obtain⟨z,its,n,r,e⟩:=I.hok l _ hH
 exact⟨z,its,n,r,r.length,e⟩
theorem joA {n:Nat}(h:n≤sizeLine):Builtin.List.listTooLong n=false:=by
 unfold Builtin.List.listTooLong
 exact decide_eq_false (by omega)
end
section
variable {X:Cx}
noncomputable def rAppend:V→List V→Hp→VK→Prop:=fun x vs H Q=>∃l xs y,x=.ref l∧vs=[y]∧H l=some (.lst xs)∧xs.length < sizeLine∧Q .non (upd H l (.lst (xs++[y])))
theorem jij:MtM X "list.append" rAppend:=by
 intro pins s σ H x vs v us Q I rx rv h
 obtain⟨l,xs,y,rfl,rfl,hH,hz,q⟩:=h
 cases rx
 obtain⟨u,rfl,ru⟩:=rv.one
 obtain⟨z,its,n,r,hl,e⟩:=I.lstM hH
 refine call_meets F.slot_list_append ⟨_,e,rfl⟩ F.entry_list_append (F.args_list_append_2 _ _) (PySem.list_append l its.toArray n u (by rw[List.size_toArray];omega)) ⟨e,?_⟩
 refine⟨.non,_,I.lset (its':=its++[u]) hH e (by simp) (r.append (.cons ru .nil)) ?_,rfl,q⟩
 rw[List.length_append,List.length_singleton]
 omega
noncomputable def rExtend:V→List V→Hp→VK→Prop:=fun x vs H Q=>∃l b xs zs,x=.ref l∧vs=[.ref b]∧H l=some (.lst xs)∧H b=some (.lst zs)∧xs.length+zs.length≤sizeLine∧Q .non (upd H l (.lst (xs++zs)))
theorem jnt:MtM X "list.extend" rExtend:=by
 intro pins s σ H x vs v us Q I rx rv h
 obtain⟨l,b,xs,zs,rfl,rfl,hH,hB,hz,q⟩:=h
 cases rx
 obtain⟨u,rfl,ru⟩:=rv.one
 cases ru
 obtain⟨z,its,n,r,hl,e⟩:=I.lstM hH
 obtain⟨z2,its2,n2,r2,hl2,e2⟩:=I.lstM hB
 have hsz:its.toArray.size+its2.toArray.size≤sizeLine:=by rw[List.size_toArray,List.size_toArray];omega
 have hlong:¬ (!its.toArray.isEmpty && Builtin.List.listTooLong (its.toArray.size+its2.toArray.size))=true:=by
  rw[joA hsz,Bool.and_false]
  exact Bool.false_ne_true
 refine call_meets F.slot_list_extend ⟨_,e,rfl⟩ F.entry_list_extend (F.args_list_extend_2 _ _)
  (AutoSeq1.list_extend_list_list_0 l its.toArray n b its2.toArray n2 hlong (by rw[List.size_toArray];omega) (by omega)) ⟨e,e2,?_⟩
 refine⟨.non,_,I.lset (its':=its++its2) hH e (by simp) (r.append r2) ?_,rfl,q⟩
 rw[List.length_append]
 omega
theorem len_rep {α:Type}(xs:List α)(k:Nat):(List.replicate k xs).flatten.length=k * xs.length:=by
 induction k with
 |zero=>simp
 |succ k ih=>rw[List.replicate_succ,List.flatten_cons,List.length_append,ih,Nat.succ_mul,Nat.add_comm]
end
section
variable {prog:Program} {w:World} {A:Around} {E:Value→Shared→Prop} {s:Shared}
end
section
variable {X:Cx}
end
end _L2
namespace Att
open PySem PySem.W PySem.Calls PyProof.Rows
theorem jfI {P:Params}{h:Heap}:∀(ns:List Int) (vs:List Value),WellAll P h vs (ns.map WData.int)→IntsAre vs ns:=by
 intro ns
 induction ns with
 |nil =>
  intro vs w
  rw[List.map_nil]at w
  cases w
  exact .nil
 |cons n ns ih =>
  intro vs w
  rw[List.map_cons]at w
  cases w with
  |cons a b =>
   cases a
   exact .cons _ _ (ih _ b)
theorem jlN {l:OpenLaw}{n:Nat}(hn:l.most=some n){P:Params}{h:Heap}{args:List WData}{vals:List Value}
  (hpre:l.row.toRowW.claim.pre args=true) (hwl:WellAll P h vals args) :
  ∃a vs ns,vals=[Value.ref a]∧args=[WData.list (ns.map WData.int)]∧h.get? a=some {cls:=.type "list",data:=.seq vs.toArray}∧IntsAre vs ns∧ns.length≤n:=by
 have hsh:WShape.hasAll [] args [.list .int]=true:=(pre_splitW hpre).1
 have hc:l.pre.holds [] {args:=args}=true:=(pre_splitW hpre).2
 obtain⟨d,r,rfl,h1,h2⟩:=hasAllW_cons hsh
 obtain rfl:=hasAllW_nil h2
 obtain⟨xs,rfl,h3⟩:=hasW_list h1
 obtain⟨ns,rfl⟩:=items_int h3
 have hlen:ns.length≤n:=by
  unfold OpenLaw.pre at hc
  have h4:(WTm.not (.lt (.lit (.int (n:Int))) (.len (.arg 0)))).holds [] {args:=[.list (ns.map .int)]}=true:=by
   have h4:=(holds_andW hc).1
   rw[hn]at h4
   exact h4
  have h5:=condW_of h4 (w_not (w_lt w_lit (w_len_list (w_arg rfl))))
  rw[List.length_map]at h5
  refine Nat.le_of_not_lt fun q=>?_
  have q':(n:Int) < ((ns.length:Nat):Int):=by omega
  first
   |(rw[decide_eq_true q']at h5;exact absurd h5 (by decide))
   |(simp at h5;omega)
 cases hwl with
 |cons w1 w2 =>
  cases w2
  cases w1 with
  |list ho hall=>exact⟨_,_,ns,rfl,rfl,ho,jfI ns _ hall,hlen⟩
theorem jmj (l:OpenLaw)(args:List WData):l.row.toRowW.claim.post args (.bool true) args=true :=
 postW_of (r:=l.row.toRowW) (X:=(true == true))
  (show WShape.has [] (.bool true) .bool=true by first | rfl | decide | simp[WShape.has,WShape.arms,WShape.armsAll])
  (show (WTm.eq .res (.lit (.bool true))).value [] {args:=args,res:=some (.bool true),after:=args}=some (.bool (true == true)) from w_eq_bool (w_res rfl) w_lit) rfl
theorem attach_call {l:OpenLaw}{n:Nat}{q:Program}{loose:List Str}{XP:(Str→Option Value)→Heap→Prop}{YP:World→Heap→Prop}{d:DefRec}
  (hn:l.most=some n) (hdf:d.params.defaults=[])
  (call:∀(w:World) (s₀ s₁:Shared) (mg mb:Str→Option Value) (fa:Addr) (o:Obj) (pm cd doc:Value) (a:Addr) (vs:List Value) (ns:List Int),
   Ground q loose [] XP w s₀ mg mb s₁.heap→YP w s₁.heap →
   s₁.heap.get? fa=some o→o.data=.func (docDef d.name d.params d.body d.scope pm cd doc)→s₁.heap.CodeRec cd d.name→mg d.name=some (.ref fa) →
   s₁.heap.get? a=some {cls:=.type "list",data:=.seq vs.toArray}→IntsAre vs ns→ns.length≤n→s₁.gens = #[] →
   codeAny (model l.prog w) callerA (.call (.ref fa) ⟨[.ref a],[]⟩) (fun r s'=>r=.ok (.ret (.bool true))∧OldK s₁.heap s'.heap∧s'.os=s₁.os∧AllBare s'.gens) s₁) :
  WalkO q loose XP YP l.row.toRowW d [] (fun f vs=>PySem.call f vs):=by
 intro w s₀ s₁ mg mb G Y fa o pm cd doc dV kV ho hd hcd hD hmg hg args vals as hpre hlay hrd hwl hlo
 obtain rfl:dV=.none:=Dflts.none hD hdf
 obtain rfl:kV=.none:=Dflts.noKw hD
 obtain⟨a,vs,ns,rfl,rfl,hobj,hints,hlen⟩:=jlN hn hpre hwl
 refine enter_call (codeAny_mono (call w s₀ s₁ mg mb fa o pm cd doc a vs ns G Y ho (fd_plain hd) hcd hmg hobj hints hlen hg) fun r s' hq=>?_)
 obtain⟨rfl,h2,h3,h4⟩:=hq
 exact⟨.inl ⟨.bool true,.bool true,[],rfl,fun _=>rfl,.bool true,jmj l _,fun _=>⟨List.Pairwise.nil,fun _ hm=>(nomatch hm)⟩⟩,h2,h3,h4⟩
section
variable {prog:Program} {w:World} {A:Around} {E:Value→Shared→Prop} {s:Shared} {K:Frag}
noncomputable def jxZ (h:Heap)(L d:Addr):List (Addr×Obj):=(List.range h.objs.size).filterMap fun a=>if a=L∨a=d then none else (h.get? a).map fun o=>(a,o)
end
end Att
namespace _L2
open PySem PySem.Spec PyProof.Rows
theorem ji:∀{vs:List Value} {ns:List Int},IntsAre vs ns→ja6 (ns.map V.int) vs
 |_,_,.nil=>.nil
 |_,_,.cons n t h=>.cons ⟨t,rfl⟩ (ji h)
noncomputable def jwp (H:Hp):Prop:=∀b,H b=none∨∃o xs,H b=some (.frz o (.lst xs))
theorem jow {P:Program}{w:World}{K:PySem.W.Frag}{mg mb:Str→Option Value}{CX:CXT}{k:Nat}{fa a:Addr}{fd:FuncData}{x:Str}{sp:Sp}{s₁:Shared}{vs:List Value}{ns:List Int}
  (KX:K.In s₁.heap) (hns:s₁.heap.Ns mainGlobals mg) (hb:s₁.heap.Ns builtinsNs mb) (hbb:∀x:Str,x≠"__name__"→mb x=bootBuiltins x) (hlim:s₁.heap.NoLimit) (hg:s₁.gens = #[])
  (ha:s₁.heap.get? a=some {cls:=.type "list",data:=.seq vs.toArray}) (hi:IntsAre vs ns) (hl:ns.length≤sizeLine) (hr:Room k callerA)
  (F:∀base:Heap,K.In base→base.Ns mainGlobals mg→FnOk P w K mg base CX k fa fd [x] sp) (hbind:∀(s:Shared) (u:Value),BindsTo s fd ⟨[u],[]⟩ [(x,u)])
  (hsp:∀H:Hp,jwp H→SqL K H a (ns.map V.int)→sp [.ref a] H (fun v _=>v=.bl true) fun _ _ _=>False)
  (hCX:∀H e s',CX [] H s₁ (fun _ _ _=>False) e s'→False) :
  codeAny (model P w) callerA (.call (.ref fa) ⟨[.ref a],[]⟩) (fun r s'=>r=.ok (.ret (.bool true))∧OldK s₁.heap s'.heap∧s'.os=s₁.os∧AllBare s'.gens) s₁:=by
 have rv:=ji hi
 have lenV:=hi.length
 have core:∀H:Hp,jwp H→SqL K H a (ns.map V.int)→HOk P w H s₁.heap→(∀b,H b≠none→b=a)→(H a≠none→K.lookup a=none) →
   codeAny (model P w) callerA (.call (.ref fa) ⟨[.ref a],[]⟩) (fun r s'=>r=.ok (.ret (.bool true))∧OldK s₁.heap s'.heap∧s'.os=s₁.os∧AllBare s'.gens) s₁:=by
  intro H hO hS hok hA hK
  have base_of:∀{b:Addr} {o:Obj},s₁.heap.get? b=some o→H b=none→(jpv s₁.heap H).get? b=some o:=fun e n=>jpt e n
  have noA:∀{b:Addr} {o:Obj} {es:Array DictEntry} {ep:Nat},s₁.heap.get? b=some o→o.data=.dict es ep→H b=none:=fun {b o es ep} e d=>by
   cases q:H b with
   |none=>rfl
   |some u =>
    have e':b=a:=hA b (by rw[q];simp)
    subst e'
    rw[ha]at e;cases e
    have d':Data.seq vs.toArray _=Data.dict es ep:=d
    cases d'
  have nsK:∀{b:Addr} {m:Str→Option Value},s₁.heap.Ns b m→(jpv s₁.heap H).Ns b m:=fun {b m} ⟨o,es,ep,e,d,r⟩=>⟨o,es,ep,base_of e (noA e d),d,r⟩
  have hKb:K.In (jpv s₁.heap H):=fun b o e=>base_of (KX b o e) (by
   cases q:H b with
   |none=>rfl
   |some u =>
    have e':b=a:=hA b (by rw[q];simp)
    subst e'
    rw[hK (by rw[q];simp)]at e;cases e)
  have hM:Mod K mg (jpv s₁.heap H):=⟨hKb,nsK hns,⟨mb,nsK hb,hbb⟩,let ⟨mc,h1,h2⟩:=hlim;⟨mc,nsK h1,h2⟩⟩
  have e0:Env0 P w K mg (jpv s₁.heap H) callerA [] s₁ H:=⟨rfl,hM,fun b o e=>jrF e,Nat.le_of_eq (jny _ _),trivial,fun b hb=>absurd (show b∈([]:List Addr) from hb) (by simp),hok,.of_eq hg⟩
  refine codeAny_mono ((F _ hKb (nsK hns)).run callerA [] s₁ H ⟨[.ref a],[]⟩ [.ref a] [.ref a] _ _ hr e0 (hbind s₁ (.ref a)) (.cons rfl .nil) (hsp H hO hS)) fun r s' h=>?_
  cases r with
  |error e=>exact (hCX H e s' h).elim
  |ok fl =>
   cases fl with
   |next=>exact False.elim h
   |brk=>exact False.elim h
   |cont=>exact False.elim h
   |ret u =>
    obtain⟨v,H',os,bare,un,hok',r',q⟩:=h
    have q':v=.bl true:=q
    subst q'
    obtain rfl:u=Value.bool true:=r'
    refine⟨rfl,OldK.of_keep fun b o e=>?_,os,bare⟩
    cases q:H b with
    |none=>exact un.keep b o e q (by intro z;exact absurd (show b∈([]:List Addr) from z) (by simp)) (by simp)
    |some u =>
     rcases hO b with z | ⟨ob,xs,z⟩
     ·rw[q]at z;cases z
     ·have z2:=un.frzs b ob _ z
      obtain⟨e1,_⟩:=hok b _ z
      obtain⟨e2,_⟩:=hok' b _ z2
      rw[e]at e1;cases e1
      exact e2
 cases hk:K.lookup a with
 |some o =>
  have e:=KX a o hk
  rw[ha]at e
  cases e
  refine core (fun _=>none) (fun _=>.inl rfl) (.inr ⟨_,vs.toArray,_,hk,rfl,rfl,rfl,by rw[List.size_toArray,lenV];exact hl,by simpa using rv⟩) (fun b u z=>by have z':(none:Option HO)=some u:=z;cases z') (fun b z=>absurd rfl z) fun z=>absurd rfl z
 |none =>
  refine core (fun b=>if b=a then some (.frz {cls:=.type "list",data:=.seq vs.toArray} (.lst (ns.map V.int))) else none) (fun b=>?_) (.inl (.inr ⟨{cls:=.type "list",data:=.seq vs.toArray},if_pos rfl⟩)) (fun b u z=>?_) (fun b z=>?_) fun _=>hk
  ·by_cases hb:b=a
   ·exact .inr ⟨_,_,if_pos hb⟩
   ·exact .inl (if_neg hb)
  ·by_cases hb:b=a
   ·have z':=(if_pos hb).symm.trans z
    cases z'
    subst hb
    exact⟨ha,by rw[List.length_map];exact hl,vs,_,rv,ha⟩
   ·have z':=(if_neg hb).symm.trans z
    cases z'
  ·by_cases hb:b=a
   ·exact hb
   ·exact absurd (if_neg hb) z
end _L2
namespace _L2
open PySem PySem.Spec PyProof.Rows
noncomputable abbrev KOf {K:PySem.W.Frag} {h:Heap} (_:K.In h):PySem.W.Frag:=K
theorem jsQ {l:PySem.W.OpenLaw}{n k:Nat}{q:Program}{loose:List Str}{XP:(Str→Option Value)→Heap→Prop}{YP:World→Heap→Prop}{d:DefRec}{K:Params→PySem.W.Frag}{CX:World→CXT}{sp:World→Sp}{x:Str}
  (hn:l.most=some n) (hn2:n≤sizeLine) (hdf:d.params.defaults=[]) (hr:Room k callerA)
  (hY:∀(w:World) (h:Heap),YP w h→(K w.params).In h)
  (F:∀(w:World) (mg:Str→Option Value) (fa:Addr) (h:Heap),(K w.params).In h→h.Ns mainGlobals mg→mg d.name=some (.ref fa) →
   ∃fd:FuncData,(∀(s:Shared) (u:Value),BindsTo s fd ⟨[u],[]⟩ [(x,u)]) ∧
    ∀base:Heap,(K w.params).In base→base.Ns mainGlobals mg→FnOk l.prog w (K w.params) mg base (CX w) k fa fd [x] (sp w))
  (hsp:∀(w:World) (H:Hp) (a:Addr) (ns:List Int),ns.length≤n→jwp H→SqL (K w.params) H a (ns.map V.int)→sp w [.ref a] H (fun v _=>v=.bl true) fun _ _ _=>False)
  (hCX:∀(w:World) (H:Hp) (s:Shared) (e:Value) (s':Shared),CX w [] H s (fun _ _ _=>False) e s'→False) :
  PySem.W.WalkO q loose XP YP l.row.toRowW d [] (fun f vs=>PySem.call f vs):=by
 refine Att.attach_call hn hdf fun w s₀ s₁ mg mb fa o pm cd doc a vs ns G Y ho hd hcd hmg hobj hints hlen hg=>?_
 have KX:=hY w _ Y
 obtain⟨fd,hb,hF⟩:=F w mg fa _ KX G.T.g hmg
 exact jow KX G.T.g G.T.b G.T.builtins G.T.nolimit hg hobj hints (Nat.le_trans hlen hn2) hr hF hb (fun H hO hS=>hsp w H a ns hlen hO hS) fun H e s'=>hCX w H s₁ e s'
theorem walk_ofK {l:PySem.W.OpenLaw}{n k:Nat}{q:Program}{loose:List Str}{XP:(Str→Option Value)→Heap→Prop}{YP:World→Heap→Prop}{d:DefRec}{K:Params→PySem.W.Frag}{CX:CXT}{sp:PySem.W.Frag→Sp}{x:Str}
  (hn:l.most=some n) (hn2:n≤sizeLine) (hdf:d.params.defaults=[]) (hr:Room k callerA)
  (hY:∀(w:World) (h:Heap),YP w h→(K w.params).In h)
  (F:∀(w:World) (mg:Str→Option Value) (fa:Addr) (h:Heap),(K w.params).In h→h.Ns mainGlobals mg→mg d.name=some (.ref fa) →
   ∃fd:FuncData,(∀(s:Shared) (u:Value),BindsTo s fd ⟨[u],[]⟩ [(x,u)]) ∧
    ∀base:Heap,(K w.params).In base→base.Ns mainGlobals mg→FnOk l.prog w (K w.params) mg base CX k fa fd [x] (sp (K w.params)))
  (hsp:∀(K:PySem.W.Frag) (H:Hp) (a:Addr) (ns:List Int),ns.length≤n→jwp H→SqL K H a (ns.map V.int)→sp K [.ref a] H (fun v _=>v=.bl true) fun _ _ _=>False)
  (hCX:∀(H:Hp) (s:Shared) (e:Value) (s':Shared),CX [] H s (fun _ _ _=>False) e s'→False) :
  PySem.W.WalkO q loose XP YP l.row.toRowW d [] (fun f vs=>PySem.call f vs) :=
 jsQ (K:=K) (CX:=fun _=>CX) (sp:=fun w=>sp (K w.params)) hn hn2 hdf hr hY F (fun w H a ns h1 h2 h3=>hsp (K w.params) H a ns h1 h2 h3) fun _ H s e s'=>hCX H s e s'
end _L2
namespace _L2
open PySem PySem.Spec PyProof.Rows
noncomputable def jaH (s:Stmt):Arguments:=match s with
 |.FunctionDef _ a _ _ _ _ _ _ _ _=>a
 |_=>{posonlyargs:=[],args:=[],vararg:=none,kwonlyargs:=[],kw_defaults:=[],kwarg:=none,defaults:=[]}
noncomputable def jae (s:Stmt):List Stmt:=match s with
 |.FunctionDef _ _ b _ _ _ _ _ _ _=>b
 |_=>[]
noncomputable def ja (s:Stmt):Scope:=match s with
 |.FunctionDef _ _ _ _ _ _ sc _ _ _=>sc
 |_=>{kind:=.function,names:=[],isGenerator:=false,isCoroutine:=false}
noncomputable abbrev CX0:CXT:=fun _ _ _ _ _ _=>False
noncomputable abbrev E0:XK:=fun _ _ _=>False
theorem jxv {X:Cx}:jlY CX0 X E0:=fun _ _ _ _ _ _ _ h=>h.elim
structure Fun (K:PySem.W.Frag) (x qual:Str) (st:Stmt) (f:Addr) (fd:FuncData):Prop where
 ex:∃(oc:Value) (od:Option Addr) (kV doc pm:Value) (an:Option Addr) (cdv ct:Value) (osl:Array (Option Value)),
  fd=PySem.W.fnOf x qual (jaH st) (jae st) (ja st) .none kV doc pm an cdv ct∧K.lookup f=some ⟨oc,od,.func fd,osl⟩∧PySem.W.codeIn K cdv qual=true
 kp:PySem.W.keepIn K (.ref f)=true
section
variable {P:Program} {w:World} {K:PySem.W.Frag} {mg:Str→Option Value} {base:Heap}
theorem Fun.ok {x qual:Str}{st:Stmt}{f:Addr}{fd:FuncData}{N ps:List Str}{k:Nat}{sp:Sp}(F:Fun K x qual st f fd)(S:FnScope N ps (ja st))(len:∀vs H Q E,sp vs H Q E→vs.length=ps.length)
  (hbody:∀(cdv:Value) (A:Around) (outer:List Env) (s:Shared) (H:Hp) (vs:List V) (Q:VK) (E:XK),Room k (A.deeper (envOfC qual (ja st) s.heap.objs.size f cdv))→sp vs H Q E →
   ∃t,PSs (jhv CX0 P w K mg base N qual (ja st) f cdv A outer s H E).nox (jae st) t∧t {nx:=fun _ H'=>Q .non H',rt:=Q} (start N vs) H):FnOk P w K mg base CX0 (k+1) f fd ps sp:=by
 obtain⟨oc,od,kV,doc,pm,an,cdv,ct,osl,rfl,lk,hcd⟩:=F.ex
 refine jv5 lk hcd S len fun A outer s H vs Q E hr hsp=>?_
 obtain⟨t,h,q⟩:=hbody cdv A outer s H vs Q E hr hsp
 exact⟨t,h.nox,q⟩
theorem Fun.binds {x qual:Str}{st:Stmt}{f:Addr}{fd:FuncData}{ps:List Str}(F:Fun K x qual st f fd)
  (h:∀(kV doc pm:Value) (an:Option Addr) (cdv ct:Value) (us:List Value),us.length=ps.length→bindArgs (PySem.W.fnOf x qual (jaH st) (jae st) (ja st) .none kV doc pm an cdv ct) ⟨us,[]⟩=pure (ps.zip us)):jgu K fd ps []:=by
 obtain⟨oc,od,kV,doc,pm,an,cdv,ct,osl,rfl,lk,hcd⟩:=F.ex
 exact .all (h kV doc pm an cdv ct)
theorem jbu {x qual:Str}{st:Stmt}{f:Addr}{oc:Value}{od an:Option Addr}{osl:Array (Option Value)}{kV doc pm cdv ct:Value}(l:K.lookup f=some ⟨oc,od,.func (PySem.W.fnOf x qual (jaH st) (jae st) (ja st) .none kV doc pm an cdv ct),osl⟩)
  (c:PySem.W.codeIn K cdv qual=true) (k:PySem.W.keepIn K (.ref f)=true):Fun K x qual st f (PySem.W.fnOf x qual (jaH st) (jae st) (ja st) .none kV doc pm an cdv ct):=⟨⟨oc,od,kV,doc,pm,an,cdv,ct,osl,rfl,l,c⟩,k⟩
end
section
variable {X:Cx}
theorem pv (i:Nat) {x:Str} {pos:Pos} (hN:X.N[i]?=some x:=by rfl) (hv:Vis X.env.scope x:=by first | exact Or.inl rfl | exact Or.inr (Or.inl rfl) | exact Or.inr (Or.inr rfl)) (hd:(x == ("__debug__" : Str))=false:=by decide)
  (hcd:(x == ("__classdict__" : Str))=false:=by decide):PE X (.Name x pos) (jxD i):=jqa hN hv hd hcd
end
noncomputable def jdw (H H':Hp):Prop:=∀b o,H b=some o→H' b=some o
theorem jdw.refl (H:Hp):jdw H H:=fun _ _ h=>h
theorem jdw.trans {H H1 H2:Hp}(a:jdw H H1)(b:jdw H1 H2):jdw H H2:=fun c o h=>b c o (a c o h)
theorem jdw.free {H H':Hp}(e:jdw H H'){l:Addr}(h:H' l=Option.none):H l=Option.none:=by
 cases q:H l with
 |none=>rfl
 |some o =>
  rw[e l o q]at h
  cases h
theorem jdw.seq {K:PySem.W.Frag}{H H':Hp}{a:Addr}{xs:List V}(e:jdw H H')(h:SqL K H a xs):SqL K H' a xs:=by
 rcases h with (h | ⟨o,h⟩) | h
 ·exact .inl (.inl (e _ _ h))
 ·exact .inl (.inr ⟨o,e _ _ h⟩)
 ·exact .inr h
end _L2
namespace _L2
open PySem PySem.Spec PyProof.Rows
theorem jeV {a b c:Nat}(h:a < b)(k:b≤c):a≠c:=Nat.ne_of_lt (Nat.lt_of_lt_of_le h k)
theorem jwy {a b:Nat}(h:a < b)(k:b≤a):False:=absurd (Nat.lt_of_lt_of_le h k) (Nat.lt_irrefl _)
noncomputable def jhu (names:List (Str×NameKind))(cells:List (Str×Addr)):List (Str×Addr) :=
 (names.filterMap fun p=>if p.2 == .free then (cells.lookup p.1).map fun c=>(p.1,c) else none).reverse
theorem jdl (env:Env):∀(names:List (Str×NameKind)) (acc:List (Str×Addr)),(∀p∈names,p.2=.free→∃c,env.cells.lookup p.1=some c) →
  (forIn names acc fun (x:Str×NameKind) cs=>(match x with
   |(name,kind)=>if (kind == .free)=true then (do let c ← cellOf env name;pure (ForInStep.yield ((name,c) :: cs))) else pure (ForInStep.yield cs)):Sem (List (Str×Addr)))
   = pure (jhu names env.cells++acc)
 |[],acc,_=>rfl
 |(n,k) :: r,acc,h=>by
  have hr:∀p∈r,p.2=.free→∃c,env.cells.lookup p.1=some c:=fun p hp=>h p (List.mem_cons_of_mem _ hp)
  rw[List.forIn_cons]
  by_cases hk:k=.free
  ·subst hk
   obtain⟨c,hc⟩:=h (n,.free) List.mem_cons_self rfl
   have e1:cellOf env n=pure c:=by
    unfold cellOf
    have hc':env.cells.lookup n=some c:=hc
    rw[hc']
   have e2:jhu ((n,NameKind.free) :: r) env.cells=jhu r env.cells++[(n,c)]:=by
    have hc':env.cells.lookup n=some c:=hc
    unfold jhu
    rw[List.filterMap_cons]
    simp[hc']
   simp only[beq_self_eq_true,if_true,e1,pure_bind]
   rw[jdl env r _ hr,e2,List.append_assoc]
   rfl
  ·have hb:(k == NameKind.free)=false:=by simpa using hk
   have e2:jhu ((n,k) :: r) env.cells=jhu r env.cells:=by
    unfold jhu
    rw[List.filterMap_cons]
    simp[hb]
   simp only[hb,Bool.false_eq_true,if_false,pure_bind]
   rw[jdl env r _ hr,e2]
theorem jg3 {scope:Scope}{env:Env}(h:∀p∈scope.names,p.2=.free→∃c,env.cells.lookup p.1=some c):closureFor scope env=pure (jhu scope.names env.cells):=by
 have q:=jdl env scope.names [] h
 rw[List.append_nil]at q
 unfold closureFor
 simp only[bind_pure]
 exact q
theorem jpA {names:List (Str×NameKind)}{cells:List (Str×Addr)}{x:Str}{c:Addr}(h:(x,c)∈jhu names cells):(x,NameKind.free)∈names∧cells.lookup x=some c:=by
 unfold jhu at h
 rw[List.mem_reverse,List.mem_filterMap]at h
 obtain⟨⟨n,k⟩,hm,e⟩:=h
 by_cases hk:k=.free
 ·subst hk
  simp only[beq_self_eq_true,if_true]at e
  cases q:cells.lookup n with
  |none=>rw[q]at e;cases e
  |some a =>
   rw[q]at e
   have e':(n,a)=(x,c):=Option.some.inj e
   cases e'
   exact⟨hm,q⟩
 ·have hb:(k == NameKind.free)=false:=by simpa using hk
  simp only[hb,Bool.false_eq_true,if_false]at e
  cases e
theorem jbe {names:List (Str×NameKind)}{cells:List (Str×Addr)}{x:Str}{c:Addr}(h:(jhu names cells).lookup x=some c):cells.lookup x=some c:=(jpA (PySem.mem_of_lookup h)).2
theorem jhl {α:Type}{x:Str}{l:List (Str×α)}{a:α}(h:(x,a)∈l):∃b,l.lookup x=some b:=by
 induction l with
 |nil=>cases h
 |cons p r ih =>
  obtain⟨n,b⟩:=p
  by_cases e:x=n
  ·subst e;exact⟨b,by simp[List.lookup_cons]⟩
  ·rcases List.mem_cons.mp h with z | z
   ·cases z;exact absurd rfl e
   ·obtain⟨b',q⟩:=ih z
    exact⟨b',by rw[List.lookup_cons,(by simpa using e:(x == n)=false)];exact q⟩
theorem jjU {names:List (Str×NameKind)}{cells:List (Str×Addr)}{x:Str}{c:Addr}(h:(x,NameKind.free)∈names)(hc:cells.lookup x=some c):(jhu names cells).lookup x=some c:=by
 have hm:(x,c)∈jhu names cells:=by
  unfold jhu
  rw[List.mem_reverse,List.mem_filterMap]
  exact⟨(x,.free),h,by simp[hc]⟩
 obtain⟨b,q⟩:=jhl hm
 have:=jbe q
 rw[hc]at this
 cases this
 exact q
theorem jdP {scope:Scope}{env:Env}{x:Str}(hc:∀y∈scope.names,y.2≠.cell)(h:(relabel scope env).names.lookup x=some .cell∨(relabel scope env).names.lookup x=some .free):(x,NameKind.free)∈scope.names:=by
 have key:∀k,(relabel scope env).names.lookup x=some k→(k=.cell∨k=.free)→(x,NameKind.free)∈scope.names:=fun k q hk=>by
  have m:=PySem.mem_of_lookup q
  unfold relabel at m
  rw[List.mem_map]at m
  obtain⟨⟨n,k'⟩,hm,e⟩:=m
  dsimp only at e
  by_cases hf:k'=.free
  ·subst hf
   split at e <;> cases e <;> exact hm
  ·have hb:(k' == NameKind.free)=false:=by simpa using hf
   simp only[hb,Bool.false_and,Bool.false_eq_true,if_false]at e
   cases e
   rcases hk with rfl | rfl
   ·exact absurd rfl (hc _ hm)
   ·exact absurd rfl hf
 rcases h with h | h
 ·exact key _ h (.inl rfl)
 ·exact key _ h (.inr rfl)
noncomputable def jbN (X:Cx)(N':List Str)(scope:Scope)(C:Addr)(fp:List Addr)(s₂:Shared)(H₂:Hp):Cx where
 prog:=X.prog
 w:=X.w
 K:=X.K
 mg:=X.mg
 base:=X.base
 A:=X.A
 N:=N'
 s₀:=s₂
 H₀:=H₂
 env:=compEnvC scope (jhu scope.names X.env.cells) C X.env
 outer:=X.stack
 stack:=X.stack
 ex:=fp
 fn:=fun _=>false
 calm:=X.calm
 pn:=[]
 xe:=fun _ _=>False
structure CompScope (X:Cx) (own N':List Str) (scope:Scope):Prop where
 kind:scope.kind=.function
 nocell:∀y∈scope.names,y.2≠.cell
 names:∀y∈scope.names,y.2=.local→scope.names.lookup y.1=some .local
 free:∀y∈scope.names,y.2=.free→(X.env.kindOf y.1=some .cell∨X.env.kindOf y.1=some .free)
 len:N'.length=own.length+X.N.length
 outer:∀(i:Nat) (x:Str),(N'.drop own.length)[i]?=some x→(x,NameKind.free)∈scope.names→X.N[i]?=some x
 apart:∀x∈N'.drop own.length,(relabel scope X.env).names.lookup x≠some .local
noncomputable def Cmp (J:It)(k:Nat)(g:TG)(tt:TT)(te:TE)(σ:St)(Q:VK)(H1:Hp):Prop:=∃W:Nat→Nat→List V→Hp→Prop,(∃m,W 0 m [] H1)∧∀i m ys H,W i m ys H →
 (J.stop i H∧∀p,H p=none→Q (.ref p) (upd H p (.lst ys))) ∨
 (J.go i H∧ys.length < sizeLine∧∃(N1:V→Hp→Prop) (N0:Hp→Prop),(∀y H',N1 y H'→∃m',m' < m∧W (i+1) m' (ys++[y]) H')∧(∀H',N0 H'→∃m',m' < m∧W (i+1) m' ys H') ∧
  ∀x H',J.yld i H x H'→g x (List.replicate k none++σ) H' fun σ2 H2=>tt σ2 H2 fun b H3=>if b=true then te σ2 H3 N1 else N0 H3)
noncomputable def jsv (k:Nat)(wi:TI)(g:TG)(tt:TT)(te:TE):TE:=fun σ H Q=>wi σ H fun J H1=>Cmp J k g tt te σ Q H1
noncomputable def PTs (X:Cx)(ifs:List Expr)(t:TT):Prop :=
 ∀(pins:List (Addr×Obj)) (s:Shared) (σ:St) (H:Hp) (Q:Bool→Hp→Prop),Inv X pins σ H s→t σ H Q →
  wpAny (model X.prog X.w) X.A (forIn ifs true fun c r=>if r=true then do let ok ← isTrue c X.env (eval c X.env);pure (ForInStep.yield ok) else pure (ForInStep.yield r)) (TP X pins σ Q) X.xe s
noncomputable def jyr:TT:=fun _ H Q=>Q true H
theorem jqx {X:Cx}:PTs X [] jyr:=fun _ _ σ H Q I h=>wpAny_tests_nil ⟨H,I,h⟩
theorem jsz {X:Cx}{c:Expr}{t:TT}(h:PT X c t):PTs X [c] t:=fun pins s σ H Q I q=>wpAny_tests_one (h pins s σ H Q I q)
noncomputable abbrev Nev:Value→Shared→Prop:=fun _ _=>False
noncomputable abbrev jtz (cs:List Expr) (en:Env):Sem Bool:=forIn cs true fun c yes=>if yes=true then isTrue c en (eval c en) >>= fun b=>pure (ForInStep.yield b) else pure (ForInStep.yield yes)
noncomputable abbrev jq8 (P:Program) (W:World) (B:Around) (elt tgt:Expr) (cs:List Expr) (src lst:Value) (en:Env) (Go:Shared→Prop) (v:Value):Shared→Prop:=wpAny (model P W) B (letOwnedTupleGo tgt src v) (fun _ t2 =>
 wpAny (model P W) B (assign tgt en v) (fun _ t3=>wpAny (model P W) B (jtz cs en) (fun yes t4=>if yes=true then wpAny (model P W) B (eval elt en) (fun x t5=>wpAny (model P W) B (call (.builtin "list.append") [lst,x]) (fun _ t6=>Go t6) Nev t5) Nev t4 else Go t4) Nev t3) Nev t2) Nev
theorem jig {P:Program}{W:World}{B:Around}{R:Result→Shared→Prop}{s:Shared}{elt tgt iter:Expr}{cs:List Expr}{scope:Scope}{pos:Pos}{src lst:Value}{en:Env}(J:Nat→Shared→Prop)
  (turn:∀k t,J k t→wpAny (model P W) B (pyNext src) (fun got t1=>match got with | none=>R (.ok .next) t1 | some v=>jq8 P W B elt tgt cs src lst en (fun t6=>∃j,j < k∧J j t6) v t1) Nev t)
  (k:Nat) (start:J k s):codeAny (model P W) B (.compLoop (.ListComp elt [⟨tgt,iter,cs,0⟩] scope pos) 0 src lst en) R s:=by
 refine codeAny_loop rfl J (fun j t hj=>?_) k start
 refine (?_:wpAny _ B ((compTurn (.ListComp elt [⟨tgt,iter,cs,0⟩] scope pos) 0 src lst en).onRaise fun x=>do noteFrame x en;theTreesLotGoes x) _ _ t)
 refine wpAny_noted ?_
 rw[compTurn_list]
 refine wpAny_bind (wpAny_standAt (wpAny_bind (wpAny_mono (turn j t hj) (fun got t1 h1=>?_) fun _ _ no=>no.elim)))
 match got,h1 with
 |none,h1=>exact wpAny_pure h1
 |some v,h1 =>
  refine wpAny_bind (wpAny_mono h1 (fun _ t2 h2=>wpAny_bind (wpAny_mono h2 (fun _ t3 h3=>wpAny_bind (wpAny_mono h3 (fun yes t4 h4=>?_) fun _ _ no=>no.elim)) fun _ _ no=>no.elim)) fun _ _ no=>no.elim)
  match yes,h4 with
  |true,h4=>exact wpAny_bind (wpAny_bind (wpAny_mono h4 (fun x t5 h5=>wpAny_bind (wpAny_mono h5 (fun _ t6 h6=>wpAny_pure (wpAny_pure ⟨rfl,h6⟩)) fun _ _ no=>no.elim)) fun _ _ no=>no.elim))
  |false,h4=>exact wpAny_pure ⟨rfl,h4⟩
section
variable {X:Cx}
theorem CompScope.ok {own N':List Str}{scope:Scope}{C:Addr}{fp:List Addr}{s₂:Shared}{H₂:Hp}{pins:List (Addr×Obj)}{σ:St}(S:CompScope X own N' scope)(I:Inv X pins σ H₂ s₂)(hC:s₂.heap.objs.size≤C)
  (hf:∀b∈fp,jnG X pins H₂ b) (hlt:∀b∈fp,b < s₂.heap.objs.size):(jbN X N' scope C fp s₂ H₂).Ok where
 mod:=I.ok.mod
 kind:=S.kind
 glob:=I.ok.glob
 blt:=I.ok.blt
 above:=hC
 inj:=fun x y c h1 h2=>I.ok.inj x y c (jbe h1) (jbe h2)
 has:=fun x h=>by
  have hm:=jdP S.nocell h
  obtain⟨c,hc⟩:=I.ok.has x (S.free _ hm rfl)
  exact⟨c,jjU hm hc⟩
 cab:=fun x c h=>by cases h
 hd:=I.ok.hd
 frames:=I.ok.frames
 stk:=.inl rfl
 exf:=fun b hb=>⟨jeV (hlt b hb) hC,fun x c h=>(hf b hb).2.2.2.2.1 x c (jbe h)⟩
 bs:=I.bs
 bsz:=Nat.le_trans I.ok.bsz I.sz
 noex:=fun b o e hb=>by
  rcases (hf b hb).2.2.2.1 with z | z
  ·exact I.ok.noex b o e z
  ·exact jwy (Heap.lt_size e) (Nat.le_trans I.ok.bsz z)
 exfs:=fun b hb hs=>by
  rcases List.mem_cons.mp (I.stkSub b hs) with z | z
  ·exact (hf b hb).2.1 z
  ·exact (hf b hb).2.2.1 z
 funs:=I.stack
 frf:=I.stkFree
theorem CompScope.inv {own N':List Str}{scope:Scope}{C D:Addr}{fp:List Addr}{s₂ s₄:Shared}{H₂:Hp}{pins:List (Addr×Obj)}{σ:St}{oD:Obj}{m:Str→Option Value}(S:CompScope X own N' scope)(I:Inv X pins σ H₂ s₂)(hC:s₂.heap.objs.size≤C)
  (hf:∀b∈fp,jnG X pins H₂ b) (hlt:∀b∈fp,b < s₂.heap.objs.size) (hos:s₄.os=s₂.os) (hg:s₄.gens=s₂.gens) (k:∀b u,s₂.heap.get? b=some u→s₄.heap.get? b=some u) (hn:s₄.heap.Ns C m)
  (hD:s₄.heap.get? D=some oD) (hDs:s₂.heap.objs.size≤D) (hDC:D≠C) (hDd:∀v,oD.data≠.cell v) :
  Inv (jbN X N' scope C fp s₂ H₂) [(D,oD)] (List.replicate own.length none++σ) H₂ s₄ where
 ok:=S.ok I hC hf hlt
 os:=hos
 bare:=by rw[hg];exact I.bare
 base:=Un.kept k
 loc:=⟨m,hn,fun i x v e1 e2 e3=>by
  obtain⟨mX,hnX,hlX⟩:=I.loc
  have hge:own.length≤i:=by
   refine Nat.le_of_not_lt fun hi=>?_
   rw[List.getElem?_append_left (by simpa using hi),List.getElem?_replicate]at e2
   split at e2 <;> cases e2
  rw[List.getElem?_append_right (by simpa using hge),List.length_replicate]at e2
  have e1':(N'.drop own.length)[i - own.length]?=some x:=by
   rw[List.getElem?_drop,show own.length+(i - own.length)=i by omega]
   exact e1
  have nl:=S.apart x (List.mem_of_getElem? e1')
  have hfr:(x,NameKind.free)∈scope.names:=by
   rcases e3 with z | z | z
   ·exact absurd z nl
   ·exact jdP S.nocell (.inl z)
   ·exact jdP S.nocell (.inr z)
  have hk:=S.free _ hfr rfl
  obtain⟨u,r,l⟩:=hlX (i - own.length) x v (S.outer _ _ e1' hfr) e2 (by
   rcases hk with z | z
   ·exact .inr (.inl z)
   ·exact .inr (.inr z))
  refine⟨u,r,?_⟩
  rcases l with ⟨z,_⟩ | ⟨_,c,hc,o,ho,hd⟩
  ·rcases hk with q | q
   ·rw[q]at z;cases z
   ·rw[q]at z;cases z
  ·refine .inr ⟨?_,c,jjU hfr hc,o,k _ _ ho,hd⟩
   rcases e3 with z | z | z
   ·exact absurd z nl
   ·exact .inl z
   ·exact .inr z⟩
 cell:=fun x c h=>by
  obtain⟨v,o,ho,hd⟩:=I.cell x c (jbe h)
  exact⟨v,o,k _ _ ho,hd⟩
 free:=I.hok.fresh hC
 freeC:=fun x c h=>I.freeC x c (jbe h)
 pin:=fun p hp=>by
  have e:p=(D,oD):=by
   have hp':p∈[(D,oD)]:=hp
   simpa using hp'
  subst e
  refine⟨hD,I.hok.fresh hDs,hDC,fun z=>?_,hDd⟩
  rcases List.mem_cons.mp (I.stkSub D z) with q | q
  ·exact jeV I.lt hDs q.symm
  ·exact I.nofs hDs q
 hok:=I.hok.kept k
 len:=by
  show _=N'.length
  rw[S.len,List.length_append,List.length_replicate,I.len]
theorem jgH {own N':List Str}{scope:Scope}{elt tg iter:Expr}{ifs:List Expr}{pos:Pos}{g:TG}{tt:TT}{te:TE}{it:Addr}{fp:List Addr}{tn:Nat→Heap→Prop}{J:It}{pins:List (Addr×Obj)}{s₂:Shared}{σ:St}{H₂:Hp}{Q:VK}
  {RR:Value→Addr→Result→Shared→Prop} {E:Value→Shared→Prop} (hc:X.calm=true) (S:CompScope X own N' scope)
  (hg:∀C s H,PG (jbN X N' scope C fp s H) tg g) (ht:∀C s H,PTs (jbN X N' scope C fp s H) ifs tt) (he:∀C s H,PE (jbN X N' scope C fp s H) elt te)
  (I:Inv X pins σ H₂ s₂) (T:Turn X.prog X.w X.K tg J fp it tn) (st:tn 0 s₂.heap) (hf:∀b∈fp,jnG X pins H₂ b)
  (W:Nat→Nat→List V→Hp→Prop) (m0:Nat) (w0:W 0 m0 [] H₂)
  (turn:∀i m ys H,W i m ys H→(J.stop i H∧∀p,H p=none→Q (.ref p) (upd H p (.lst ys))) ∨
   (J.go i H∧ys.length < sizeLine∧∃(N1:V→Hp→Prop) (N0:Hp→Prop),(∀y H',N1 y H'→∃m',m' < m∧W (i+1) m' (ys++[y]) H')∧(∀H',N0 H'→∃m',m' < m∧W (i+1) m' ys H') ∧
    ∀x H',J.yld i H x H'→g x (List.replicate own.length none++σ) H' fun σ2 H2=>tt σ2 H2 fun b H3=>if b=true then te σ2 H3 N1 else N0 H3))
  (hRR:∀(D C:Addr) (s':Shared) (H':Hp) (m':Str→Option Value),Inv X pins σ H' s'→Q (.ref D) H'→s'.heap.Ns C m'→H' C=none→C≠X.env.locals→X.s₀.heap.objs.size≤C→(∀x c,X.env.cells.lookup x=some c→c≠C)→(∀p∈X.pn++pins,p.1≠C) →
   RR (.ref D) C (.ok .next) s') :
  wpAny (model X.prog X.w) X.A (newList []) (fun acc s₃=>wpAny (model X.prog X.w) X.A (newFunctionEnv scope X.env.globals (jhu scope.names X.env.cells) [] X.env.qual none .none (some X.env)) (fun cenv s₄ =>
   codeAny (model X.prog X.w) X.A (.compStart (.ListComp elt [⟨tg,iter,ifs,0⟩] scope pos) 0 (.ref it) acc {cenv with scope:=relabel scope X.env}) (RR acc cenv.locals) s₄) E s₃) E s₂:=by
 refine wpAny_newObj_type (wpAny_newFunctionEnv S.nocell (by intro y hy;simp at hy) (fun h₁ hns₁ hsb₁=>?_) S.kind)
 dsimp only at hns₁ hsb₁ ⊢
 generalize hH2:s₂.heap.push {cls:=.type "list",dict:=none,data:=.seq ([]:List Value).toArray}=H2 at hns₁ hsb₁ ⊢
 have hC:H2.objs.size=s₂.heap.objs.size+1:=hH2 ▸ Heap.size_push ..
 have hDC:s₂.heap.objs.size≠H2.objs.size:=Nat.ne_of_lt (by omega)
 have hCle:s₂.heap.objs.size≤H2.objs.size:=hC ▸ Nat.le_add_right _ 1
 have below:∀b,b < s₂.heap.objs.size→b≠H2.objs.size∧b≠s₂.heap.objs.size:=fun b hb=>⟨Nat.ne_of_lt (Nat.lt_of_lt_of_le hb hCle),Nat.ne_of_lt hb⟩
 have old:∀b o,s₂.heap.get? b=some o→h₁.get? b=some o:=fun b o e=>hsb₁.extBut b o (below b (Heap.lt_size e)).1 (Heap.get?_push_of_some _ (hH2 ▸ Heap.get?_push_of_some _ e))
 have hacc:h₁.get? s₂.heap.objs.size=some {cls:=.type "list",data:=.seq ([]:List Value).toArray 0}:=hsb₁.extBut _ _ hDC (Heap.get?_push_of_some _ (hH2 ▸ Heap.get?_push_size _ rfl))
 have hflt:∀b∈fp,b < s₂.heap.objs.size:=fun b hb=>by
  obtain⟨o,e,_⟩:=T.obj 0 _ st b hb
  exact Heap.lt_size e
 generalize hCd:H2.objs.size=C at *
 generalize hDd:s₂.heap.objs.size=D at *
 have hDnf:D∉X.fs:=I.nofs (Nat.le_of_eq hDd)
 have stat:∀{H':Hp} {o:Obj},(∀b∈fp,H' b=none)→∀b∈fp,jnG (jbN X N' scope C fp s₂ H₂) [(D,o)] H' b:=fun {H' o} hn b hb =>
  ⟨hn b hb,(jeV (hflt b hb) hCle),fun z=>(S.ok I (hDd ▸ hCle) hf (by rw[hDd];exact hflt)).exfs b hb z,.inl hb,fun x c h=>(hf b hb).2.2.2.2.1 x c (jbe h),fun p hp=>by
   have e:p=(D,o):=by
    have hp':p∈[(D,o)]:=hp
    simpa using hp'
   subst e
   exact Ne.symm (Nat.ne_of_lt (hflt b hb))⟩
 have loop:∀s₃:Shared,s₃={s₂ with heap:=h₁,toks:=s₂.toks+([]:List (Str×Value)).length} →
   codeAny (model X.prog X.w) X.A (.compLoop (.ListComp elt [⟨tg,iter,ifs,0⟩] scope pos) 0 (.ref it) (.ref D) (compEnvC scope (jhu scope.names X.env.cells) C X.env)) (RR (.ref D) C) s₃:=by
  rintro s₃ rfl
  refine jig (fun n s'=>∃i ys us nn H',Inv (jbN X N' scope C fp s₂ H₂) [(D,{cls:=.type "list",data:=.seq (us:List Value).toArray nn})] (List.replicate own.length none++σ) H' s'∧ja6 ys us∧ys.length≤sizeLine ∧
   tn i s'.heap∧(∀b∈fp,H' b=none)∧W i n ys H') ?_ m0 ⟨0,[],[],0,H₂,S.inv (m:=fun x=>([]:List (Str×Value)).reverse.lookup x) I (by rw[hDd];exact hCle) hf (by rw[hDd];exact hflt) rfl rfl old hns₁ hacc (Nat.le_of_eq hDd) hDC (by intro v z;cases z),.nil,Nat.zero_le _,
    T.keep _ _ _ st fun b hb o e=>old b o e,fun b hb=>(hf b hb).1,w0⟩
  rintro n s3 ⟨i,ys,us,nn,H3,I3,rv,hyz,st3,fr3,w3⟩
  rcases turn i n ys H3 w3 with ⟨stop,qn⟩ | ⟨go,hlt,N1,N0,hN1,hN0,step⟩
  ·refine thn (T.done (jbN X N' scope C fp s₂ H₂) rfl rfl rfl hc i _ s3 _ H3 (fun _ _=>False) I3 (stat fr3) st3 stop) fun r s4 ⟨hr,I4⟩=>?_
   subst hr
   obtain⟨e4,n4,ne4,nf4,d4⟩:=I4.pin (D,_) (List.mem_append_right _ (List.mem_cons_self))
   obtain⟨mC,hmC,_⟩:=I4.loc
   have hH4:H3 D=none:=n4
   have U:Un (frs X.stack) fp H₂ H3 s₂.heap s4.heap:=I4.base
   have U':Un (frs X.stack) fp H₂ (upd H3 D (.lst ys)) s₂.heap s4.heap :=
    {keep:=U.keep,slot:=U.slot,there:=U.there
     free:=fun b o e nb hx=>by
      rw[jal (jeV (Heap.lt_size e) (Nat.le_of_eq hDd))]
      exact U.free b o e nb hx
     tups:=fun b xs e=>by
      rw[jal (jeV (I.hok.lt e) (Nat.le_of_eq hDd))]
      exact U.tups b xs e
     frzs:=fun b o xs e=>by
      rw[jal (jeV (I.hok.lt e) (Nat.le_of_eq hDd))]
      exact U.frzs b o xs e
     tbls:=fun b ps e=>by
      rw[jal (jeV (I.hok.lt e) (Nat.le_of_eq hDd))]
      exact U.tbls b ps e}
   have hokD:HOk X.prog X.w (upd H3 D (.lst ys)) s4.heap:=fun b u e=>by
    by_cases hb:b=D
    ·subst hb
     rw[jay]at e
     cases e
     exact⟨hyz,us,nn,rv,e4⟩
    ·rw[jal hb]at e
     exact (I4.hok b u e).stay (fun _ _ _ q=>q) (fun c q=>by rw[jal (jaj q hH4)];exact q) fun c xs q=>by rw[jal (jaj q hH4)];exact q
   have IX:Inv X pins σ (upd H3 D (.lst ys)) s4:=I.call' I4.os U' hokD I4.bare fun b hb=>by
    obtain⟨f0,f1,f2,f3,f4,f5⟩:=hf b hb
    exact⟨f3,f1,f4,f5⟩
   have hDne:C≠D:=fun z=>hDC z.symm
   refine hRR D C s4 _ mC IX (qn D hH4) hmC (by rw[jal hDne];exact I4.free) (fun z=>?_) ?_ (fun x c h z=>?_) fun p hp z=>?_
   ·exact jeV I.lt (hDd ▸ hCle) z.symm
   ·exact Nat.le_trans I.sz (hDd ▸ hCle)
   ·obtain⟨v,o,ho,_⟩:=I.cell x c h
    exact jeV (Heap.lt_size ho) (hDd ▸ hCle) z
   ·exact jeV (Heap.lt_size (I.pin p hp).1) (hDd ▸ hCle) z
  ·refine thn (T.item (jbN X N' scope C fp s₂ H₂) rfl rfl rfl hc i _ s3 _ H3 (fun _ _=>False) I3 (stat fr3) st3 go) fun r s4 ⟨u,hr,h4⟩=>?_
   subst hr
   refine thn h4 fun _ s5 ⟨x,H5,I5,r5,y5,st5,fr5⟩=>?_
   have I5':=I5.pinned (stat fr5) (T.obj _ _ st5)
   refine thn (hg C s₂ H₂ _ s5 _ H5 x u _ I5' r5 (step x H5 y5)) fun _ s6 ⟨σ6,H6,I6,q6⟩=>?_
   have back:∀{σ7:St} {H7:Hp} {s7:Shared} {pp:List (Addr×Obj)},Inv (jbN X N' scope C fp s₂ H₂) (pp++jh1 fp s5.heap) σ7 H7 s7→tn (i+1) s7.heap∧∀b∈fp,H7 b=none:=fun {σ7 H7 s7 pp} I7=>by
    refine⟨T.keep _ _ _ st5 fun b hb o e=>(I7.pin (b,o) (List.mem_append_right _ (List.mem_append_right _ (jd0 hb e)))).1,fun b hb=>?_⟩
    obtain⟨o,e,d⟩:=T.obj _ _ st5 b hb
    exact (I7.pin (b,o) (List.mem_append_right _ (List.mem_append_right _ (jd0 hb e)))).2.1
   refine thn (ht C s₂ H₂ _ s6 σ6 H6 _ I6 q6) fun b s7 ⟨H7,I7,q7⟩=>?_
   have weak:∀{H8:Hp} {s8:Shared} {pp:List (Addr×Obj)},Inv (jbN X N' scope C fp s₂ H₂) pp σ6 H8 s8→Inv (jbN X N' scope C fp s₂ H₂) pp (List.replicate own.length none++σ) H8 s8:=fun {H8 s8 pp} J8=>by
    obtain⟨mC,hmC,_⟩:=J8.loc
    refine⟨J8.ok,J8.os,J8.bare,J8.base,⟨mC,hmC,fun j y v e1 e2 e3=>?_⟩,J8.cell,J8.free,J8.freeC,J8.pin,J8.hok,I3.len⟩
    obtain⟨m3,hm3,hl3⟩:=(S.inv (m:=fun x=>([]:List (Str×Value)).reverse.lookup x) (s₄:={s₂ with heap:=h₁,toks:=s₂.toks+([]:List (Str×Value)).length}) I (by rw[hDd];exact hCle) hf (by rw[hDd];exact hflt) rfl rfl old hns₁ hacc (Nat.le_of_eq hDd) hDC (by intro v z;cases z)).loc
    obtain⟨u',r',l'⟩:=hl3 j y v e1 e2 e3
    refine⟨u',r',?_⟩
    rcases l' with ⟨k',z'⟩ | ⟨k',c,hcl,o,ho,hd⟩
    ·have hge:own.length≤j:=by
      refine Nat.le_of_not_lt fun hj=>?_
      rw[List.getElem?_append_left (by simpa using hj),List.getElem?_replicate]at e2
      split at e2 <;> cases e2
     have e1':(N'.drop own.length)[j - own.length]?=some y:=by
      rw[List.getElem?_drop,show own.length+(j - own.length)=j by omega]
      exact e1
     exact absurd k' (S.apart y (List.mem_of_getElem? e1'))
    ·obtain⟨vc,oc,hoc,hdc⟩:=I.cell y c (jbe hcl)
     have ec:oc=o:=by
      have:=old c oc hoc
      rw[this]at ho
      exact Option.some.inj ho
     subst ec
     obtain⟨sl,hsl⟩:=J8.base.any hoc (I.freeC y c (jbe hcl)) (fun z=>(hf c z).2.2.2.2.1 y c (jbe hcl) rfl)
     exact .inr ⟨k',c,hcl,_,hsl,hd⟩
   cases b with
   |false =>
    obtain⟨m',hm,w7⟩:=hN0 _ q7
    obtain⟨st7,fr7⟩:=back I7
    exact⟨m',hm,i+1,ys,us,nn,H7,weak I7.unpinned,rv,hyz,st7,fr7,w7⟩
   |true =>
    refine thn (he C s₂ H₂ _ s7 σ6 H7 _ I7 q7) fun yv s8 ⟨y,H8,I8,r8,q8⟩=>?_
    obtain⟨m',hm,w8⟩:=hN1 _ _ q8
    obtain⟨st8,fr8⟩:=back I8
    obtain⟨e8,n8,ne8,nf8,d8⟩:=I8.pin (D,_) (List.mem_append_right _ (List.mem_append_left _ List.mem_cons_self))
    refine append_at (hsz:=by rw[List.size_toArray,← rv.length];exact hyz) e8 fun h9 hs9 hD9=>?_
    have I8':Inv (jbN X N' scope C fp s₂ H₂) [] σ6 H8 s8:=I8.pins_of fun p hp=>nomatch hp
    have I9:Inv (jbN X N' scope C fp s₂ H₂) [] σ6 H8 {s8 with heap:=h9}:=I8'.turned (t':=s8.toks) (it:=D) (fun b o hb e=>hs9.extBut b o hb e) n8 ne8 (.inr (Nat.le_of_eq hDd)) (fun x c h z=>by
     obtain⟨v,o,ho,_⟩:=I.cell x c (jbe h)
     exact jeV (Heap.lt_size ho) (Nat.le_of_eq hDd) z) fun p hp=>nomatch (show p∈([]:List (Addr×Obj)) from hp)
    have eqD:({cls:=.type "list",data:=.seq (us.toArray.push yv) (nn+1)}:Obj)={cls:=.type "list",data:=.seq (us++[yv]).toArray (nn+1)}:=by rw[List.push_toArray]
    refine⟨m',hm,i+1,ys++[y],us++[yv],nn+1,H8,weak (I9.pins_of fun p hp=>?_),rv.append (.cons r8 .nil),by rw[List.length_append];exact hlt,T.keep _ _ _ st8 fun b hb o e=>hs9.extBut b o (Nat.ne_of_lt (hflt b hb)) e,fr8,w8⟩
    have e:p=(D,{cls:=.type "list",data:=.seq (us++[yv]).toArray (nn+1)}):=by simpa using hp
    subst e
    exact⟨by rw[← eqD];exact hD9,n8,ne8,nf8,by intro v z;cases z⟩
 exact codeAny_compStart_list (loop _ rfl) (T.self _ 0 _ _ _ (T.keep _ _ _ st fun b hb o e=>old b o e) (loop _ rfl))
end
end _L2
namespace _L2
open PySem PySem.Spec PyProof.Rows
section
variable {X:Cx}
theorem jgN {own N':List Str}{scope:Scope}(S:CompScope X own N' scope){pins:List (Addr×Obj)}{s:Shared}{σ:St}{H:Hp}(I:Inv X pins σ H s) :
  closureFor scope X.env=pure (jhu scope.names X.env.cells):=jg3 fun p hp hf=>I.ok.has p.1 (S.free p hp hf)
theorem jqB {own N':List Str}{scope:Scope}{elt tg iter:Expr}{ifs:List Expr}{pos:Pos}{wi:TI}{g:TG}{tt:TT}{te:TE}(hc:X.calm=true)(S:CompScope X own N' scope)(hi:PI X tg iter wi)
  (hg:∀C fp s H,PG (jbN X N' scope C fp s H) tg g) (ht:∀C fp s H,PTs (jbN X N' scope C fp s H) ifs tt) (he:∀C fp s H,PE (jbN X N' scope C fp s H) elt te)
  (hs:∀x,foldedSetIterable iter X.env x=pure x:=by intro _;rfl):PE X (.ListComp elt [⟨tg,iter,ifs,0⟩] scope pos) (jsv own.length wi g tt te):=by
 intro pins s σ H Q I h
 rw[eval_ListComp]
 refine wpAny_comprehension_free (use:=none) rfl hs (jgN S I) S.kind S.names (thn (hi pins s σ H _ I h) fun v s1 h1=>thn h1 fun itv s2 h2=>?_)
 obtain⟨it,fp,tn,J,H2,e,I2,T,st2,f2,W,⟨m0,w0⟩,turn⟩:=h2
 subst e
 refine jgH (RR:=fun acc C=>compPost (model X.prog X.w) X.A X.xe none (EP X pins σ Q) acc C) hc S (fun C s H=>hg C fp s H) (fun C s H=>ht C fp s H) (fun C s H=>he C fp s H) I2 T st2 f2 W m0 w0 turn ?_
 intro D C s' H' m' I' q' hn hC h1 h2' h3 h4
 refine⟨m',hn,fun h' hsb=>?_⟩
 exact⟨.ref D,H',I'.turned (t':=s'.toks) (it:=C) (fun b o hb e=>hsb.extBut b o hb e) hC h1 (.inr h2') h3 h4,rfl,q'⟩
theorem jk4 {own N':List Str}{scope:Scope}{elt tg iter:Expr}{ifs:List Expr}{pos spos py:Pos}{wi:TI}{g:TG}{tt:TT}{te:TE}{i:Nat}{y:Str}(hN:X.N.Nodup)(hy:X.N[i]?=some y)(hx:Loc X.env.scope y)(hc:X.calm=true)(S:CompScope X own N' scope)(hi:PI X tg iter wi)
  (hg:∀C fp s H,PG (jbN X N' scope C fp s H) tg g) (ht:∀C fp s H,PTs (jbN X N' scope C fp s H) ifs tt) (he:∀C fp s H,PE (jbN X N' scope C fp s H) elt te)
  (hsw:swapsWith (.ListComp elt [⟨tg,iter,ifs,0⟩] scope pos) (some (.Name y py)) spos.line X.env=pure true)
  (hs:∀x,foldedSetIterable iter X.env x=pure x:=by intro _;rfl) (hf:X.fn y=true∨X.env.scope.names.lookup y=some .local:=by first | exact .inl rfl | exact .inr rfl | assumption) :
  PS X (.Assign [.Name y py] (.ListComp elt [⟨tg,iter,ifs,0⟩] scope pos) spos) (jvG (jsv own.length wi g tt te) (je4 i)):=by
 intro pins s σ H D I h
 rw[exec_Assign_Name_used _ _ _ _ hsw]
 refine wpAny_bind (wpAny_standAt (wpAny_bind ?_))
 show wpAny _ X.A (do let _ ← comprehension (.ListComp elt [⟨tg,iter,ifs,0⟩] scope pos) scope X.env _ (newList []) false (eval iter X.env) (some (assign (.Name y py) X.env))) _ _ s
 refine wpAny_bind (wpAny_mono (wpAny_comprehension_free (use:=some (assign (.Name y py) X.env)) (Q:=fun _ s'=>SP X pins D .next s') rfl hs (jgN S I) S.kind S.names
  (thn (hi pins s σ H _ I h) fun v s1 h1=>thn h1 fun itv s2 h2=>?_)) (fun _ s' hq=>wpAny_pure (wpAny_pure hq)) fun _ _ e=>e)
 obtain⟨it,fp,tn,J,H2,e,I2,T,st2,f2,W,⟨m0,w0⟩,turn⟩:=h2
 subst e
 refine jgH (Q:=fun x H1=>je4 i x σ H1 D.nx) (RR:=fun acc C=>compPost (model X.prog X.w) X.A X.xe (some (assign (.Name y py) X.env)) (fun _ s'=>SP X pins D .next s') acc C) hc S (fun C s H=>hg C fp s H) (fun C s H=>ht C fp s H) (fun C s H=>he C fp s H) I2 T st2 f2 W m0 w0 turn ?_
 intro D' C s' H' m' I' q' hn hC h1 h2' h3 h4
 show wpAny _ X.A (assign (.Name y py) X.env (.ref D')) _ _ _
 refine wpAny_assign_Name (jh5 (v:=.ref D') I' hN hy hx rfl (fun s'' I'' hch=>?_) hf)
 obtain⟨a,hsa,ha⟩:=hch
 have hCa:C≠a:=by
  rcases ha with z | z
  ·rw[z];exact h1
  ·exact Ne.symm (h3 _ _ z)
 refine⟨m',hn.sameBut hsa hCa,fun h' hsb=>?_⟩
 exact⟨_,H',I''.turned (t':=s''.toks) (it:=C) (fun b o hb e=>hsb.extBut b o hb e) hC h1 (.inr h2') h3 h4,q'⟩
noncomputable def Its (z:Str):It:=⟨fun i _=>i < z.cps.size,fun i H x H'=>H'=H∧∃c,z.cps[i]?=some c∧x=.str ⟨#[c]⟩,fun i _=>z.cps.size≤i⟩
theorem joi {P:Program} {w:World} {K:PySem.W.Frag} {tg:Expr} (it:Addr) (z:Str) (t:Tok) (ty:String) (hty:ty = "str_ascii_iterator"∨ty = "str_iterator"):Turn P w K tg (Its z) [it] it (fun i h=>h.IsStrIter it ty z t i) where
 mem:=by simp
 obj:=fun i h st b hb=>by
  have e:b=it:=by simpa using hb
  subst e
  obtain⟨o,e,c,d⟩:=st
  exact⟨o,e,fun v z=>by rw[d]at z;cases z⟩
 keep:=fun i h h' st k=>by
  obtain⟨o,e,c,d⟩:=st
  exact⟨o,k it (by simp) o e,c,d⟩
 item:=by
  intro X hP hw hK hc i pins s σ H E I hf st hg
  subst hP hw hK
  have hg':i < z.cps.size:=hg
  have hx:z.cps[i]?=some z.cps[i]:=by simp[hg']
  obtain⟨f0,f1,f2,f3,f4,f5⟩:=hf it (by simp)
  have fin:∀h',h'.IsStrIter it ty z t (i+1)→Heap.SameBut it s.heap h'→∃u,some (Value.str ⟨#[z.cps[i]]⟩ s.toks)=some u ∧
    wpAny (model X.prog X.w) X.A (letOwnedTupleGo tg (.ref it) u) (fun _ s2=>∃x H',Inv X pins σ H' s2∧jba x u∧(Its z).yld i H x H'∧s2.heap.IsStrIter it ty z t (i+1)∧∀b∈[it],H' b=none) E {s with heap:=h',toks:=s.toks+1}:=fun h' st' sb=>by
   have I1:Inv X pins σ H {s with heap:=h',toks:=s.toks+1}:=I.turned (fun b o hb e=>(sb.2 b hb).trans e) f0 f1 f3 f4 f5
   obtain⟨o,e,c,d⟩:=id st'
   refine⟨_,rfl,jkZ (s:={s with heap:=h',toks:=s.toks+1}) e c d ?_ ⟨.str ⟨#[z.cps[i]]⟩,H,I1,⟨_,rfl⟩,⟨rfl,_,hx,rfl⟩,st',fun b hb=>(hf b hb).1⟩⟩
   rcases hty with q | q <;> rw[q] <;> decide
  rcases hty with q | q
  ·subst q
   exact wpAny_pyNext_ascii_item st hx fin
  ·subst q
   exact wpAny_pyNext_wide_item st hx fin
 done:=by
  intro X hP hw hK hc i pins s σ H E I hf st hg
  subst hP hw hK
  have hg':z.cps.size≤i:=hg
  have hx:z.cps[i]?=none:=by simp[hg']
  obtain⟨f0,f1,f2,f3,f4,f5⟩:=hf it (by simp)
  rcases hty with q | q
  ·subst q
   exact wpAny_pyNext_ascii_end (I.ok.hd hc) st hx fun h' eb=>⟨rfl,I.turned (t':=s.toks) (fun b o hb e=>eb b o hb e) f0 f1 f3 f4 f5⟩
  ·subst q
   exact wpAny_pyNext_wide_end (I.ok.hd hc) st hx fun h' eb=>⟨rfl,I.turned (t':=s.toks) (fun b o hb e=>eb b o hb e) f0 f1 f3 f4 f5⟩
 self:=fun A i s Q E st h=>by
  rcases hty with q | q
  ·subst q;exact wpAny_pyIter_striter_ascii st h
  ·subst q;exact wpAny_pyIter_striter_wide st h
noncomputable def jyo (tl:TE):TI:=fun σ H R=>tl σ H fun x H1=>∃z,x=.str z∧R (Its z) H1
theorem jw {tg:Expr}{l:Expr}{tl:TE}(hl:PE X l tl):PI X tg l (jyo tl):=by
 intro pins s σ H R I h
 refine thn (hl pins s σ H _ I h) fun v s1 ⟨x,H1,I1,r1,q1⟩=>?_
 obtain⟨z,e,q⟩:=q1
 subst e
 obtain⟨t,rfl⟩:=r1
 have fin:∀ty,(ty = "str_ascii_iterator"∨ty = "str_iterator")→PIE X pins σ tg R (.ref s1.heap.objs.size) {s1 with heap:=s1.heap.push {cls:=.type ty,data:=.fields #[.str z t,.int 0 0]}}:=fun ty hty =>
  ⟨s1.heap.objs.size,[s1.heap.objs.size],_,_,H1,rfl,I1.kept (t':=s1.toks) fun b o e=>Heap.get?_push_of_some _ e,joi _ z t ty hty,⟨_,Heap.get?_push_size _ rfl,rfl,rfl⟩,fun b hb=>by
   have e:b=s1.heap.objs.size:=by simpa using hb
   subst e
   exact I1.fpOk (Nat.le_refl _) (I1.hok.fresh (Nat.le_refl _)),q⟩
 cases ha:z.cps.all (· < 128)
 ·exact wpAny_pyIter_wide ha (fin _ (.inr rfl))
 ·exact wpAny_pyIter_ascii ha (fin _ (.inl rfl))
noncomputable def jua (K:PySem.W.Frag):R2:=fun x y H Q=>∃l b xs zs,x=.ref l∧y=.ref b∧SqL K H l xs∧SqL K H b zs∧xs.length+zs.length≤sizeLine∧∀p,H p=none→Q (.ref p) (upd H p (.lst (xs++zs)))
theorem jrb:OpR X (binaryOp .Add) (jua X.K):=by
 intro pins s σ H x y v u Q I rx ry h
 obtain⟨l,b,xs,zs,rfl,rfl,hH,hB,hz,q⟩:=h
 cases rx
 cases ry
 obtain⟨its,r,pl,z⟩:=I.list hH
 obtain⟨its2,r2,pl2,z2⟩:=I.list hB
 have hl:=r.length
 have hl2:=r2.length
 obtain⟨⟨cls,dd,data,sl⟩,n,ho,hc,_,hd⟩:=pl
 obtain⟨⟨cls2,dd2,data2,sl2⟩,n2,ho2,hc2,_,hd2⟩:=pl2
 simp only at hc hd hc2 hd2
 subst hc hd hc2 hd2
 have e:its.toArray++its2.toArray=(its++its2).toArray:=by simp
 refine concat_meets ⟨_,ho,rfl⟩ ⟨_,ho2,rfl⟩ noFill_list_add seq_list_add PySem.F.slot_list_add PySem.F.entry_list_add (PySem.F.args_list_add_2 _ _) (list_addW l b its.toArray its2.toArray n n2 dd dd2 sl sl2 (by rw[List.size_toArray,List.size_toArray];omega)) ⟨ho,ho2,?_⟩
 rw[e]
 exact⟨.ref _,_,I.lnew (t':=s.toks) (r.append r2) (by rw[List.length_append];omega),rfl,q _ I.fresh⟩
noncomputable def jx1:V→Option Int→Option Int→Hp→VK→Prop:=fun x lo hi H Q=>∃z,x=.str z∧z.length≤sizeLine∧Q (.str (Txt.slice z lo hi)) H
theorem jvy:SlR X jx1:=by
 intro pins s σ H x v vl vu lo hi sl Q I rx hs pl pu h
 obtain⟨z,rfl,hz,q⟩:=h
 obtain⟨t,rfl⟩:=rx
 refine⟨"str",_,PySem.F.slot_str_getitem.lookup,typeIs_str _ _ _,?_⟩
 have fin:∀(l u:Option (Int×Tok)),l.map (·.1)=lo→u.map (·.1)=hi→s.heap.IsSlice sl l u none→wpAny (model X.prog X.w) X.A (getItem (.str z t) (.ref sl)) (EP X pins σ Q) X.xe s:=fun l u el eu hs'=>by
  subst el eu
  exact wpAny_getItem_str_slice (l:=l) (u:=u) (st:=none) hs' rfl (post_val_or_str ⟨Nat.le_trans (Txt.slice_le z _ _) hz,fun t' k=>⟨.str _,H,I.tok _,⟨_,rfl⟩,q⟩⟩)
 cases pl with
 |none =>
  cases pu with
  |none=>exact fin none none rfl rfl hs
  |int j tj=>exact fin none (some (j,tj)) rfl rfl hs
 |int i ti =>
  cases pu with
  |none=>exact fin (some (i,ti)) none rfl rfl hs
  |int j tj=>exact fin (some (i,ti)) (some (j,tj)) rfl rfl hs
theorem jgL:∀{ys:List Str} {us:List Value},ja6 (ys.map V.str) us→StrsAre us ys
 |[],_,.nil=>.nil
 |y :: ys,_,.cons ⟨t,e⟩ r=>by
  subst e
  exact .cons y t (jgL r)
noncomputable def jvw (K:PySem.W.Frag):V→List V→Hp→VK→Prop:=fun x xs H Q=>∃z p ys,x=.str z∧xs=[.ref p]∧SqL K H p (ys.map V.str)∧(ys.map (·.length)).sum+ys.length * z.length≤16777216∧Q (.str (Txt.join z ys)) H
theorem jrA:MtR X "str.join" (jvw X.K):=by
 intro pins s σ H x xs v us Q I rx rv h
 obtain⟨z,p,ys,rfl,rfl,hq,hz,q⟩:=h
 obtain⟨t,rfl⟩:=rx
 obtain⟨u,rfl,ru⟩:=rv.one
 cases ru
 obtain⟨its,r,pl,hl⟩:=I.list hq
 exact join_list pl.isList (by simpa using jgL r) hz fun t' k=>⟨.str _,H,I.tok _,⟨_,rfl⟩,q⟩
theorem jn2:jcd X (.builtin "all") (fun xs H Q=>X.calm=true∧∃(p:Addr) (bs:List Bool),xs=[.ref p]∧SqL X.K H p (bs.map V.bl)∧Q (.bl (bs.all id)) H):=by
 intro pins s σ H xs us Q I r h
 obtain⟨hc,p,bs,rfl,hq,q⟩:=h
 obtain⟨u,rfl,rx⟩:=je2 r
 cases rx
 obtain⟨its,r',pl,hz⟩:=I.list hq
 have hl:=pl.isList
 have hlt:p < s.heap.objs.size:=by obtain⟨_,e,_⟩:=hl;exact Heap.lt_size e
 have hlen:=r'.length
 rw[List.length_map]at hlen
 refine call_all_walk (wpAny_pyIter_list hl ?_)
 refine⟨s.heap.objs.size,_,_,_,_,_,fun i=>bs.getD i true,rfl,Walks.list (A:=X.A.in1) (I.ok.hd hc) s.heap.objs.size p (Nat.ne_of_lt hlt) its.toArray,⟨⟨_,Heap.get?_push_size _ rfl,rfl,rfl⟩,hl.push _⟩,?_,fun h' tk hk=>?_⟩
 ·intro i v s' Q' E' hP hQ'
  have hP':its[i]?=some v:=by simpa using hP
  have hi:i < bs.length:=by rw[hlen];exact (List.getElem?_eq_some_iff.mp hP').1
  obtain⟨u',hu,ru⟩:=r'.get (i:=i) (x:=V.bl bs[i]) (by simp[hi])
  rw[hP']at hu
  cases hu
  cases (show v=Value.bool bs[i] from ru)
  have e:bs.getD i true=bs[i]:=by simp[List.getD,hi]
  exact wpAny_truthy_bool (by rw[← e];exact hQ')
 ·have e:(List.range its.toArray.size).all (fun i=>bs.getD i true)=bs.all id:=by
   rw[List.size_toArray,← hlen,Bool.eq_iff_iff,List.all_eq_true,List.all_eq_true]
   constructor
   ·intro a b hb
    obtain⟨i,hi,e⟩:=List.mem_iff_getElem.mp hb
    have:=a i (by simpa using hi)
    simpa[List.getD,hi,e] using this
   ·intro a i hi
    have hi':i < bs.length:=by simpa using hi
    have:=a bs[i] (List.getElem_mem hi')
    simpa[List.getD,hi'] using this
  rw[e]
  exact⟨.bl _,H,(I.kept (t':=s.toks) (h':=s.heap.push {cls:=.type "list_iterator",data:=.fields #[.ref p,.int 0 0]}) fun b o e=>Heap.get?_push_of_some _ e).turned (t':=tk) (it:=s.heap.objs.size) (fun b o hb e=>hk b o (by simpa using hb) e) I.fresh
   (Ne.symm (Nat.ne_of_lt I.lt)) (.inr I.sz) (fun x c h z=>by
    obtain⟨v,o,ho,_⟩:=I.cell x c h
    exact jeV (Heap.lt_size ho) (Nat.le_refl _) z) fun p hp z=>jeV (Heap.lt_size (I.pin p hp).1) (Nat.le_refl _) z,rfl,q⟩
theorem jm8:OpR X (compareOp .LtE) (fun x y H Q=>∃i j,x=.str i∧y=.str j∧Q (.bl (!decide (j.cps.toList < i.cps.toList))) H):=by
 intro pins s σ H x y v u Q I rx ry h
 obtain⟨i,j,rfl,rfl,q⟩:=h
 obtain⟨t,rfl⟩:=rx
 obtain⟨t',rfl⟩:=ry
 exact PySem.P.le_str ⟨.bl _,H,I,rfl,q⟩
end
end _L2
namespace _L2
open PySem PySem.Spec PyProof.Rows
theorem jp8:bootBuiltins "len" = some (.builtin "len"):=by decide +kernel
theorem jvC:bootBuiltins "all" = some (.builtin "all"):=by decide +kernel
theorem ju:bootBuiltins "sum" = some (.builtin "sum"):=by decide +kernel
theorem jtq:bootBuiltins "max" = some (.builtin "max"):=by decide +kernel
theorem juv:bootBuiltins "min" = some (.builtin "min"):=by decide +kernel
theorem jet:bootBuiltins "isinstance" = some (.builtin "isinstance"):=by decide +kernel
theorem jp3:bootBuiltins "int" = some (.type "int"):=by decide +kernel
theorem jqe:bootBuiltins "str" = some (.type "str"):=by decide +kernel
theorem jq4:bootBuiltins "bool" = some (.type "bool"):=by decide +kernel
theorem ji2:bootBuiltins "list" = some (.type "list"):=by decide +kernel
theorem jj7:bootBuiltins "tuple" = some (.type "tuple"):=by decide +kernel
theorem jus:bootBuiltins "set" = some (.type "set"):=by decide +kernel
theorem jhT:bootBuiltins "enumerate" = some (.type "enumerate"):=by decide +kernel
theorem jmJ:bootBuiltins "dict" = some (.type "dict"):=by decide +kernel
structure Callee (P:Program) (w:World) (K:PySem.W.Frag) (mg:Str→Option Value) (base:Heap) (k:Nat) (x:Str) (ps:List Str) (sp:Sp):Prop where
 ex:∃(f:Addr) (fd:FuncData),FnOk P w K mg base CX0 k f fd ps sp∧mg x=some (.ref f)∧PySem.W.keepIn K (.ref f)=true∧jgu K fd ps []
section
variable {X:Cx}
theorem jwD {k j:Nat}{x:Str}{ps:List Str}{sp:Sp}{e:Expr}{es:List Expr}{t:TA}{p pos:Pos}(c:Callee X.prog X.w X.K X.mg X.base k x ps sp)(hr:Room j X.A)(hg:Gl X x)(ha:PA X (e :: es) t)(hk:k≤j:=by decide)
  (hd:(x == ("__debug__" : Str))=false:=by decide) (hs:starEach (e :: es) X.env=(false,eval e X.env) :: starEach es X.env:=by rfl) (hplain:(backTo pos (starEach es X.env)).any (·.1)=false:=by rfl):PE X (.Call (.Name x p) (e :: es) [] pos) (jsi sp [] E0 t):=by
 obtain⟨f,fd,F,hm,hkp,hb⟩:=c.ex
 exact jqT (hdb:=hd) (he:=hs) (hpl:=hplain) F (hr.mono hk) hg hm hkp hb .nil jxv ha
noncomputable def csB (N:List Str)(env:Env)(own N':List Str)(scope:Scope):Bool :=
 scope.kind == .function && scope.names.all (fun y=>y.2 != .cell) && scope.names.all (fun y=>y.2 != .local || scope.names.lookup y.1 == some .local) &&
 scope.names.all (fun y=>y.2 != .free || env.kindOf y.1 == some .cell || env.kindOf y.1 == some .free) && N'.length == own.length+N.length &&
 ((N'.drop own.length).zip N).all (fun p=>p.1 == p.2 || !(scope.names.contains (p.1,NameKind.free))) && (N'.drop own.length).all (fun x=>(relabel scope env).names.lookup x != some .local)
theorem cs {own N':List Str}{scope:Scope}(h:csB X.N X.env own N' scope=true):CompScope X own N' scope:=by
 unfold csB at h
 simp only[Bool.and_eq_true]at h
 obtain⟨⟨⟨⟨⟨⟨h1,h2⟩,h3⟩,h4⟩,h5⟩,h6⟩,h7⟩:=h
 have hlen:N'.length=own.length+X.N.length:=by simpa using h5
 refine⟨by simpa using h1,fun y hy=>?_,fun y hy hl=>?_,fun y hy hf=>?_,hlen,fun i x hx hf=>?_,fun x hx=>?_⟩
 ·have:=List.all_eq_true.mp h2 y hy
  simpa using this
 ·have:=List.all_eq_true.mp h3 y hy
  simpa[hl] using this
 ·have:=List.all_eq_true.mp h4 y hy
  simpa[hf] using this
 ·have hi:i < (N'.drop own.length).length:=(List.getElem?_eq_some_iff.mp hx).1
  have hi':i < X.N.length:=by rw[List.length_drop]at hi;omega
  have hz:((N'.drop own.length).zip X.N)[i]?=some (x,X.N[i]):=by
   rw[List.getElem?_zip_eq_some]
   exact⟨hx,by simp[hi']⟩
  have:=List.all_eq_true.mp h6 _ (List.mem_of_getElem? hz)
  have hc:scope.names.contains (x,NameKind.free)=true:=by simpa using hf
  rw[hc]at this
  have e:x=X.N[i]:=by simpa using this
  rw[e]
  simp[hi']
 ·have:=List.all_eq_true.mp h7 x hx
  simpa using this
end
theorem jdw.upd {H H':Hp}{p:Addr}{o:HO}(e:jdw H H')(h:H' p=none):jdw H (upd H' p o):=fun b u q=>by
 have q':=e b u q
 rw[jal (jaj q' h)]
 exact q'
theorem jdw.tup {K:PySem.W.Frag}{H H':Hp}{a:Addr}{xs:List V}(e:jdw H H')(h:SqT K H a xs):SqT K H' a xs:=by
 rcases h with (h | ⟨o,h⟩) | h
 ·exact .inl (.inl (e _ _ h))
 ·exact .inl (.inr ⟨o,e _ _ h⟩)
 ·exact .inr h
theorem jjv:∀{l:List Str},(∀y∈l,y.length=1)→(l.map (·.length)).sum=l.length
 |[],_=>rfl
 |y :: l,h=>by
  rw[List.map_cons,List.sum_cons,h y List.mem_cons_self,jjv fun z hz=>h z (List.mem_cons_of_mem _ hz),List.length_cons]
  omega
noncomputable def spLaw (K:PySem.W.Frag):Sp:=fun vs H Q _=>∃(a:Addr) (ns:List Int),vs=[.ref a]∧SqL K H a (ns.map V.int)∧ns.length≤63∧∀H',Q (.bl true) H'
end _L2
namespace _L2
open PySem PySem.Spec PyProof.Rows
section
variable {X:Cx}
structure Maker (P:Program) (w:World) (K:PySem.W.Frag) (mg:Str→Option Value) (base:Heap) (k:Nat) (x:Str) (C:Addr) (ps:List Str) (sp:Sp):Prop where
 ex:∃(f:Addr) (fd:FuncData),Mk K C f∧FnOk P w K mg base CX0 k f fd ps sp∧mg x=some (.ref C)∧jgu K fd ps []
noncomputable def jkQ (σ:List Str)(v:Str):List Str:=if v∈σ then σ else σ++[v]
noncomputable def ddS (xs:List Str):List Str:=xs.foldl jkQ []
theorem jjo (σ:List Str)(v:Str):(jkQ σ v).length=if decide (v∈σ)=true then σ.length else σ.length+1:=by
 unfold jkQ
 by_cases h:v∈σ <;> simp[h]
theorem job (σ:List Str)(v k:Str):decide (k∈jkQ σ v)=(decide (k∈σ) || decide (k=v)):=by
 unfold jkQ
 by_cases h:v∈σ
 ·rw[if_pos h,Bool.eq_iff_iff]
  simp only[Bool.or_eq_true,decide_eq_true_eq]
  exact⟨.inl,fun z=>z.elim id fun e=>e ▸ h⟩
 ·rw[if_neg h,Bool.eq_iff_iff]
  simp only[Bool.or_eq_true,decide_eq_true_eq,List.mem_append,List.mem_singleton]
theorem jn3 (xs:List Str)(i:Nat)(v:Str)(h:xs[i]?=some v):ddS (xs.take (i+1))=jkQ (ddS (xs.take i)) v:=by
 unfold ddS
 rw[List.take_add_one,h,Option.toList_some,List.foldl_append]
 rfl
theorem jsB (σ:List Str)(v:Str):(jkQ σ v).length≤σ.length+1:=by
 rw[jjo]
 split <;> omega
theorem jmb:∀(xs σ:List Str),(xs.foldl jkQ σ).length≤σ.length+xs.length
 |[],σ=>Nat.le_refl _
 |x :: xs,σ=>by
  have h1:=jmb xs (jkQ σ x)
  have h2:=jsB σ x
  rw[List.foldl_cons,List.length_cons]
  omega
theorem jpN (xs:List Str):(ddS xs).length≤xs.length:=by
 have:=jmb xs []
 simpa[ddS] using this
theorem jgC:∀(xs σ:List Str),(σ++xs).Nodup→xs.foldl jkQ σ=σ++xs
 |[],σ,_=>by simp
 |x :: xs,σ,h=>by
  have hx:x∉σ:=fun hm=>by
   rw[List.nodup_append]at h
   exact h.2.2 x hm x List.mem_cons_self rfl
  rw[List.foldl_cons]
  have e:jkQ σ x=σ++[x]:=by
   unfold jkQ
   rw[if_neg hx]
  rw[e,jgC xs (σ++[x]) (by simpa using h)]
  simp
theorem jlL {xs:List Str}(h:xs.Nodup):(ddS xs).length=xs.length:=by
 unfold ddS
 rw[jgC xs [] (by simpa using h)]
 simp
theorem jf0 {P:Program}{W:World}{g g':Heap}{D:Addr}{f:Str→Bool}{n:Nat}(h:g.SetOf (strKind P W) D f n)(k:∀o,g.get? D=some o→g'.get? D=some o):g'.SetOf (strKind P W) D f n :=
 match h with
 |⟨o,es,ep,tb,at_,r⟩=>⟨o,es,ep,tb,k _ at_,r⟩
theorem jn0 {P:Program}{W:World}{B:Around}{R:Result→Shared→Prop}{src:Addr}{fp wr:List Addr}{zs:List Str}{Pv:Nat→Value→Prop}{Sx:Nat→Heap→Prop}(Wk:Walks P W B.in1 src fp wr zs.length Pv Sx)(D:Addr)(out:D∉fp)(texts:∀j v,Pv j v→∃z t,zs[j]?=some z∧v=.str z t)(few:zs.length+1 < scanBound)(left:Nat) :
  ∀(j:Nat) (t:Shared),zs.length - j=left→j≤zs.length→Sx j t.heap→t.heap.SetOf (strKind P W) D (fun z=>decide (z∈ddS (zs.take j))) (ddS (zs.take j)).length →
   (∀g tk,(∀b o,b≠D→b∉wr→t.heap.get? b=some o→g.get? b=some o)→g.SetOf (strKind P W) D (fun z=>decide (z∈ddS zs)) (ddS zs).length→R (.ok (.ret .none)) {t with heap:=g,toks:=tk}) →
   codeAny (model P W) B (.builtin "set.update.loop" ⟨[.ref D,.ref src],[]⟩) R t:=by
 have outw:D∉wr:=fun z=>out (Wk.sub _ z)
 induction left with
 |zero =>
  intro j t he hj here lies fin
  obtain rfl:j=zs.length:=by omega
  rw[List.take_length]at lies
  refine codeAny_builtin PyProof.Rows.F.entry_set_update_loop ?_
  rw[Around.under_plainId PyProof.Rows.F.plain_set_update_loop _]
  refine (wpAny_bind (Wk.done t _ _ here fun g tk kp=>?_):wpAny _ B.in1 (pyNext (.ref src) >>= _) _ _ t)
  show wpAny (model P W) B.in1 (ret Value.none) _ _ _
  exact wpAny_pure (fin g tk (fun b o _ nw e=>kp b o nw e) (jf0 lies fun o e=>kp D o outw e))
 |succ left ih =>
  intro j t he hj here lies fin
  refine codeAny_builtin PyProof.Rows.F.entry_set_update_loop ?_
  rw[Around.under_plainId PyProof.Rows.F.plain_set_update_loop _]
  refine (wpAny_bind (Wk.item j t _ _ (by omega) here fun v g1 tk1 hv here1 kp1=>?_):wpAny _ B.in1 (pyNext (.ref src) >>= _) _ _ t)
  obtain⟨z,tz,hz,rfl⟩:=texts j v hv
  have size:=jpN (zs.take j)
  rw[List.length_take]at size
  refine (wpAny_bind (wpAny_holding ?_):wpAny _ B.in1 (holding [Value.str z tz] (setAdd D (.str z tz)) >>= _) _ _ _)
  unfold setAdd
  refine wpAny_holding (wpAny_bind ((strKind P W).pyHash (k:=z) (strKind_is _ _ _ _) ?_))
  refine wpAny_setAddHashed_of (knd:=strKind P W) (s:={t with heap:=g1,toks:=tk1+1}) (strKind_is _ _ _ _) rfl (jf0 lies fun o e=>kp1 D o outw e) (by omega) fun g2 only lies2=>?_
  have lies3:g2.SetOf (strKind P W) D (fun y=>decide (y∈ddS (zs.take (j+1)))) (ddS (zs.take (j+1))).length:=by
   rw[jn3 zs j z hz,jjo,show (fun y=>decide (y∈jkQ (ddS (zs.take j)) z))=fun y=>decide (y∈ddS (zs.take j)) || decide (y=z) from funext fun y=>job _ _ _]
   exact lies2
  exact wpAny_pure ⟨plainId_quiet PyProof.Rows.F.plain_set_update_loop _,ih (j+1) _ (by omega) (by omega) (Wk.frame _ _ _ here1 fun b hb o e=>(only.2 b fun q=>out (q ▸ hb)).trans e) lies3 fun g tk kp lies4=>fin g tk (fun b o nd nw e=>kp b o nd nw ((only.2 b nd).trans (kp1 b o nw e))) lies4⟩
noncomputable def jtJ (P:Program)(w:World)(a:Addr)(n:Nat):HO:=.ext fun h=>∃S,h.SetOf (strKind P w) a S n
theorem jgX:jcd X (.builtin "len") (fun xs H Q=>∃(p:Addr) (n:Nat),xs=[.ref p]∧H p=some (jtJ X.prog X.w p n)∧n≤1000∧Q (.int n) H):=by
 intro pins s σ H xs us Q I r h
 obtain⟨p,n,rfl,hp,hn,q⟩:=h
 obtain⟨u,rfl,rx⟩:=je2 r
 cases rx
 obtain⟨⟨S,o,es,ep,t,ho,hex,hd,hel,hmem,hbd,hf,hz⟩,_,_⟩:=I.hok p _ hp
 exact call_len_set ho hex hd hf (by omega) ⟨.int n,H,I.tok _,⟨_,by rw[hz]⟩,q⟩
end
end _L2
namespace _L2
open PySem PySem.Spec PyProof.Rows
section
variable {X:Cx}
section
variable {prog:Program} {w:World} {A:Around} {R:Result→Shared→Prop} {I:Addr} {fp wr:List Addr}
end
end
end _L2
namespace _L2
open PySem PySem.Spec PyProof.Rows
noncomputable def jfh (N:List Str)(sc:Scope)(i:Nat)(x:Str):Bool :=
 N[i]? == some x && (sc.names.lookup x == some .local || sc.names.lookup x == some .cell || sc.names.lookup x == some .free) && !(x == ("__debug__" : Str)) && !(x == ("__classdict__" : Str))
noncomputable def jeg (N:List Str)(sc:Scope)(i:Nat)(x:Str):Bool:=N[i]? == some x && (sc.names.lookup x == some .local || sc.names.lookup x == some .cell)
noncomputable def jog (N:List Str)(sc:Scope)(i:Nat)(x:Str):Bool:=N[i]? == some x && sc.names.lookup x == some .local
noncomputable def jcj (sc:Scope)(x:Str):Bool:=sc.names.lookup x == some .globalImplicit && !(x == ("__debug__" : Str)) && !(x == ("__name__" : Str))
noncomputable def jbm:Expr→Bool
 |.Starred ..=>false
 |_=>true
theorem jaA {e:Expr}{es:List Expr}{env:Env}(h:jbm e=true):starEach (e :: es) env=(false,eval e env) :: starEach es env:=by
 cases e <;> first | rfl | cases h
noncomputable def jiV:Expr→Bool
 |.Name ..=>true
 |.BinOp ..=>true
 |.Constant (.int _) ..=>true
 |.Call ..=>true
 |.Subscript ..=>true
 |.Attribute ..=>true
 |.UnaryOp ..=>true
 |_=>false
noncomputable def notComp:Expr→Bool
 |.ListComp ..=>false
 |.SetComp ..=>false
 |.DictComp ..=>false
 |_=>true
theorem jd1 {e:Expr}{t:Option Expr}{l:Nat}{env:Env}(h:notComp e=true):swapsWith e t l env=pure false:=by
 cases e <;> first | rfl | cases h
section
variable {X:Cx}
theorem pvk (i:Nat){x:Str}{pos:Pos}(h:jfh X.N X.env.scope i x=true):PE X (.Name x pos) (jxD i):=by
 unfold jfh at h
 simp only[Bool.and_eq_true,Bool.or_eq_true,beq_iff_eq,Bool.not_eq_true']at h
 obtain⟨⟨⟨h1,h2⟩,h3⟩,h4⟩:=h
 refine jqa h1 ?_ h3 h4
 rcases h2 with (h2 | h2) | h2
 ·exact .inl h2
 ·exact .inr (.inl h2)
 ·exact .inr (.inr h2)
theorem jcu {i:Nat}{x:Str}(h:jeg X.N X.env.scope i x=true):X.N[i]?=some x∧Loc X.env.scope x:=by
 unfold jeg at h
 simp only[Bool.and_eq_true,Bool.or_eq_true,beq_iff_eq]at h
 exact h
theorem jfO {i:Nat}{x:Str}(h:jog X.N X.env.scope i x=true):X.N[i]?=some x∧X.env.scope.names.lookup x=some .local:=by
 unfold jog at h
 simp only[Bool.and_eq_true,beq_iff_eq]at h
 exact h
theorem jax {x:Str}(h:jcj X.env.scope x=true):Gl X x∧(x == ("__debug__" : Str))=false∧x≠"__name__":=by
 unfold jcj at h
 simp only[Bool.and_eq_true,beq_iff_eq,Bool.not_eq_true']at h
 obtain⟨⟨h1,h2⟩,h3⟩:=h
 exact⟨h1,h2,fun z=>by rw[z]at h3;simp at h3⟩
theorem jfZ {i:Nat}{x:Str}{e:Expr}{te:TE}{pos pos':Pos}(hN:X.N.Nodup)(h:jeg X.N X.env.scope i x=true)(he:PE X e te)(hs:notComp e=true:=by rfl)(hf:X.fn x=true:=by rfl) :
  PS X (.Assign [.Name x pos'] e pos) (jvG te (je4 i)):=jp6 hN (jcu h).1 (jcu h).2 he (jd1 hs) (.inl hf)
theorem jpy {i:Nat}{x:Str}{pos:Pos}(hN:X.N.Nodup)(h:jeg X.N X.env.scope i x=true)(hf:X.fn x=true:=by rfl):PG X (.Name x pos) (je4 i):=jmr hN (jcu h).1 (jcu h).2 (.inl hf)
theorem jsZ {i:Nat}{x:Str}{pos:Pos}(hN:X.N.Nodup)(h:jog X.N X.env.scope i x=true):PG X (.Name x pos) (je4 i):=jmr hN (jfO h).1 (.inl (jfO h).2) (.inr (jfO h).2)
theorem pac {e:Expr}{es:List Expr}{te:TE}{t:TA}(ha:PE X e te)(hr:PA X es t)(h:jbm e=true:=by rfl):PA X (e :: es) (jlW te t):=jbS ha hr (jaA h)
noncomputable def jak (es:List Expr):Bool:=es.all jbm
theorem jcm:∀{es:List Expr} {env:Env} {pos:Pos},jak es=true→(backTo pos (starEach es env)).any (·.1)=false
 |[],_,_,_=>rfl
 |e :: es,env,pos,h=>by
  unfold jak at h
  simp only[List.all_cons,Bool.and_eq_true]at h
  rw[jaA h.1]
  show (false || (backTo pos (starEach es env)).any (·.1))=false
  rw[Bool.false_or]
  exact jcm h.2
theorem jtx {k j:Nat}{x:Str}{ps:List Str}{sp:Sp}{e:Expr}{es:List Expr}{t:TA}{p pos:Pos}(c:Callee X.prog X.w X.K X.mg X.base k x ps sp)(hr:Room j X.A)(hg:jcj X.env.scope x=true)(ha:PA X (e :: es) t)(hk:k≤j:=by decide)(hst:jak (e :: es)=true:=by rfl) :
  PE X (.Call (.Name x p) (e :: es) [] pos) (jsi sp [] E0 t):=by
 have h1:=hst
 unfold jak at h1
 simp only[List.all_cons,Bool.and_eq_true]at h1
 exact jwD c hr (jax hg).1 ha hk (jax hg).2.1 (jaA h1.1) (jcm h1.2)
theorem jc9 {x:Str}{id:String}{r:List V→Hp→VK→Prop}{e:Expr}{es:List Expr}{t:TA}{p pos:Pos}(hc:jcd X (.builtin id) r)(hg:jcj X.env.scope x=true)(hm:X.mg x=none)(hv:bootBuiltins x=some (.builtin id))(ha:PA X (e :: es) t)(hst:jak (e :: es)=true:=by rfl) :
  PE X (.Call (.Name x p) (e :: es) [] pos) (tCB r t):=by
 have h1:=hst
 unfold jak at h1
 simp only[List.all_cons,Bool.and_eq_true]at h1
 exact jnP hc (jax hg).1 hm hv ha (jax hg).2.2 (jax hg).2.1 (jaA h1.1) (jcm h1.2)
theorem jgy {x:Str}{T:String}{r:List V→Hp→VK→Prop}{e:Expr}{es:List Expr}{t:TA}{p pos:Pos}(hc:jcd X (.type T) r)(hg:jcj X.env.scope x=true)(hm:X.mg x=none)(hv:bootBuiltins x=some (.type T))(ha:PA X (e :: es) t)(hst:jak (e :: es)=true:=by rfl) :
  PE X (.Call (.Name x p) (e :: es) [] pos) (tCB r t):=by
 have h1:=hst
 unfold jak at h1
 simp only[List.all_cons,Bool.and_eq_true]at h1
 exact jmC hc (jax hg).1 hm hv ha (jax hg).2.2 (jax hg).2.1 (jaA h1.1) (jcm h1.2)
theorem jep {x:Str}{v:V}{u:Value}{pos:Pos}(hg:jcj X.env.scope x=true)(hm:X.mg x=some u)(r:jba v u):PE X (.Name x pos) (tC v):=ji3 (jax hg).1 hm r (jax hg).2.1
theorem jjM {x:Str}{v:V}{u:Value}{pos:Pos}(hg:jcj X.env.scope x=true)(hm:X.mg x=none)(hv:bootBuiltins x=some u)(r:jba v u):PE X (.Name x pos) (tC v):=jsc (jax hg).1 hm hv r (jax hg).2.2 (jax hg).2.1
theorem jkW {tg:Expr} {a:Expr} {ta:TA} {p pos:Pos} (hg:jcj X.env.scope "range" = true) (hm:X.mg "range" = none) (ha:PA X [a] ta) (hs:jbm a=true:=by rfl):PI X tg (.Call (.Name "range" p) [a] [] pos) (jvM ta):=jlQ (jax hg).1 hm ha (jaA hs)
theorem jla {tg:Expr} {a b:Expr} {ta:TA} {p pos:Pos} (hg:jcj X.env.scope "range" = true) (hm:X.mg "range" = none) (ha:PA X [a,b] ta) (hs:jak [a,b]=true:=by rfl):PI X tg (.Call (.Name "range" p) [a,b] [] pos) (jvl ta):=by
 have h1:=hs
 unfold jak at h1
 simp only[List.all_cons,Bool.and_eq_true]at h1
 refine jl2 (jax hg).1 hm ha ?_ (jaA h1.2.1)
 rw[jaA h1.1,jaA h1.2.1]
 rfl
end
noncomputable def jfs (scope sc:Scope):Scope :=
 {scope with names:=scope.names.map fun (n,k)=>if (k == .free && sc.kind == .function && sc.names.lookup n == some .cell) then (n,.cell) else (n,k)}
theorem jlF (scope:Scope)(env:Env):relabel scope env=jfs scope env.scope:=rfl
noncomputable def jwS (N:List Str)(sc:Scope)(own N':List Str)(scope:Scope):Bool :=
 scope.kind == .function && scope.names.all (fun y=>y.2 != .cell) && scope.names.all (fun y=>y.2 != .local || scope.names.lookup y.1 == some .local) &&
 scope.names.all (fun y=>y.2 != .free || sc.names.lookup y.1 == some .cell || sc.names.lookup y.1 == some .free) && N'.length == own.length+N.length &&
 ((N'.drop own.length).zip N).all (fun p=>p.1 == p.2 || !(scope.names.contains (p.1,NameKind.free))) && (N'.drop own.length).all (fun x=>(jfs scope sc).names.lookup x != some .local)
theorem csk {X:Cx}{own N':List Str}{scope:Scope}(h:jwS X.N X.env.scope own N' scope=true):CompScope X own N' scope:=cs h
end _L2
namespace _L2
open PySem PySem.Spec PyProof.Rows
structure QE (X:Cx) (e:Expr) (t:TE):Prop where
 h:PE X e t
structure QT (X:Cx) (e:Expr) (t:TT):Prop where
 h:PT X e t
structure QW (X:Cx) (e:Expr) (t:TT):Prop where
 h:PW X e t
structure QA (X:Cx) (es:List Expr) (t:TA):Prop where
 h:PA X es t
structure QS (X:Cx) (st:Stmt) (t:TS):Prop where
 h:PS X st t
structure QSs (X:Cx) (st:List Stmt) (t:TS):Prop where
 h:PSs X st t
structure QG (X:Cx) (tg:Expr) (t:TG):Prop where
 h:PG X tg t
structure QGs (X:Cx) (ts:List Expr) (t:TGs):Prop where
 h:PGs X ts t
structure QI (X:Cx) (tg iter:Expr) (wi:TI):Prop where
 h:PI X tg iter wi
structure QO (X:Cx) (e:Option Expr) (t:TO):Prop where
 h:PO X e t
structure QTs (X:Cx) (es:List Expr) (t:TT):Prop where
 h:PTs X es t
noncomputable abbrev jxP:TA:=fun _ H Q=>Q [] H
noncomputable abbrev jwH (ta:TE) (tr:TA):TA:=fun σ H Q=>ta σ H fun x H1=>tr σ H1 fun xs H2=>Q (x :: xs) H2
noncomputable abbrev nC (v:V):TE:=fun _ H Q=>Q v H
noncomputable abbrev nCB (r:List V→Hp→VK→Prop) (t:TA):TE:=fun σ H Q=>t σ H fun vs H1=>r vs H1 Q
noncomputable def jnr:Expr→Bool
 |.UnaryOp .Not ..=>false
 |.BoolOp ..=>false
 |.IfExp ..=>false
 |.Compare ..=>false
 |_=>true
theorem joP {a:Expr}{env:Env}(h:jnr a=true):∀whole,isTrue a env whole=(do let v ← whole;standAt a.pos;holding [v] (truthy v)):=by
 intro whole
 cases a with
 |UnaryOp op x p=>cases op <;> first | rfl | cases h
 |_=>first | rfl | cases h
noncomputable def jgd:Expr→Bool
 |.Set ..=>false
 |_=>true
theorem jfK {e:Expr}{env:Env}(h:jgd e=true):∀x,foldedSetIterable e env x=pure x:=by
 intro x
 cases e <;> first | rfl | cases h
noncomputable def jcc:Expr→Bool
 |.Call ..=>false
 |_=>true
theorem jlD {e:Expr}{f:Str}{env:Env}(h:jcc e=true):attributeBase e f env (eval e env)=eval e env:=by
 cases e <;> first | rfl | cases h
theorem jho {e:Expr}{es:List Expr}{env:Env}(h:jbm e=true):assignEach (e :: es) env=(false,assign e env) :: assignEach es env:=by
 cases e <;> first | rfl | cases h
theorem ji9:∀{es:List Expr} {env:Env},jak es=true→(assignEach es env).length=es.length∧(assignEach es env).findIdx? (·.1)=none
 |[],_,_=>⟨rfl,rfl⟩
 |e :: es,env,h=>by
  unfold jak at h
  simp only[List.all_cons,Bool.and_eq_true]at h
  obtain⟨h1,h2⟩:=ji9 (es:=es) (env:=env) h.2
  rw[jho h.1,List.length_cons,List.length_cons,h1]
  exact⟨rfl,by rw[List.findIdx?_cons];simp[h2]⟩
theorem jnp {e:Expr}{es:List Expr}{env:Env}{cpos:Pos}(h:jak (e :: es)=true)(hl:es.length < 28):((backTo cpos (starEach (e :: es) env)).all (fun x=>!x.1) && (backToKw cpos (keywordEach [] env)).all (fun x=>x.1.isSome)
   && decide ((e :: es).length+([]:List Keyword).length+(if ([]:List Keyword).isEmpty then 0 else 1) < 30))=true:=by
 have h1:=jcm (env:=env) (pos:=cpos) h
 have h2:(backTo cpos (starEach (e :: es) env)).all (fun x=>!x.1)=true:=by
  rw[List.all_eq_true]
  intro x hx
  rw[List.any_eq_false]at h1
  have:=h1 x hx
  simpa using this
 rw[h2]
 have h3:(backToKw cpos (keywordEach [] env)).all (fun x=>x.1.isSome)=true:=rfl
 rw[h3]
 simp
 omega
section
variable {X:Cx} {a b c e:Expr} {es:List Expr} {ta tb tc te:TE} {tA tB:TT} {t:TA} {pos p:Pos}
theorem jvu {i:Int}{j:Nat}:QE X (.Constant (.int i) j pos) (nC (.int i)):=⟨jpV⟩
theorem jwQ {b:Bool}{j:Nat}:QE X (.Constant (.bool b) j pos) (nC (.bl b)):=⟨jok⟩
theorem jtt {j:Nat}:QE X (.Constant .none j pos) (nC .non):=⟨jtC⟩
theorem jvz {x:Str}{j:Nat}:QE X (.Constant (.str x) j pos) (nC (.str x)):=⟨jqt⟩
theorem js6 {x:Str}{v:V}{u:Value}(hg:jcj X.env.scope x=true)(hm:X.mg x=none)(hv:bootBuiltins x=some u)(r:jba v u):QE X (.Name x pos) (nC v):=⟨jjM hg hm hv r⟩
theorem jwZ {op:UnaryOp}{r:V→Hp→VK→Prop}(ho:UnR X (unaryOp op) r)(ha:QE X a ta):QE X (.UnaryOp op a pos) (tUn r ta):=⟨jxj ho ha.h⟩
theorem jpM {op:CmpOp}{r:R2}(ho:OpR X (compareOp op) r)(ha:QE X a ta)(hb:QE X b tb)(hm:behindInMarks op b=false:=by first | exact jmp _ | with_unfolding_all rfl):QE X (.Compare a [op] [b] pos) (tOp r ta tb):=⟨jl9 ho ha.h hb.h hm⟩
theorem jpR {op:CmpOp}{r:R2}(ho:OpR X (compareOp op) r)(ha:QE X a ta)(hb:QE X b tb)(hm:behindInMarks op b=false:=by first | exact jmp _ | with_unfolding_all rfl):QT X (.Compare a [op] [b] pos) (jnR (tOp r ta tb)):=⟨jsY ho ha.h hb.h hm⟩
theorem jvK {j:Nat}{pos':Pos}(ha:QE X a ta):QE X (.Compare a [.Is] [.Constant .none j pos'] pos) (jwq ta):=⟨jqr (jp4 ha.h)⟩
theorem jr2 {j:Nat}{pos':Pos}(ha:QE X a ta):QE X (.Compare a [.IsNot] [.Constant .none j pos'] pos) (joL ta):=⟨jqr (jmQ ha.h)⟩
theorem jtI {j:Nat}{pos':Pos}(ha:QE X a ta):QT X (.Compare a [.Is] [.Constant .none j pos'] pos) (_L2.tB (jwq ta)):=⟨jpU (jp4 ha.h)⟩
theorem jqS {j:Nat}{pos':Pos}(ha:QE X a ta):QT X (.Compare a [.IsNot] [.Constant .none j pos'] pos) (_L2.tB (joL ta)):=⟨jpU (jmQ ha.h)⟩
theorem jom {op op':CmpOp}{r r':R2}(ho:OpR X (compareOp op) r)(ho':OpR X (compareOp op') r')(ha:QE X a ta)(hb:QE X b tb)(hc:QE X c tc)(hm:lastMarks [op,op'] [b,c]=false:=by with_unfolding_all rfl):QE X (.Compare a [op,op'] [b,c] pos) (jhI r r' ta tb tc):=⟨jo ho ho' ha.h hb.h hc.h hm⟩
theorem joQ {op op':CmpOp}{r r':R2}(ho:OpR X (compareOp op) r)(ho':OpR X (compareOp op') r')(ha:QE X a ta)(hb:QE X b tb)(hc:QE X c tc)(hm:lastMarks [op,op'] [b,c]=false:=by with_unfolding_all rfl):QT X (.Compare a [op,op'] [b,c] pos) (jnR (jhI r r' ta tb tc)):=⟨joH ho ho' ha.h hb.h hc.h hm⟩
theorem jqj {op:BoolOp}(h:QE X a ta):QE X (.BoolOp op [a] pos) ta:=⟨jvZ h.h⟩
theorem jqq {rest:List Expr}(ha:QE X a ta)(hb:QE X (.BoolOp .And (b :: rest) pos) tb):QE X (.BoolOp .And (a :: b :: rest) pos) (jrf ta tb):=⟨juO ha.h hb.h⟩
theorem juT {rest:List Expr}(ha:QE X a ta)(hb:QE X (.BoolOp .Or (b :: rest) pos) tb):QE X (.BoolOp .Or (a :: b :: rest) pos) (jw6 ta tb):=⟨jwO ha.h hb.h⟩
theorem ju0 (ha:QE X a ta):QE X (.UnaryOp .Not a pos) (juJ ta):=⟨jun ha.h⟩
theorem jqC (ha:QT X a tA):QW X (.BoolOp .And [a] pos) tA:=⟨jtg ha.h⟩
theorem jtp (ha:QT X a tA):QW X (.BoolOp .Or [a] pos) tA:=⟨jvn ha.h⟩
theorem jqm {rest:List Expr}(ha:QT X a tA)(hb:QW X (.BoolOp .And (b :: rest) pos) tB):QW X (.BoolOp .And (a :: b :: rest) pos) (jxe tA tB):=⟨jv ha.h hb.h⟩
theorem jvV {rest:List Expr}(ha:QT X a tA)(hb:QW X (.BoolOp .Or (b :: rest) pos) tB):QW X (.BoolOp .Or (a :: b :: rest) pos) (tOr tA tB):=⟨jwz ha.h hb.h⟩
theorem jv9 (ha:QT X a tA):QT X (.UnaryOp .Not a pos) (jxX tA):=⟨jvB ha.h⟩
theorem juV (ha:QE X a ta)(h:jnr a=true:=by rfl):QT X a (fun σ H Q=>ta σ H fun x H'=>∃k,jwe X.K x H' k∧Q k H'):=⟨jpn ha.h (joP h)⟩
theorem jn4 (hc:QT X c tA)(ha:QE X a ta)(hb:QE X b tb):QE X (.IfExp c a b pos) (tIf tA ta tb):=⟨jol hc.h ha.h hb.h⟩
theorem jvr:QA X [] jxP:=⟨jdr⟩
theorem jry (ha:QE X e te)(hr:QA X es t)(h:jbm e=true:=by rfl):QA X (e :: es) (jwH te t):=⟨pac ha.h hr.h h⟩
theorem jof {x:Str}{id:String}{r:List V→Hp→VK→Prop}(hc:jcd X (.builtin id) r)(hg:jcj X.env.scope x=true)(hm:X.mg x=none)(hv:bootBuiltins x=some (.builtin id))(ha:QA X (e :: es) t)(hst:jak (e :: es)=true:=by rfl):QE X (.Call (.Name x p) (e :: es) [] pos) (nCB r t):=⟨jc9 hc hg hm hv ha.h hst⟩
theorem jmc {x:Str}{T:String}{r:List V→Hp→VK→Prop}(hc:jcd X (.type T) r)(hg:jcj X.env.scope x=true)(hm:X.mg x=none)(hv:bootBuiltins x=some (.type T))(ha:QA X (e :: es) t)(hst:jak (e :: es)=true:=by rfl):QE X (.Call (.Name x p) (e :: es) [] pos) (nCB r t):=⟨jgy hc hg hm hv ha.h hst⟩
theorem jm {o:Expr} {to:TE} {name:Str} {apos cpos:Pos} {T id:String} {r:V→List V→Hp→VK→Prop} (pa:PlainAttrs T) (slot:Slot T name id) (hty:typeOf (.builtin id)=pure (.type "method_descriptor")) (hm:MtR X id r) (ho:QE X o to) (ha:QA X (e :: es) t)
  (hb:jcc o=true:=by rfl) (hst:jak (e :: es)=true:=by rfl) (hl:es.length < 28:=by decide) (hline:(apos.endLine == cpos.line)=true:=by rfl):QE X (.Call (.Attribute o name apos) (e :: es) [] cpos) (tBM X.K T r to t):=by
 have h1:=hst
 unfold jak at h1
 simp only[List.all_cons,Bool.and_eq_true]at h1
 exact⟨jwV pa slot hty hm ho.h ha.h (jlD hb) (jnp hst hl) hline (jaA h1.1) (jcm h1.2)⟩
end
section
variable {P:Program} {w:World} {K:PySem.W.Frag} {mg:Str→Option Value} {base:Heap}
theorem Fun.okQ {x qual:Str}{st:Stmt}{f:Addr}{fd:FuncData}{N ps:List Str}{k:Nat}{sp:Sp}(F:Fun K x qual st f fd)(S:FnScope N ps (ja st))(len:∀vs H Q E,sp vs H Q E→vs.length=ps.length)
  (hbody:∀(cdv:Value) (A:Around) (outer:List Env) (s:Shared) (H:Hp) (vs:List V) (Q:VK) (E:XK),Room k (A.deeper (envOfC qual (ja st) s.heap.objs.size f cdv))→sp vs H Q E →
   ∃t,QSs (jhv CX0 P w K mg base N qual (ja st) f cdv A outer s H E).nox (jae st) t∧t {nx:=fun _ H'=>Q .non H',rt:=Q} (_L2.start N vs) H):FnOk P w K mg base CX0 (k+1) f fd ps sp :=
 F.ok S len fun cdv A outer s H vs Q E hr h=>let ⟨t,ht,q⟩:=hbody cdv A outer s H vs Q E hr h;⟨t,ht.h,q⟩
end
end _L2
namespace _L2
open PySem PySem.Spec PyProof.Rows
noncomputable def Trk (H:Hp)(a:Addr)(xs:List V):Prop:=H a=some (.lst xs)∨H a=some (.tup xs)
theorem Trk.same {H H':Hp}{a:Addr}{xs:List V}(e:jdw H H')(h:Trk H a xs):Trk H' a xs:=h.elim (fun h=>.inl (e _ _ h)) fun h=>.inr (e _ _ h)
theorem Trk.ty {K:PySem.W.Frag}{H:Hp}{a:Addr}{xs:List V}(h:Trk H a xs):TyOf K H (.ref a) (.type "list")∨TyOf K H (.ref a) (.type "tuple"):=h.elim (fun h=>.inl (.lst h)) fun h=>.inr (.tup h)
section
variable {X:Cx}
end
noncomputable def Lop (J:It)(g:TG)(tb:TS)(D:Ends)(σ:_L2.St)(H:Hp):Prop:=∃W:Nat→Nat→_L2.St→Hp→Prop,(∃m,W 0 m σ H)∧∀i m σ H,W i m σ H →
   (J.stop i H∧D.nx σ H)∨(J.go i H∧∃N:_L2.St→Hp→Prop,(∀σ' H',N σ' H'→∃m',m' < m∧W (i+1) m' σ' H')∧∀x H',J.yld i H x H'→g x σ H' fun σ2 H2=>tb {D with nx:=N,ct:=N,bk:=D.nx} σ2 H2)
noncomputable def jnw {α:Type}(f:α→List V)(H:Hp)(v:V)(x:α):Prop:=∃p,v=.ref p∧H p=some (.tup (f x))
noncomputable def jmh {α:Type}(f:α→List V)(H:Hp)(v:V)(xs:List α):Prop:=∃a vs,v=.ref a∧Trk H a vs∧Paired (jnw f H) vs xs
theorem jnw.same {α:Type}{f:α→List V}{H H':Hp}{v:V}{x:α}(e:jdw H H')(h:jnw f H v x):jnw f H' v x:=let ⟨p,a,b⟩:=h;⟨p,a,e _ _ b⟩
theorem jd8 {α:Type}{f:α→List V}{H H':Hp}(e:jdw H H'):∀{vs:List V} {xs:List α},Paired (jnw f H) vs xs→Paired (jnw f H') vs xs
 |_,_,.nil=>.nil
 |_,_,.cons r t=>.cons (r.same e) (jd8 e t)
theorem jmh.same {α:Type}{f:α→List V}{H H':Hp}{v:V}{xs:List α}(e:jdw H H')(h:jmh f H v xs):jmh f H' v xs:=let ⟨a,vs,h1,h2,h3⟩:=h;⟨a,vs,h1,h2.same e,jd8 e h3⟩
theorem jhW {α:Type}{xs:List α}{i:Nat}{x:α}(h:xs[i]?=some x):xs.take (i+1)=xs.take i++[x]:=by
 rw[List.take_add_one,h]
 rfl
section
variable {X:Cx} {K:PySem.W.Frag} {a b e:Expr} {es:List Expr} {ta tb te:TE} {t:TA} {pos p:Pos}
end
end _L2
namespace _L2
open PySem PySem.Spec PyProof.Rows
noncomputable def EqS (H:Hp):Nat→V→V→Prop
 |0,x,y=>x=y∧(jdx x=true∨∃p,x=.ref p)
 |n+1,x,y=>(x=y∧(jdx x=true∨∃p,x=.ref p))∨∃a b xs ys,x=.ref a∧y=.ref b∧((H a=some (.tup xs)∧H b=some (.tup ys))∨(H a=some (.lst xs)∧H b=some (.lst ys)))∧Paired (EqS H n) xs ys
theorem EqS.ref {H:Hp}{n:Nat}{p:Addr}:EqS H n (.ref p) (.ref p):=by
 cases n with
 |zero=>exact⟨rfl,.inr ⟨p,rfl⟩⟩
 |succ n=>exact .inl ⟨rfl,.inr ⟨p,rfl⟩⟩
theorem EqS.flat {H:Hp}{n:Nat}{x:V}(h:jdx x=true):EqS H n x x:=by
 cases n with
 |zero=>exact⟨rfl,.inl h⟩
 |succ n=>exact .inl ⟨rfl,.inl h⟩
theorem jjt {x:V}(h:jdx x=true):eqV x x=true:=by
 cases x with
 |non=>rfl
 |bl b=>simp[eqV]
 |int i=>simp[eqV]
 |str z=>simp[eqV]
 |_=>exact absurd (show false=true from h) Bool.false_ne_true
section
variable {X:Cx} {pins:List (Addr×Obj)} {σ:_L2.St} {H:Hp} {s:Shared}
theorem jm4 {A:Around}{x:V}{u v:Value}(h:jdx x=true∨∃p,x=.ref p)(r:jba x u)(r':jba x v):SeqAt.EqAt A s u v true:=by
 rcases h with h | ⟨p,rfl⟩
 ·have:=jjY (A:=A) (s:=s) r r' h h
  rw[jjt h]at this
  exact this
 ·cases r
  cases r'
  exact SeqAt.EqAt.same _
theorem jdE {F:V→V→Prop}:∀{xs ys:List V} {us vs:List Value},Paired F xs ys→ja6 xs us→ja6 ys vs→us.length=vs.length∧∀(j:Nat) (h1:j < us.length) (h2:j < vs.length),∃x y,F x y∧jba x us[j]∧jba y vs[j]
 |_,_,_,_,.nil,.nil,.nil=>⟨rfl,fun j h1=>absurd h1 (Nat.not_lt_zero _)⟩
 |_,_,_,_,.cons f t,.cons r rs,.cons r' rs'=>by
  obtain⟨e,h⟩:=jdE t rs rs'
  refine⟨congrArg (· + 1) e,fun j h1 h2=>?_⟩
  cases j with
  |zero=>exact⟨_,_,f,r,r'⟩
  |succ j=>exact h j (Nat.lt_of_succ_lt_succ h1) (Nat.lt_of_succ_lt_succ h2)
theorem jeL (n:Nat):(List.range n).all (fun _=>true)=true:=by simp
theorem jkk (I:Inv X pins σ H s):∀(n:Nat) {A:Around} {x y:V} {u v:Value},A.units+n < cLine→EqS H n x y→jba x u→jba y v→SeqAt.EqAt A s u v true
 |0,A,x,y,u,v,hu,⟨e,h⟩,r,r'=>by subst e;exact jm4 h r r'
 |n+1,A,x,y,u,v,hu,.inl ⟨e,h⟩,r,r'=>by subst e;exact jm4 h r r'
 |n+1,A,x,y,u,v,hu,.inr ⟨a,b,xs,ys,ea,eb,h,hp⟩,r,r'=>by
  subst ea eb
  cases r
  cases r'
  by_cases hne:a=b
  ·subst hne
   exact SeqAt.EqAt.same _
  have hu1:A.units < cLine:=by omega
  rcases h with ⟨h1,h2⟩ | ⟨h1,h2⟩
  ·obtain⟨its,rv,p,_⟩:=I.tuple (SqT.of h1)
   obtain⟨its2,rv2,p2,_⟩:=I.tuple (SqT.of h2)
   obtain⟨el,hj⟩:=jdE hp rv rv2
   have:=SeqAt.RcAt.tuples (A:=A) (e:=fun _=>true) (show s.heap.IsTuple a its.toArray from p) (show s.heap.IsTuple b its2.toArray from p2) hu1 (fun j h1 h2=>by
    obtain⟨x,y,f,r1,r2⟩:=hj j (by simpa using h1) (by simpa using h2)
    have:=jkk I n (A:=A.in1) (by rw[Around.in1_units];omega) f r1 r2
    simpa using this)
   rw[jeL,Bool.true_and,show (its.toArray.size == its2.toArray.size)=true by simp[el]]at this
   exact SeqAt.EqAt.of_refs hne this
  ·obtain⟨its,rv,p,_⟩:=I.list (SqL.of h1)
   obtain⟨its2,rv2,p2,_⟩:=I.list (SqL.of h2)
   obtain⟨el,hj⟩:=jdE hp rv rv2
   have:=SeqAt.RcAt.lists (A:=A) (e:=fun _=>true) p.isList p2.isList (by simp[el]) hu1 (fun j h1 h2=>by
    obtain⟨x,y,f,r1,r2⟩:=hj j (by simpa using h1) (by simpa using h2)
    have:=jkk I n (A:=A.in1) (by rw[Around.in1_units];omega) f r1 r2
    simpa using this)
   rw[jeL]at this
   exact SeqAt.EqAt.of_refs hne this
end
noncomputable def jxm (b:Bool):R2:=fun x y H Q=>∃a c xs ys,x=.ref a∧y=.ref c∧((H a=some (.tup xs)∧H c=some (.tup ys))∨(H a=some (.lst xs)∧H c=some (.lst ys)))∧Paired (EqS H 8) xs ys∧Q (.bl b) H
section
variable {X:Cx}
theorem juU (hu:X.A.units+16 < cLine):OpR X (compareOp .Eq) (jxm true):=by
 intro pins s σ H x y v u Q I rx ry h
 obtain⟨a,c,xs,ys,rfl,rfl,h,hp,q⟩:=h
 cases rx
 cases ry
 rcases h with ⟨h1,h2⟩ | ⟨h1,h2⟩
 ·obtain⟨its,rv,p,_⟩:=I.tuple (SqT.of h1)
  obtain⟨its2,rv2,p2,_⟩:=I.tuple (SqT.of h2)
  obtain⟨el,hj⟩:=jdE hp rv rv2
  have:=SeqAt.RcAt.tuples (A:=X.A) (e:=fun _=>true) (show s.heap.IsTuple a its.toArray from p) (show s.heap.IsTuple c its2.toArray from p2) (by omega) (fun j h1 h2=>by
   obtain⟨x,y,f,r1,r2⟩:=hj j (by simpa using h1) (by simpa using h2)
   have:=jkk I 8 (A:=X.A.in1) (by rw[Around.in1_units];omega) f r1 r2
   simpa using this)
  rw[jeL,Bool.true_and,show (its.toArray.size == its2.toArray.size)=true by simp[el]]at this
  exact this _ _ _ _ ⟨.bl true,H,I,rfl,q⟩
 ·obtain⟨its,rv,p,_⟩:=I.list (SqL.of h1)
  obtain⟨its2,rv2,p2,_⟩:=I.list (SqL.of h2)
  obtain⟨el,hj⟩:=jdE hp rv rv2
  have:=SeqAt.RcAt.lists (A:=X.A) (e:=fun _=>true) p.isList p2.isList (by simp[el]) (by omega) (fun j h1 h2=>by
   obtain⟨x,y,f,r1,r2⟩:=hj j (by simpa using h1) (by simpa using h2)
   have:=jkk I 8 (A:=X.A.in1) (by rw[Around.in1_units];omega) f r1 r2
   simpa using this)
  rw[jeL]at this
  exact this _ _ _ _ ⟨.bl true,H,I,rfl,q⟩
end
theorem jf9 {H:Hp}:∀{xs:List V},(∀x∈xs,jdx x=true∨∃p,x=.ref p)→Paired (EqS H 8) xs xs
 |[],_=>.nil
 |x :: xs,h=>.cons (.inl ⟨rfl,h x (by simp)⟩) (jf9 fun y hy=>h y (by simp[hy]))
end _L2
namespace _L2
open PySem PySem.Spec PyProof.Rows
section
variable {X:Cx}
noncomputable def jyd (K:PySem.W.Frag):List V→Hp→VK→Prop:=fun xs H Q=>∃(p:Addr) (ns:List Int),xs=[.ref p]∧SqL K H p (ns.map V.int)∧Q (.int ns.sum) H
theorem joa (hc:X.calm=true):jcd X (.builtin "sum") (jyd X.K):=by
 intro pins s σ H xs us Q I r h
 obtain⟨p,ns,rfl,hq,q⟩:=h
 obtain⟨u,rfl,rx⟩:=je2 r
 cases rx
 obtain⟨its,rv,pl,_⟩:=I.list hq
 have hi:=jkw rv
 obtain⟨ys,hys⟩:=hi.allInts.items
 have hl:=pl.isList
 rw[hys]at hl
 have en:ys.toList.map (·.1)=ns:=by
  rw[← nums_intItems,← hys]
  exact hi.numsOf
 refine sum_intListG (I.ok.hd hc) hl fun h' tk t' hk=>?_
 have e:preSum (numAt ys) ys.size=ns.sum:=by
  rw[preSum_eq,en,List.take_of_length_le (by rw[← en];simp)]
 rw[e]
 exact⟨.int ns.sum,H,I.kept (t':=tk) hk,⟨t',rfl⟩,q⟩
end
theorem jeS {α:Type}{f:α→List V}{G G':Hp}(ht:∀p xs,G p=some (.tup xs)→G' p=some (.tup xs)):∀{us:List V} {xs:List α},Paired (jnw f G) us xs→Paired (jnw f G') us xs
 |_,_,.nil=>.nil
 |_,_,.cons ⟨p,e,hp⟩ t=>.cons ⟨p,e,ht _ _ hp⟩ (jeS ht t)
theorem jgx {α β:Type}{F:α→β→Prop}:∀{us ws:List α} {xs ys:List β},Paired F us xs→Paired F ws ys→Paired F (us++ws) (xs++ys)
 |_,_,_,_,.nil,h=>h
 |_,_,_,_,.cons r t,h=>.cons r (jgx t h)
noncomputable def Lst {α:Type}(f:α→List V)(H:Hp)(a:Addr)(xs:List α):Prop:=∃us,H a=some (.lst us)∧Paired (jnw f H) us xs
theorem Lst.same {α:Type}{f:α→List V}{H H':Hp}{a:Addr}{xs:List α}(e:jdw H H')(h:Lst f H a xs):Lst f H' a xs:=let ⟨us,h1,h2⟩:=h;⟨us,e _ _ h1,jd8 e h2⟩
theorem jkh {H:Hp}{l:Addr}{zs:List V}{o:HO}(hl:H l=some (.lst zs)):∀p xs,H p=some (.tup xs)→upd H l o p=some (.tup xs):=fun p xs hp=>by
 have:p≠l:=fun e=>by rw[e,hl]at hp;cases hp
 rw[jal this]
 exact hp
theorem Lst.more {α:Type}{f:α→List V}{H:Hp}{a:Addr}{us ws:List V}{xs ys:List α}(h:H a=some (.lst us))(h1:Paired (jnw f H) us xs)(h2:Paired (jnw f H) ws ys):Lst f (upd H a (.lst (us++ws))) a (xs++ys) :=
 ⟨_,jay,jgx (jeS (jkh h) h1) (jeS (jkh h) h2)⟩
theorem jdw.over {H G:Hp}{a:Addr}{o:HO}(e:jdw H G)(ha:H a=none):jdw H (_L2.upd G a o):=fun b u q=>by
 rw[jal (jaj q ha)]
 exact e b u q
end _L2
namespace _L2
open PySem PySem.Spec PyProof.Rows
section
variable {X:Cx}
theorem jqf:bootBuiltins "zip" = some (.type "zip"):=by decide +kernel
end
end _L2
namespace _L2
open PySem PySem.Spec PyProof.Rows
noncomputable def joR (eB lB:Value×Value→Bool):List (Value×Value)→Bool
 |[]=>false
 |p :: r=>if eB p=true then joR eB lB r else lB p
theorem jo1 (a c:Addr)(xs ys:Array Value)(m m':Nat)(da dc:Option Addr)(sa sc:Array (Option Value))(eB lB:Value×Value→Bool)(same:xs.size=ys.size) :
  Meets (Builtin.«tuple.__lt__» ⟨[.ref a,.ref c],[]⟩) (fun A R s=>s.heap.get? a=some ⟨.type "tuple",da,.seq xs m,sa⟩∧s.heap.get? c=some ⟨.type "tuple",dc,.seq ys m',sc⟩ ∧
   (∀p∈xs.toList.zip ys.toList,SeqAt.EqAt A.in1 s p.1 p.2 (eB p)) ∧
   (∀p∈xs.toList.zip ys.toList,∀(P:Program) (W:World) (E Q:Value→Shared→Prop),Q (.bool (lB p)) s→wpAny (model P W) A.in1 (richCompare .Lt p.1 p.2) Q E s) ∧
   R (.ok (.ret (.bool (joR eB lB (xs.toList.zip ys.toList))))) s) :=
 .of_wp fun P W A R s0 hyp=>by
  obtain⟨heap0,gens0,drawn0,toks0,os0⟩:=s0
  obtain⟨ha,hc,hE,hL,hR⟩:=hyp
  have isT:=AutoSeq1.sub_tuple_tuple
  wp_walk using AutoSeq1.wpAny_loadPart' ha,AutoSeq1.wpAny_loadPart' hc,wpAny_forIn_list _ (fun todo st s'=>st.1=none∧s'=⟨heap0,gens0,drawn0,toks0,os0⟩∧(∀p∈todo,p∈xs.toList.zip ys.toList)∧R (.ok (.ret (.bool (joR eB lB todo)))) ⟨heap0,gens0,drawn0,toks0,os0⟩) _
  case h=>exact⟨rfl,rfl,fun _ z=>z,hR⟩
  case fin =>
   rintro⟨o,u⟩ s' ⟨eo,rfl,_,hr⟩
   cases eo
   wp_walk
   exact⟨_,rfl,by simpa[Builtin.Tuple.tupleCompareSizes,joR,same] using hr⟩
  case turn =>
   rintro p todo st s' ⟨_,rfl,hin,hr⟩
   have hp:=hin p List.mem_cons_self
   have hr':R (.ok (.ret (.bool (if eB p=true then joR eB lB todo else lB p)))) ⟨heap0,gens0,drawn0,toks0,os0⟩:=hr
   refine wpAny_bind (hE p hp P W _ _ ?_)
   by_cases hb:eB p=true
   ·rw[hb]at hr' ⊢
    wp_walk
    exact⟨rfl,rfl,fun z hz=>hin z (List.mem_cons_of_mem _ hz),hr'⟩
   ·have hf:eB p=false:=by simpa using hb
    rw[hf]at hr' ⊢
    rw[if_neg Bool.false_ne_true]at hr'
    rw[if_pos (by decide)]
    refine wpAny_bind (wpAny_rule (wpAny_bind (hL p hp P W _ _ ?_)))
    wp_walk
    exact⟨_,rfl,hr'⟩
noncomputable def ltV:V→V→Bool
 |.int a,.int b=>decide (a < b)
 |.str a,.str b=>decide (a.cps.toList < b.cps.toList)
 |_,_=>false
noncomputable def veq:Value×Value→Bool
 |(.int a _,.int b _)=>a == b
 |(.str a _,.str b _)=>a == b
 |_=>false
noncomputable def vlt:Value×Value→Bool
 |(.int a _,.int b _)=>decide (a < b)
 |(.str a _,.str b _)=>decide (a.cps.toList < b.cps.toList)
 |_=>false
noncomputable def jq (x y:V):Prop:=(∃i j,x=.int i∧y=.int j)∨∃i j,x=.str i∧y=.str j
theorem jq.flat {x y:V}(h:jq x y):jdx x=true∧jdx y=true:=by
 rcases h with ⟨i,j,rfl,rfl⟩ | ⟨i,j,rfl,rfl⟩ <;> exact⟨rfl,rfl⟩
noncomputable def jrt:List V→List V→Bool
 |x :: xs,y :: ys=>if eqV x y=true then jrt xs ys else ltV x y
 |_,_=>false
theorem jk {x y:V}{u v:Value}(h:jq x y)(rx:jba x u)(ry:jba y v):veq (u,v)=eqV x y∧vlt (u,v)=ltV x y:=by
 rcases h with ⟨i,k,rfl,rfl⟩ | ⟨i,k,rfl,rfl⟩ <;> obtain⟨t,rfl⟩:=rx <;> obtain⟨t',rfl⟩:=ry <;> exact⟨rfl,rfl⟩
theorem jlX:∀{xs ys:List V} {us vs:List Value},Paired jq xs ys→ja6 xs us→ja6 ys vs→us.length=vs.length∧joR veq vlt (us.zip vs)=jrt xs ys∧∀p∈us.zip vs,∃x y,jq x y∧jba x p.1∧jba y p.2
 |_,_,_,_,.nil,.nil,.nil=>⟨rfl,rfl,fun p hp=>absurd hp (by simp)⟩
 |_,_,_,_,.cons c t,.cons r rs,.cons r' rs'=>by
  obtain⟨e1,e2,e3⟩:=jlX t rs rs'
  obtain⟨k1,k2⟩:=jk c r r'
  refine⟨congrArg (· + 1) e1,?_,fun p hp=>?_⟩
  ·rw[List.zip_cons_cons]
   unfold joR jrt
   rw[k1,k2,e2]
  ·rw[List.zip_cons_cons]at hp
   rcases List.mem_cons.mp hp with z | z
   ·rw[z]
    exact⟨_,_,c,r,r'⟩
   ·exact e3 p z
section
variable {X:Cx}
end
end _L2
namespace _L2
open PySem PySem.Spec PyProof.Rows
noncomputable def sAt (b:Bool)(h:Heap)(l:Addr)(xs:Array Value):Prop:=match b with | false=>h.IsList l xs | true=>h.IsTuple l xs
noncomputable def iAt (b:Bool)(h:Heap)(it l:Addr)(i:Nat):Prop:=match b with | false=>h.IsListIter it l i | true=>h.IsTupleIter it l i
noncomputable def jdT (b:Bool)(l:Addr):Obj:={cls:=.type (match b with | false=>"list_iterator" |true=>"tuple_iterator"),data:=.fields #[.ref l,.int 0 0]}
theorem jfo {b:Bool}{l:Addr}{h:Heap}{it:Addr}(g:h.get? it=some (jdT b l)):iAt b h it l 0:=by
 cases b <;> exact⟨_,g,rfl,rfl⟩
theorem iAt.keep {b:Bool}{h h':Heap}{it l:Addr}{i:Nat}(x:iAt b h it l i)(k:∀o,h.get? it=some o→h'.get? it=some o):iAt b h' it l i:=by
 cases b
 ·exact Heap.IsListIter.at x k
 ·exact Heap.IsTupleIter.at x k
theorem iAt.obj {b:Bool}{h:Heap}{it l:Addr}{i:Nat}(x:iAt b h it l i):∃o,h.get? it=some o∧∀v,o.data≠.cell v:=by
 cases b <;> (obtain⟨o,g,_,d⟩:=x;exact⟨o,g,fun v z=>by rw[d]at z;cases z⟩)
theorem sAt.keep {b:Bool}{h h':Heap}{l:Addr}{xs:Array Value}(x:sAt b h l xs)(k:∀o,h.get? l=some o→h'.get? l=some o):sAt b h' l xs:=by
 cases b <;> (obtain⟨o,g,r⟩:=x;exact⟨o,k o g,r⟩)
theorem sAt.obj {b:Bool}{h:Heap}{l:Addr}{xs:Array Value}(x:sAt b h l xs):∃o,h.get? l=some o:=by
 cases b <;> (obtain⟨o,g,_⟩:=x;exact⟨o,g⟩)
section
variable {prog:Program} {w:World} {A:Around} {E:Value→Shared→Prop} {s:Shared} {it l:Addr} {i:Nat} {items:Array Value} {b:Bool}
theorem jnb {M:Model}{o:Obj}{fs:Array Value}{k:Nat}{v:Value}{Q:Unit→Shared→Prop}(ho:s.heap.get? it=some o)(hd:o.data=.fields fs)
  (q:Q () {s with heap:=s.heap.update it (Obj.mapFields (·.setIfInBounds k v))}) (hj:k < fs.size):wpAny M A (setField (.ref it) k v) Q E s:=wpAny_setField ho hd hj q
theorem jt {h:Heap} {ob:Obj} (gi:h.get? it=some ob) (ci:ob.cls=.type "tuple_iterator") (di:ob.data=.fields #[.ref l,.int (i:Int) 0]) :
  (h.update it (Obj.mapFields (·.setIfInBounds 1 (rawInt ((i:Int)+1))))).IsTupleIter it l (i+1):=by
 have dn:=Obj.data_mapFields di (·.setIfInBounds 1 (rawInt ((i:Int)+1)))
 refine⟨_,Heap.get?_update_self (Obj.mapFields (·.setIfInBounds 1 (rawInt ((i:Int)+1)))) gi (Obj.isFreed_of_fields dn),?_,?_⟩
 ·rw[Obj.cls_mapFields,ci]
 ·rw[dn]
  simp[rawInt]
theorem jpE {Q:Value→Shared→Prop}{x:Value}(hit:s.heap.IsTupleIter it l i)(hl:s.heap.IsTuple l items)(hx:items[i]?=some x)
  (q:∀h',h'.IsTupleIter it l (i+1)→Heap.SameBut it s.heap h'→Q x {s with heap:=h'}):wpAny (model prog w) A (Builtin.SmallTypes.nextOf (.ref it)) Q E s:=by
 have ty:s.TypeIs (.ref it) "tuple_iterator":=let ⟨o,g,c,_⟩:=hit;⟨o,g,c⟩
 obtain⟨ob,gi,ci,di⟩:=id hit
 obtain⟨ol,gl,_,nl,dl⟩:=hl
 have after:=jt (i:=i) gi ci di
 unfold Builtin.SmallTypes.nextOf
 refine wpAny_bind (wpAny_callSpecial?_slot (name:=Str.ofString "__next__") ty F.slot_tuple_iterator_next (wpAny_call_entry F.slot_tuple_iterator_next ty F.entry_tuple_iterator_next ?_ (F.args_tuple_iterator_next_1 _)))
 wp_walk using wpAny_field gi di (x:=.ref l) rfl,wpAny_field gi di (x:=.int (i:Int) 0) rfl,wpAny_seqItems gl dl
 rw[Int.toNat_natCast,hx]
 dsimp only
 wp_walk using jnb gi di
 ·exact⟨_,rfl,wpAny_pure (q _ after (Heap.SameBut.update ..))⟩
 ·show 1 < 2;decide
theorem jio {Q:Value→Shared→Prop}(hh:A.handled=none)(hit:s.heap.IsTupleIter it l i)(hl:s.heap.IsTuple l items)(hx:items[i]?=none)
  (q:∀h' x,Heap.ExtBut it s.heap h'→(∃o,h'.get? x=some o∧o.cls=.type "StopIteration")→E (.ref x) {s with heap:=h'}):wpAny (model prog w) A (Builtin.SmallTypes.nextOf (.ref it)) Q E s:=by
 have ty:s.TypeIs (.ref it) "tuple_iterator":=let ⟨o,g,c,_⟩:=hit;⟨o,g,c⟩
 obtain⟨ob,gi,ci,di⟩:=id hit
 obtain⟨ol,gl,_,nl,dl⟩:=hl
 have hh1:A.in1.handled=none:=hh
 unfold Builtin.SmallTypes.nextOf
 refine wpAny_bind (wpAny_callSpecial?_slot (name:=Str.ofString "__next__") ty F.slot_tuple_iterator_next (wpAny_call_entry F.slot_tuple_iterator_next ty F.entry_tuple_iterator_next ?_ (F.args_tuple_iterator_next_1 _)))
 wp_walk using wpAny_field gi di (x:=.ref l) rfl,wpAny_field gi di (x:=.int (i:Int) 0) rfl,wpAny_seqItems gl dl
 rw[Int.toNat_natCast,hx]
 dsimp only
 wp_walk using jnb gi di
 ·(try unfold raiseNew)
  wp_walk
  exact q _ _ (((Heap.SameBut.update ..).extBut.push _).push _) ⟨_,Heap.get?_push_size _ rfl,rfl⟩
 ·show 0 < 2;decide
theorem jtn {Q:Value→Shared→Prop}{x:Value}(hit:iAt b s.heap it l i)(hl:sAt b s.heap l items)(hx:items[i]?=some x)
  (q:∀h',iAt b h' it l (i+1)→Heap.SameBut it s.heap h'→Q x {s with heap:=h'}):wpAny (model prog w) A (Builtin.SmallTypes.nextOf (.ref it)) Q E s:=by
 cases b
 ·exact wpAny_nextOf_list_item hit hl hx q
 ·exact jpE hit hl hx q
theorem jfu {Q:Value→Shared→Prop}(hh:A.handled=none)(hit:iAt b s.heap it l i)(hl:sAt b s.heap l items)(hx:items[i]?=none)
  (q:∀h' x,Heap.ExtBut it s.heap h'→(∃o,h'.get? x=some o∧o.cls=.type "StopIteration")→E (.ref x) {s with heap:=h'}):wpAny (model prog w) A (Builtin.SmallTypes.nextOf (.ref it)) Q E s:=by
 cases b
 ·exact wpAny_nextOf_list_end hh hit hl hx q
 ·exact jio hh hit hl hx q
theorem jie {Q:Value→Shared→Prop}(hl:sAt b s.heap l items)(q:Q (.ref s.heap.objs.size) {s with heap:=s.heap.push (jdT b l)}):wpAny (model prog w) A (pyIter (.ref l)) Q E s:=by
 cases b
 ·exact wpAny_pyIter_list hl q
 ·exact wpAny_pyIter_tuple hl q
end
theorem jng {prog:Program}{w:World}{A:Around}{b:Bool}(hh:A.handled=none)(it l:Addr)(hne:l≠it)(items:Array Value) :
  Draws prog w A it [it,l] items.size (fun i v=>items[i]?=some v) (fun i h=>iAt b h it l i∧sAt b h l items) where
 live:=fun _ _ st=>let ⟨o,g,_⟩:=st.1.obj;⟨o,g⟩
 frame:=fun _ _ _ st k=>⟨st.1.keep fun o e=>k it (by simp) o e,st.2.keep fun o e=>k l (by simp) o e⟩
 item:=fun i s Q E hi st q=>jtn st.1 st.2 (x:=items[i]) (by simp[hi]) fun h' a c=>q _ h' s.toks (by simp[hi]) ⟨a,st.2.keep fun o e=>c.extBut _ _ hne e⟩ c
 done:=fun s Q E st q=>jfu hh st.1 st.2 (by simp) q
theorem jjf (l:Addr)(items:Array Value)(n:Nat)(dc:Option Addr)(sl:Array (Option Value)) :
  Meets (Builtin.«enumerate.__new__» ⟨[.type "enumerate",.ref l],[]⟩) (fun _ R s=>s.heap.get? l=some {cls:=.type "tuple",dict:=dc,data:=.seq items n,slots:=sl} ∧
   R (.ok (.ret (.ref (s.heap.push (jdT true l)).objs.size))) {s with heap:=(s.heap.push (jdT true l)).push {cls:=.type "enumerate",data:=.fields #[.none,.bool false,.ref s.heap.objs.size,rawInt 0,.none,.none]}}):=by
 refine .of_wp ?_
 rintro prog w A R ⟨hp,g,d,tk,os⟩ ⟨hl,q⟩
 have sub:=sub_enumerate
 have ht:sAt true (Shared.heap ⟨hp,g,d,tk,os⟩) l items:=⟨_,hl,rfl,n,rfl⟩
 wp_walk using AutoSeq1.wpAny_loadPart' hl
 refine wpAny_stack_any fun st=>wpAny_pure ?_
 split
 case h_1 c _ _ _ _ _=>cases (c == Value.type "enumerate") <;> (wp_walk using AutoSeq1.wpAny_loadPart' hl,jie ht;exact⟨_,rfl,q⟩)
 case h_2=>wp_walk using AutoSeq1.wpAny_loadPart' hl,jie ht;exact⟨_,rfl,q⟩
section
variable {prog:Program} {w:World} {A:Around} {E:Value→Shared→Prop} {s:Shared} {l:Addr} {items:Array Value} {b:Bool}
theorem jiJ {Q:Value→Shared→Prop}(hl:sAt b s.heap l items)
  (q:∀h',IsEnum h' (s.heap.objs.size+1) s.heap.objs.size 0 .none→iAt b h' s.heap.objs.size l 0→(∀c o,s.heap.get? c=some o→h'.get? c=some o)→Q (.ref (s.heap.objs.size+1)) {s with heap:=h'}) :
  wpAny (model prog w) A (call (.type "enumerate") [.ref l]) Q E s:=by
 cases b
 ·exact call_enumerate_list hl fun h' a c _ k=>q h' a c k
 ·obtain⟨⟨c,dc,dt,sl⟩,g,hc,n,hd⟩:=hl
  cases hc
  cases hd
  refine callType_new F.called_enumerate (by decide) (F.typeCall_enumerate_1 _) (F.newCall_enumerate_1 _) (fun o=>F.args_object_init_2 o _) F.entry_enumerate_new (jjf l items n dc sl) ⟨g,?_⟩
  have z:(s.heap.push (jdT true l)).objs.size=s.heap.objs.size+1:=Heap.size_push ..
  have ge:=Heap.get?_push_size (s.heap.push (jdT true l)) (o:={cls:=.type "enumerate",data:=.fields #[.none,.bool false,.ref s.heap.objs.size,rawInt 0,.none,.none]}) rfl
  rw[z]at ge
  show _∧_
  rw[z]
  exact⟨⟨_,ge,rfl⟩,q _ ge (jfo (Heap.get?_push_of_some _ (Heap.get?_push_size _ rfl))) fun c o x=>Heap.get?_push_of_some _ (Heap.get?_push_of_some _ x)⟩
theorem joN {h0 hB:Heap}{a c:Value}(zB:hB.objs.size=h0.objs.size+2) :
  ((hB.push {cls:=.type "tuple",data:=.seq #[a,c]}).push {cls:=.type "tuple",data:=.seq #[.none,.none]}).objs.size=h0.objs.size+4 ∧
  IsZip (((hB.push {cls:=.type "tuple",data:=.seq #[a,c]}).push {cls:=.type "tuple",data:=.seq #[.none,.none]}).push {cls:=.type "zip",data:=.fields #[.none,.bool false,.bool false,.ref hB.objs.size,.ref (hB.push {cls:=.type "tuple",data:=.seq #[a,c]}).objs.size]}) (h0.objs.size+4) (h0.objs.size+2) (h0.objs.size+3) .none ∧
  IsPair (((hB.push {cls:=.type "tuple",data:=.seq #[a,c]}).push {cls:=.type "tuple",data:=.seq #[.none,.none]}).push {cls:=.type "zip",data:=.fields #[.none,.bool false,.bool false,.ref hB.objs.size,.ref (hB.push {cls:=.type "tuple",data:=.seq #[a,c]}).objs.size]}) (h0.objs.size+2) a c ∧
  IsPair (((hB.push {cls:=.type "tuple",data:=.seq #[a,c]}).push {cls:=.type "tuple",data:=.seq #[.none,.none]}).push {cls:=.type "zip",data:=.fields #[.none,.bool false,.bool false,.ref hB.objs.size,.ref (hB.push {cls:=.type "tuple",data:=.seq #[a,c]}).objs.size]}) (h0.objs.size+3) .none .none ∧
  ∀d o,hB.get? d=some o→(((hB.push {cls:=.type "tuple",data:=.seq #[a,c]}).push {cls:=.type "tuple",data:=.seq #[.none,.none]}).push {cls:=.type "zip",data:=.fields #[.none,.bool false,.bool false,.ref hB.objs.size,.ref (hB.push {cls:=.type "tuple",data:=.seq #[a,c]}).objs.size]}).get? d=some o:=by
 have zC:(hB.push {cls:=.type "tuple",data:=.seq #[a,c]}).objs.size=h0.objs.size+3:=by rw[Heap.size_push,zB]
 have tC:=Heap.get?_push_size hB (o:={cls:=.type "tuple",data:=.seq #[a,c]}) rfl
 have kC:∀d o,hB.get? d=some o→(hB.push {cls:=.type "tuple",data:=.seq #[a,c]}).get? d=some o:=fun d o e=>Heap.get?_push_of_some _ e
 rw[zB]at tC ⊢
 rw[zC]
 generalize hB.push {cls:=.type "tuple",data:=.seq #[a,c]}=hC at zC tC kC ⊢
 have zD:(hC.push {cls:=.type "tuple",data:=.seq #[.none,.none]}).objs.size=h0.objs.size+4:=by rw[Heap.size_push,zC]
 have tD:=Heap.get?_push_size hC (o:={cls:=.type "tuple",data:=.seq #[.none,.none]}) rfl
 have kD:∀d o,hC.get? d=some o→(hC.push {cls:=.type "tuple",data:=.seq #[.none,.none]}).get? d=some o:=fun d o e=>Heap.get?_push_of_some _ e
 rw[zC]at tD
 generalize hC.push {cls:=.type "tuple",data:=.seq #[.none,.none]}=hD at zD tD kD ⊢
 have tE:=Heap.get?_push_size hD (o:={cls:=.type "zip",data:=.fields #[.none,.bool false,.bool false,.ref (h0.objs.size+2),.ref (h0.objs.size+3)]}) rfl
 rw[zD]at tE
 exact⟨zD,tE,Heap.get?_push_of_some _ (kD _ _ tC),Heap.get?_push_of_some _ tD,fun d o e=>Heap.get?_push_of_some _ (kD _ _ (kC _ _ e))⟩
theorem jnY (b1 b2:Bool)(l1 l2:Addr)(xs ys:Array Value) :
  Meets (Builtin.«zip.__new__» ⟨[.type "zip",.ref l1,.ref l2],[]⟩) (fun _ R s=>sAt b1 s.heap l1 xs∧sAt b2 s.heap l2 ys ∧
   ∀h',IsZip h' (s.heap.objs.size+4) (s.heap.objs.size+2) (s.heap.objs.size+3) .none→IsPair h' (s.heap.objs.size+2) (.ref s.heap.objs.size) (.ref (s.heap.objs.size+1))→IsPair h' (s.heap.objs.size+3) .none .none →
    iAt b1 h' s.heap.objs.size l1 0→iAt b2 h' (s.heap.objs.size+1) l2 0→(∀c o,s.heap.get? c=some o→h'.get? c=some o)→R (.ok (.ret (.ref (s.heap.objs.size+4)))) {s with heap:=h'}):=by
 refine .of_wp ?_
 rintro prog w A R ⟨hp,g,d,tk,os⟩ ⟨h1,h2,q⟩
 have sub:=sub_zip
 have g1:sAt b1 (Shared.heap ⟨hp,g,d,tk,os⟩) l1 xs:=h1
 have g2:sAt b2 (Shared.heap ⟨hp.push (jdT b1 l1),g,d,tk,os⟩) l2 ys:=sAt.keep h2 fun o e=>Heap.get?_push_of_some _ e
 wp_walk using jie g1,jie g2
 refine⟨_,rfl,?_⟩
 have z1:(hp.push (jdT b1 l1)).objs.size=hp.objs.size+1:=Heap.size_push ..
 generalize eA:hp.push (jdT b1 l1)=hA at *
 have z2:(hA.push (jdT b2 l2)).objs.size=hp.objs.size+2:=by rw[Heap.size_push,z1]
 have i1:hA.get? hp.objs.size=some (jdT b1 l1):=by rw[← eA];exact Heap.get?_push_size _ rfl
 have k1:∀c o,hp.get? c=some o→hA.get? c=some o:=fun c o e=>by rw[← eA];exact Heap.get?_push_of_some _ e
 have i2:(hA.push (jdT b2 l2)).get? (hp.objs.size+1)=some (jdT b2 l2):=by rw[← z1];exact Heap.get?_push_size _ rfl
 have k2:∀c o,hA.get? c=some o→(hA.push (jdT b2 l2)).get? c=some o:=fun c o e=>Heap.get?_push_of_some _ e
 obtain⟨e4,p1,p2,p3,p4⟩:=joN (a:=.ref hp.objs.size) (c:=.ref hA.objs.size) z2
 have hq:=q _ p1 (by show IsPair _ _ _ (.ref (hp.objs.size+1));rw[← z1];exact p2) p3 (jfo (p4 _ _ (k2 _ _ i1))) (jfo (p4 _ _ i2)) fun c o e=>p4 _ _ (k2 _ _ (k1 _ _ e))
 rw[← e4]at hq
 exact hq
theorem jgA {b1 b2:Bool}{l1 l2:Addr}{xs ys:Array Value}{Q:Value→Shared→Prop}(h1:sAt b1 s.heap l1 xs)(h2:sAt b2 s.heap l2 ys)
  (q:∀h',IsZip h' (s.heap.objs.size+4) (s.heap.objs.size+2) (s.heap.objs.size+3) .none→IsPair h' (s.heap.objs.size+2) (.ref s.heap.objs.size) (.ref (s.heap.objs.size+1))→IsPair h' (s.heap.objs.size+3) .none .none →
    iAt b1 h' s.heap.objs.size l1 0→iAt b2 h' (s.heap.objs.size+1) l2 0→(∀c o,s.heap.get? c=some o→h'.get? c=some o)→Q (.ref (s.heap.objs.size+4)) {s with heap:=h'}) :
  wpAny (model prog w) A (call (.type "zip") [.ref l1,.ref l2]) Q E s :=
 callType_new F.called_zip (by decide) (F.typeCall_zip_2 _ _) (F.newCall_zip_2 _ _) (fun o=>F.args_object_init_3 o _ _) F.entry_zip_new (jnY b1 b2 l1 l2 xs ys)
  ⟨h1,h2,fun h' p1 p2 p3 p4 p5 p6=>⟨⟨_,p1,rfl⟩,q h' p1 p2 p3 p4 p5 p6⟩⟩
theorem jmu {b1 b2:Bool}{z TI TO i1 i2 l1 l2:Addr}{i:Nat}{xs ys:Array Value}{x y u v:Value}{Q:Option Value→Shared→Prop}(D:ZipApart z TI TO i1 i2 l1 l2)
  (oz:IsZip s.heap z TI TO .none) (oi:IsPair s.heap TI (.ref i1) (.ref i2)) (oo:IsPair s.heap TO u v) (a1:iAt b1 s.heap i1 l1 i) (a2:iAt b2 s.heap i2 l2 i) (s1:sAt b1 s.heap l1 xs) (s2:sAt b2 s.heap l2 ys) (ex:xs[i]?=some x) (ey:ys[i]?=some y)
  (q:∀h',IsZip h' z TI TO (rawInt s.heap.objs.size)→IsPair h' TO x y→iAt b1 h' i1 l1 (i+1)→iAt b2 h' i2 l2 (i+1)→IsPair h' s.heap.objs.size x y →
   (∀c o,c≠z→c≠TO→c≠i1→c≠i2→s.heap.get? c=some o→h'.get? c=some o)→Q (some (.ref s.heap.objs.size)) {s with heap:=h'}) :
  wpAny (model prog w) A (pyNext (.ref z)) Q E s:=by
 have ty:s.TypeIs (.ref z) "zip":=⟨_,oz,rfl⟩
 unfold pyNext
 refine wpAny_bind (wpAny_attempt (wpAny_callSpecial?_slot (name:=Str.ofString "__next__") ty F.slot_zip_next (wpAny_call_entry F.slot_zip_next ty F.entry_zip_next ?_ (F.args_zip_next_1 _))))
 have fin:∀(w1:Value) (t:Shared),Q (some w1) t→wpAny (model prog w) A (pure (some w1)) Q E t:=fun _ _ z=>wpAny_pure z
 change wpAny _ _ (field (.ref z) 2 >>= _) _ _ _
 refine wpAny_bind (wpAny_field oz rfl (x:=.bool false) rfl ?_)
 change wpAny _ _ (field (.ref z) 3 >>= _) _ _ _
 refine wpAny_bind (wpAny_field oz rfl (x:=.ref TI) rfl (wpAny_bind (wpAny_seqItems oi rfl ?_)))
 change wpAny _ _ (Builtin.SmallTypes.ownedTupleIsFree (.ref z) >>= _) _ _ _
 refine wpAny_bind (wpAny_bind (wpAny_field oz rfl (x:=.none) rfl (wpAny_pure ?_)))
 rw[if_pos rfl]
 refine wpAny_bind (wpAny_rule (wpAny_bind (wpAny_field oz rfl (x:=.ref TO) rfl (wpAny_bind (wpAny_setField_rec oz (by simp) fun hA zA kA=>wpAny_bind ?_)))))
 have zA':IsZip hA z TI TO .ellipsis:=zA
 have nA:hA.objs.size=s.heap.objs.size:=kA.1
 have oA:IsPair hA TO u v:=kA.extBut _ _ D.TOz oo
 have a1A:iAt b1 hA i1 l1 i:=a1.keep fun o e=>kA.extBut _ _ D.i1z e
 have a2A:iAt b2 hA i2 l2 i:=a2.keep fun o e=>kA.extBut _ _ D.i2z e
 have s1A:sAt b1 hA l1 xs:=s1.keep fun o e=>kA.extBut _ _ D.l1z e
 have s2A:sAt b2 hA l2 ys:=s2.keep fun o e=>kA.extBut _ _ D.l2z e
 have keepA:∀c o,c≠z→s.heap.get? c=some o→hA.get? c=some o:=fun c o n e=>kA.extBut _ _ n e
 simp only[List.zipIdx_cons,List.zipIdx_nil,List.forIn_cons,List.forIn_nil]
 refine wpAny_bind (wpAny_bind (wpAny_onRaise ?_))
 change wpAny _ _ (Builtin.SmallTypes.nextOf (.ref i1) >>= _) _ _ _
 refine wpAny_bind (jtn a1A s1A ex fun hB a1B kB=>wpAny_pure ?_)
 have oB:IsPair hB TO u v:=kB.extBut _ _ D.TOi1 oA
 refine wpAny_bind (wpAny_seqItems oB rfl (wpAny_bind (wpAny_updateSeq_pair oB fun hC oC kC=>wpAny_bind (wpAny_letGo (wpAny_pure ?_)))))
 have oC':IsPair hC TO x v:=oC
 have a2C:iAt b2 hC i2 l2 i:=(a2A.keep fun o e=>kB.extBut _ _ D.i12.symm e).keep fun o e=>kC.extBut _ _ D.TOi2.symm e
 have s2C:sAt b2 hC l2 ys:=(s2A.keep fun o e=>kB.extBut _ _ D.l2i1 e).keep fun o e=>kC.extBut _ _ D.l2TO e
 refine wpAny_bind (wpAny_bind (wpAny_onRaise ?_))
 change wpAny _ _ (Builtin.SmallTypes.nextOf (.ref i2) >>= _) _ _ _
 refine wpAny_bind (jtn a2C s2C ey fun hD a2D kD=>wpAny_pure ?_)
 have oD:IsPair hD TO x v:=kD.extBut _ _ D.TOi2 oC'
 refine wpAny_bind (wpAny_seqItems oD rfl (wpAny_bind (wpAny_updateSeq_pair oD fun hE oE kE=>wpAny_bind (wpAny_letGo (wpAny_pure (wpAny_pure ?_))))))
 have oE':IsPair hE TO x y:=oE
 refine wpAny_bind (wpAny_seqItems oE' rfl (wpAny_bind (wpAny_newTuple ?_)))
 have nE:hE.objs.size=s.heap.objs.size:=by rw[kE.1,kD.1,kC.1,kB.1,nA]
 have keepE:∀c o,c≠TO→c≠i1→c≠i2→hA.get? c=some o→hE.get? c=some o:=fun c o c2 c3 c4 e=>kE.extBut _ _ c2 (kD.extBut _ _ c4 (kC.extBut _ _ c2 (kB.extBut _ _ c3 e)))
 have zE:IsZip hE z TI TO .ellipsis:=keepE _ _ D.TOz.symm D.i1z.symm D.i2z.symm zA'
 have a1E:iAt b1 hE i1 l1 (i+1):=a1B.keep fun o e=>kE.extBut _ _ D.TOi1.symm (kD.extBut _ _ D.i12 (kC.extBut _ _ D.TOi1.symm e))
 have a2E:iAt b2 hE i2 l2 (i+1):=a2D.keep fun o e=>kE.extBut _ _ D.TOi2.symm e
 have lz:z < hE.objs.size:=Heap.lt_size zE
 change wpAny _ _ (Builtin.SmallTypes.ownedTupleHandOut (.ref z) (.ref hE.objs.size) >>= _) _ _ _
 refine wpAny_bind ?_
 unfold Builtin.SmallTypes.ownedTupleHandOut
 have zP:IsZip (hE.push {cls:=.type "tuple",data:=.seq #[x,y]}) z TI TO .ellipsis:=Heap.get?_push_of_some _ zE
 refine wpAny_bind (wpAny_setField_rec zP (by simp) fun hF zF kF=>wpAny_setField_rec (show IsZip hF z TI TO (rawInt hE.objs.size) from zF) (by simp) fun hG zG kG=>?_)
 have zG':IsZip hG z TI TO (rawInt hE.objs.size):=zG
 have keepG:∀c o,c≠z→(hE.push {cls:=.type "tuple",data:=.seq #[x,y]}).get? c=some o→hG.get? c=some o:=fun c o n e=>kG.extBut _ _ n (kF.extBut _ _ n e)
 have up:∀c o,c≠z→hE.get? c=some o→hG.get? c=some o:=fun c o n e=>keepG c o n (Heap.get?_push_of_some _ e)
 have new:IsPair hG hE.objs.size x y:=keepG _ _ (Nat.ne_of_gt lz) (Heap.get?_push_size _ rfl)
 rw[nE]at zG' new
 refine wpAny_pure ⟨_,rfl,fin _ _ ?_⟩
 change Q (some (.ref hE.objs.size)) _
 rw[nE]
 exact q hG zG' (up _ _ D.TOz oE') (a1E.keep fun o e=>up _ _ D.i1z e) (a2E.keep fun o e=>up _ _ D.i2z e) new fun c o c1 c2 c3 c4 e=>up c o c1 (keepE c o c2 c3 c4 (keepA c o c1 e))
theorem jql {b1 b2:Bool}{z TI TO i1 i2 l1 l2:Addr}{i:Nat}{xs ys:Array Value}{u v:Value}{Q:Option Value→Shared→Prop}(hh:A.handled=none)(D:ZipApart z TI TO i1 i2 l1 l2)
  (oz:IsZip s.heap z TI TO .none) (oi:IsPair s.heap TI (.ref i1) (.ref i2)) (oo:IsPair s.heap TO u v) (a1:iAt b1 s.heap i1 l1 i) (a2:iAt b2 s.heap i2 l2 i) (s1:sAt b1 s.heap l1 xs) (s2:sAt b2 s.heap l2 ys) (ee:xs[i]?=none∨ys[i]?=none)
  (q:∀h',(∀c o,c≠z→c≠TO→c≠i1→c≠i2→s.heap.get? c=some o→h'.get? c=some o)→Q none {s with heap:=h'}) :
  wpAny (model prog w) A (pyNext (.ref z)) Q E s:=by
 have ty:s.TypeIs (.ref z) "zip":=⟨_,oz,rfl⟩
 have hh1:A.in1.handled=none:=hh
 unfold pyNext
 refine wpAny_bind (wpAny_attempt (wpAny_callSpecial?_slot (name:=Str.ofString "__next__") ty F.slot_zip_next (wpAny_call_entry F.slot_zip_next ty F.entry_zip_next ?_ (F.args_zip_next_1 _))))
 have raised:∀(hX hY:Heap) (e:Addr),IsZip hX z TI TO .ellipsis→(∃o,hX.get? e=some o∧o.cls=.type "StopIteration")→(∀c o,c≠z→c≠TO→c≠i1→c≠i2→s.heap.get? c=some o→hX.get? c=some o)→Heap.SameBut z hX hY →
   (∃o,hY.get? e=some o∧o.cls=.type "StopIteration")∧∀c o,c≠z→c≠TO→c≠i1→c≠i2→s.heap.get? c=some o→hY.get? c=some o:=fun hX hY e zX ⟨o,ho,hc⟩ kX kY=>by
  have ne:e≠z:=fun r=>by
   rw[r,zX]at ho
   cases ho
   simp at hc
  exact⟨⟨o,kY.extBut _ _ ne ho,hc⟩,fun c o c1 c2 c3 c4 r=>kY.extBut _ _ c1 (kX c o c1 c2 c3 c4 r)⟩
 change wpAny _ _ (field (.ref z) 2 >>= _) _ _ _
 refine wpAny_bind (wpAny_field oz rfl (x:=.bool false) rfl ?_)
 change wpAny _ _ (field (.ref z) 3 >>= _) _ _ _
 refine wpAny_bind (wpAny_field oz rfl (x:=.ref TI) rfl (wpAny_bind (wpAny_seqItems oi rfl ?_)))
 change wpAny _ _ (Builtin.SmallTypes.ownedTupleIsFree (.ref z) >>= _) _ _ _
 refine wpAny_bind (wpAny_bind (wpAny_field oz rfl (x:=.none) rfl (wpAny_pure ?_)))
 rw[if_pos rfl]
 refine wpAny_bind (wpAny_rule (wpAny_bind (wpAny_field oz rfl (x:=.ref TO) rfl (wpAny_bind (wpAny_setField_rec oz (by simp) fun hA zA kA=>wpAny_bind ?_)))))
 have zA':IsZip hA z TI TO .ellipsis:=zA
 have oA:IsPair hA TO u v:=kA.extBut _ _ D.TOz oo
 have a1A:iAt b1 hA i1 l1 i:=a1.keep fun o e=>kA.extBut _ _ D.i1z e
 have a2A:iAt b2 hA i2 l2 i:=a2.keep fun o e=>kA.extBut _ _ D.i2z e
 have s1A:sAt b1 hA l1 xs:=s1.keep fun o e=>kA.extBut _ _ D.l1z e
 have s2A:sAt b2 hA l2 ys:=s2.keep fun o e=>kA.extBut _ _ D.l2z e
 simp only[List.zipIdx_cons,List.zipIdx_nil,List.forIn_cons,List.forIn_nil]
 refine wpAny_bind (wpAny_bind (wpAny_onRaise ?_))
 change wpAny _ _ (Builtin.SmallTypes.nextOf (.ref i1) >>= _) _ _ _
 by_cases ex:xs[i]?=none
 ·refine wpAny_bind (jfu hh1 a1A s1A ex fun hX e kX he=>?_)
  have zX:IsZip hX z TI TO .ellipsis:=kX _ _ D.i1z.symm zA'
  refine wpAny_setField_rec zX (by simp) fun hY _ kY=>?_
  obtain⟨⟨o,ho,hc⟩,kk⟩:=raised hX hY e zX he (fun c o c1 _ c3 _ r=>kX _ _ c3 (kA.extBut _ _ c1 r)) kY
  exact wpAny_bind (wpAny_isInstance (T:="StopIteration") (b:=true) ⟨o,ho,hc⟩ isSubtype_stop (wpAny_pure (q _ kk)))
 ·have ey:ys[i]?=none:=ee.resolve_left ex
  obtain⟨x,ex'⟩:∃x,xs[i]?=some x:=Option.ne_none_iff_exists'.mp ex
  refine wpAny_bind (jtn a1A s1A ex' fun hB a1B kB=>wpAny_pure ?_)
  have oB:IsPair hB TO u v:=kB.extBut _ _ D.TOi1 oA
  refine wpAny_bind (wpAny_seqItems oB rfl (wpAny_bind (wpAny_updateSeq_pair oB fun hC oC kC=>wpAny_bind (wpAny_letGo (wpAny_pure ?_)))))
  have a2C:iAt b2 hC i2 l2 i:=(a2A.keep fun o e=>kB.extBut _ _ D.i12.symm e).keep fun o e=>kC.extBut _ _ D.TOi2.symm e
  have s2C:sAt b2 hC l2 ys:=(s2A.keep fun o e=>kB.extBut _ _ D.l2i1 e).keep fun o e=>kC.extBut _ _ D.l2TO e
  refine wpAny_bind (wpAny_bind (wpAny_onRaise ?_))
  change wpAny _ _ (Builtin.SmallTypes.nextOf (.ref i2) >>= _) _ _ _
  refine wpAny_bind (jfu hh1 a2C s2C ey fun hX e kX he=>?_)
  have zX:IsZip hX z TI TO .ellipsis:=kX _ _ D.i2z.symm (kC.extBut _ _ D.TOz.symm (kB.extBut _ _ D.i1z.symm zA'))
  refine wpAny_setField_rec zX (by simp) fun hY _ kY=>?_
  obtain⟨⟨o,ho,hc⟩,kk⟩:=raised hX hY e zX he (fun c o c1 c2 c3 c4 r=>kX _ _ c4 (kC.extBut _ _ c2 (kB.extBut _ _ c3 (kA.extBut _ _ c1 r)))) kY
  exact wpAny_bind (wpAny_isInstance (T:="StopIteration") (b:=true) ⟨o,ho,hc⟩ isSubtype_stop (wpAny_pure (q _ kk)))
end
end _L2
namespace _L2
open PySem PySem.Spec PyProof.Rows
noncomputable def SqB (b:Bool)(K:PySem.W.Frag)(H:Hp)(a:Addr)(xs:List V):Prop:=match b with | false=>SqL K H a xs | true=>SqT K H a xs
section
variable {X:Cx} {pins:List (Addr×Obj)} {σ:_L2.St} {H:Hp} {s:Shared} {a:Addr} {xs ys:List V} {b:Bool}
theorem Inv.sqb (I:Inv X pins σ H s)(h:SqB b X.K H a xs):∃its:List Value,ja6 xs its∧sAt b s.heap a its.toArray∧xs.length≤sizeLine:=by
 cases b
 ·obtain⟨its,v,p,z⟩:=I.list h
  exact⟨its,v,p.isList,z⟩
 ·obtain⟨its,v,p,z⟩:=I.tuple h
  exact⟨its,v,p,z⟩
theorem Inv.sqb_inj (I:Inv X pins σ H s)(h:SqB b X.K H a xs)(h':SqB b X.K H a ys):xs=ys:=by
 cases b
 ·exact I.list_inj h h'
 ·exact I.tuple_inj h h'
end
noncomputable def jxW (b:Bool)(K:PySem.W.Frag)(a:Addr):It :=
 ⟨fun i H=>∃xs x,SqB b K H a xs∧xs[i]?=some x,fun i H x H'=>∃p y,x=.ref p∧H p=none∧H'=upd H p (.tup [.int (i:Int),y])∧∀xs,SqB b K H a xs→xs[i]?=some y,fun i H=>∃xs,SqB b K H a xs∧xs.length=i⟩
noncomputable def jxO (b1 b2:Bool)(K:PySem.W.Frag)(a b:Addr):It :=
 ⟨fun i H=>∃xs ys x y,SqB b1 K H a xs∧SqB b2 K H b ys∧xs[i]?=some x∧ys[i]?=some y,
  fun i H x H'=>∃p u v,x=.ref p∧H p=none∧H'=upd H p (.tup [u,v])∧(∀xs,SqB b1 K H a xs→xs[i]?=some u)∧∀ys,SqB b2 K H b ys→ys[i]?=some v,
  fun i H=>∃xs ys,SqB b1 K H a xs∧SqB b2 K H b ys∧(xs.length≤i∨ys.length≤i)⟩
theorem jkr {b:Bool}{P:Program}{w:World}{K:PySem.W.Frag}{elts:List Expr}{x1:Nat}{tpos:Pos}(a e it:Addr)(hne:e≠it)(hae:a≠e)(hai:a≠it):Turn P w K (.Tuple elts x1 tpos) (jxW b K a) [e,it] e (fun i h=>(∃old,IsEnum h e it (i:Int) old)∧iAt b h it a i) where
 mem:=by simp
 obj:=fun i h st b hb=>by
  obtain⟨⟨old,he⟩,hi⟩:=st
  obtain⟨o,ho,hd⟩:=hi.obj
  rcases List.mem_cons.mp hb with z | z
  ·subst z
   exact⟨_,he,fun v z=>by
    have z':Data.fields _=Data.cell v:=z
    cases z'⟩
  ·have z':b=it:=by simpa using z
   subst z'
   exact⟨o,ho,hd⟩
 keep:=fun i h h' st k=>by
  obtain⟨⟨old,he⟩,hi⟩:=st
  exact⟨⟨old,k e (by simp) _ he⟩,hi.keep fun o q=>k it (by simp) o q⟩
 item:=by
  intro X hP hw hK hc i pins s σ H E I hf st hg
  subst hP hw hK
  obtain⟨xs,x,hq,hx⟩:=hg
  obtain⟨⟨old,he⟩,hit⟩:=st
  obtain⟨its,rv,p,hz⟩:=I.sqb hq
  obtain⟨u,hu,ru⟩:=rv.get hx
  have f1:=hf e (by simp)
  have f2:=hf it (by simp)
  have hlt:i < its.toArray.size:=by
   have:=(List.getElem?_eq_some_iff.mp hu).1
   simpa using this
  refine wpAny_pyNext_enum_itemD (jng (prog:=X.prog) (w:=X.w) (A:=X.A.in1) (b:=b) (I.ok.hd hc) it a hai its.toArray) he ⟨hit,p⟩ hlt hne (by simp[hne,Ne.symm hae]) fun u' h1 tk hu' heo hst1 htup hsz kp=>?_
  have eu:u'=u:=by
   have hu2:its[i]?=some u':=by simpa using hu'
   rw[hu]at hu2
   exact (Option.some.inj hu2).symm
  subst eu
  obtain⟨hit1,_⟩:=hst1
  refine⟨_,rfl,wpAny_letOwnedTupleGo_enum heo fun h2 he2 sb2=>?_⟩
  have hen:s.heap.objs.size≠e:=Ne.symm (Nat.ne_of_lt (Heap.lt_size he))
  have hitn:s.heap.objs.size≠it:=by
   obtain⟨o,ho,_⟩:=hit.obj
   exact Ne.symm (Nat.ne_of_lt (Heap.lt_size ho))
  have kp2:∀b o,b∉[e,it]→s.heap.get? b=some o→h2.get? b=some o:=fun b o hb q=>by
   simp only[List.mem_cons,List.not_mem_nil,or_false,not_or]at hb
   exact (sb2.2 b hb.1).trans (kp b o hb.1 hb.2 q)
  have hnew:h2.get? s.heap.objs.size=some {cls:=.type "tuple",data:=.seq #[.int i tk,u']}:=(sb2.2 _ hen).trans htup
  have nt:∀b v,H b=some v→b∉[e,it]:=fun b v q hb=>by
   simp only[List.mem_cons,List.not_mem_nil,or_false]at hb
   rcases hb with z | z
   ·rw[z,f1.1]at q;cases q
   ·rw[z,f2.1]at q;cases q
  have hfr:=I.fresh
  have U:Un (frs X.stack) [e,it] H (upd H s.heap.objs.size (.tup [.int (i:Int),x])) s.heap h2 :=
   {keep:=fun b o q _ _ hb=>kp2 b o hb q
    slot:=fun b o q _ _ hb=>⟨o.slots,kp2 b o hb q⟩
    free:=fun b o q n _=>by rw[jal (Nat.ne_of_lt (Heap.lt_size q))];exact n
    there:=fun b o q hb=>⟨o,kp2 b o hb q⟩
    tups:=fun b xs q=>by rw[jal (jaj q hfr)];exact q
    frzs:=fun b o xs q=>by rw[jal (jaj q hfr)];exact q
    tbls:=fun b ps q=>⟨#[],by rw[jal (jaj q hfr),q];simp⟩}
  have hok:HOk X.prog X.w (upd H s.heap.objs.size (.tup [.int (i:Int),x])) h2:=fun b v q=>by
   by_cases hb:b=s.heap.objs.size
   ·subst hb
    rw[jay]at q
    cases q
    exact⟨by show 2≤sizeLine;decide,[.int i tk,u'],.cons ⟨_,rfl⟩ (.cons ru .nil),_,hnew,rfl,_,rfl⟩
   ·rw[jal hb]at q
    refine (I.hok b v q).stay (fun c v' hc' r=>kp2 c v' ?_ r) (fun c r=>by rw[jal (jaj r hfr)];exact r) fun c ys r=>by rw[jal (jaj r hfr)];exact r
    rcases hc' with z | z
    ·rw[z];exact nt b v q
    ·exact nt c _ z
  have I2:Inv X pins σ (upd H s.heap.objs.size (.tup [.int (i:Int),x])) {s with heap:=h2,toks:=tk+1}:=I.call' rfl U hok I.bare fun b hb=>by
   obtain⟨g0,g1,g2,g3,g4,g5⟩:=hf b hb
   exact⟨g3,g1,g4,g5⟩
  refine⟨.ref s.heap.objs.size,_,I2,rfl,⟨_,x,rfl,hfr,rfl,fun ys hy=>by rw[I.sqb_inj hy hq];exact hx⟩,⟨⟨u',?_⟩,?_⟩,fun b hb=>?_⟩
  ·have e1:((i+1:Nat):Int)=(i:Int)+1:=by omega
   rw[e1]
   exact he2
  ·exact hit1.keep fun o q=>(sb2.2 it (Ne.symm hne)).trans q
  ·rw[jal (by
    simp only[List.mem_cons,List.not_mem_nil,or_false]at hb
    rcases hb with z | z
    ·rw[z];exact Ne.symm hen
    ·rw[z];exact Ne.symm hitn)]
   exact (hf b hb).1
 done:=by
  intro X hP hw hK hc i pins s σ H E I hf st hg
  subst hP hw hK
  obtain⟨xs,hq,hx⟩:=hg
  obtain⟨⟨old,he⟩,hit⟩:=st
  obtain⟨its,rv,p,hz⟩:=I.sqb hq
  obtain⟨f0,f1,f2,f3,f4,f5⟩:=hf it (by simp)
  have hl:=rv.length
  have e0:i=its.toArray.size:=by simp;omega
  exact wpAny_pyNext_enum_endD (jng (prog:=X.prog) (w:=X.w) (A:=X.A.in1) (b:=b) (I.ok.hd hc) it a hai its.toArray) he ⟨e0 ▸ hit,p⟩ fun h' eb=>⟨rfl,I.turned (t':=s.toks) (fun b o hb e=>eb b o hb e) f0 f1 f3 f4 f5⟩
 self:=fun _ _ _ _ _ st h=>by
  obtain⟨⟨old,he⟩,_⟩:=st
  exact wpAny_pyIter_enum he h
section
variable {X:Cx}
noncomputable def jtQ (K:PySem.W.Frag)(ta:TA):TI:=fun σ H R=>ta σ H fun vs H1=>∃a b,vs=[.ref a]∧(∃xs,SqB b K H1 a xs)∧R (jxW b K a) H1
theorem jnM {a:Expr} {ta:TA} {p pos:Pos} {elts:List Expr} {x1:Nat} {tpos:Pos} (hg:Gl X "enumerate") (hm:X.mg "enumerate" = none) (ha:PA X [a] ta) (hs:starEach [a] X.env=[(false,eval a X.env)]:=by rfl):PI X (.Tuple elts x1 tpos) (.Call (.Name "enumerate" p) [a] [] pos) (jtQ X.K ta):=by
 intro pins s σ H R I h
 refine Call_ (jdJ I hg hm jhT (PyProof.Rows.callWith_type1 (thn (ha pos pins s σ H _ I h) fun us s1 ⟨vs,H1,I1,r1,q1⟩=>?_) hs rfl))
 obtain⟨l,b,e,⟨xs,hq⟩,q⟩:=q1
 subst e
 obtain⟨u,rfl,ru⟩:=r1.one
 cases ru
 obtain⟨its,rv,pl,hz⟩:=I1.sqb hq
 have ll:l < s1.heap.objs.size:=by obtain⟨_,e⟩:=pl.obj;exact Heap.lt_size e
 refine jiJ pl fun h' he hit kp=>wpAny_pyIter_enum he ?_
 refine⟨s1.heap.objs.size+1,[s1.heap.objs.size+1,s1.heap.objs.size],_,_,H1,rfl,I1.kept (t':=s1.toks) kp,jkr l _ _ (Ne.symm (Nat.ne_of_lt (Nat.lt_succ_self _))) (Nat.ne_of_lt (Nat.lt_succ_of_lt ll)) (Nat.ne_of_lt ll),⟨⟨_,he⟩,hit⟩,fun b hb=>?_,q⟩
 have hb':b=s1.heap.objs.size+1∨b=s1.heap.objs.size:=by simpa using hb
 have hle:s1.heap.objs.size≤b:=by
  rcases hb' with z | z
  ·rw[z];exact Nat.le_succ _
  ·rw[z];exact Nat.le_refl _
 exact I1.fpOk hle (I1.hok.fresh hle)
end
theorem jlP {b1 b2:Bool}{P:Program}{w:World}{K:PySem.W.Frag}{elts:List Expr}{x1:Nat}{tpos:Pos}(a b z TI TO i1 i2:Addr)(D:ZipApart z TI TO i1 i2 a b) :
  Turn P w K (.Tuple elts x1 tpos) (jxO b1 b2 K a b) [z,TI,TO,i1,i2] z (fun i h=>IsZip h z TI TO .none∧IsPair h TI (.ref i1) (.ref i2)∧(∃c d,IsPair h TO c d)∧iAt b1 h i1 a i∧iAt b2 h i2 b i) where
 mem:=by simp
 obj:=fun i h st c hc=>by
  obtain⟨hz,hTI,⟨_,_,hTO⟩,h1,h2⟩:=st
  obtain⟨o1,ho1,hd1⟩:=h1.obj
  obtain⟨o2,ho2,hd2⟩:=h2.obj
  simp only[List.mem_cons,List.not_mem_nil,or_false]at hc
  rcases hc with e | e | e | e | e
  ·subst e
   exact⟨_,hz,fun v q=>by have q':Data.fields _=Data.cell v:=q;cases q'⟩
  ·subst e
   exact⟨_,hTI,fun v q=>by have q':Data.seq _ _=Data.cell v:=q;cases q'⟩
  ·subst e
   exact⟨_,hTO,fun v q=>by have q':Data.seq _ _=Data.cell v:=q;cases q'⟩
  ·subst e
   exact⟨o1,ho1,hd1⟩
  ·subst e
   exact⟨o2,ho2,hd2⟩
 keep:=fun i h h' st k=>by
  obtain⟨hz,hTI,⟨c,d,hTO⟩,h1,h2⟩:=st
  exact⟨k z (by simp) _ hz,k TI (by simp) _ hTI,⟨c,d,k TO (by simp) _ hTO⟩,h1.keep fun o q=>k i1 (by simp) o q,h2.keep fun o q=>k i2 (by simp) o q⟩
 item:=by
  intro X hP hw hK hc i pins s σ H E I hf st hg
  subst hP hw hK
  obtain⟨xs,ys,x,y,hq1,hq2,hx,hy⟩:=hg
  obtain⟨hz,hTI,⟨c,d,hTO⟩,h1,h2⟩:=st
  obtain⟨its1,rv1,p1,_⟩:=I.sqb hq1
  obtain⟨its2,rv2,p2,_⟩:=I.sqb hq2
  obtain⟨u1,hu1,ru1⟩:=rv1.get hx
  obtain⟨u2,hu2,ru2⟩:=rv2.get hy
  have fz:=hf z (by simp)
  have fTI:=hf TI (by simp)
  have fTO:=hf TO (by simp)
  have f1:=hf i1 (by simp)
  have f2:=hf i2 (by simp)
  refine jmu D hz hTI hTO h1 h2 p1 p2 (x:=u1) (y:=u2) (by simpa using hu1) (by simpa using hu2) fun h3 hz3 hTO3 h13 h23 hT3 kp=>?_
  refine⟨_,rfl,wpAny_letOwnedTupleGo_zip hz3 fun h4 hz4 sb4=>?_⟩
  have hzn:s.heap.objs.size≠z:=Ne.symm (Nat.ne_of_lt (Heap.lt_size hz))
  have hTIn:s.heap.objs.size≠TI:=Ne.symm (Nat.ne_of_lt (Heap.lt_size hTI))
  have hTOn:s.heap.objs.size≠TO:=Ne.symm (Nat.ne_of_lt (Heap.lt_size hTO))
  have h1n:s.heap.objs.size≠i1:=by
   obtain⟨o,ho,_⟩:=h1.obj
   exact Ne.symm (Nat.ne_of_lt (Heap.lt_size ho))
  have h2n:s.heap.objs.size≠i2:=by
   obtain⟨o,ho,_⟩:=h2.obj
   exact Ne.symm (Nat.ne_of_lt (Heap.lt_size ho))
  have kp2:∀b o,b∉[z,TI,TO,i1,i2]→s.heap.get? b=some o→h4.get? b=some o:=fun b o hb q=>by
   simp only[List.mem_cons,List.not_mem_nil,or_false,not_or]at hb
   exact (sb4.2 b hb.1).trans (kp b o hb.1 hb.2.2.1 hb.2.2.2.1 hb.2.2.2.2 q)
  have hnew:h4.get? s.heap.objs.size=some {cls:=.type "tuple",data:=.seq #[u1,u2]}:=(sb4.2 _ hzn).trans hT3
  have nt:∀b v,H b=some v→b∉[z,TI,TO,i1,i2]:=fun b v q hb=>by
   simp only[List.mem_cons,List.not_mem_nil,or_false]at hb
   rcases hb with e | e | e | e | e
   ·rw[e,fz.1]at q;cases q
   ·rw[e,fTI.1]at q;cases q
   ·rw[e,fTO.1]at q;cases q
   ·rw[e,f1.1]at q;cases q
   ·rw[e,f2.1]at q;cases q
  have hfr:=I.fresh
  have U:Un (frs X.stack) [z,TI,TO,i1,i2] H (upd H s.heap.objs.size (.tup [x,y])) s.heap h4 :=
   {keep:=fun b o q _ _ hb=>kp2 b o hb q
    slot:=fun b o q _ _ hb=>⟨o.slots,kp2 b o hb q⟩
    free:=fun b o q n _=>by rw[jal (Nat.ne_of_lt (Heap.lt_size q))];exact n
    there:=fun b o q hb=>⟨o,kp2 b o hb q⟩
    tups:=fun b xs q=>by rw[jal (jaj q hfr)];exact q
    frzs:=fun b o xs q=>by rw[jal (jaj q hfr)];exact q
    tbls:=fun b ps q=>⟨#[],by rw[jal (jaj q hfr),q];simp⟩}
  have hok:HOk X.prog X.w (upd H s.heap.objs.size (.tup [x,y])) h4:=fun b v q=>by
   by_cases hb:b=s.heap.objs.size
   ·subst hb
    rw[jay]at q
    cases q
    exact⟨by show 2≤sizeLine;decide,[u1,u2],.cons ru1 (.cons ru2 .nil),_,hnew,rfl,_,rfl⟩
   ·rw[jal hb]at q
    refine (I.hok b v q).stay (fun c v' hc' r=>kp2 c v' ?_ r) (fun c r=>by rw[jal (jaj r hfr)];exact r) fun c ys r=>by rw[jal (jaj r hfr)];exact r
    rcases hc' with e | e
    ·rw[e];exact nt b v q
    ·exact nt c _ e
  have I2:Inv X pins σ (upd H s.heap.objs.size (.tup [x,y])) {s with heap:=h4}:=I.call' rfl U hok I.bare fun b hb=>by
   obtain⟨g0,g1,g2,g3,g4,g5⟩:=hf b hb
   exact⟨g3,g1,g4,g5⟩
  refine⟨.ref s.heap.objs.size,_,I2,rfl,⟨_,x,y,rfl,hfr,rfl,fun ys hy=>by rw[I.sqb_inj hy hq1];exact hx,fun ys hy'=>by rw[I.sqb_inj hy' hq2];exact hy⟩,⟨hz4,?_,⟨u1,u2,?_⟩,?_,?_⟩,fun b hb=>?_⟩
  ·exact (sb4.2 TI D.TIz).trans (kp TI _ D.TIz D.TITO D.TIi1 D.TIi2 hTI)
  ·exact (sb4.2 TO D.TOz).trans hTO3
  ·exact h13.keep fun o q=>(sb4.2 i1 D.i1z).trans q
  ·exact h23.keep fun o q=>(sb4.2 i2 D.i2z).trans q
  ·rw[jal (by
    simp only[List.mem_cons,List.not_mem_nil,or_false]at hb
    rcases hb with e | e | e | e | e
    ·rw[e];exact Ne.symm hzn
    ·rw[e];exact Ne.symm hTIn
    ·rw[e];exact Ne.symm hTOn
    ·rw[e];exact Ne.symm h1n
    ·rw[e];exact Ne.symm h2n)]
   exact (hf b hb).1
 done:=by
  intro X hP hw hK hc i pins s σ H E I hf st hg
  subst hP hw hK
  obtain⟨xs,ys,hq1,hq2,hx⟩:=hg
  obtain⟨hz,hTI,⟨c,d,hTO⟩,h1,h2⟩:=st
  obtain⟨its1,rv1,p1,_⟩:=I.sqb hq1
  obtain⟨its2,rv2,p2,_⟩:=I.sqb hq2
  have hl1:=rv1.length
  have hl2:=rv2.length
  have fz:=hf z (by simp)
  have fTI:=hf TI (by simp)
  have fTO:=hf TO (by simp)
  have f1:=hf i1 (by simp)
  have f2:=hf i2 (by simp)
  refine jql (I.ok.hd hc) D hz hTI hTO h1 h2 p1 p2 (by
   rcases hx with e | e
   ·left;simp;omega
   ·right;simp;omega) fun h4 kp=>⟨rfl,?_⟩
  have kp2:∀b o,b∉[z,TI,TO,i1,i2]→s.heap.get? b=some o→h4.get? b=some o:=fun b o hb q=>by
   simp only[List.mem_cons,List.not_mem_nil,or_false,not_or]at hb
   exact kp b o hb.1 hb.2.2.1 hb.2.2.2.1 hb.2.2.2.2 q
  have nt:∀b v,H b=some v→b∉[z,TI,TO,i1,i2]:=fun b v q hb=>by
   simp only[List.mem_cons,List.not_mem_nil,or_false]at hb
   rcases hb with e | e | e | e | e
   ·rw[e,fz.1]at q;cases q
   ·rw[e,fTI.1]at q;cases q
   ·rw[e,fTO.1]at q;cases q
   ·rw[e,f1.1]at q;cases q
   ·rw[e,f2.1]at q;cases q
  have U:Un (frs X.stack) [z,TI,TO,i1,i2] H H s.heap h4 :=
   {keep:=fun b o q _ _ hb=>kp2 b o hb q
    slot:=fun b o q _ _ hb=>⟨o.slots,kp2 b o hb q⟩
    free:=fun b o q n _=>n
    there:=fun b o q hb=>⟨o,kp2 b o hb q⟩
    tups:=fun b xs q=>q
    frzs:=fun b o xs q=>q
    tbls:=fun b ps q=>⟨#[],by rw[q];simp⟩}
  have hok:HOk X.prog X.w H h4:=fun b v q=>by
   refine (I.hok b v q).stay (fun c v' hc' r=>kp2 c v' ?_ r) (fun c r=>r) fun c ys r=>r
   rcases hc' with e | e
   ·rw[e];exact nt b v q
   ·exact nt c _ e
  exact I.call' rfl U hok I.bare fun b hb=>by
   obtain⟨g0,g1,g2,g3,g4,g5⟩:=hf b hb
   exact⟨g3,g1,g4,g5⟩
 self:=fun _ _ _ _ _ st h=>wpAny_pyIter_zip st.1 h
section
variable {X:Cx}
noncomputable def jvE (K:PySem.W.Frag)(ta:TA):TI:=fun σ H R=>ta σ H fun vs H1=>∃a b b1 b2,vs=[.ref a,.ref b]∧(∃xs,SqB b1 K H1 a xs)∧(∃ys,SqB b2 K H1 b ys)∧R (jxO b1 b2 K a b) H1
theorem jro {a b:Expr} {ta:TA} {p pos:Pos} {elts:List Expr} {x1:Nat} {tpos:Pos} (hg:Gl X "zip") (hm:X.mg "zip" = none) (ha:PA X [a,b] ta) (hs:starEach [a,b] X.env=[(false,eval a X.env),(false,eval b X.env)]) (hs2:starEach [b] X.env=[(false,eval b X.env)]) :
  PI X (.Tuple elts x1 tpos) (.Call (.Name "zip" p) [a,b] [] pos) (jvE X.K ta):=by
 intro pins s σ H R I h
 refine Call_ (jdJ I hg hm jqf (PyProof.Rows.callWith_type1 (thn (ha pos pins s σ H _ I h) fun us s1 ⟨vs,H1,I1,r1,q1⟩=>?_) (by rw[hs,hs2]) (by rw[hs2];rfl)))
 obtain⟨l1,l2,b1,b2,e,⟨xs,hq1⟩,⟨ys,hq2⟩,q⟩:=q1
 subst e
 obtain⟨u1,u2,rfl,ru1,ru2⟩:=r1.two
 cases ru1
 cases ru2
 obtain⟨its1,rv1,p1,_⟩:=I1.sqb hq1
 obtain⟨its2,rv2,p2,_⟩:=I1.sqb hq2
 have a1:l1 < s1.heap.objs.size:=by obtain⟨_,e⟩:=p1.obj;exact Heap.lt_size e
 have a2:l2 < s1.heap.objs.size:=by obtain⟨_,e⟩:=p2.obj;exact Heap.lt_size e
 refine jgA p1 p2 fun h' hz hTI hTO h1 h2 kp=>wpAny_pyIter_zip hz ?_
 refine⟨s1.heap.objs.size+4,[s1.heap.objs.size+4,s1.heap.objs.size+2,s1.heap.objs.size+3,s1.heap.objs.size,s1.heap.objs.size+1],_,_,H1,rfl,I1.kept (t':=s1.toks) kp,jlP l1 l2 _ _ _ _ _ (zipApart_new a1 a2),⟨hz,hTI,⟨_,_,hTO⟩,h1,h2⟩,fun b hb=>?_,q⟩
 have hle:s1.heap.objs.size≤b:=by
  simp only[List.mem_cons,List.not_mem_nil,or_false]at hb
  rcases hb with e | e | e | e | e <;> rw[e]
  ·exact Nat.le_add_right _ 4
  ·exact Nat.le_add_right _ 2
  ·exact Nat.le_add_right _ 3
  ·exact Nat.le_refl _
  ·exact Nat.le_add_right _ 1
 exact I1.fpOk hle (I1.hok.fresh hle)
theorem jqV {a b:Expr} {t:TA} {p pos:Pos} {elts:List Expr} {x1:Nat} {tpos:Pos} (hg:jcj X.env.scope "zip" = true) (hm:X.mg "zip" = none) (ha:QA X [a,b] t) (hs:jak [a,b]=true:=by rfl):QI X (.Tuple elts x1 tpos) (.Call (.Name "zip" p) [a,b] [] pos) (jvE X.K t):=by
 have h1:=hs
 unfold jak at h1
 simp only[List.all_cons,Bool.and_eq_true]at h1
 refine⟨jro (jax hg).1 hm ha.h ?_ (jaA h1.2.1)⟩
 rw[jaA h1.1,jaA h1.2.1]
 rfl
end
end _L2
namespace _L2
open PySem PySem.Spec PyProof.Rows
section
variable {κ:Type} [DecidableEq κ]
noncomputable def jgi (kvs:List (κ×V))(k:κ):Option V:=(kvs.find? fun kv=>decide (kv.1=k)).map (·.2)
noncomputable def jwn (kvs:List (κ×V))(k:κ)(v:V):List (κ×V) :=
 if (kvs.any fun kv=>decide (kv.1=k))=true then kvs.map (fun kv=>if kv.1=k then (kv.1,v) else kv) else kvs++[(k,v)]
noncomputable def jtw (kvs:List (κ×V))(k:κ):List (κ×V):=kvs.filter fun kv=>decide (kv.1≠k)
theorem jfx {p:κ×V}{r:List (κ×V)}{k:κ}(e:p.1=k):jgi (p :: r) k=some p.2:=by simp[jgi,List.find?_cons,e]
theorem jft {p:κ×V}{r:List (κ×V)}{k:κ}(e:¬ p.1=k):jgi (p :: r) k=jgi r k:=by simp[jgi,List.find?_cons,e]
theorem jj1 (k:κ):∀kvs:List (κ×V),(kvs.any fun kv=>decide (kv.1=k))=(jgi kvs k).isSome
 |[]=>rfl
 |p :: r=>by
  rw[List.any_cons]
  by_cases e:p.1=k
  ·simp only[jfx e,decide_eq_true e,Bool.true_or,Option.isSome_some]
  ·rw[jft e,decide_eq_false e,Bool.false_or];exact jj1 k r
theorem jhw.isSome_eq {o:Option V}{u:Option Value}(r:jhw o u):o.isSome=u.isSome:=by
 cases o with
 |none=>cases u with
  |none=>rfl
  |some _=>exact (show False from r).elim
 |some _=>cases u with
  |none=>exact (show False from r).elim
  |some _=>rfl
theorem jhw.getD {o:Option V}{u:Option Value}{d:V}{d':Value}(r:jhw o u)(rd:jba d d'):jba (o.getD d) (u.getD d'):=by
 cases o with
 |none=>cases u with
  |none=>exact rd
  |some _=>exact (show False from r).elim
 |some _=>cases u with
  |none=>exact (show False from r).elim
  |some _=>exact r
theorem KV.val {kvs:List (κ×V)}{vs:List (κ×Value)}(r:KV kvs vs)(k:κ):jhw (jgi kvs k) (valueAt vs k):=by
 unfold KV at r
 induction r with
 |nil=>exact True.intro
 | @cons p q ps qs h t ih =>
  obtain⟨h1,h2⟩:=h
  by_cases e:p.1=k
  ·have e':q.1=k:=h1.symm.trans e
   have b:valueAt (q :: qs) k=some q.2:=by simp[valueAt,List.find?_cons,e']
   rw[jfx e,b];exact h2
  ·have e':¬ q.1=k:=fun z=>e (h1.trans z)
   have b:valueAt (q :: qs) k=valueAt qs k:=by simp[valueAt,List.find?_cons,e']
   rw[jft e,b];exact ih
theorem KV.any {kvs:List (κ×V)}{vs:List (κ×Value)}(r:KV kvs vs)(k:κ):(kvs.any fun kv=>decide (kv.1=k))=vs.any fun kv=>decide (kv.1=k):=by
 unfold KV at r
 induction r with
 |nil=>rfl
 |cons h t ih=>rw[List.any_cons,List.any_cons,ih,h.1]
theorem KV.repl {kvs:List (κ×V)}{vs:List (κ×Value)}(r:KV kvs vs)(k:κ){y:V}{u:Value}(ry:jba y u) :
  KV (kvs.map fun kv=>if kv.1=k then (kv.1,y) else kv) (vs.map fun kv=>if kv.1=k then (kv.1,u) else kv):=by
 unfold KV at r ⊢
 induction r with
 |nil=>exact .nil
 | @cons p q ps qs h t ih =>
  rw[List.map_cons,List.map_cons]
  refine .cons ?_ ih
  obtain⟨h1,h2⟩:=h
  by_cases e:p.1=k
  ·rw[if_pos e,if_pos (h1.symm.trans e)];exact⟨h1,ry⟩
  ·rw[if_neg e,if_neg (fun z=>e (h1.trans z))];exact⟨h1,h2⟩
theorem KV.put {kvs:List (κ×V)}{vs:List (κ×Value)}(r:KV kvs vs)(k:κ){y:V}{u:Value}(ry:jba y u):KV (jwn kvs k y) (stored vs k u):=by
 unfold jwn stored
 rw[r.any k]
 by_cases e:(vs.any fun kv=>decide (kv.1=k))=true
 ·rw[if_pos e,if_pos e];exact r.repl k ry
 ·rw[if_neg e,if_neg e];exact Paired.snoc r ⟨rfl,ry⟩
theorem KV.drop {kvs:List (κ×V)}{vs:List (κ×Value)}(r:KV kvs vs)(k:κ):KV (jtw kvs k) (without vs k):=by
 unfold KV at r ⊢
 unfold jtw without
 induction r with
 |nil=>exact .nil
 | @cons p q ps qs h t ih =>
  obtain⟨h1,h2⟩:=h
  rw[List.filter_cons,List.filter_cons]
  by_cases e:p.1=k
  ·have a:¬ decide (p.1≠k)=true:=by simp[e]
   have b:¬ decide (q.1≠k)=true:=by simp[h1.symm.trans e]
   rw[if_neg a,if_neg b];exact ih
  ·have e':¬ q.1=k:=fun z=>e (h1.trans z)
   have a:decide (p.1≠k)=true:=by simp[e]
   have b:decide (q.1≠k)=true:=by simp[e']
   rw[if_pos a,if_pos b];exact .cons ⟨h1,h2⟩ ih
theorem KV.keys {kvs:List (κ×V)}{vs:List (κ×Value)}(r:KV kvs vs):kvs.map (·.1)=vs.map (·.1):=by
 unfold KV at r
 induction r with
 |nil=>rfl
 |cons h t ih=>rw[List.map_cons,List.map_cons,ih,h.1]
theorem KV.length {kvs:List (κ×V)}{vs:List (κ×Value)}(r:KV kvs vs):kvs.length=vs.length:=Paired.length r
end
theorem jkE {P:Program}{w:World}{k:Key}{u:Value}(r:jba (kV k) u):(jaY P w).is k u=true:=by
 cases k with
 |inl i=>obtain⟨t,e⟩:=(show ∃t,u=Value.int i t from r);subst e;exact jiH P w i t
 |inr x=>obtain⟨t,e⟩:=(show ∃t,u=Value.str x t from r);subst e;exact jf8 P w x t
theorem jiu {P:Program}{w:World}:∀{ks:List Key} {us:List Value},ja6 (ks.map kV) us→ItemsAre (jaY P w) ks us
 |[],_,r=>by rw[List.map_nil]at r;cases r;exact .nil
 |k :: ks,_,r=>by
  rw[List.map_cons]at r
  cases r with
  |cons h t=>exact .cons (jkE h) (jiu t)
noncomputable abbrev KT (H:Hp):List (List Key×V)→List (List Key×Addr×Value)→Prop:=Paired fun p q=>p.1=q.1∧H q.2.1=some (.tup (p.1.map kV))∧jba p.2 q.2.2
theorem KT.val {H:Hp}{kvs:List (List Key×V)}{xs:List (List Key×Addr×Value)}(r:KT H kvs xs)(k:List Key):jhw (jgi kvs k) ((atKey xs k).map (·.2)):=by
 induction r with
 |nil=>exact True.intro
 | @cons p q ps qs h t ih =>
  obtain⟨h1,_,h2⟩:=h
  by_cases e:p.1=k
  ·have e':q.1=k:=h1.symm.trans e
   have b:atKey (q :: qs) k=some q.2:=by simp[atKey,List.find?_cons,e']
   rw[jfx e,b];exact h2
  ·have e':¬ q.1=k:=fun z=>e (h1.trans z)
   have b:atKey (q :: qs) k=atKey qs k:=by simp[atKey,List.find?_cons,e']
   rw[jft e,b];exact ih
theorem KT.repl {H:Hp}{kvs:List (List Key×V)}{xs:List (List Key×Addr×Value)}(r:KT H kvs xs)(k:List Key){y:V}{u:Value}(ry:jba y u) :
  KT H (kvs.map fun kv=>if kv.1=k then (kv.1,y) else kv) (xs.map (putAt k u)):=by
 induction r with
 |nil=>exact .nil
 | @cons p q ps qs h t ih =>
  rw[List.map_cons,List.map_cons]
  refine .cons ?_ ih
  obtain⟨h1,h2,h3⟩:=h
  unfold putAt
  by_cases e:p.1=k
  ·rw[if_pos e,if_pos (h1.symm.trans e)];exact⟨h1,h2,ry⟩
  ·rw[if_neg e,if_neg (fun z=>e (h1.trans z))];exact⟨h1,h2,h3⟩
theorem KT.put {H:Hp}{kvs:List (List Key×V)}{xs:List (List Key×Addr×Value)}(r:KT H kvs xs)(k:List Key){b:Addr}{y:V}{u:Value}(hb:H b=some (.tup (k.map kV)))(ry:jba y u) :
  KT H (jwn kvs k y) (storedH xs k b u):=by
 have e:(kvs.any fun kv=>decide (kv.1=k))=(atKey xs k).isSome:=by
  rw[jj1,(r.val k).isSome_eq,Option.isSome_map]
 unfold jwn storedH
 rw[e]
 by_cases q:(atKey xs k).isSome=true
 ·rw[if_pos q,if_pos q];exact r.repl k ry
 ·rw[if_neg q,if_neg q];exact Paired.snoc r ⟨rfl,hb,ry⟩
theorem KT.keeps {H H':Hp}{kvs:List (List Key×V)}{xs:List (List Key×Addr×Value)}(r:KT H kvs xs)(ht:∀b ys,H b=some (.tup ys)→H' b=some (.tup ys)):KT H' kvs xs :=
 Paired.mapP r fun _ _ z=>⟨z.1,ht _ _ z.2.1,z.2.2⟩
section
variable {P:Program} {w:World} {H:Hp} {h:Heap} {a:Addr}
theorem jv8 {u:HO}(ok:HOk P w H h)(e:Rd H a u):jca P w H h a u:=e.ok ok
theorem jkI {kvs:List (Key×V)}(ok:HOk P w H h)(e:Rd H a (.dK kvs)):kvs.length≤sizeLine∧(a == sysModules)=false∧∃vs,KV kvs vs∧h.DictOf (jaY P w) a vs :=
 show jca P w H h a (.dK kvs) from jv8 ok e
theorem jh2 {ks:List Key}(ok:HOk P w H h)(e:H a=some (.tup (ks.map kV))):(tupleKind (jaY P w)).is h ks a:=by
 obtain⟨_,its,r,o,h1,h2,n,h3⟩:=(show jca P w H h a (.tup (ks.map kV)) from ok a _ e)
 exact⟨o,its.toArray,n,h1,h2,h3,by simpa using jiu r⟩
theorem jk7 {kvs:List (List Key×V)}(ok:HOk P w H h)(e:Rd H a (.dT kvs)):kvs.length≤sizeLine∧(a == sysModules)=false ∧
  ∃xs,KT H kvs xs∧h.DictOfH (tupleKind (jaY P w)) a xs:=by
 obtain⟨z,y,xs,r,o,es,ep,h1,h2,h3,h4,h5⟩:=(show jca P w H h a (.dT kvs) from jv8 ok e)
 refine⟨z,y,xs,r,o,es,ep,h1,h2,h3,h4,fun x hx=>?_,h5⟩
 have all:∀{l:List (List Key×V)} {m:List (List Key×Addr×Value)},KT H l m→∀x∈m,(tupleKind (jaY P w)).is h x.1 x.2.1:=by
  intro l m q
  induction q with
  |nil=>intro x hx;exact nomatch hx
  | @cons p q ps qs hq t ih =>
   intro x hx
   rcases List.mem_cons.mp hx with e | hx
   ·subst e
    exact jh2 ok (by rw[← hq.1];exact hq.2.1)
   ·exact ih x hx
 exact all r x hx
end
noncomputable def jpZ (H:Hp)(a:Addr)(y:V)(r:Option V):Prop :=
 (∃kvs k,Rd H a (.dK kvs)∧y=kV k∧r=jgi kvs k)∨∃kvs k b,Rd H a (.dT kvs)∧y=.ref b∧H b=some (.tup (k.map kV))∧r=jgi kvs k
section
variable {X:Cx} {pins:List (Addr×Obj)} {σ:St} {H:Hp} {s:Shared} {a:Addr} {y v:V} {u r:Value} {o:Option V} {A:Around} {E:Value→Shared→Prop}
theorem Inv.big (I:Inv X pins σ H s):sysModules < s.heap.objs.size:=by
 have h:mainGlobals < s.heap.objs.size:=(I.mod.glob.keeps I.bk).lt
 exact Nat.lt_trans (by decide) h
theorem jmN {Q:Value→Shared→Prop}(hu:A.units+1 < cLine)(I:Inv X pins σ H s)(g:jpZ H a y (some v))(ry:jba y u)(h:∀w' s',Inv X pins σ H s'→jba v w'→Q w' s') :
  wpAny (model X.prog X.w) A (getItem (.ref a) u) Q E s:=by
 rcases g with ⟨kvs,k,e,ey,l⟩ | ⟨kvs,k,b,e,ey,eb,l⟩
 ·subst ey
  obtain⟨z,hd,vs,rel,dd⟩:=jkI I.hok e
  obtain⟨w',hw,rw'⟩:=jhw.some_of (v:=v) (o:=valueAt vs k) (by rw[l];exact rel.val k)
  exact wpAny_getItem_of (jkE ry) dd.mapOf hw (h w' _ (I.tok _) rw')
 ·subst ey
  cases (show u=Value.ref b from ry)
  obtain⟨z,hd,xs,rel,dd⟩:=jk7 I.hok e
  obtain⟨w',hw,rw'⟩:=jhw.some_of (v:=v) (o:=(atKey xs k).map (·.2)) (by rw[l];exact rel.val k)
  obtain⟨p,hp,hp2⟩:=Option.map_eq_some_iff.mp hw
  refine wpAny_getItem_heap (tupleKind_room_in1 hu) (jh2 I.hok eb) dd hp ?_
  rw[hp2]
  exact h w' _ (I.tok _) rw'
theorem jyI {Q:Value→Shared→Prop}(hu:A.units+1 < cLine)(I:Inv X pins σ H s)(g:jpZ H a y o)(ry:jba y u)(h:∀s',Inv X pins σ H s'→Q (.bool o.isSome) s') :
  wpAny (model X.prog X.w) A (compareOp .In u (.ref a)) Q E s:=by
 rcases g with ⟨kvs,k,e,ey,l⟩ | ⟨kvs,k,b,e,ey,eb,l⟩
 ·subst ey
  obtain⟨z,hd,vs,rel,dd⟩:=jkI I.hok e
  refine wpAny_in_of (jkE ry) hd dd.mapOf ?_
  rw[← (rel.val k).isSome_eq,← l]
  exact h _ (I.tok _)
 ·subst ey
  cases (show u=Value.ref b from ry)
  obtain⟨z,hd,xs,rel,dd⟩:=jk7 I.hok e
  refine wpAny_in_heap (tupleKind_room_in1 hu) (jh2 I.hok eb) hd dd ?_
  have q:=(rel.val k).isSome_eq
  rw[Option.isSome_map]at q
  rw[← q,← l]
  exact h _ (I.tok _)
theorem jsp {Q:Value→Shared→Prop}(hu:A.units+1 < cLine)(I:Inv X pins σ H s)(g:jpZ H a y o)(ry:jba y u)(h:∀s',Inv X pins σ H s'→Q (.bool (!o.isSome)) s') :
  wpAny (model X.prog X.w) A (compareOp .NotIn u (.ref a)) Q E s:=by
 rcases g with ⟨kvs,k,e,ey,l⟩ | ⟨kvs,k,b,e,ey,eb,l⟩
 ·subst ey
  obtain⟨z,hd,vs,rel,dd⟩:=jkI I.hok e
  refine wpAny_notIn_of (jkE ry) hd dd.mapOf ?_
  rw[← (rel.val k).isSome_eq,← l]
  exact h _ (I.tok _)
 ·subst ey
  cases (show u=Value.ref b from ry)
  obtain⟨z,hd,xs,rel,dd⟩:=jk7 I.hok e
  refine wpAny_notIn_heap (tupleKind_room_in1 hu) (jh2 I.hok eb) hd dd ?_
  have q:=(rel.val k).isSome_eq
  rw[Option.isSome_map]at q
  rw[← q,← l]
  exact h _ (I.tok _)
theorem jr8 {h':Heap}{t':Nat}{ob:HO}(I:Inv X pins σ H s)(mu:Mut (H a))(hs:Heap.SameBut a s.heap h')(he:∃q,h'.get? a=some q)(new:jca X.prog X.w (upd H a ob) h' a ob) :
  Inv X pins σ (upd H a ob) {s with heap:=h',toks:=t'} :=
 I.write (x:=a) (e:=a) mu (.inl rfl) (fun b q hb z=>(hs.2 b hb).trans z) he new
theorem jp5 {P:Program}{w:World}{H':Hp}{h':Heap}{kvs:List (Key×V)}{vs:List (Key×Value)}(z:kvs.length≤sizeLine)(hd:(a == sysModules)=false)(rel:KV kvs vs)(dd:h'.DictOf (jaY P w) a vs) :
  jca P w H' h' a (.dK kvs):=⟨z,hd,vs,rel,dd⟩
end
section
variable {X:Cx} {pins:List (Addr×Obj)} {σ:St} {H:Hp} {s:Shared} {a:Addr} {kvs:List (Key×V)} {k:Key} {u:Value} {A:Around} {E:Value→Shared→Prop}
end
theorem jiD {X:Cx}{pins:List (Addr×Obj)}{σ:St}{H:Hp}{s:Shared}{a:Addr}{y:V}{o:Option V}(I:Inv X pins σ H s)(g:jpZ H a y o):s.TypeIs (.ref a) "dict":=by
 rcases g with ⟨kvs,k,e,_,_⟩ | ⟨kvs,k,b,e,_,_,_⟩
 ·obtain⟨_,_,vs,_,dd⟩:=jkI I.hok e
  exact dd.typeIs
 ·obtain⟨_,_,xs,_,dd⟩:=jk7 I.hok e
  exact dd.typeIs
section
variable {X:Cx} {o i e value:Expr} {pos pos' tpos:Pos} {td ty tv:TE}
end
theorem jov {P:Program}{w:World}{H:Hp}(h:Heap)(hb:sysModules < h.objs.size):jca P w H (h.push {cls:=.type "dict",data:=.dict #[]}) h.objs.size (.dK []) :=
 ⟨Nat.zero_le _,beq_eq_false_iff_ne.mpr (Ne.symm (Nat.ne_of_lt hb)),[],.nil,Heap.DictOf.new h⟩
section
variable {X:Cx} {pos:Pos}
end
structure M1 (X:Cx) (o:Expr) (m:Str) (apos:Pos) (e:Expr) (cpos:Pos):Prop where
 base:attributeBase o m X.env (eval o X.env)=eval o X.env
 few:((backTo cpos (starEach [e] X.env)).all (fun x=>!x.1) && (backToKw cpos (keywordEach [] X.env)).all (fun x=>x.1.isSome)
  && decide (([e]:List Expr).length+([]:List Keyword).length+(if ([]:List Keyword).isEmpty then 0 else 1) < 30))=true
 line:(apos.endLine == cpos.line)=true
 trees:backTo cpos (starEach [e] X.env)=[(false,eval e X.env)]
structure M2 (X:Cx) (o:Expr) (m:Str) (apos:Pos) (e f:Expr) (cpos:Pos):Prop where
 base:attributeBase o m X.env (eval o X.env)=eval o X.env
 few:((backTo cpos (starEach [e,f] X.env)).all (fun x=>!x.1) && (backToKw cpos (keywordEach [] X.env)).all (fun x=>x.1.isSome)
  && decide (([e,f]:List Expr).length+([]:List Keyword).length+(if ([]:List Keyword).isEmpty then 0 else 1) < 30))=true
 line:(apos.endLine == cpos.line)=true
 trees:backTo cpos (starEach [e,f] X.env)=[(false,eval e X.env),(false,eval f X.env)]
noncomputable def IsD (H:Hp)(a:Addr):Prop:=(∃kvs,Rd H a (.dK kvs))∨∃kvs,Rd H a (.dT kvs)
theorem juQ {X:Cx}{pins:List (Addr×Obj)}{σ:St}{H:Hp}{s:Shared}{a:Addr}(I:Inv X pins σ H s)(d:IsD H a) :
  s.TypeIs (.ref a) "dict"∧(∀b,Value.ref a=.ref b→∃ob,s.heap.get? b=some ob∧ob.dict=none)∧(a == sysModules)=false:=by
 rcases d with ⟨kvs,e⟩ | ⟨kvs,e⟩
 ·obtain⟨_,hd,vs,_,dd⟩:=jkI I.hok e
  refine⟨dd.typeIs,fun b q=>?_,hd⟩
  cases q
  obtain⟨ob,_,_,h1,h2,_⟩:=dd
  exact⟨ob,h1,h2.2.1⟩
 ·obtain⟨_,hd,xs,_,dd⟩:=jk7 I.hok e
  refine⟨dd.typeIs,fun b q=>?_,hd⟩
  cases q
  obtain⟨ob,_,_,h1,h2,_⟩:=dd
  exact⟨ob,h1,h2.2.1⟩
section
variable {X:Cx} {pins:List (Addr×Obj)} {σ:St} {H:Hp} {s:Shared} {a:Addr} {y d:V} {u r:Value} {o:Option V} {A:Around} {E:Value→Shared→Prop}
theorem jvQ {Q:Value→Shared→Prop}(hu:A.units+1 < cLine)(I:Inv X pins σ H s)(g:jpZ H a y o)(ry:jba y u)(rd:jba d r)(h:∀w' s',Inv X pins σ H s'→jba (o.getD d) w'→Q w' s') :
  wpAny (model X.prog X.w) A (call (.builtin "dict.get") [.ref a,u,r]) Q E s:=by
 rcases g with ⟨kvs,k,e,ey,l⟩ | ⟨kvs,k,b,e,ey,eb,l⟩
 ·subst ey
  obtain⟨z,hd,vs,rel,dd⟩:=jkI I.hok e
  refine call_meetsIn PySem.F.slot_dict_get dd.typeIs PySem.F.entry_dict_get (PySem.F.args_dict_get_3 _ _ _) (meets_dict_get_default (jaY X.prog X.w) a (jkE ry) hd r) ⟨_,dd.mapOf,h _ _ (I.tok _) ?_⟩
  rw[l]
  exact (rel.val k).getD rd
 ·subst ey
  cases (show u=Value.ref b from ry)
  obtain⟨z,hd,xs,rel,dd⟩:=jk7 I.hok e
  refine call_meetsIn PySem.F.slot_dict_get dd.typeIs PySem.F.entry_dict_get (PySem.F.args_dict_get_3 _ _ _) (meetsH_dict_get_default (tupleKind (jaY X.prog X.w)) a b hd r) ⟨tupleKind_room_in1 hu,k,xs,jh2 I.hok eb,dd,h _ _ (I.tok _) ?_⟩
  rw[l]
  exact (rel.val k).getD rd
end
noncomputable def jtr (td ty tx:TE):TE:=fun σ H Q=>td σ H fun x H1=>∃a,x=.ref a∧IsD H1 a∧ty σ H1 fun y H2=>tx σ H2 fun z H3=>∃o,jpZ H3 a y o∧Q (o.getD z) H3
section
variable {X:Cx} {o e f:Expr} {apos cpos:Pos} {td ty tx:TE}
theorem jod (hu:X.A.units+1 < cLine) (ho:PE X o td) (he:PE X e ty) (hf:PE X f tx) (m:M2 X o "get" apos e f cpos):PE X (.Call (.Attribute o "get" apos) [e,f] [] cpos) (jtr td ty tx):=by
 intro pins s σ H Q I h
 refine wpAny_Call_method m.base m.few m.line PySem.F.plainAttrs_dict PySem.F.slot_dict_get PySem.F.type_dict_get (thn (ho pins s σ H _ I h) fun u s1 ⟨x,H1,I1,rx,a,ex,d,q1⟩=>?_)
 subst ex
 obtain rfl:u=Value.ref a:=rx
 obtain⟨t1,t2,_⟩:=juQ I1 d
 refine⟨t1,t2,?_⟩
 rw[m.trees]
 refine Calls.callWith_builtin rfl (Calls.evalArgs_plain (Calls.spliced_cons (thn (he pins s1 σ H1 _ I1 q1) fun iv s2 ⟨y,H2,I2,ry,q2⟩ =>
  Calls.spliced_cons (thn (hf pins s2 σ H2 _ I2 q2) fun fv s3 ⟨z,H3,I3,rz,ov,g,q3⟩=>Calls.spliced_nil ?_))))
 exact jvQ hu I3 g ry rz fun w' s4 I4 rw'=>⟨_,H3,I4,rw',q3⟩
end
section
variable {X:Cx} {pins:List (Addr×Obj)} {σ:St} {H:Hp} {s:Shared} {a:Addr} {kvs:List (Key×V)} {A:Around} {E:Value→Shared→Prop}
end
section
variable {X:Cx} {pins:List (Addr×Obj)} {σ:St} {H:Hp} {s:Shared} {a:Addr} {y:V} {u:Value} {A:Around} {E:Value→Shared→Prop}
end
end _L2
namespace _L2
open PySem PySem.Spec PyProof.Rows
noncomputable def jd (kvs:List (Str×V))(z:Str):Option V:=(kvs.find? fun p=>decide (p.1=z)).map (·.2)
noncomputable def jx9 (p:Str×V)(e:DictEntry):Prop:=(∃t,e.key=.str p.1 t)∧jba p.2 e.val
structure MD (K:PySem.W.Frag) (W:World) (a:Addr) (kvs:List (Str×V)):Prop where
 ex:∃(es:Array DictEntry) (m:Nat),K.lookup a=some ⟨.type "dict",none,.dict es m,#[]⟩∧PySem.W.KeysLit W.params es.toList∧Paired jx9 kvs es.toList
 lo:(a == sysModules)=false
theorem jjl (z:Str):∀{kvs:List (Str×V)} {l:List DictEntry},Paired jx9 kvs l→jhw (jd kvs z) ((l.find? fun e=>Value.isStrOf z e.key).map (·.val))
 |_,_,.nil=>True.intro
 |p :: kvs,e :: l,.cons h t=>by
  obtain⟨⟨tk,hk⟩,hv⟩:=h
  have e1:Value.isStrOf z e.key=decide (p.1=z):=by rw[hk];rfl
  by_cases c:p.1=z
  ·have a1:jd (p :: kvs) z=some p.2:=by simp[jd,List.find?_cons,c]
   have a2:((e :: l).find? fun e=>Value.isStrOf z e.key)=some e:=by rw[List.find?_cons,e1,decide_eq_true c]
   rw[a1,a2]
   exact hv
  ·have a1:jd (p :: kvs) z=jd kvs z:=by simp[jd,List.find?_cons,c]
   have a2:((e :: l).find? fun e=>Value.isStrOf z e.key)=l.find? fun e=>Value.isStrOf z e.key:=by rw[List.find?_cons,e1,decide_eq_false c]
   rw[a1,a2]
   exact jjl z t
section
variable {X:Cx} {pins:List (Addr×Obj)} {σ:_L2.St} {H:Hp} {s:Shared} {a:Addr} {kvs:List (Str×V)}
theorem MD.map (I:Inv X pins σ H s)(h:MD X.K X.w a kvs):∃f:Str→Option Value,s.heap.MapOf (strKind X.prog X.w) a f∧∀z,jhw (jd kvs z) (f z):=by
 obtain⟨⟨es,m,hl,hk,hp⟩,_⟩:=h
 refine⟨_,PySem.W.mapOf_K (prog:=X.prog) I.kIn hl hk,fun z=>?_⟩
 obtain⟨l⟩:=es
 show jhw (jd kvs z) ((Array.find? (fun e=>Value.isStrOf z e.key) l.toArray).map (·.val))
 rw[List.find?_toArray]
 exact jjl z hp
theorem MD.ty (I:Inv X pins σ H s)(h:MD X.K X.w a kvs):s.TypeIs (.ref a) "dict"∧∀b,Value.ref a=.ref b→∃ob,s.heap.get? b=some ob∧ob.dict=none:=by
 obtain⟨⟨es,m,hl,_⟩,_⟩:=h
 have g:=I.kIn _ _ hl
 refine⟨⟨_,g,rfl⟩,fun b q=>?_⟩
 cases q
 exact⟨_,g,rfl⟩
end
section
variable {X:Cx}
noncomputable def jxN (K:PySem.W.Frag)(W:World):R2:=fun x y H Q=>∃a kvs z v,x=.ref a∧y=.str z∧MD K W a kvs∧jd kvs z=some v∧Q v H
theorem jxE:IxR X (jxN X.K X.w):=by
 intro value slice pins s σ H x y v u Q I rx ry h hs
 obtain⟨a,kvs,z,r,rfl,rfl,hm,hl,q⟩:=h
 cases rx
 obtain⟨t,rfl⟩:=ry
 obtain⟨f,hf,hr⟩:=hm.map I
 have hz:=hr z
 rw[hl]at hz
 cases e:f z with
 |none=>rw[e]at hz;exact hz.elim
 |some w =>
  rw[e]at hz
  exact tail_any hf.typeIs slot_dict_getitem.lookup (wpAny_getItem_of (strKind_is X.prog X.w z t) hf e ⟨r,H,I.tok _,hz,q⟩) hs
noncomputable def jnV (K:PySem.W.Frag)(W:World)(neg:Bool):R2:=fun x y H Q=>∃a kvs z,y=.ref a∧x=.str z∧MD K W a kvs∧Q (.bl (if neg then !(jd kvs z).isSome else (jd kvs z).isSome)) H
theorem jsk:OpR X (compareOp .In) (jnV X.K X.w false):=by
 intro pins s σ H x y v u Q I rx ry h
 obtain⟨a,kvs,z,rfl,rfl,hm,q⟩:=h
 cases ry
 obtain⟨t,rfl⟩:=rx
 obtain⟨f,hf,hr⟩:=hm.map I
 refine wpAny_in_of (strKind_is X.prog X.w z t) hm.lo hf ⟨.bl (f z).isSome,H,I.tok _,rfl,?_⟩
 rw[← (hr z).isSome_eq]
 exact q
theorem jkF:OpR X (compareOp .NotIn) (jnV X.K X.w true):=by
 intro pins s σ H x y v u Q I rx ry h
 obtain⟨a,kvs,z,rfl,rfl,hm,q⟩:=h
 cases ry
 obtain⟨t,rfl⟩:=rx
 obtain⟨f,hf,hr⟩:=hm.map I
 refine wpAny_notIn_of (strKind_is X.prog X.w z t) hm.lo hf ⟨.bl (!(f z).isSome),H,I.tok _,rfl,?_⟩
 rw[← (hr z).isSome_eq]
 exact q
noncomputable def juf (K:PySem.W.Frag)(W:World)(td ty tx:TE):TE:=fun σ H Q=>td σ H fun x H1=>∃a kvs,x=.ref a∧MD K W a kvs∧ty σ H1 fun y H2=>tx σ H2 fun d H3=>∃z,y=.str z∧Q ((jd kvs z).getD d) H3
theorem jn5 {o e f:Expr}{td ty tx:TE}{apos cpos:Pos}(ho:QE X o td)(he:QE X e ty)(hf:QE X f tx)(hb:jcc o=true:=by rfl)(hst:jak [e,f]=true:=by rfl)(hline:(apos.endLine == cpos.line)=true:=by rfl) :
  QE X (.Call (.Attribute o "get" apos) [e,f] [] cpos) (juf X.K X.w td ty tx):=by
 have h1:=hst
 unfold jak at h1
 simp only[List.all_cons,Bool.and_eq_true]at h1
 have htr:backTo cpos (starEach [e,f] X.env)=[(false,eval e X.env),(false,eval f X.env)]:=by
  rw[jaA h1.1,jaA h1.2.1]
  rfl
 refine⟨fun pins s σ H Q I h=>?_⟩
 refine wpAny_Call_method (jlD hb) (jnp hst (by show 1 < 28;decide)) hline PySem.F.plainAttrs_dict PySem.F.slot_dict_get PySem.F.type_dict_get (thn (ho.h pins s σ H _ I h) fun u s1 ⟨x,H1,I1,rx,a,kvs,ex,hm,q1⟩=>?_)
 subst ex
 cases rx
 refine⟨(hm.ty I1).1,(hm.ty I1).2,?_⟩
 rw[htr]
 refine Calls.callWith_builtin rfl (Calls.evalArgs_plain (Calls.spliced_cons (thn (he.h pins s1 σ H1 _ I1 q1) fun iv s2 ⟨y,H2,I2,ry,q2⟩ =>
  Calls.spliced_cons (thn (hf.h pins s2 σ H2 _ I2 q2) fun fv s3 ⟨d,H3,I3,rd,z,ey,q3⟩=>Calls.spliced_nil ?_))))
 subst ey
 obtain⟨t,rfl⟩:=ry
 obtain⟨g,hg,hr⟩:=hm.map I3
 exact call_meetsIn PySem.F.slot_dict_get (hm.ty I3).1 PySem.F.entry_dict_get (PySem.F.args_dict_get_3 _ _ _) (meets_dict_get_default (strKind X.prog X.w) a (strKind_is X.prog X.w z t) hm.lo fv) ⟨_,hg,_,H3,I3.tok _,(hr z).getD rd,q3⟩
noncomputable def jsd:R2:=fun x y H Q=>∃a v,x=.ref a∧jpZ H a y (some v)∧Q v H
theorem jxC (hu:X.A.units+1 < cLine):IxR X jsd:=by
 intro value slice pins s σ H x y v u Q I rx ry h hs
 obtain⟨a,r,rfl,g,q⟩:=h
 cases rx
 exact tail_any (jiD I g) slot_dict_getitem.lookup (jmN hu I g ry fun w' s' I' rw'=>⟨r,H,I',rw',q⟩) hs
noncomputable def jrh (neg:Bool):R2:=fun x y H Q=>∃a o,y=.ref a∧jpZ H a x o∧Q (.bl (if neg then !o.isSome else o.isSome)) H
theorem jsJ (hu:X.A.units+1 < cLine):OpR X (compareOp .In) (jrh false):=by
 intro pins s σ H x y v u Q I rx ry h
 obtain⟨a,o,rfl,g,q⟩:=h
 cases ry
 exact jyI hu I g rx fun s' I'=>⟨.bl o.isSome,H,I',rfl,q⟩
theorem jkz (hu:X.A.units+1 < cLine):OpR X (compareOp .NotIn) (jrh true):=by
 intro pins s σ H x y v u Q I rx ry h
 obtain⟨a,o,rfl,g,q⟩:=h
 cases ry
 exact jsp hu I g rx fun s' I'=>⟨.bl (!o.isSome),H,I',rfl,q⟩
noncomputable def jy (neg:Bool):R2:=fun x y H Q=>∃c d,x=.bl c∧y=.bl d∧Q (.bl (if neg then c != d else c == d)) H
theorem juM:OpR X (compareOp .Is) (jy false):=by
 intro pins s σ H x y v u Q I rx ry h
 obtain⟨c,d,rfl,rfl,q⟩:=h
 cases rx
 cases ry
 exact is_bool ⟨.bl (c == d),H,I,rfl,q⟩
theorem jnz:OpR X (compareOp .IsNot) (jy true):=by
 intro pins s σ H x y v u Q I rx ry h
 obtain⟨c,d,rfl,rfl,q⟩:=h
 cases rx
 cases ry
 exact isnot_bool ⟨.bl (c != d),H,I,rfl,q⟩
end
end _L2
namespace _L2
open PySem PySem.Spec PyProof.Rows
noncomputable abbrev jcU (led:Bool):Obj:={cls:=.type "set",dict:=none,data:=.set #[] 0 (.fresh 0 0 led)}
section
variable {P:Program} {W:World} {B:Around} {E:Value→Shared→Prop} {s:Shared} {l:Addr} {zs:List Str} {its:List Value} {b:Bool}
theorem jq9 (hh:B.handled=none)(it l:Addr)(hne:l≠it)(items:Array Value):Walks P W B it [it,l] [it] items.size (fun i v=>items[i]?=some v) (fun i h=>iAt b h it l i∧sAt b h l items):=by
 cases b
 ·exact Walks.list hh it l hne items
 ·exact Walks.tuple hh it l hne items
theorem jkL {D:Addr}{led:Bool}{R:Result→Shared→Prop}(hh:B.handled=none)(hS:s.heap.get? D=some (jcU led))(hl:sAt b s.heap l its.toArray)(hD:D≠l)(hi:ja6 (zs.map V.str) its)(hb:zs.length+1 < scanBound)
  (k:∀g tk,g.SetOf (strKind P W) D (fun y=>decide (y∈ddS zs)) (ddS zs).length→(∀c o,c≠D→s.heap.get? c=some o→g.get? c=some o)→R (.ok (.ret .none)) {s with heap:=g,toks:=tk}) :
  codeAny (model P W) B (.builtin "set.update.loop" ⟨[.ref D,.ref s.heap.objs.size],[]⟩) R {s with heap:=s.heap.push (jdT b l)}:=by
 have hlen:=hi.length
 rw[List.length_map]at hlen
 have hlt:l < s.heap.objs.size:=let ⟨_,e⟩:=hl.obj;Heap.lt_size e
 have hDt:D < s.heap.objs.size:=Heap.lt_size hS
 have W1:=jq9 (P:=P) (W:=W) (b:=b) (show B.in1.handled=none by simp[hh]) s.heap.objs.size l (Nat.ne_of_lt hlt) its.toArray
 have ez:its.toArray.size=zs.length:=by rw[List.size_toArray];exact hlen.symm
 rw[ez]at W1
 refine jn0 (zs:=zs) W1 D (by
   simp only[List.mem_cons,List.not_mem_nil,or_false,not_or]
   exact⟨Nat.ne_of_lt hDt,hD⟩) (fun i v hv=>?_) hb (zs.length - 0) 0 _ rfl (Nat.zero_le _) ⟨jfo (Heap.get?_push_size _ rfl),sAt.keep hl fun o e=>Heap.get?_push_of_some _ e⟩ ?_ fun g tk' kp hS'=>k g tk' hS' fun c o hc e=>kp c o hc (by simpa using Nat.ne_of_lt (Heap.lt_size e)) (Heap.get?_push_of_some _ e)
 ·have hv':its[i]?=some v:=by simpa using hv
  have hi':i < zs.length:=by rw[hlen];exact (List.getElem?_eq_some_iff.mp hv').1
  obtain⟨u',hu,t,ru⟩:=hi.get (i:=i) (x:=V.str zs[i]) (by simp[hi'])
  rw[hv']at hu
  cases hu
  exact⟨zs[i],t,by simp[hi'],ru⟩
 ·have q:=(PyProof.Rows.setObjOf_fresh (knd:=strKind P W) led).setOf (Heap.get?_push_of_some (jdT b l) hS) (by unfold scanBound;omega)
  have ef:(fun y=>decide (y∈ddS (zs.take 0)))=fun _=>false:=by
   funext y
   simp[ddS]
  rw[ef]
  exact q
theorem jkB {D:Addr}{led:Bool}{Q:Fin→Shared→Prop}(hh:B.handled=none)(hS:s.heap.get? D=some (jcU led))(hl:sAt b s.heap l its.toArray)(hD:D≠l)(hi:ja6 (zs.map V.str) its)(hb:zs.length+1 < scanBound)
  (k:∀g tk,g.SetOf (strKind P W) D (fun y=>decide (y∈ddS zs)) (ddS zs).length→(∀c o,c≠D→s.heap.get? c=some o→g.get? c=some o)→Q (.done (.ret .none)) {s with heap:=g,toks:=tk}) :
  wpAny (model P W) B (Builtin.«set.__init__» ⟨[.ref D,.ref l],[]⟩) Q E s:=by
 obtain⟨hp,g0,dr,tk,os⟩:=s
 have hT:(⟨hp,g0,dr,tk,os⟩:Shared).TypeIs (.ref D) "set":=⟨_,hS,rfl⟩
 have fin:wpAny (model P W) B (runValue (.builtin "set.update.loop" ⟨[.ref D,.ref hp.objs.size],[]⟩)) (fun _ s'=>Q (.done (.ret .none)) s') E ⟨hp.push (jdT b l),g0,dr,tk,os⟩ :=
  wpAny_runValue (jkL (s:=⟨hp,g0,dr,tk,os⟩) (B:=B) hh hS hl hD hi hb fun g tk' hS' kp=>k g tk' hS' kp)
 have hl0:=hl
 cases b
 all_goals
  obtain⟨⟨c,dd,dt,sl⟩,hol,hc,n,hd⟩:=hl
  cases hc
  cases hd
  have f1:=F.sub_list_set
  have f2:=F.sub_list_frozenset
  have f3:(Value.type "list" == Value.type "dict")=false:=by decide
  have f4:=F.sub_tuple_set
  have f5:=F.sub_tuple_frozenset
  have f6:(Value.type "tuple" == Value.type "dict")=false:=by decide
  unfold Builtin.«set.__init__» noKeywords Builtin.Frozenset.updateFrom
  generalize hPI:pyIter=PI
  wp_walk
  subst hPI
  exact jie hl0 (wpAny_bind (wpAny_mono fin (fun _ s' q=>wpAny_pure (wpAny_pure q)) fun _ _ e=>e))
theorem jk6 {Q:Value→Shared→Prop}(hh:B.handled=none)(hl:sAt b s.heap l its.toArray)(hi:ja6 (zs.map V.str) its)(hb:zs.length+1 < scanBound)
  (k:∀(g:Heap) (tk:Nat),g.SetOf (strKind P W) s.heap.objs.size (fun y=>decide (y∈ddS zs)) (ddS zs).length→(∀c o,s.heap.get? c=some o→g.get? c=some o)→Q (.ref s.heap.objs.size) {s with heap:=g,toks:=tk}) :
  wpAny (model P W) B (call (.type "set") [.ref l]) Q E s:=by
 have hlt:l < s.heap.objs.size:=let ⟨_,e⟩:=hl.obj;Heap.lt_size e
 obtain⟨c,tl,g1⟩:=F.called_set.mro
 have g2:=F.called_set.made
 have g3:=F.called_set.sub
 have g4:=F.called_set.notType
 have g5:=F.called_set.canCreate
 have g6:=F.typeCall_set_1 (.ref l)
 have body:∀(led:Bool) (C:Around),C.handled=none→codeAny (model P W) C (.call (.builtin "set.__init__") ⟨[.ref s.heap.objs.size,.ref l],[]⟩) (wants (fun r s2=>r=.none∧Q (.ref s.heap.objs.size) s2) E) {s with heap:=s.heap.push (jcU led)}  :=fun led C hC=>by
  have hS:(s.heap.push (jcU led)).get? s.heap.objs.size=some (jcU led):=Heap.get?_push_size _ rfl
  refine codeAny_call_builtin F.called_set.init.plain F.entry_set_init (check_set_init_1 (s:={s with heap:=s.heap.push (jcU led)}) ⟨_,hS,rfl⟩ ?_)
  exact jkB (s:={s with heap:=s.heap.push (jcU led)}) (by simp[hC]) hS (sAt.keep hl fun o e=>Heap.get?_push_of_some _ e) (Nat.ne_of_gt hlt) hi hb fun g tk hS' kp=>⟨rfl,k g tk hS' fun c o e=>kp c o (Nat.ne_of_lt (Heap.lt_size e)) (Heap.get?_push_of_some _ e)⟩
 refine wpAny_call (codeAny_of_tree ?_)
 show wpAny _ _ (callAny (.type "set") ⟨[.ref l],[]⟩) _ _ _
 refine wpAny_pure ⟨Code.quiet_builtin _ (by decide +kernel),codeAny_builtin F.entry_type_call ?_⟩
 rw[Around.under_plain (weight_type_call_type "set" [.ref l] []) rfl]
 wp_walk
 refine codeAny_mono (code_set_new_1 (.ref l) (E:=E) (Q₁:=fun x s1=>∃led,x=.ref s.heap.objs.size∧s1={s with heap:=s.heap.push (jcU led)}) fun led=>⟨led,rfl,rfl⟩) fun r s1 hr=>?_
 match r,hr with
 |.error e,hr=>exact hr
 |.ok (.ret x),hr =>
  obtain⟨led,rfl,rfl⟩:=hr
  have hS:(s.heap.push (jcU led)).get? s.heap.objs.size=some (jcU led):=Heap.get?_push_size _ rfl
  have hT:Shared.TypeIs {s with heap:=s.heap.push (jcU led)} (.ref s.heap.objs.size) "set":=⟨_,hS,rfl⟩
  have i1:=F.called_set.init.lookup
  have i2:=F.called_set.init.bind (.ref s.heap.objs.size)
  wp_walk
  refine codeAny_mono (body led _ (by simp[hh])) fun r2 s2 hr2=>?_
  match r2,hr2 with
  |.error e,hr2=>exact hr2
  |.ok (.ret y),hr2 =>
   obtain⟨rfl,q⟩:=hr2
   wp_walk
   exact q
end
section
variable {X:Cx}
noncomputable def juj (K:PySem.W.Frag)(P:Program)(w:World):List V→Hp→VK→Prop:=fun xs H Q=>∃(p:Addr) (ys:List Str),xs=[.ref p]∧(SqL K H p (ys.map V.str)∨SqT K H p (ys.map V.str))∧ys.length≤1000∧∀l,H l=none→Q (.ref l) (upd H l (jtJ P w l (ddS ys).length))
theorem jmO (hc:X.calm=true):jcd X (.type "set") (juj X.K X.prog X.w):=by
 intro pins s σ H xs us Q I r h
 obtain⟨p,ys,rfl,hq,hz,q⟩:=h
 obtain⟨u,rfl,rx⟩:=je2 r
 cases rx
 have fin:∀(b:Bool) (its:List Value),ja6 (ys.map V.str) its→sAt b s.heap p its.toArray→wpAny (model X.prog X.w) X.A (call (.type "set") [.ref p]) (EP X pins σ Q) X.xe s:=fun b its rv pl=>by
  refine jk6 (I.ok.hd hc) pl rv (by unfold scanBound;omega) fun h' tk hS kp=>?_
  refine⟨.ref s.heap.objs.size,_,I.laid (t':=tk) (o:=jtJ X.prog X.w s.heap.objs.size (ddS ys).length) kp (Nat.le_refl _) ⟨⟨_,hS⟩,?_,?_⟩,rfl,q _ I.fresh⟩
  ·obtain⟨o,_,_,_,ho,_⟩:=hS
   exact⟨o,ho⟩
  ·rintro g1 g2 ⟨S,o,es,ep,t,ho,rest⟩ k
   exact⟨S,o,es,ep,t,k o ho,rest⟩
 rcases hq with hq | hq
 ·obtain⟨its,rv,pl,_⟩:=I.list hq
  exact fin false its rv pl.isList
 ·obtain⟨its,rv,pl,_⟩:=I.tuple hq
  exact fin true its rv pl
noncomputable def jmt (K:PySem.W.Frag)(P:Program)(w:World):List V→Hp→VK→Prop:=fun vs H Q=>juj K P w vs H fun x H2=>∃(p:Addr) (n:Nat),[x]=[.ref p]∧H2 p=some (jtJ P w p n)∧n≤1000∧Q (.int n) H2
theorem jmx {a:Expr} {ta:TA} {p1 p2 p3 p4:Pos} (hc:X.calm=true) (hg1:jcj X.env.scope "len" = true) (hm1:X.mg "len" = none) (hg2:jcj X.env.scope "set" = true) (hm2:X.mg "set" = none) (ha:PA X [a] ta) (hs:jbm a=true) :
  PE X (.Call (.Name "len" p1) [.Call (.Name "set" p2) [a] [] p3] [] p4) (fun σ H Q=>ta σ H fun vs H1=>jmt X.K X.prog X.w vs H1 Q):=by
 have h1:=(jmc (jmO hc) hg2 hm2 jus ⟨ha⟩ (by unfold jak;simp[hs]):QE X (.Call (.Name "set" p2) [a] [] p3) _)
 have h2:=(jof jgX hg1 hm1 jp8 (jry h1 jvr):QE X (.Call (.Name "len" p1) [.Call (.Name "set" p2) [a] [] p3] [] p4) _)
 exact h2.h
end
end _L2
namespace _L2
open PySem PySem.Spec PyProof.Rows
section
variable {prog:Program} {w:World} {A:Around} {E:Value→Shared→Prop} {s:Shared}
theorem jpw {M:Model}{a:Addr}{o:Obj}{Q:Option Obj→Shared→Prop}(ho:s.heap.get? a=some o)(q:Q (some o) s):wpAny M A (loadIfAlive a) Q E s:=fun Γ p _=>by
 unfold loadIfAlive
 rw[Sem.wp_loadIfAlive,ho]
 exact q
noncomputable def jtj (h:Heap)(z TI TO:Addr):Prop:=∃(T:Addr) (fl:Bool) (o:Obj),T≠z∧h.get? z=some {cls:=.type "zip",dict:=none,data:=.fields #[rawInt T,.bool fl,.bool false,.ref TI,.ref TO],slots:=#[]}∧h.get? T=some o
noncomputable def jyl (h:Heap)(z TI TO:Addr):Prop:=IsZip h z TI TO .none∨jtj h z TI TO
theorem jjB {z TI TO:Addr}{Q:Bool→Shared→Prop}(h:jtj s.heap z TI TO)(q:∀h',jtj h' z TI TO→(∀c o,c≠z→s.heap.get? c=some o→h'.get? c=some o)→h'.objs.size=s.heap.objs.size→Q false {s with heap:=h'}) :
  wpAny (model prog w) A (Builtin.SmallTypes.ownedTupleIsFree (.ref z)) Q E s:=by
 obtain⟨T,fl,o,hne,hz,hT⟩:=h
 unfold Builtin.SmallTypes.ownedTupleIsFree
 refine wpAny_bind (wpAny_field hz rfl (x:=rawInt T) rfl ?_)
 show wpAny _ _ (loadIfAlive (T:Int).toNat >>= _) _ _ _
 rw[Int.toNat_natCast]
 refine wpAny_bind (jpw hT ?_)
 show wpAny _ _ (field (.ref z) 1 >>= _) _ _ _
 refine wpAny_bind (wpAny_field hz rfl (x:=.bool fl) rfl ?_)
 cases fl with
 |true=>exact wpAny_pure (q s.heap ⟨T,true,o,hne,hz,hT⟩ (fun _ _ _ e=>e) rfl)
 |false =>
  refine wpAny_bind ?_
  show wpAny _ _ (setField (.ref z) 1 (.bool true)) _ _ _
  exact wpAny_setField_rec hz (by simp) fun h' hz' kz=>wpAny_pure (q h' ⟨T,true,o,hne,hz',kz.extBut _ _ hne hT⟩ (fun c o n e=>kz.extBut _ _ n e) kz.1)
theorem jrz {b1 b2:Bool}{z TI TO i1 i2 l1 l2:Addr}{i:Nat}{xs ys:Array Value}{x y:Value}{Q:Option Value→Shared→Prop}(D:ZipApart z TI TO i1 i2 l1 l2)
  (oz:jtj s.heap z TI TO) (oi:IsPair s.heap TI (.ref i1) (.ref i2)) (a1:iAt b1 s.heap i1 l1 i) (a2:iAt b2 s.heap i2 l2 i) (s1:sAt b1 s.heap l1 xs) (s2:sAt b2 s.heap l2 ys) (ex:xs[i]?=some x) (ey:ys[i]?=some y)
  (q:∀h',jtj h' z TI TO→iAt b1 h' i1 l1 (i+1)→iAt b2 h' i2 l2 (i+1)→IsPair h' s.heap.objs.size x y →
   (∀c o,c≠z→c≠i1→c≠i2→s.heap.get? c=some o→h'.get? c=some o)→Q (some (.ref s.heap.objs.size)) {s with heap:=h'}) :
  wpAny (model prog w) A (pyNext (.ref z)) Q E s:=by
 obtain⟨T,fl,oT,hne,hz,hT⟩:=id oz
 have ty:s.TypeIs (.ref z) "zip":=⟨_,hz,rfl⟩
 unfold pyNext
 refine wpAny_bind (wpAny_attempt (wpAny_callSpecial?_slot (name:=Str.ofString "__next__") ty F.slot_zip_next (wpAny_call_entry F.slot_zip_next ty F.entry_zip_next ?_ (F.args_zip_next_1 _))))
 have fin:∀(w1:Value) (t:Shared),Q (some w1) t→wpAny (model prog w) A (pure (some w1)) Q E t:=fun _ _ z=>wpAny_pure z
 change wpAny _ _ (field (.ref z) 2 >>= _) _ _ _
 refine wpAny_bind (wpAny_field hz rfl (x:=.bool false) rfl ?_)
 change wpAny _ _ (field (.ref z) 3 >>= _) _ _ _
 refine wpAny_bind (wpAny_field hz rfl (x:=.ref TI) rfl (wpAny_bind (wpAny_seqItems oi rfl ?_)))
 change wpAny _ _ (Builtin.SmallTypes.ownedTupleIsFree (.ref z) >>= _) _ _ _
 refine wpAny_bind (jjB oz fun hA zA kA nA=>?_)
 rw[if_neg Bool.false_ne_true]
 have a1A:iAt b1 hA i1 l1 i:=a1.keep fun o e=>kA _ _ D.i1z e
 have a2A:iAt b2 hA i2 l2 i:=a2.keep fun o e=>kA _ _ D.i2z e
 have s1A:sAt b1 hA l1 xs:=s1.keep fun o e=>kA _ _ D.l1z e
 have s2A:sAt b2 hA l2 ys:=s2.keep fun o e=>kA _ _ D.l2z e
 simp only[List.forIn_toArray,List.forIn_cons,List.forIn_nil]
 refine wpAny_bind (wpAny_bind (wpAny_bind (wpAny_holding ?_)))
 change wpAny _ _ (Builtin.SmallTypes.nextOf (.ref i1) >>= _) _ _ _
 refine wpAny_bind (jtn a1A s1A ex fun hB a1B kB=>wpAny_pure (wpAny_pure ?_))
 have a2B:iAt b2 hB i2 l2 i:=a2A.keep fun o e=>kB.extBut _ _ D.i12.symm e
 have s2B:sAt b2 hB l2 ys:=s2A.keep fun o e=>kB.extBut _ _ D.l2i1 e
 refine wpAny_bind (wpAny_bind (wpAny_holding ?_))
 change wpAny _ _ (Builtin.SmallTypes.nextOf (.ref i2) >>= _) _ _ _
 refine wpAny_bind (jtn a2B s2B ey fun hC a2C kC=>wpAny_pure (wpAny_pure (wpAny_pure ?_)))
 refine wpAny_bind (wpAny_newTuple ?_ (by show 2≤sizeLine;decide))
 have nC:hC.objs.size=s.heap.objs.size:=by rw[kC.1,kB.1,nA]
 have kAC:∀c o,c≠i1→c≠i2→hA.get? c=some o→hC.get? c=some o:=fun c o c1 c2 e=>kC.extBut _ _ c2 (kB.extBut _ _ c1 e)
 refine wpAny_pure ⟨_,rfl,fin _ _ ?_⟩
 change Q (some (.ref hC.objs.size)) {s with heap:=hC.push {cls:=.type "tuple",data:=.seq #[x,y]}}
 have new:(hC.push {cls:=.type "tuple",data:=.seq #[x,y]}).get? hC.objs.size=some {cls:=.type "tuple",data:=.seq #[x,y]}:=Heap.get?_push_size _ rfl
 rw[nC]at new ⊢
 have up:∀c o,hC.get? c=some o→(hC.push {cls:=.type "tuple",data:=.seq #[x,y]}).get? c=some o:=fun c o e=>Heap.get?_push_of_some _ e
 obtain⟨T',fl',o',hne',hz',hT'⟩:=zA
 refine q _ ?_ ((a1B.keep fun o e=>kC.extBut _ _ D.i12 e).keep fun o e=>up _ _ e) (a2C.keep fun o e=>up _ _ e) new fun c o c1 c2 c3 e=>up _ _ (kAC _ _ c2 c3 (kA _ _ c1 e))
 have zC:=up _ _ (kAC _ _ D.i1z.symm D.i2z.symm hz')
 by_cases e1:T'=i1
 ·obtain⟨o1,ho1,_⟩:=((a1B.keep fun o e=>kC.extBut _ _ D.i12 e).keep fun o e=>up _ _ e).obj
  exact⟨T',fl',o1,hne',zC,by rw[e1];exact ho1⟩
 ·by_cases e2:T'=i2
  ·obtain⟨o2,ho2,_⟩:=(a2C.keep fun o e=>up _ _ e).obj
   exact⟨T',fl',o2,hne',zC,by rw[e2];exact ho2⟩
  ·exact⟨T',fl',o',hne',zC,up _ _ (kAC _ _ e1 e2 hT')⟩
theorem ju6 {b1 b2:Bool}{z TI TO i1 i2 l1 l2:Addr}{i:Nat}{xs ys:Array Value}{Q:Option Value→Shared→Prop}(hh:A.handled=none)(D:ZipApart z TI TO i1 i2 l1 l2)
  (oz:jtj s.heap z TI TO) (oi:IsPair s.heap TI (.ref i1) (.ref i2)) (a1:iAt b1 s.heap i1 l1 i) (a2:iAt b2 s.heap i2 l2 i) (s1:sAt b1 s.heap l1 xs) (s2:sAt b2 s.heap l2 ys) (ex:xs[i]?=none)
  (q:∀h',(∀c o,c≠z→c≠i1→c≠i2→s.heap.get? c=some o→h'.get? c=some o)→Q none {s with heap:=h'}) :
  wpAny (model prog w) A (pyNext (.ref z)) Q E s:=by
 obtain⟨T,fl,oT,hne,hz,hT⟩:=id oz
 have ty:s.TypeIs (.ref z) "zip":=⟨_,hz,rfl⟩
 have hh1:A.in1.handled=none:=hh
 unfold pyNext
 refine wpAny_bind (wpAny_attempt (wpAny_callSpecial?_slot (name:=Str.ofString "__next__") ty F.slot_zip_next (wpAny_call_entry F.slot_zip_next ty F.entry_zip_next ?_ (F.args_zip_next_1 _))))
 change wpAny _ _ (field (.ref z) 2 >>= _) _ _ _
 refine wpAny_bind (wpAny_field hz rfl (x:=.bool false) rfl ?_)
 change wpAny _ _ (field (.ref z) 3 >>= _) _ _ _
 refine wpAny_bind (wpAny_field hz rfl (x:=.ref TI) rfl (wpAny_bind (wpAny_seqItems oi rfl ?_)))
 change wpAny _ _ (Builtin.SmallTypes.ownedTupleIsFree (.ref z) >>= _) _ _ _
 refine wpAny_bind (jjB oz fun hA zA kA nA=>?_)
 rw[if_neg Bool.false_ne_true]
 have a1A:iAt b1 hA i1 l1 i:=a1.keep fun o e=>kA _ _ D.i1z e
 have s1A:sAt b1 hA l1 xs:=s1.keep fun o e=>kA _ _ D.l1z e
 simp only[List.forIn_toArray,List.forIn_cons,List.forIn_nil]
 refine wpAny_bind (wpAny_bind (wpAny_bind (wpAny_holding ?_)))
 change wpAny _ _ (Builtin.SmallTypes.nextOf (.ref i1) >>= _) _ _ _
 refine wpAny_bind (jfu hh1 a1A s1A ex fun hX e kX he=>?_)
 obtain⟨o,ho,hc⟩:=he
 exact wpAny_bind (wpAny_isInstance (T:="StopIteration") (b:=true) ⟨o,ho,hc⟩ isSubtype_stop (wpAny_pure (q _ fun c o c1 c2 _ e=>kX _ _ c2 (kA _ _ c1 e))))
end
theorem jo6:typeLookup (.type "zip") "keys" = pure none:=am_miss_of_fast (by kernel_rfl)
theorem jnS:typeLookup (.type "zip") "__getattr__" = pure none:=am_miss_of_fast (by kernel_rfl)
theorem jtZ:entryFor table "zip.__getattribute__" = some Builtin.«object.__getattribute__»:=entryFor_alias (id':="object.__getattribute__") (by kernel_rfl) (by decide +kernel) (by decide +kernel) (by kernel_rfl)
section
variable {prog:Program} {w:World} {A:Around} {E:Value→Shared→Prop} {s:Shared} {z:Addr} {vs:Array Value}
theorem jnN {u:Tok} {Q:PySem.Fin→Shared→Prop} (hz:s.heap.get? z=some {cls:=.type "zip",dict:=none,data:=.fields vs,slots:=#[]}) (hh:A.handled=none)
  (q:∀h' tk e,Heap.NewAttrErr s.heap h' e (.ref z) "keys"→E (.ref e) {s with heap:=h',toks:=tk}):wpAny (model prog w) A (Builtin.«object.__getattribute__» ⟨[.ref z,.str "keys" u],[]⟩) Q E s:=by
 obtain⟨hp,g,d,tk,os⟩:=s
 have hT:(⟨hp,g,d,tk,os⟩:Shared).TypeIs (.ref z) "zip":=⟨_,hz,rfl⟩
 have f1:=jo6
 unfold Builtin.«object.__getattribute__»
 wp_walk
 exact wpAny_raiseAttrError hh q (attrMsg_fits (by decide +kernel) (by size_fits))
theorem jky {Q:Option Value→Shared→Prop} (hz:s.heap.get? z=some {cls:=.type "zip",dict:=none,data:=.fields vs,slots:=#[]}) (hh:A.handled=none)
  (q:∀h' tk,(∀b o,s.heap.get? b=some o→h'.get? b=some o)→Q none {s with heap:=h',toks:=tk}):wpAny (model prog w) A (getAttr? (.ref z) "keys") Q E s:=by
 obtain⟨hp,g,d,tk,os⟩:=s
 have t0:(⟨hp,g,d,tk,os⟩:Shared).TypeIs (.ref z) "zip":=⟨_,hz,rfl⟩
 have t1:(⟨hp,g,d,tk+1,os⟩:Shared).TypeIs (.ref z) "zip":=⟨_,hz,rfl⟩
 have e1:=sub_AttributeError
 have e2:=F.slot_zip_getattribute.lookup
 have e3:=F.slot_zip_getattribute.bind (.ref z)
 have e4:=jnS
 unfold getAttr? getAttrBy? getAttrBy
 wp_walk
 refine codeAny_call_builtin F.slot_zip_getattribute.plain jtZ (F.slot_zip_getattribute.check _ _ _ _ _ _ _ _ t1 (F.args_zip_getattribute_2 _ _) (jnN (s:=⟨hp,g,d,tk+1,os⟩) hz (by simp[hh]) fun h' tk' e ne=>?_))
 obtain⟨t',u',he⟩:=ne.there
 change wpAny _ _ (getattributeRaised _ _ _ _ _ _ _) _ _ _
 unfold getattributeRaised hookOrError hookBehind attributeErrorLeaves
 wp_walk
 exact q _ _ ne.keeps
end
section
variable {prog:Program} {w:World} {A:Around} {R:Result→Shared→Prop}
structure ZipAt (b1 b2:Bool) (z TI TO i1 i2 l1 l2:Addr) (xs ys:Array Value) (i:Nat) (h:Heap):Prop where
 zs:jyl h z TI TO
 ti:IsPair h TI (.ref i1) (.ref i2)
 to:∃c d,IsPair h TO c d
 a1:iAt b1 h i1 l1 i
 a2:iAt b2 h i2 l2 i
 s1:sAt b1 h l1 xs
 s2:sAt b2 h l2 ys
theorem ZipAt.keep {b1 b2:Bool}{z TI TO i1 i2 l1 l2:Addr}{xs ys:Array Value}{i:Nat}{h h':Heap}{D:Addr}(Z:ZipAt b1 b2 z TI TO i1 i2 l1 l2 xs ys i h)(hz:z≠D)(h2:TI≠D)(h3:TO≠D)(h4:i1≠D)(h5:i2≠D)(h6:l1≠D)(h7:l2≠D)(hD:∃o,h'.get? D=some o)(k:∀c o,c≠D→h.get? c=some o→h'.get? c=some o):ZipAt b1 b2 z TI TO i1 i2 l1 l2 xs ys i h':=by
 refine⟨?_,k _ _ h2 Z.ti,let ⟨c,d,e⟩:=Z.to;⟨c,d,k _ _ h3 e⟩,Z.a1.keep fun o e=>k _ _ h4 e,Z.a2.keep fun o e=>k _ _ h5 e,Z.s1.keep fun o e=>k _ _ h6 e,Z.s2.keep fun o e=>k _ _ h7 e⟩
 rcases Z.zs with e | ⟨T,fl,o,hne,e,hT⟩
 ·exact .inl (k _ _ hz e)
 ·by_cases c:T=D
  ·obtain⟨o',ho'⟩:=hD
   exact .inr ⟨T,fl,o',hne,k _ _ hz e,by rw[c];exact ho'⟩
  ·exact .inr ⟨T,fl,o,hne,k _ _ hz e,k _ _ c hT⟩
theorem ZipAt.next {E:Value→Shared→Prop}{s:Shared}{b1 b2:Bool}{z TI TO i1 i2 l1 l2:Addr}{xs ys:Array Value}{i:Nat}{x y:Value}{Q:Option Value→Shared→Prop}(D:ZipApart z TI TO i1 i2 l1 l2)(Z:ZipAt b1 b2 z TI TO i1 i2 l1 l2 xs ys i s.heap)(ex:xs[i]?=some x)(ey:ys[i]?=some y)
  (q:∀h',ZipAt b1 b2 z TI TO i1 i2 l1 l2 xs ys (i+1) h'→IsPair h' s.heap.objs.size x y→(∀c o,c≠z→c≠TO→c≠i1→c≠i2→s.heap.get? c=some o→h'.get? c=some o)→Q (some (.ref s.heap.objs.size)) {s with heap:=h'}) :
  wpAny (model prog w) A (pyNext (.ref z)) Q E s:=by
 obtain⟨c,d,hTO⟩:=Z.to
 have hzn:s.heap.objs.size≠z:=by
  rcases Z.zs with e | ⟨T,fl,o,hne,e,hT⟩ <;> exact Ne.symm (Nat.ne_of_lt (Heap.lt_size e))
 rcases Z.zs with e | e
 ·refine jmu D e Z.ti hTO Z.a1 Z.a2 Z.s1 Z.s2 ex ey fun h' z' o' a1' a2' p' k'=>?_
  exact q h' ⟨.inr ⟨s.heap.objs.size,false,_,hzn,z',p'⟩,k' _ _ D.TIz D.TITO D.TIi1 D.TIi2 Z.ti,⟨_,_,o'⟩,a1',a2',Z.s1.keep fun o e=>k' _ _ D.l1z D.l1TO D.l1i1 D.l1i2 e,Z.s2.keep fun o e=>k' _ _ D.l2z D.l2TO D.l2i1 D.l2i2 e⟩ p' k'
 ·refine jrz D e Z.ti Z.a1 Z.a2 Z.s1 Z.s2 ex ey fun h' z' a1' a2' p' k'=>?_
  exact q h' ⟨.inr z',k' _ _ D.TIz D.TIi1 D.TIi2 Z.ti,⟨c,d,k' _ _ D.TOz D.TOi1 D.TOi2 hTO⟩,a1',a2',Z.s1.keep fun o e=>k' _ _ D.l1z D.l1i1 D.l1i2 e,Z.s2.keep fun o e=>k' _ _ D.l2z D.l2i1 D.l2i2 e⟩ p' fun c o c1 _ c3 c4 e=>k' c o c1 c3 c4 e
theorem ZipAt.stop {E:Value→Shared→Prop}{s:Shared}{b1 b2:Bool}{z TI TO i1 i2 l1 l2:Addr}{xs ys:Array Value}{i:Nat}{Q:Option Value→Shared→Prop}(hh:A.handled=none)(D:ZipApart z TI TO i1 i2 l1 l2)(Z:ZipAt b1 b2 z TI TO i1 i2 l1 l2 xs ys i s.heap)(ex:xs[i]?=none)
  (q:∀h',(∀c o,c≠z→c≠TO→c≠i1→c≠i2→s.heap.get? c=some o→h'.get? c=some o)→Q none {s with heap:=h'}) :
  wpAny (model prog w) A (pyNext (.ref z)) Q E s:=by
 obtain⟨c,d,hTO⟩:=Z.to
 rcases Z.zs with e | e
 ·exact jql hh D e Z.ti hTO Z.a1 Z.a2 Z.s1 Z.s2 (.inl ex) q
 ·exact ju6 hh D e Z.ti Z.a1 Z.a2 Z.s1 Z.s2 ex fun h' k=>q h' fun c o c1 _ c3 c4 e=>k c o c1 c3 c4 e
theorem jin:entryFor table "dict.update.loop" = some Builtin.«dict.update.loop»:=entryFor_of_tree (by kernel_rfl)
theorem jeq:plainId "dict.update.loop" = true:=by decide +kernel
noncomputable def jeX (ks:List Str)(us:List Value):List (Key×Value):=(ks.zip us).map fun p=>(Sum.inr p.1,p.2)
theorem jkX {kvs:List (Key×Value)}{k:Key}{v:Value}(h:k∉kvs.map (·.1)):stored kvs k v=kvs++[(k,v)]:=by
 unfold stored
 rw[if_neg]
 intro hc
 obtain⟨p,hp,e⟩:=List.any_eq_true.mp hc
 exact h (List.mem_map.mpr ⟨p,hp,by simpa using e⟩)
theorem jg6 {b1 b2:Bool}{z TI TO i1 i2 l1 l2 Dd:Addr}{xs ys:Array Value}{ks:List Str}(D:ZipApart z TI TO i1 i2 l1 l2)(hk:∀(i:Nat) (v:Value),xs[i]?=some v→∃k t,ks[i]?=some k∧v=.str k t)(hlx:xs.size=ks.length)(hly:ys.size=ks.length)(hn:ks.Nodup)(hb:ks.length≤1000)
  (n1:z≠Dd) (n2:TI≠Dd) (n3:TO≠Dd) (n4:i1≠Dd) (n5:i2≠Dd) (n6:l1≠Dd) (n7:l2≠Dd) (hh:A.handled=none) :
  ∀(m i:Nat) (j:Int) (s:Shared),ks.length - i=m→i≤ks.length→ZipAt b1 b2 z TI TO i1 i2 l1 l2 xs ys i s.heap→s.heap.DictOf (jaY prog w) Dd (jeX (ks.take i) (ys.toList.take i)) →
   (∀h' tk,(∀c o,c≠Dd→c≠z→c≠TO→c≠i1→c≠i2→s.heap.get? c=some o→h'.get? c=some o)→h'.DictOf (jaY prog w) Dd (jeX ks ys.toList)→R (.ok (.ret .none)) {s with heap:=h',toks:=tk}) →
   codeAny (model prog w) A (.builtin "dict.update.loop" ⟨[.ref Dd,.ref z,rawInt j,.none],[]⟩) R s:=by
 intro m
 induction m with
 |zero =>
  intro i j s hm hi Z hS q
  obtain rfl:i=ks.length:=by omega
  refine codeAny_builtin jin ?_
  rw[Around.under_plainId jeq _]
  change wpAny _ A.in1 (pyNext (.ref z) >>= _) _ _ s
  refine wpAny_bind (Z.stop (by simp[hh]) D (by simp[hlx]) fun h' k'=>?_)
  change wpAny _ A.in1 (Builtin.Dict.addKeywords Dd [] >>= _) _ _ _
  refine wpAny_bind (wpAny_pure (wpAny_pure (q h' s.toks (fun c o _ c1 c2 c3 c4 e=>k' c o c1 c2 c3 c4 e) ?_)))
  rw[List.take_length,List.take_of_length_le (by rw[Array.length_toList];omega)]at hS
  exact hS.at fun o e=>k' _ _ n1.symm n3.symm n4.symm n5.symm e
 |succ m ih =>
  intro i j s hm hi Z hS q
  have hlt:i < ks.length:=by omega
  have hx:xs[i]?=some xs[i]:=by simp[hlx,hlt]
  have hy:ys[i]?=some ys[i]:=by simp[hly,hlt]
  obtain⟨k,t,hki,hkv⟩:=hk i _ hx
  refine codeAny_builtin jin ?_
  rw[Around.under_plainId jeq _]
  change wpAny _ A.in1 (pyNext (.ref z) >>= _) _ _ s
  refine wpAny_bind (Z.next D hx hy fun h1 Z1 p1 k1=>?_)
  have hS1:h1.DictOf (jaY prog w) Dd (jeX (ks.take i) (ys.toList.take i)):=hS.at fun o e=>k1 _ _ n1.symm n3.symm n4.symm n5.symm e
  rw[hkv]at p1
  change wpAny _ A.in1 (holding [Value.ref s.heap.objs.size] _ >>= _) _ _ _
  refine wpAny_bind (wpAny_holding ?_)
  have ty:Shared.TypeIs {s with heap:=h1} (.ref s.heap.objs.size) "tuple":=⟨_,p1,rfl⟩
  have prs:wpAny (model prog w) A.in1 (Builtin.Dict.pairItems (.ref s.heap.objs.size)) (fun r s'=>r=[Value.str k t,ys[i]]∧s'={s with heap:=h1}) (fun _ _=>False) {s with heap:=h1}:=by
   unfold Builtin.Dict.pairItems
   refine wpAny_bind (wpAny_typeOf ty ?_)
   rw[if_pos (by decide)]
   exact wpAny_bind (wpAny_seqItems p1 rfl (wpAny_pure ⟨rfl,rfl⟩))
  refine wpAny_bind (wpAny_tryCatch (wpAny_mono prs (fun r s' hr=>?_) fun _ _ h=>h.elim))
  obtain⟨rfl,rfl⟩:=hr
  change wpAny _ A.in1 (holding [Value.str k t,ys[i]] (dictSet Dd (.str k t) ys[i])) _ _ _
  have hsmall:(jeX (ks.take i) (ys.toList.take i)).length≤sizeLine:=by
   unfold jeX
   rw[List.length_map,List.length_zip,List.length_take,List.length_take]
   exact Nat.le_trans (by omega:_≤1000) (by decide)
  refine wpAny_holding (wpAny_dictSet_pairs (knd:=jaY prog w) (s:={s with heap:=h1}) (k:=Sum.inr k) (jf8 prog w k t) hS1 (fun h2 hd2 sb=>?_) hsmall)
  have enew:stored (jeX (ks.take i) (ys.toList.take i)) (Sum.inr k) ys[i]=jeX (ks.take (i+1)) (ys.toList.take (i+1)):=by
   rw[jkX]
   ·unfold jeX
    have hyl:ys.toList[i]?=some ys[i]:=by simp[hly,hlt]
    rw[jhW hki,jhW hyl,List.zip_append (by simp only[List.length_take,Array.length_toList,hly]),List.map_append]
    rfl
   ·intro hm'
    unfold jeX at hm'
    rw[List.map_map]at hm'
    obtain⟨p,hp,e⟩:=List.mem_map.mp hm'
    have e':p.1=k:=Sum.inr.inj e
    have hin:k∈ks.take i:=by rw[← e'];exact (List.of_mem_zip hp).1
    obtain⟨i',hi',he⟩:=List.getElem_of_mem hin
    have hi2:i' < i:=by
     rw[List.length_take]at hi'
     omega
    have he':ks[i']?=some k:=by
     rw[← he,List.getElem_take,List.getElem?_eq_getElem]
    have:=(List.getElem?_inj (i:=i') (j:=i) (by omega) hn).mp (he'.trans hki.symm)
    omega
  rw[enew]at hd2
  have hDl:∃o,h2.get? Dd=some o:=let ⟨o,_,_,e,_⟩:=hd2;⟨o,e⟩
  refine wpAny_pure ⟨plainId_quiet jeq _,ih (i+1) (j+1) _ (by omega) hlt (Z1.keep n1 n2 n3 n4 n5 n6 n7 hDl fun c o hc e=>(sb.2 c hc).trans e) hd2 fun h' tk kp hS'=>?_⟩
  exact q h' tk (fun c o c0 c1 c2 c3 c4 e=>kp c o c0 c1 c2 c3 c4 ((sb.2 c c0).trans (k1 c o c1 c2 c3 c4 e))) hS'
end
section
variable {prog:Program} {w:World} {A:Around} {E:Value→Shared→Prop} {s:Shared}
theorem jiO {b1 b2:Bool}{z TI TO i1 i2 l1 l2:Addr}{xs ys:Array Value}{ks:List Str}{Q:Value→Shared→Prop}(hh:A.handled=none)(D:ZipApart z TI TO i1 i2 l1 l2)(hz:IsZip s.heap z TI TO .none)(hTI:IsPair s.heap TI (.ref i1) (.ref i2))(hTO:∃c d,IsPair s.heap TO c d)(a1:iAt b1 s.heap i1 l1 0)(a2:iAt b2 s.heap i2 l2 0)(s1:sAt b1 s.heap l1 xs)(s2:sAt b2 s.heap l2 ys)
  (hk:∀(i:Nat) (v:Value),xs[i]?=some v→∃k t,ks[i]?=some k∧v=.str k t) (hlx:xs.size=ks.length) (hly:ys.size=ks.length) (hn:ks.Nodup) (hb:ks.length≤1000)
  (q:∀h' tk,h'.DictOf (jaY prog w) s.heap.objs.size (jeX ks ys.toList)→(∀c o,c≠z→c≠TO→c≠i1→c≠i2→s.heap.get? c=some o→h'.get? c=some o)→Q (.ref s.heap.objs.size) {s with heap:=h',toks:=tk}) :
  wpAny (model prog w) A (call (.type "dict") [.ref z]) Q E s:=by
 refine callType_codes (Q₁:=fun x s1=>x=.ref s.heap.objs.size∧s1={s with heap:=s.heap.push {cls:=.type "dict",data:=.dict #[]}}) F.kt_called_dict (F.kt_typeCall_dict_1 _) F.entry_dict_init (kt_code_dict_new _ ⟨rfl,rfl⟩) ?_
 rintro x s1' ⟨rfl,rfl⟩
 have hnew:(s.heap.push {cls:=.type "dict",data:=.dict #[]}).DictOf (jaY prog w) s.heap.objs.size []:=Heap.DictOf.new s.heap
 have up:∀c o,s.heap.get? c=some o→(s.heap.push {cls:=.type "dict",data:=.dict #[]}).get? c=some o:=fun c o e=>Heap.get?_push_of_some _ e
 refine⟨hnew.typeIs,F.args_dict_init_2 _ _,?_⟩
 generalize s.heap.push {cls:=.type "dict",data:=.dict #[]}=hA at hnew up
 have ne:∀{c:Addr} {o:Obj},s.heap.get? c=some o→c≠s.heap.objs.size:=fun e=>Nat.ne_of_lt (Heap.lt_size e)
 unfold Builtin.«dict.__init__»
 refine wpAny_bind ?_
 unfold Builtin.Dict.selfAndRest
 refine wpAny_bind (wpAny_notOrdered_dict hnew.typeIs (wpAny_pure ?_))
 change wpAny _ _ (Builtin.Dict.updateFrom "dict.__init__" s.heap.objs.size (.ref z) [] .none) _ _ _
 unfold Builtin.Dict.updateFrom
 refine wpAny_bind (wpAny_typeOf (T:="zip") ⟨_,up _ _ hz,rfl⟩ ?_)
 rw[if_pos (by decide)]
 refine wpAny_bind (jky (s:={s with heap:=hA}) (up _ _ hz) (by simp[hh]) fun hB tk kB=>?_)
 rw[if_pos (show (none:Option Value).isNone=true from rfl)]
 have upB:∀c o,s.heap.get? c=some o→hB.get? c=some o:=fun c o e=>kB _ _ (up _ _ e)
 refine wpAny_bind (wpAny_rule (wpAny_bind (wpAny_pyIter_zip (s:={s with heap:=hB,toks:=tk}) (upB _ _ hz) ?_)))
 obtain⟨c,d,hTO'⟩:=hTO
 obtain⟨o1,e1,_⟩:=a1.obj
 obtain⟨o2,e2,_⟩:=a2.obj
 obtain⟨o3,e3⟩:=s1.obj
 obtain⟨o4,e4⟩:=s2.obj
 have hS0:hB.DictOf (jaY prog w) s.heap.objs.size (jeX (ks.take 0) (ys.toList.take 0)):=by
  have:=hnew.at (h':=hB) fun o e=>kB _ _ e
  simpa[jeX] using this
 refine wpAny_pure ⟨plainId_quiet jeq _,jg6 (A:=A.in1) D hk hlx hly hn hb (ne hz) (ne hTI) (ne hTO') (ne e1) (ne e2) (ne e3) (ne e4) (by simp[hh]) (ks.length - 0) 0 0 _ rfl (Nat.zero_le _) ⟨.inl (upB _ _ hz),upB _ _ hTI,⟨c,d,upB _ _ hTO'⟩,a1.keep fun o e=>upB _ _ e,a2.keep fun o e=>upB _ _ e,s1.keep fun o e=>upB _ _ e,s2.keep fun o e=>upB _ _ e⟩ hS0 fun h' tk' kp hS=>⟨rfl,q h' tk' hS fun c o c1 c2 c3 c4 e=>kp c o (ne e) c1 c2 c3 c4 (upB _ _ e)⟩⟩
end
section
variable {X:Cx}
noncomputable def jjr (K:PySem.W.Frag):List V→Hp→VK→Prop:=fun vs H Q=>∃(p q:Addr) (b1 b2:Bool) (ks:List Str) (us:List V),vs=[.ref p,.ref q]∧SqB b1 K H p (ks.map V.str)∧SqB b2 K H q us∧us.length=ks.length∧ks.length≤1000∧ks.Nodup∧((∀l,H l=none→Q (.ref l) (upd H l (.dK ((ks.map Sum.inr).zip us))))∨∀l o es ep,H l=none→o.data=.dict es ep→Q (.ref l) (upd H l (.frz o (.dK ((ks.map Sum.inr).zip us)))))
theorem jhK:∀{ks:List Str} {us:List V} {ws:List Value},ja6 us ws→KV ((ks.map Sum.inr).zip us) (jeX ks ws)
 |[],_,_,_=>.nil
 |_ :: _,_,_,.nil=>.nil
 |k :: ks,_,_,.cons r t=>.cons ⟨rfl,r⟩ (jhK t)
theorem jkN {a b:Expr} {ta:TA} {p1 p2 p3 p4:Pos} (hc:X.calm=true) (hg1:jcj X.env.scope "dict" = true) (hm1:X.mg "dict" = none) (hg2:jcj X.env.scope "zip" = true) (hm2:X.mg "zip" = none) (ha:PA X [a,b] ta) (hs:jak [a,b]=true) :
  PE X (.Call (.Name "dict" p1) [.Call (.Name "zip" p2) [a,b] [] p3] [] p4) (fun σ H Q=>ta σ H fun vs H1=>jjr X.K vs H1 Q):=by
 have h1:=hs
 unfold jak at h1
 simp only[List.all_cons,Bool.and_eq_true]at h1
 have hs2:starEach [b] X.env=[(false,eval b X.env)]:=jaA h1.2.1
 have hs1:starEach [a,b] X.env=[(false,eval a X.env),(false,eval b X.env)]:=by rw[jaA h1.1,hs2]
 have hs0:starEach [.Call (.Name "zip" p2) [a,b] [] p3] X.env=[(false,eval (.Call (.Name "zip" p2) [a,b] [] p3) X.env)]:=jaA rfl
 intro pins s σ H Q I h
 refine Call_name1 hs0 (jdJ I (jax hg1).1 hm1 jmJ (callWith_type1 (Call_ (jdJ I (jax hg2).1 hm2 jqf (PyProof.Rows.callWith_type1 (thn (ha p3 pins s σ H _ I h) fun us s1 ⟨vs,H1,I1,r1,q1⟩=>?_) (by rw[hs1,hs2]) (by rw[hs2];rfl))))))
 obtain⟨l1,l2,b1,b2,ks,ws,rfl,sq1,sq2,el,hb,hn,q⟩:=q1
 obtain⟨u1,u2,rfl,ru1,ru2⟩:=r1.two
 cases ru1
 cases ru2
 obtain⟨its1,rv1,pl1,_⟩:=I1.sqb sq1
 obtain⟨its2,rv2,pl2,_⟩:=I1.sqb sq2
 have e1:=rv1.length
 have e2:=rv2.length
 rw[List.length_map]at e1
 have a1:l1 < s1.heap.objs.size:=by obtain⟨_,e⟩:=pl1.obj;exact Heap.lt_size e
 have a2:l2 < s1.heap.objs.size:=by obtain⟨_,e⟩:=pl2.obj;exact Heap.lt_size e
 refine jgA pl1 pl2 fun h' hz hTI hTO i1 i2 kp=>?_
 have hsz:s1.heap.objs.size+5≤h'.objs.size:=Heap.lt_size hz
 refine jiO (s:={s1 with heap:=h'}) (ks:=ks) (I1.ok.hd hc) (zipApart_new a1 a2) hz hTI ⟨_,_,hTO⟩ i1 i2 (sAt.keep pl1 fun o e=>kp _ _ e) (sAt.keep pl2 fun o e=>kp _ _ e) (fun i v hv=>?_) (by rw[List.size_toArray];omega) (by rw[List.size_toArray];omega) hn hb fun h2 tk hd kp2=>?_
 ·have hv':its1[i]?=some v:=by simpa using hv
  have hi':i < ks.length:=by rw[e1];exact (List.getElem?_eq_some_iff.mp hv').1
  obtain⟨u',hu,t,ru⟩:=rv1.get (i:=i) (x:=V.str ks[i]) (by simp[hi'])
  rw[hv']at hu
  cases hu
  exact⟨ks[i],t,by simp[hi'],ru⟩
 ·have old:∀c o,s1.heap.get? c=some o→h2.get? c=some o:=fun c o e=>by
   have hlt:c < s1.heap.objs.size:=Heap.lt_size e
   exact kp2 c o (Nat.ne_of_lt (Nat.lt_of_lt_of_le hlt (Nat.le_add_right _ 4))) (Nat.ne_of_lt (Nat.lt_of_lt_of_le hlt (Nat.le_add_right _ 3))) (Nat.ne_of_lt hlt) (Nat.ne_of_lt (Nat.lt_of_lt_of_le hlt (Nat.le_add_right _ 1))) (kp _ _ e)
  have hok:∀H',jca X.prog X.w H' h2 h'.objs.size (.dK ((ks.map Sum.inr).zip ws)):=fun H'=>jp5 (by rw[List.length_zip,List.length_map];exact Nat.le_trans (by omega:_≤1000) (by decide)) (beq_eq_false_iff_ne.mpr (Nat.ne_of_gt (Nat.lt_of_lt_of_le I1.big (by omega)))) (jhK (ks:=ks) (by simpa using rv2)) hd
  rcases q with q | q
  ·exact⟨.ref h'.objs.size,_,I1.laid (a:=h'.objs.size) (t':=tk) (o:=.dK ((ks.map Sum.inr).zip ws)) old (by omega) (hok _),rfl,q _ (I1.hok.fresh (by omega))⟩
  ·obtain⟨o,es,ep,ho,_,hdt,_⟩:=hd
   exact⟨.ref h'.objs.size,_,I1.laid (a:=h'.objs.size) (t':=tk) (o:=.frz o (.dK ((ks.map Sum.inr).zip ws))) old (by omega) ⟨ho,hok _⟩,rfl,q _ o es ep (I1.hok.fresh (by omega)) hdt⟩
end
end _L2
namespace _L2
open PySem PySem.Spec PyProof.Rows
section
variable {X:Cx}
theorem jii:∀l:List (Str×Tok),ja6 ((l.map (·.1)).map V.str) (strValues l)
 |[]=>.nil
 |p :: l=>.cons ⟨p.2,rfl⟩ (jii l)
noncomputable def rSplit:V→List V→Hp→VK→Prop:=fun x xs H Q=>∃z y,x=.str z∧xs=[.str y]∧(y.length == 0)=false∧z.length≤100000∧∀l,H l=none→Q (.ref l) (upd H l (.lst ((Txt.split z y).map V.str)))
theorem joC:MtR X "str.split" rSplit:=by
 intro pins s σ H x xs v us Q I rx rv h
 obtain⟨z,y,rfl,rfl,hy,hz,q⟩:=h
 obtain⟨t,rfl⟩:=rx
 obtain⟨u,rfl,u',rfl⟩:=rv.one
 have hz':z.length≤sizeLine:=Nat.le_trans hz (by decide)
 have hle:(Txt.split z y).length≤sizeLine:=Nat.le_trans (split_le z y) (Nat.le_trans (Nat.add_le_add_right hz 2) (by decide))
 have fin:∀(l:List (Str×Tok)) (tk:Nat),l.map (·.1)=Txt.split z y→EP X pins σ Q (.ref s.heap.objs.size) {s with heap:=s.heap.push {cls:=.type "list",data:=.seq (strValues l).toArray},toks:=tk}:=fun l tk e=>by
  have hv:=jii l
  rw[e]at hv
  exact⟨.ref s.heap.objs.size,_,I.lnew (t':=tk) hv (by rw[List.length_map];exact hle),rfl,q _ I.fresh⟩
 cases h1:(decide (z.length < y.length) || decide (PySem.Builtin.Str.strKind z < PySem.Builtin.Str.strKind y)) with
 |true=>exact call_meets F.slot_str_split (typeIs_str _ _ _) F.entry_str_split (F.args_str_split_2 _ _) (meets_str_split_cannot_occur z y t u' h1) (fin [(z,t)] s.toks (if_pos h1).symm)
 |false =>
  cases h2:(PySem.Builtin.Str.occurrences z y 0 z.length (z.length+1)).isEmpty with
  |true=>exact call_meets F.slot_str_split (typeIs_str _ _ _) F.entry_str_split (F.args_str_split_2 _ _) (meets_str_split_not_found z y t u' h1 hy h2) (fin [(z,t)] s.toks ((if_neg (by rw[h1];exact Bool.false_ne_true)).trans (if_pos h2)).symm)
  |false =>
   have e:Txt.split z y=PySem.Builtin.Str.partsBetween z (PySem.Builtin.Str.occurrences z y 0 z.length (z.length+1)) y.length:=(if_neg (by rw[h1];exact Bool.false_ne_true)).trans (if_neg (by rw[h2];exact Bool.false_ne_true))
   refine call_meets F.slot_str_split (typeIs_str _ _ _) F.entry_str_split (F.args_str_split_2 _ _) (meets_str_split_sep z y t u' h1 hy h2 hz' (by rw[← e];exact hle)) ?_
   have:=fin (numbered s.toks (PySem.Builtin.Str.partsBetween z (PySem.Builtin.Str.occurrences z y 0 z.length (z.length+1)) y.length))
   rw[← strsFrom_eq]at this
   exact this _ ((numbered_texts _ _).trans e.symm)
noncomputable def juk:List V→Hp→VK→Prop:=fun xs H Q=>∃z n,xs=[.str z]∧PySem.intText? z=some n∧z.length≤640∧Q (.int n) H
theorem jmG:jcd X (.type "int") juk:=by
 intro pins s σ H xs us Q I r h
 obtain⟨z,n,rfl,hn,hz,q⟩:=h
 obtain⟨u,rfl,t,rfl⟩:=je2 r
 exact PySem.W.KIN.call_text hn hz ⟨.int n,H,I.tok _,⟨_,rfl⟩,q⟩
noncomputable def ju4:List V→Hp→VK→Prop:=fun xs H Q=>∃z,xs=[.str z]∧Q (.str z) H
theorem jnn:jcd X (.type "str") ju4:=by
 intro pins s σ H xs us Q I r h
 obtain⟨z,rfl,q⟩:=h
 obtain⟨u,rfl,t,rfl⟩:=je2 r
 exact PySem.P.str_of_str ⟨.str z,H,I,⟨_,rfl⟩,q⟩
end
end _L2
namespace _L2
open PySem PySem.Spec PyProof.Rows
noncomputable def ItI (o:Obj)(a:Addr)(kvs:List (Key×V)):It :=
 ⟨fun i H=>H a=some (.frz o (.dK kvs))∧i < kvs.length,fun i H x H'=>∃p q,kvs[i]?=some q∧x=.ref p∧H p=none∧H'=upd H p (.tup [kV q.1,q.2]),fun i H=>H a=some (.frz o (.dK kvs))∧kvs.length≤i⟩
theorem jo3 {P:Program}{W:World}{k:Key}{u:Value}(h:(jaY P W).is k u=true):jba (kV k) u:=by
 rcases jbk h with ⟨i,t,rfl,rfl⟩ | ⟨z,t,rfl,rfl⟩
 ·exact⟨t,rfl⟩
 ·exact⟨t,rfl⟩
theorem jhk {X:Cx}{pins:List (Addr×Obj)}{σ:_L2.St}{H:Hp}{s:Shared}{a:Addr}{o:Obj}{kvs:List (Key×V)}{es:Array DictEntry}{ep:Nat}(I:Inv X pins σ H s)(h:H a=some (.frz o (.dK kvs)))(he:o.data=.dict es ep):∃vs,KV kvs vs∧s.heap.DictAt (jaY X.prog X.w) a vs ep∧(a == sysModules)=false:=by
 obtain⟨hg,_,hlo,vs,hkv,o',es',ep',ho,hc,hd,r⟩:=(show jca X.prog X.w H s.heap a (.frz o (.dK kvs)) from I.hok a _ h)
 rw[hg]at ho
 cases ho
 rw[he]at hd
 cases hd
 exact⟨vs,hkv,⟨o,es,hg,hc,he,r⟩,hlo⟩
theorem jtB {kvs:List (Key×V)}{vs:List (Key×Value)}(h:KV kvs vs){i:Nat}{q:Key×V}(e:kvs[i]?=some q):∃u,vs[i]?=some (q.1,u)∧jba q.2 u:=by
 unfold KV at h
 induction h generalizing i with
 |nil=>simp at e
 |cons r t ih =>
  rename_i a b as bs
  cases i with
  |zero =>
   simp only[List.getElem?_cons_zero,Option.some.injEq]at e
   subst e
   refine⟨b.2,?_,r.2⟩
   rw[List.getElem?_cons_zero,r.1]
  |succ i=>simpa using ih (i:=i) (by simpa using e)
theorem jk3:entryFor table "dict_itemiterator.__iter__" = some Builtin.«dict_keyiterator.__iter__»:=entryFor_alias (id':="dict_keyiterator.__iter__") (by kernel_rfl) rfl (by decide +kernel) (by kernel_rfl)
theorem jkA {P:Program}{w:World}{K:PySem.W.Frag}{elts:List Expr}{x1:Nat}{tpos:Pos}{o:Obj}{es:Array DictEntry}{ep:Nat}(a it:Addr)(kvs:List (Key×V))(he:o.data=.dict es ep) :
  Turn P w K (.Tuple elts x1 tpos) (ItI o a kvs) [it] it (fun i h=>∃ok ov,IsItemIter h it a i kvs.length ep ok ov) where
 mem:=by simp
 obj:=fun i h st b hb=>by
  obtain⟨ok,ov,hi⟩:=st
  have z:b=it:=by simpa using hb
  subst z
  exact⟨_,hi,fun v z=>by
   have z':Data.fields _=Data.cell v:=z
   cases z'⟩
 keep:=fun i h h' st k=>by
  obtain⟨ok,ov,hi⟩:=st
  exact⟨ok,ov,k it (by simp) _ hi⟩
 item:=by
  intro X hP hw hK hc i pins s σ H E I hf st hg
  subst hP hw hK
  obtain⟨hH,hlt⟩:=hg
  obtain⟨ok,ov,hi⟩:=st
  obtain⟨vs,hkv,hat,hlo⟩:=jhk I hH he
  have hle:=KV.length hkv
  have hx:kvs[i]?=some kvs[i]:=by simp[hlt]
  obtain⟨u,hu,ru⟩:=jtB hkv hx
  have f1:=hf it (by simp)
  rw[hle]at hi
  refine wpAny_pyNext_items_item hi hat hu fun key h1 hkey ho1 htup hsz kp=>⟨_,rfl,wpAny_letOwnedTupleGo_items ho1 fun h2 he2 sb2=>?_⟩
  have hitn:s.heap.objs.size≠it:=Ne.symm (Nat.ne_of_lt (Heap.lt_size hi))
  have kp2:∀b o,b∉[it]→s.heap.get? b=some o→h2.get? b=some o:=fun b o hb q=>by
   have hb':b≠it:=by simpa using hb
   exact (sb2.2 b hb').trans (kp b o hb' q)
  have hnew:h2.get? s.heap.objs.size=some {cls:=.type "tuple",data:=.seq #[key,u]}:=(sb2.2 _ hitn).trans htup
  have nt:∀b v,H b=some v→b∉[it]:=fun b v q hb=>by
   have z:b=it:=by simpa using hb
   rw[z,f1.1]at q
   cases q
  have hfr:=I.fresh
  have U:Un (frs X.stack) [it] H (upd H s.heap.objs.size (.tup [kV kvs[i].1,kvs[i].2])) s.heap h2 :=
   {keep:=fun b o q _ _ hb=>kp2 b o hb q
    slot:=fun b o q _ _ hb=>⟨o.slots,kp2 b o hb q⟩
    free:=fun b o q n _=>by rw[jal (Nat.ne_of_lt (Heap.lt_size q))];exact n
    there:=fun b o q hb=>⟨o,kp2 b o hb q⟩
    tups:=fun b xs q=>by rw[jal (jaj q hfr)];exact q
    frzs:=fun b o xs q=>by rw[jal (jaj q hfr)];exact q
    tbls:=fun b ps q=>⟨#[],by rw[jal (jaj q hfr),q];simp⟩}
  have hok:HOk X.prog X.w (upd H s.heap.objs.size (.tup [kV kvs[i].1,kvs[i].2])) h2:=fun b v q=>by
   by_cases hb:b=s.heap.objs.size
   ·subst hb
    rw[jay]at q
    cases q
    exact⟨by show 2≤sizeLine;decide,[key,u],.cons (jo3 hkey) (.cons ru .nil),_,hnew,rfl,_,rfl⟩
   ·rw[jal hb]at q
    refine (I.hok b v q).stay (fun c v' hc' r=>kp2 c v' ?_ r) (fun c r=>by rw[jal (jaj r hfr)];exact r) fun c ys r=>by rw[jal (jaj r hfr)];exact r
    rcases hc' with e | e
    ·rw[e];exact nt b v q
    ·exact nt c _ e
  have I2:Inv X pins σ (upd H s.heap.objs.size (.tup [kV kvs[i].1,kvs[i].2])) {s with heap:=h2}:=I.call' rfl U hok I.bare fun b hb=>by
   obtain⟨g0,g1,g2,g3,g4,g5⟩:=hf b hb
   exact⟨g3,g1,g4,g5⟩
  refine⟨.ref s.heap.objs.size,_,I2,rfl,⟨_,kvs[i],hx,rfl,hfr,rfl⟩,⟨key,u,by rw[hle];exact he2⟩,fun b hb=>?_⟩
  have z:b=it:=by simpa using hb
  rw[z,jal (Ne.symm hitn)]
  exact f1.1
 done:=by
  intro X hP hw hK hc i pins s σ H E I hf st hg
  subst hP hw hK
  obtain⟨hH,hle0⟩:=hg
  obtain⟨ok,ov,hi⟩:=st
  obtain⟨vs,hkv,hat,hlo⟩:=jhk I hH he
  have hle:=KV.length hkv
  obtain⟨f0,f1,f2,f3,f4,f5⟩:=hf it (by simp)
  rw[hle]at hi
  exact wpAny_pyNext_items_end (I.ok.hd hc) hi hat (by rw[List.getElem?_eq_none_iff];omega) fun h' eb=>⟨rfl,I.turned (t':=s.toks) (fun b o hb e=>eb b o hb e) f0 f1 f3 f4 f5⟩
 self:=fun _ _ _ _ _ st h=>by
  obtain⟨ok,ov,hi⟩:=st
  have ty:Shared.TypeIs _ (.ref it) "dict_itemiterator":=⟨_,hi,rfl⟩
  refine wpAny_pyIter_slot ty F.slot_dict_itemiterator_iter (wpAny_call_entry F.slot_dict_itemiterator_iter ty jk3 ?_ (F.args_dict_itemiterator_iter_1 _))
  change wpAny _ _ (ret (.ref it)) _ _ _
  exact wpAny_pure ⟨_,rfl,"dict_itemiterator",_,ty,F.slot_dict_itemiterator_next.lookup,h⟩
section
variable {X:Cx}
noncomputable def jvP (te:TE):TI:=fun σ H R=>te σ H fun x H1=>∃a o kvs es ep,x=.ref a∧H1 a=some (.frz o (.dK kvs))∧o.data=.dict es ep∧R (ItI o a kvs) H1
theorem joW {e:Expr} {te:TE} {apos pos:Pos} {elts:List Expr} {x1:Nat} {tpos:Pos} (he:PE X e te) (hb:attributeBase e "items" X.env (eval e X.env)=eval e X.env) (hl:(apos.endLine == pos.line)=true) :
  PI X (.Tuple elts x1 tpos) (.Call (.Attribute e "items" apos) [] [] pos) (jvP te):=by
 intro pins s σ H R I h
 refine wpAny_Call_method0_late hb hl (thn (he pins s σ H _ I h) fun v s1 ⟨x,H1,I1,r1,q1⟩=>?_)
 obtain⟨a,o,kvs,es,ep,rfl,hH,hd,q⟩:=q1
 cases r1
 obtain⟨vs,hkv,hat,hlo⟩:=jhk I1 hH hd
 refine⟨"dict","dict.items",PySem.F.plainAttrs_dict,PySem.F.slot_dict_items,PySem.F.type_dict_items,hat.dictOf.typeIs,fun b q=>?_,?_⟩
 ·cases q
  obtain⟨o',es',ho,hc,_⟩:=hat
  exact⟨o',ho,hc.2.1⟩
 refine Calls.callWith_builtin rfl (PySem.evalArgs_none ?_)
 refine call_meetsIn PySem.F.slot_dict_items hat.dictOf.typeIs PySem.F.entry_dict_items (PySem.F.args_dict_items_1 _) (meets_dict_items (jaY X.prog X.w) a hlo) ⟨⟨vs,hat.dictOf⟩,?_⟩
 change wpAny (model X.prog X.w) X.A (pyIter (.ref s1.heap.objs.size)) _ _ _
 refine wpAny_pyIter_items (s:={s1 with heap:=s1.heap.push {cls:=.type "dict_items",data:=.fields #[.ref a]}}) ⟨_,Heap.get?_push_size _ rfl,rfl,rfl⟩ (hat.push _) ?_
 have z1:(s1.heap.push {cls:=.type "dict_items",data:=.fields #[.ref a]}).objs.size=s1.heap.objs.size+1:=Heap.size_push ..
 have gi:=Heap.get?_push_size (s1.heap.push {cls:=.type "dict_items",data:=.fields #[.ref a]}) (o:={cls:=.type "dict_itemiterator",data:=.fields #[.none,.bool false,.ref a,.int 0 0,.int vs.length 0,.int ep 0,.none,.none]}) rfl
 have hle:=KV.length hkv
 refine⟨_,[_],_,_,H1,rfl,I1.kept (t':=s1.toks) fun b o e=>Heap.get?_push_of_some _ (Heap.get?_push_of_some _ e),jkA a _ kvs hd,⟨.none,.none,by rw[hle];exact gi⟩,fun b hb=>?_,q⟩
 have hb':b=(s1.heap.push {cls:=.type "dict_items",data:=.fields #[.ref a]}).objs.size:=by simpa using hb
 have hle2:s1.heap.objs.size≤b:=by rw[hb',z1];exact Nat.le_succ _
 exact I1.fpOk hle2 (I1.hok.fresh hle2)
end
end _L2
namespace _L2
open PySem PySem.Spec PyProof.Rows
section
variable {X:Cx}
noncomputable def jk2 (n:Nat)(lo st:Int):List Nat:=sliceRange (max 0 (min lo n)) n st
noncomputable def jul (K:PySem.W.Frag):V→Option Int→Option Int→Hp→VK→Prop:=fun x lo st H Q=>∃a xs i k,x=.ref a∧lo=some i∧st=some k∧0≤i∧0 < k∧SqL K H a xs∧∀p,H p=none→Q (.ref p) (upd H p (.lst ((jk2 xs.length i k).filterMap (xs[·]?))))
theorem jg {xs:List V}{its:List Value}(h:ja6 xs its):∀ns:List Nat,ja6 (ns.filterMap (xs[·]?)) (ns.filterMap (its[·]?))
 |[]=>.nil
 |n :: ns=>by
  rw[List.filterMap_cons,List.filterMap_cons]
  cases e:xs[n]? with
  |none =>
   rw[h.none_of e]
   exact jg h ns
  |some v =>
   obtain⟨u,hu,r⟩:=h.get e
   rw[hu]
   exact .cons r (jg h ns)
theorem jrr {e a b:Expr}{te:TE}{tl ts:TO}{p2 pos:Pos}(he:PE X e te)(hl:PO X (some a) tl)(hs:PO X (some b) ts) :
  PE X (.Subscript e (.Slice (some a) none (some b) p2) pos) (fun σ H Q=>te σ H fun x H1=>tl σ H1 fun l H2=>ts σ H2 fun k H3=>jul X.K x l k H3 Q):=by
 intro pins s σ H Q I h
 refine Subscript_ (thn (he pins s σ H _ I h) fun v s1 ⟨x,H1,I1,r1,q1⟩=>?_)
 refine wpAny_Slice (thn (hl pins s1 σ H1 _ I1 q1) fun vl s2 ⟨l,H2,I2,pl,q2⟩=>?_)
 rw[evalPart_none]
 refine wpAny_pure (thn (hs pins s2 σ H2 _ I2 q2) fun vk s3 ⟨k,H3,I3,pk,q3⟩=>?_)
 obtain⟨ad,xs,i,n,rfl,rfl,rfl,hi,hn,hq,q⟩:=q3
 cases r1
 have I4:Inv X pins σ H3 {s3 with heap:=s3.heap.push {cls:=.type "slice",data:=.fields #[vl,.none,vk]}}:=I3.kept (t':=s3.toks) fun b ob q=>Heap.get?_push_of_some _ q
 obtain⟨its,rv,pl',hz⟩:=I4.list hq
 have hlen:=rv.length
 show wpAny (model X.prog X.w) X.A (subscriptTail e (.Slice (some a) none (some b) p2) (.ref ad) (.ref s3.heap.objs.size)) (EP X pins σ Q) X.xe {s3 with heap:=s3.heap.push {cls:=.type "slice",data:=.fields #[vl,.none,vk]}}
 have hsz:its.toArray.size≤sizeLine:=by rw[List.size_toArray,← hlen];exact hz
 have hpick:slicePick its.toArray (some i) none (some n)=((jk2 xs.length i n).filterMap (its[·]?)).toArray:=by
  unfold slicePick jk2 sliceBounds
  have h1:¬ i < 0:=by omega
  simp only[Option.getD_some,if_neg h1,if_pos hn,List.size_toArray,← hlen]
  congr 2
  funext j
  simp
 have key:=jg rv (jk2 xs.length i n)
 have hle:((jk2 xs.length i n).filterMap (xs[·]?)).length≤sizeLine:=by
  rw[key.length]
  have:=slicePick_size_le its.toArray (some i) none (some n)
  rw[hpick,List.size_toArray]at this
  omega
 refine tail_any (ops:=[.ref ad,.ref s3.heap.objs.size]) pl'.isList.typeIs slot_list_getitem.lookup (wpAny_getItem_list_slice pl'.isList (Heap.IsSliceOf.new ..) pl .none pk (by intro z;cases z;omega) ?_ hsz) (by with_unfolding_all rfl)
 rw[hpick]
 exact⟨.ref _,_,I4.lnew (t':=s3.toks) key hle,rfl,q _ I4.fresh⟩
noncomputable def jur:R2:=fun x y H Q=>∃z n,x=.str z∧y=.int n∧0≤n∧n≤1000∧z.length≤1000∧Q (.str (Txt.mul z n)) H
theorem jrl:OpR X (binaryOp .Mult) jur:=by
 intro pins s σ H x y v u Q I rx ry h
 obtain⟨z,n,rfl,rfl,h0,h1,h2,q⟩:=h
 obtain⟨t,rfl⟩:=rx
 obtain⟨t',rfl⟩:=ry
 have hm:z.length * n.toNat≤1000 * 1000:=Nat.mul_le_mul h2 (by omega)
 refine PySem.SB.mul ⟨?_,fun hn _=>?_,fun _ _=>?_⟩ fun t2 k=>⟨.str _,H,I.tok _,⟨_,rfl⟩,q⟩
 ·have e1:decide (n < -(2 ^ 63:Int))=false:=decide_eq_false (by omega)
  have e2:decide (n ≥ 2 ^ 63)=false:=decide_eq_false (by omega)
  rw[e1,e2]
  rfl
 ·have hz:(z.length:Int) * n≤2 ^ 63 - 1:=by
   have e:(z.length:Int) * n=((z.length * n.toNat:Nat):Int):=by rw[Int.natCast_mul,Int.toNat_of_nonneg h0]
   rw[e]
   omega
  have:=Int.le_ediv_of_mul_le (show (0:Int) < n by omega) hz
  omega
 ·refine decide_eq_false ?_
  have:(1000 * 1000:Nat)≤sizeLine:=by decide
  omega
end
end _L2
namespace _L2
open PySem PySem.Spec PyProof.Rows
structure Fly (P:Program) (w:World) (outer:List Env) (H:Hp) (s:Shared) (B:Heap) (a0:Value) (a:Addr) (cls:Value) (H':Hp) (s':Shared):Prop where
 os:s'.os=s.os
 bare:AllBare s'.gens
 fly:Heap.FlyingW B outer a cls a0 s'.heap
 hok:HOk P w H' B
 keep:∀b o,s.heap.get? b=some o→H b=none→b∉frs outer→B.get? b=some o
 slot:∀b o,s.heap.get? b=some o→b∈frs outer→∃sl,s'.heap.get? b=some {o with slots:=sl}
 free:∀b o,s.heap.get? b=some o→H b=none→H' b=none
 there:∀b o,s.heap.get? b=some o→b∉frs outer→∃o',B.get? b=some o'
 tups:∀b xs,H b=some (.tup xs)→H' b=some (.tup xs)
 frzs:∀b o u,H b=some (.frz o u)→H' b=some (.frz o u)
 tbls:∀b ps,H b=some (.tbl ps)→∃more,H' b=some (.tbl (ps++more))
noncomputable def CX1 (P:Program)(w:World):CXT:=fun outer H s E e s'=>∃B a0 a C H',e=.ref a∧Fly P w outer H s B a0 a (.ref C) H' s'∧E (.ref C) none H'
section
variable {P:Program} {w:World} {outer:List Env} {H H':Hp} {s s':Shared} {B:Heap} {a0 cls:Value} {a:Addr}
theorem Fly.un (f:Fly P w outer H s B a0 a cls H' s'):Un (frs outer) [] H H' s.heap s'.heap where
 keep:=fun b o e n hb _=>f.fly.1 b o (f.keep b o e n hb)
 slot:=fun b o e _ hb _=>f.slot b o e hb
 free:=fun b o e n _=>f.free b o e n
 there:=fun b o e _=>by
  by_cases hb:b∈frs outer
  ·obtain⟨sl,q⟩:=f.slot b o e hb
   exact⟨_,q⟩
  ·obtain⟨o',q⟩:=f.there b o e hb
   exact⟨o',f.fly.1 b o' q⟩
 tups:=f.tups
 frzs:=f.frzs
 tbls:=f.tbls
theorem Fly.hok' (f:Fly P w outer H s B a0 a cls H' s'):HOk P w H' s'.heap:=f.hok.kept fun b u e=>f.fly.1 b u e
end
section
variable {X:Cx} {pins:List (Addr×Obj)} {σ:St} {H H':Hp} {s s':Shared} {B:Heap} {a0 cls:Value} {a:Addr}
theorem Fly.inv (f:Fly X.prog X.w X.stack H s B a0 a cls H' s')(I:Inv X pins σ H s):Inv X pins σ H' s' :=
 I.call' f.os f.un f.hok' f.bare (fun b z=>absurd z (by simp))
end
noncomputable abbrev jvL:List Value:=[.type "ValueError",.type "Exception",.type "BaseException",.type "object"]
structure ExcC (K:PySem.W.Frag) (C:Addr):Prop where
 ex:∃(tl:List Value) (N:Addr) (nm q:Str) (bs:List Value) (hd:Bool) (sn:List Str) (sub:List Value) (ab:Bool) (col:Option Bool) (dd:Option Addr) (k0 k1 k2 k3 k5:Option Value),
  K.lookup C=some (excClassObj nm q C N bs tl hd sn sub ab col dd k0 k1 k2 k3 k5 "ValueError.__new__")∧PySem.W.tailIn K jvL tl=true∧PySem.W.nsOkIn K N=true∧PySem.W.nsIn K N "__init__" = some none
theorem jld {P:Program}{w:World}{H:Hp}{h:Heap}{l:List Addr}(ok:HOk P w H h)(hl:∀b∈l,H b=none):HOk P w H (PySem.W.hideAll h l):=fun a o e =>
 (ok a o e).stay (fun b u hb q=>PySem.W.hideAll_get l q fun hm=>by
  have:=hl b hm
  rcases hb with rfl | hb
  ·rw[e]at this;cases this
  ·rw[hb]at this;cases this) (fun _ q=>q) fun _ _ q=>q
section
variable {P:Program} {w:World} {K:PySem.W.Frag} {mg:Str→Option Value} {base:Heap} {N:List Str} {qual:Str} {scope:Scope} {f:Addr} {cd:Value} {A:Around} {outer:List Env} {s0:Shared} {H0:Hp} {E:XK}
theorem jrR {pins:List (Addr×Obj)}{σ:St}{H:Hp}{s:Shared}{C e:Addr}{vs:List Value}{h1:Heap}(I:Inv (jhv (CX1 P w) P w K mg base N qual scope f cd A outer s0 H0 E) pins σ H s)
  (mk:Heap.MadeExcOf s.heap h1 e (.ref C) vs) (hE:E (.ref C) none H):(jhv (CX1 P w) P w K mg base N qual scope f cd A outer s0 H0 E).xe (.ref e) {s with heap:=h1}:=by
 show wpAny _ _ (leaving _ (.ref e)) _ _ _
 have hlt:∀b o,s0.heap.get? b=some o→b≠s0.heap.objs.size:=fun b o e=>Nat.ne_of_lt (Heap.lt_size e)
 have hst:∀b o,s0.heap.get? b=some o→b∉frs outer→b∉frs (envOfC qual scope s0.heap.objs.size f cd :: outer):=fun b o e hb hm=>by
  rcases List.mem_cons.mp (show b∈s0.heap.objs.size :: frs outer from hm) with q | q
  ·exact hlt b o e q
  ·exact hb q
 have hin:∀env∈(envOfC qual scope s0.heap.objs.size f cd :: outer),∀b,env.frame=some b→b∈frs (envOfC qual scope s0.heap.objs.size f cd :: outer):=fun env he b hb=>List.mem_filterMap.mpr ⟨env,he,hb⟩
 refine wpAny_leaves_madeW (base:=PySem.W.hideAll s.heap (frs (envOfC qual scope s0.heap.objs.size f cd :: outer))) I.ok.frames rfl (fun b o q=>PySem.W.of_hideAll _ q) (PySem.W.funFrames_hide I.stack hin) mk fun h' t fl _ _ sm=>?_
 refine⟨_,_,e,C,H,rfl,⟨I.os,I.bare,fl,jld I.hok I.stkFree,fun b o q n hb=>?_,fun b o q hb=>?_,fun b o q n=>?_,fun b o q hb=>?_,I.base.tups,I.base.frzs,I.base.tbls⟩,hE⟩
 ·exact PySem.W.hideAll_get _ (I.base.keep b o q n hb (by intro z;cases z)) (hst b o q hb)
 ·obtain⟨sl,q1⟩:=I.base.slot b o q (I.ok.frf b hb) hb (by intro z;cases z)
  have nf:∀vs,({o with slots:=sl}:Obj).data≠.fields vs:=by
   obtain⟨_,o',q',nf⟩:=I.ok.funs.mem hb
   have q2:s0.heap.get? b=some o':=q'
   rw[q]at q2
   cases q2
   exact nf
  obtain⟨sl3,q3⟩:=sm b _ (mk.keeps b _ q1) nf
  exact⟨sl3,q3⟩
 ·exact I.base.free b o q n (by intro z;cases z)
 ·obtain⟨o',q'⟩:=I.base.there b o q (by intro z;cases z)
  exact⟨o',PySem.W.hideAll_get _ q' (hst b o q hb)⟩
theorem jpa {x:Str}{C:Addr}{np cpos pos:Pos}{e:Expr}{es:List Expr}{t:TA}(hC:ExcC K C)(hg:Gl (jhv (CX1 P w) P w K mg base N qual scope f cd A outer s0 H0 E) x)(hm:mg x=some (.ref C))
  (ha:PA (jhv (CX1 P w) P w K mg base N qual scope f cd A outer s0 H0 E) (e :: es) t) (hdb:(x == ("__debug__" : Str))=false:=by decide)
  (he:starEach (e :: es) (envOfC qual scope s0.heap.objs.size f cd)=(false,eval e (envOfC qual scope s0.heap.objs.size f cd)) :: starEach es (envOfC qual scope s0.heap.objs.size f cd):=by rfl)
  (hpl:(backTo cpos (starEach es (envOfC qual scope s0.heap.objs.size f cd))).any (·.1)=false:=by rfl) :
  PS (jhv (CX1 P w) P w K mg base N qual scope f cd A outer s0 H0 E) (.Raise (some (.Call (.Name x np) (e :: es) [] cpos)) none pos) (fun _ σ H=>t σ H fun vs H1=>vs.length≤sizeLine∧E (.ref C) none H1):=by
 intro pins s σ H D I h
 obtain⟨tl,Nc,nm,q,bs,hd,sn,sub,ab,col,dd,k0,k1,k2,k3,k5,lk,ht,hok,hni⟩:=hC.ex
 have KX:=I.kIn
 have T:=PySem.W.tail_of_in KX ht
 refine wpAny_Raise_call_subT (C:=C) (nm:=nm) (q:=q) (N:=Nc) (bs:=bs) (bm:=tl) (hdct:=hd) (sn:=sn) (sub:=sub) (ab:=ab) (col:=col) (dd:=dd) (k0:=k0) (k1:=k1) (k2:=k2) (k3:=k3) (k5:=k5)
  PySem.F.excBase_ValueError (mN:=base.nsMap Nc) (T.hasType (by decide +kernel)) (I.ok.hd rfl)
  (by show (backTo cpos (starEach (e :: es) (envOfC qual scope s0.heap.objs.size f cd))).any (·.1)=false;rw[he];show (false || (backTo cpos (starEach es (envOfC qual scope s0.heap.objs.size f cd))).any (·.1))=false;rw[hpl];rfl)
  (PySem.W.nsMap_none_of_in I.mod.kin hok hni) (jfC I hg hm ⟨rfl,?_⟩ hdb)
 have ha':=ha cpos pins s σ H _ I h
 show wpAny _ _ (evalArgs (.ref C) true (backTo cpos (starEach (e :: es) (envOfC qual scope s0.heap.objs.size f cd))) []) _ _ s
 replace ha':wpAny _ _ (spliced (backTo cpos (starEach (e :: es) (envOfC qual scope s0.heap.objs.size f cd)))) _ _ s:=ha'
 rw[he]at ha' ⊢
 refine Calls.evalArgs_plain (thn ha' fun us s1 hu=>?_)
 obtain⟨vs,H1,I1,r,hz,hE⟩:=hu
 have K1:=I1.kIn
 exact⟨rfl,by rw[← r.length];exact hz,K1 _ _ lk,Heap.Ns.keeps (.of_isNs (PySem.W.isNs_of_in I.mod.kin hok)) I1.bk,PySem.W.tail_of_in K1 ht,fun h' e mk=>jrR I1 mk hE⟩
end
end _L2
namespace _L2
open PySem PySem.W PySem.Spec PySem.Calls PyProof.Rows Builtin Builtin.ObjectAttr Builtin.Getset_descriptor
structure ExcA (K:Frag) (C:Addr):Prop where
 ga:findIn K (.ref C) "__getattribute__" = some (some (.builtin "BaseException.__getattribute__"))
 gt:findIn K (.ref C) "__getattr__" = some none
 cl:findIn K (.ref C) "__class__" = some (some (.builtin "object.__class__"))
 gs:specialIn K (.builtin "object.__class__") "__get__" = some (some (.builtin "getset_descriptor.__get__"))
 tk:takesIn K (.builtin "object.__class__")=some true
 mo:mroIn K C (.type "object")=some true
 mb:mroIn K C (.type "BaseException")=some true
section
variable {prog:Program} {w:World} {A:Around} {E:Value→Shared→Prop} {s:Shared} {K:Frag} {x C:Addr} {o:Obj}
theorem jdW {M:Model}{h:Heap}(e:h.get? x=some o)(hc:o.cls=.ref C):Looks M h (typeOf (.ref x)) (.ref C):=hc ▸ (Looks.ld e).andThen .now
theorem jse {R:Result→Shared→Prop}(X:K.In s.heap)(he:s.heap.get? x=some o)(hc:o.cls=.ref C)(a:ExcA K C)(h:R (.ok (.ret (.ref C))) s) :
  codeAny (model prog w) A (.call (.builtin "getset_descriptor.__get__") ⟨[.builtin "object.__class__",.ref x,.ref C],[]⟩) R s:=by
 have LT:=jdW (M:=model prog w) he hc
 have LM:=looks_mroIn (M:=model prog w) X a.mo
 obtain⟨hp,g,d,t,os⟩:=s
 refine codeAny_call_builtin KF.slot_gs.plain KF.entry_gs ?_
 refine KF.slot_gs.check _ _ _ _ _ _ _ _ KF.type_class (KF.args_gs _ _ _) ?_
 unfold Builtin.«getset_descriptor.__get__»
 unfold descrGet
 rw[dga_obj]
 refine wpAny_bind (wpAny_pure ?_)
 unfold descrGetter
 unfold descrCheckInstance
 unfold descrNameAndClass
 unfold isInstance
 simp only[KF.owner_class]
 repeat lk
 refine⟨Code.quiet_builtin _ (by decide +kernel),?_⟩
 refine codeAny_builtin KF.entry_class ?_
 unfold Builtin.«object.__class__»
 unfold shownTypeOf
 repeat lk
 exact h
theorem jiE {M:Model} {h:Heap} {v:Value} {r:Option Value} (X:K.In h) (e:specialIn K v "__get__" = some r):Looks M h (getOf (some v)) r:=looks_specialIn X e
theorem joj {M:Model}{h:Heap}(X:K.In h)(a:ExcA K C):Looks M h (find (.ref x) (.ref C) "__class__") (.bind (.builtin "getset_descriptor.__get__") (.builtin "object.__class__")):=by
 have L1:=looks_findIn (M:=M) X a.cl
 have _L2:=jiE (M:=M) X a.gs
 have _L3:=looks_takesIn (M:=M) X a.tk
 intro A' Q' E' s' k q
 have L1:=L1.keeps k
 have _L2:=_L2.keeps k
 have _L3:=_L3.keeps k
 obtain⟨hp,g,d,t,os⟩:=s'
 unfold find
 refine wpAny_bind (L1.here ?_)
 refine wpAny_bind (_L2.here ?_)
 unfold dataDescriptor?
 refine wpAny_bind (wpAny_bind (_L3.here ?_))
 repeat lk
 exact q
theorem jvo {R:Result→Shared→Prop}{tk:Tok}(X:K.In s.heap)(he:s.heap.get? x=some o)(hc:o.cls=.ref C)(a:ExcA K C)(h:R (.ok (.ret (.ref C))) s) :
  codeAny (model prog w) A (.call (.builtin "BaseException.__getattribute__") ⟨[.ref x,.str "__class__" tk],[]⟩) R s:=by
 have LT:=jdW (M:=model prog w) he hc
 have LB:=looks_mroIn (M:=model prog w) X a.mb
 have LF:=joj (x:=x) (M:=model prog w) X a
 have hk:builtinKind "BaseException.__getattribute__" = some .slot:=by decide +kernel
 have hs:splitId "BaseException.__getattribute__" = some ("BaseException","__getattribute__"):=by decide +kernel
 have hp:∀Q:Unit→Shared→Prop,Q () s→wpAny (model prog w) A.in1 (checkBuiltinCall "BaseException.__getattribute__" ⟨[.ref x,.str "__class__" tk],[]⟩) Q (fun e s'=>R (.error e) s') s:=by
  intro Q q
  have ha:=PySem.F.args_bexc_ga (.ref x) (.str "__class__" tk)
  obtain⟨hh,g,d,t,os⟩:=s
  simp only[checkBuiltinCall,hk,hs]
  unfold isInstance
  repeat lk
  exact q
 refine codeAny_call_builtin PySem.F.excAttr_ValueError.ga.plain PySem.F.entry_bexc_ga (hp _ ?_)
 obtain⟨hh,g,d,t,os⟩:=s
 unfold Builtin.«object.__getattribute__»
 refine wpAny_bind (wpAny_pure ?_)
 refine wpAny_bind (wpAny_pure ?_)
 refine wpAny_bind (LT.here ?_)
 refine wpAny_bind (LF.here ?_)
 refine wpAny_bind (wpAny_holding (wpAny_call (jse X he hc a ?_)))
 exact wpAny_pure h
theorem jmY {Q:Option Value→Shared→Prop}(X:K.In s.heap)(he:s.heap.get? x=some o)(hc:o.cls=.ref C)(a:ExcA K C)(h:Q (some (.ref C)) {s with toks:=s.toks+1}) :
  wpAny (model prog w) A (getAttr? (.ref x) "__class__") Q E s:=by
 have LT:=jdW (M:=model prog w) he hc
 have LG:=looks_findIn (M:=model prog w) X a.ga
 have LH:=looks_findIn (M:=model prog w) X a.gt
 have hb:=PySem.F.excAttr_ValueError.ga.bind (.ref x)
 have hn:(onTheHeap (.ref C) && Value.builtin "BaseException.__getattribute__" == Value.builtin "object.__getattribute__")=false:=by rw[show (Value.builtin "BaseException.__getattribute__" == Value.builtin "object.__getattribute__")=false from by decide +kernel];rfl
 obtain⟨hh,g,d,t,os⟩:=s
 unfold getAttr? getAttrBy? getAttrBy
 refine wpAny_bind (wpAny_mkText (wpAny_bind (wpAny_attempt (wpAny_holding (wpAny_bind (LT.at (wpAny_bind (LG.at ?_))))))))
 dsimp only
 rw[hn]
 simp only[Bool.false_eq_true,if_false]
 unfold getAttrByItsOwn hookBefore
 rw[if_pos (show onTheHeap (.ref C)=true from rfl)]
 refine wpAny_bind (LH.at ?_)
 unfold callGetattribute boundAndCalled
 rw[if_neg (by simp),hb]
 refine wpAny_bind (wpAny_attempt (wpAny_holding (wpAny_bind (wpAny_pure (wpAny_call (jvo (s:=⟨hh,g,d,t+1,os⟩) X he hc a ?_))))))
 exact wpAny_pure (wpAny_pure h)
end
end _L2
namespace _L2
open PySem PySem.Spec PyProof.Rows
theorem jjP {K:PySem.W.Frag}{x C:Addr}(c:ExcC K C)(a:ExcA K C)(it:PySem.W.kitCls K (.ref C) (.ref C)=some true):PySem.W.KitX K (.ref x) (.ref C) (fun h=>∃o,h.get? x=some o∧o.cls=.ref C) where
 ty:=fun _ _ _ ⟨_,e,hc⟩=>jdW e hc
 it:=fun M _ X _=>(PySem.W.kit_cls (M:=M) X it).2.1
 ne:=fun h tp dd its n sl X htp=>by
  obtain⟨tl,Nc,nm,q,bs,hd,sn,sub,ab,col,dd',k0,k1,k2,k3,k5,lk,_⟩:=c.ex
  refine Bool.eq_false_iff.mpr fun q=>?_
  have e:C=tp:=Value.ref.inj (beq_iff_eq.mp q)
  subst e
  have z:=congrArg Obj.data (Option.some.inj ((X _ _ lk).symm.trans htp))
  exact Data.noConfusion z
 ca:=fun X ⟨_,e,hc⟩ k=>jmY X e hc a k
section
variable {X:Cx} {pins:List (Addr×Obj)} {σ:St} {H:Hp} {s:Shared}
noncomputable def jwh:V→Option Value
 |.ref a=>some (.ref a)
 |.ty n=>some (.type n)
 |_=>none
theorem jjT {v:V}{u c:Value}(h:jwh v=some c)(r:jba v u):u=c:=by
 cases v <;> first | (cases h;done) | (cases h;exact r)
theorem jnO {a C:Addr}{oe:Obj}(hp:(a,oe)∈X.pn)(hc:oe.cls=.ref C)(c:ExcC X.K C)(ea:ExcA X.K C)(it:PySem.W.kitCls X.K (.ref C) (.ref C)=some true) :
  jcd X (.builtin "isinstance") (fun xs H Q=>∃v u b,xs=[.ref a,v]∧jwh v=some u∧PySem.W.kitOne X.K (.ref C) u=some b∧Q (.bl b) H):=by
 intro pins s σ H xs us Q I r h
 obtain⟨v,u,b,rfl,hv,hk,q⟩:=h
 obtain⟨u1,u2,rfl,r1,r2⟩:=joZ r
 cases (show u1=Value.ref a from r1)
 cases jjT hv r2
 have he:=(I.pin (a,oe) (List.mem_append_left _ hp)).1
 exact PySem.W.kia_one (jjP c ea it) I.kIn ⟨oe,he,hc⟩ hk (by intro q;cases q) fun tk=>⟨.bl b,H,I.tok tk,rfl,q⟩
theorem jjn:∀{cs:List V} {us ts:List Value},cs.mapM jwh=some ts→ja6 cs us→us=ts
 |[],_,ts,e,.nil=>by
  rw[List.mapM_nil]at e
  exact (Option.some.inj e)
 |c :: cs,_,ts,e,.cons r t=>by
  rw[List.mapM_cons]at e
  obtain⟨u,h1,e⟩:=Option.bind_eq_some_iff.mp e
  obtain⟨us',h2,e⟩:=Option.bind_eq_some_iff.mp e
  cases Option.some.inj e
  rw[jjn h2 t,jjT h1 r]
theorem jl5 {a C:Addr}{oe:Obj}(hp:(a,oe)∈X.pn)(hc:oe.cls=.ref C)(c:ExcC X.K C)(ea:ExcA X.K C)(it:PySem.W.kitCls X.K (.ref C) (.ref C)=some true) :
  jcd X (.builtin "isinstance") (fun xs H Q=>∃(p:Addr) (cs:List V) (ts:List Value) (b:Bool),xs=[.ref a,.ref p]∧SqT X.K H p cs∧cs.mapM jwh=some ts∧PySem.W.kitAny X.K (.ref C) ts=some b∧Q (.bl b) H):=by
 intro pins s σ H xs us Q I r h
 obtain⟨p,cs,ts,b,rfl,hsq,hv,hk,q⟩:=h
 obtain⟨u1,u2,rfl,r1,r2⟩:=joZ r
 cases (show u1=Value.ref a from r1)
 cases (show u2=Value.ref p from r2)
 have he:=(I.pin (a,oe) (List.mem_append_left _ hp)).1
 obtain⟨its,rv,ht,_⟩:=I.tuple hsq
 cases jjn hv rv
 obtain⟨⟨cc,d,dt,sl⟩,ho,hcc,n,hd⟩:=ht
 simp only at hcc hd
 subst hcc hd
 exact PySem.W.kia_tup (jjP c ea it) I.kIn ⟨oe,he,hc⟩ ho hk (by intro q;cases q) fun tk=>⟨.bl b,H,I.tok tk,rfl,q⟩
end
theorem jca.here {P:Program}{w:World}{H:Hp}{h:Heap}{a:Addr}{o:HO}(x:jca P w H h a o):∃u,h.get? a=some u:=by
 induction o with
 |lst xs=>obtain⟨_,_,_,_,e⟩:=x;exact⟨_,e⟩
 |tup xs=>obtain⟨_,_,_,_,e,_⟩:=x;exact⟨_,e⟩
 |dK kvs=>obtain⟨_,_,_,_,_,_,_,e,_⟩:=x;exact⟨_,e⟩
 |dT kvs=>obtain⟨_,_,_,_,_,_,_,e,_⟩:=x;exact⟨_,e⟩
 |set S n=>obtain⟨_,_,_,_,e,_⟩:=x;exact⟨_,e⟩
 |ins C dx fs=>obtain⟨_,_,_,e,_⟩:=x;exact⟨_,e⟩
 |own y=>obtain⟨_,e⟩:=x;exact⟨_,e⟩
 |xd fs=>obtain⟨_,⟨_,_,_,e,_⟩,_⟩:=x;exact⟨_,e⟩
 |rng lo hi=>obtain⟨_,_,_,e⟩:=x;exact⟨_,e⟩
 |frz ob u _=>obtain⟨e,_⟩:=x;exact⟨_,e⟩
 |tbl ps=>exact⟨_,show h.get? a=some _ from x⟩
 |met f y=>exact⟨_,show h.get? a=some _ from x⟩
 |ext φ=>obtain⟨_,e,_⟩:=x;exact e
noncomputable abbrev Cx.hand (X:Cx) (a:Addr) (oe:Obj):Cx:={X with A:=X.A.mark (some (.ref a)),calm:=false,pn:=(a,oe) :: X.pn,xe:=fun _ _=>False}
section
variable {X:Cx} {pins:List (Addr×Obj)} {σ:St} {H H':Hp} {s s':Shared} {B:Heap} {a0:Value} {a:Addr} {oe:Obj}
theorem Inv.hand (I:Inv X pins σ H s)(e:s.heap.get? a=some oe)(n:H a=none)(nl:a≠X.env.locals)(nf:a∉X.fs)(nc:∀v,oe.data≠.cell v):Inv (X.hand a oe) pins σ H s:=by
 obtain⟨ok,os,bare,base,loc,cell,free,freeC,pin,hok,len⟩:=I
 refine⟨⟨ok.mod,ok.kind,ok.glob,ok.blt,ok.above,ok.inj,ok.has,ok.cab,(by intro z;cases z),ok.frames,ok.stk,ok.exf,ok.bs,ok.bsz,ok.noex,ok.exfs,ok.funs,ok.frf⟩,os,bare,base,loc,cell,free,freeC,fun p hp=>?_,hok,len⟩
 rcases List.mem_cons.mp (show p∈(a,oe) :: (X.pn++pins) from hp) with rfl | hp
 ·exact⟨e,n,nl,nf,nc⟩
 ·exact pin p hp
theorem Inv.unhand (I:Inv (X.hand a oe) pins σ H s)(ok:X.Ok):Inv X pins σ H s :=
 ⟨ok,I.os,I.bare,I.base,I.loc,I.cell,I.free,I.freeC,fun p hp=>I.pin p (show p∈(a,oe) :: (X.pn++pins) from .tail _ hp),I.hok,I.len⟩
theorem Fly.later {outer:List Env}{P:Program}{w:World}{cls:Value}{h5:Heap}(f:Fly P w outer H s B a0 a cls H' s')(nf:∀b o,s.heap.get? b=some o→b∈frs outer→∀vs,o.data≠.fields vs)
  (fl:Heap.FlyingW B outer a cls a0 h5) (sm:s'.heap.UpToSlots h5):Fly P w outer H s B a0 a cls H' {s' with heap:=h5} :=
 ⟨f.os,f.bare,fl,f.hok,f.keep,fun b o e hb=>by
  obtain⟨sl,q⟩:=f.slot b o e hb
  obtain⟨sl2,q2⟩:=sm b _ q (nf b o e hb)
  exact⟨sl2,q2⟩,f.free,f.there,f.tups,f.frzs,f.tbls⟩
theorem Inv.unbound {i:Nat}{n:Str}{v:Option Value}{m:Str→Option Value}{h':Heap}{t':Nat}(I:Inv X pins σ H s)(hN:X.N.Nodup)(hi:X.N[i]?=some n)
  (hn:s.heap.Ns X.env.locals m) (hl:∀(i:Nat) (x:Str) (v:V),X.N[i]?=some x→σ[i]?=some (some v)→Vis X.env.scope x→∃u,jba v u∧jx4 X.env s.heap m x u)
  (hn':h'.Ns X.env.locals (fun y=>if y=n then v else m y)) (hs:Heap.SameBut X.env.locals s.heap h'):Inv X pins (σ.set i none) H {s with heap:=h',toks:=t'}:=by
 have lt:∀b o,X.s₀.heap.get? b=some o→b≠X.env.locals:=fun b o e=>Nat.ne_of_lt (Nat.lt_of_lt_of_le (Heap.lt_size e) I.ok.above)
 refine⟨I.ok,I.os,I.bare,⟨fun b o e n hb hx=>?_,fun b o e n hb hx=>?_,I.base.free,fun b o e hx=>?_,I.base.tups,I.base.frzs,I.base.tbls⟩,⟨_,hn',fun j y v' e1 e2 e3=>?_⟩,fun y c e=>?_,I.free,I.freeC,fun p hp=>?_,fun b ob e=>?_,by simpa using I.len⟩
 ·exact (hs.2 b (lt b o e)).trans (I.base.keep b o e n hb hx)
 ·obtain⟨sl,e1⟩:=I.base.slot b o e n hb hx
  exact⟨sl,(hs.2 b (lt b o e)).trans e1⟩
 ·obtain⟨o',e1⟩:=I.base.there b o e hx
  exact⟨o',(hs.2 b (lt b o e)).trans e1⟩
 ·by_cases hj:j=i
  ·subst hj
   rw[List.getElem?_set_self' ]at e2
   cases q:σ[j]? with
   |none=>rw[q]at e2;cases e2
   |some z=>rw[q]at e2;cases e2
  ·rw[List.getElem?_set_ne (Ne.symm hj)]at e2
   obtain⟨u',r',q⟩:=hl j y v' e1 e2 e3
   refine⟨u',r',?_⟩
   rcases q with ⟨k,e⟩ | ⟨k,c,e,z⟩
   ·refine .inl ⟨k,?_⟩
    have:y≠n:=fun e=>hj (jfv hN e1 (e ▸ hi))
    simp[this,e]
   ·exact .inr ⟨k,c,e,z.sameBut hs (I.cne y c e)⟩
 ·obtain⟨w',z⟩:=I.cell y c e
  exact⟨w',z.sameBut hs (I.cne y c e)⟩
 ·obtain⟨e,n,ne,nf,d⟩:=I.pin p hp
  exact⟨(hs.2 p.1 ne).trans e,n,ne,nf,d⟩
 ·refine (I.hok b ob e).stay (fun c w' hc q=>(hs.2 c ?_).trans q) (fun _ q=>q) fun _ _ q=>q
  rintro rfl
  have hf:=I.free
  rcases hc with rfl | hc
  ·rw[hf]at e;cases e
  ·rw[hf]at hc;cases hc
theorem joS {k:Nat}{f:Addr}{fd:FuncData}{ps:List Str}{sp:Sp}{E:XK}{x:Str}{p pos:Pos}{e:Expr}{es:List Expr}{t:TA}{Q:VK}(F:FnOk X.prog X.w X.K X.mg X.base (CX1 X.prog X.w) k f fd ps sp)(hr:Room k X.A)(hg:Gl X x)(hm:X.mg x=some (.ref f))
  (hk:PySem.W.keepIn X.K (.ref f)=true) (hb:jgu X.K fd ps []) (ha:PA X.nox (e :: es) t) (I:Inv X pins σ H s) (h:t σ H fun vs H1=>sp vs H1 Q E)
  (hdb:(x == ("__debug__" : Str))=false:=by decide) (he:starEach (e :: es) X.env=(false,eval e X.env) :: starEach es X.env:=by rfl) (hpl:(backTo pos (starEach es X.env)).any (·.1)=false:=by rfl) :
  wpAny (model X.prog X.w) X.A (eval (.Call (.Name x p) (e :: es) [] pos) X.env) (EP X pins σ Q) (fun v s'=>∃H1 s1,Inv X pins σ H1 s1∧CX1 X.prog X.w X.stack H1 s1 E v s') s:=by
 refine wpAny_Call_Name_kw (jfC I hg hm ?_ hdb)
 refine PySem.W.callWith_K (h₀:=X.base) I.ok.mod.kin hk (wpAny_mono (ha pos pins s σ H _ (I.wish _) h) (fun us s1 hu=>?_) fun _ _ z=>z.elim) he hpl
 obtain⟨vs,H1,I1',r,q⟩:=hu
 have I1:Inv X pins σ H1 s1:=I1'.unwish
 refine⟨I1.kIn,?_⟩
 have hl:us.length=ps.length:=by rw[← r.length];exact F.len _ _ _ _ q
 have hb':=hb s1 us I1.kIn (by rw[List.append_nil];exact hl)
 rw[List.append_nil]at hb'
 refine wpAny_call (codeAny_mono (F.run X.A X.stack s1 H1 ⟨us,[]⟩ us vs Q E hr I1.env0 hb' r q) fun r s' hq=>?_)
 cases r with
 |error e=>exact⟨H1,s1,I1,hq⟩
 |ok fl =>
  cases fl with
  |ret u=>exact I1.after hq
  |next=>exact False.elim hq
  |brk=>exact False.elim hq
  |cont=>exact False.elim hq
theorem jnl {C T:Addr}{i:Nat}{x n:Str}{np hpos:Pos}{b₀:Stmt}{suite:List Stmt}{ts:TS}{Q:Flow→Shared→Prop}{E:Value→Shared→Prop}(I:Inv X pins σ H s)(fl:Fly X.prog X.w X.stack H s B a0 a (.ref C) H' s')
  (hstk:X.stack=X.env :: X.outer) (hfr:X.env.frame=some X.env.locals) (hN:X.N.Nodup) (hi:X.N[i]?=some n) (hn:X.env.scope.names.lookup n=some .local) (hg:Gl X x) (hm:X.mg x=some (.ref T)) (hx:PySem.W.exmOne X.K (.ref C) (.ref T)=some true)
  {W:St→Hp→Prop} (hs:∀oe:Obj,oe.cls=.ref C→PSs (X.hand a oe) (b₀ :: suite) ts) (hW:∀σ' H'' s4,Inv X pins σ' H'' s4→W σ' H''→Q .next s4)
  (ht:ts {nx:=fun σ' H''=>W (σ'.set i none) H'',rt:=fun _ _=>False} (σ.set i (some (.ref a))) H')
  (hdb:(x == ("__debug__" : Str))=false:=by decide) :
  wpAny (model X.prog X.w) X.A (noteFrame (.ref a) X.env) (fun _ s₂=>wpAny (model X.prog X.w) X.A (setFlight (.ref a) none) (fun _ s₃ =>
   wpAny (model X.prog X.w) X.A (handleBy (.ref a) X.env [.ExceptHandler (some (.Name x np)) (some n) (b₀ :: suite) hpos]) Q E s₃) E s₂) E s':=by
 have hfl:=fl.fly
 have nff:∀b o,s.heap.get? b=some o→b∈frs X.stack→∀vs,o.data≠.fields vs:=fun b o e hb=>by
  obtain⟨_,o',q',nf⟩:=I.stack.mem hb
  rw[e]at q'
  cases q'
  exact nf
 have hA:X.A.frames=some (X.env :: X.outer):=by rw[I.ok.frames,hstk]
 rw[hstk]at hfl
 refine wpAny_looks_onW hA hfr hfl fun h4 held4 sm4=>?_
 refine wpAny_landsW held4 fun h5 fly5 sm5=>?_
 rw[← hstk]at fly5
 have f5:=fl.later nff fly5 (sm4.trans sm5)
 have I5:=f5.inv I
 have inB:∀b,B.get? b=none→H' b=none:=fun b hb=>by
  cases q:H' b with
  |none=>rfl
  |some o =>
   obtain⟨u,e⟩:=(fl.hok b o q).here
   rw[hb]at e
   cases e
 have hand:∀{h:Heap},Heap.FlyingW B X.stack a (.ref C) a0 h→Inv X pins σ H' {s' with heap:=h}→∃oe,oe.cls=.ref C∧h.get? a=some oe∧Inv (X.hand a oe) pins σ H' {s' with heap:=h}:=fun {h} ff II=>by
  obtain⟨oe,vs,he,hc,hd,_⟩:=ff.first
  refine⟨oe,hc,he,II.hand he (inB a ff.2.1) ?_ ?_ fun v q=>?_⟩
  ·intro z
   obtain⟨m,hns,_⟩:=II.loc
   obtain⟨oL,_,_,hoL,hdL,_⟩:=hns
   rw[← z]at hoL
   have:=Option.some.inj (he.symm.trans hoL)
   rw[← this,hd]at hdL
   cases hdL
  ·intro z
   have hz:a∈frs X.stack:=by rw[hstk];exact (show a∈frs (X.env :: X.outer) from by unfold frs;rw[List.filterMap_cons,hfr];exact .tail _ z)
   obtain⟨_,o',q',nf⟩:=II.stack.mem hz
   have:=Option.some.inj (he.symm.trans q')
   rw[← this]at nf
   exact nf vs hd
  ·rw[hd]at q;cases q
 obtain⟨oe5,hc5,he5,J5⟩:=hand fly5 I5
 refine wpAny_handleBy_cons (codeAny_handlers_test ?_) (by intro q;cases q)
 refine jfC J5 hg hm ?_ hdb
 refine (PySem.W.exm_one J5.kIn (jdW he5 hc5) hx).here ?_
 show codeAny (model X.prog X.w) (X.A.mark (some (.ref a))) (.handlers (.ref a) [.ExceptHandler none (some n) (b₀ :: suite) hpos] X.env) _ _
 refine codeAny_handlers_suite_as ?_
 refine lands_againW fly5 fun h6 fly6 sm6=>?_
 have f6:=f5.later nff fly6 sm6
 have I6:=f6.inv I
 obtain⟨oe6,hc6,he6,J6⟩:=hand fly6 I6
 refine jgU (X:=X.hand a oe6) (v:=.ref a) J6 hN hi (.inl hn) rfl (fun s7 J7=>?_) (.inr hn)
 refine wpAny_mono (hs oe6 hc6 pins s7 _ _ _ J7 ht) (fun f s8 h8=>?_) fun _ _ z=>z.elim
 cases f with
 |next =>
  obtain⟨σ',H'',J8,q⟩:=h8
  have I8:=J8.unhand I.ok
  obtain⟨m,hns,hl⟩:=I8.loc
  refine wpAny_nameGoes_keeps hn hns (by rw[I.ok.kind];rfl) fun h' v hn' hsame=>?_
  exact hW _ _ _ (I8.unbound hN hi hns hl hn' hsame) q
 |brk=>obtain⟨_,_,_,z⟩:=h8;exact z.elim
 |cont=>obtain⟨_,_,_,z⟩:=h8;exact z.elim
 |ret u=>obtain⟨_,_,_,_,_,z⟩:=h8;exact z.elim
theorem jra {k:Nat}{f:Addr}{fd:FuncData}{ps:List Str}{sp:Sp}{g x n:Str}{T:Addr}{i:Nat}{p cpos epos np hpos pos:Pos}{e:Expr}{es:List Expr}{t:TA}{b₀:Stmt}{suite:List Stmt}{PC:Addr→Prop}{ts:Addr→Addr→TS}
  (F:FnOk X.prog X.w X.K X.mg X.base (CX1 X.prog X.w) k f fd ps sp) (hr:Room k X.A) (hgg:Gl X g) (hmg:X.mg g=some (.ref f)) (hk:PySem.W.keepIn X.K (.ref f)=true) (hb:jgu X.K fd ps []) (ha:PA X.nox (e :: es) t)
  (hstk:X.stack=X.env :: X.outer) (hfr:X.env.frame=some X.env.locals) (hN:X.N.Nodup) (hi:X.N[i]?=some n) (hn:X.env.scope.names.lookup n=some .local) (hg:Gl X x) (hm:X.mg x=some (.ref T))
  (hs:∀(C a:Addr) (oe:Obj),PC C→oe.cls=.ref C→PSs (X.hand a oe) (b₀ :: suite) (ts C a))
  (hdb:(x == ("__debug__" : Str))=false:=by decide) (hdg:(g == ("__debug__" : Str))=false:=by decide)
  (he:starEach (e :: es) X.env=(false,eval e X.env) :: starEach es X.env:=by rfl) (hpl:(backTo cpos (starEach es X.env)).any (·.1)=false:=by rfl)
  (hsw:swapsWith (.Call (.Name g p) (e :: es) [] cpos) none epos.line X.env=pure false:=by rfl) :
  PS X (.Try [.Expr (.Call (.Name g p) (e :: es) [] cpos) epos] [.ExceptHandler (some (.Name x np)) (some n) (b₀ :: suite) hpos] [] [] pos)
   (fun D σ H=>t σ H fun vs H1=>sp vs H1 (fun _ H'=>D.nx σ H') (fun cls _ H'=>∃C,cls=.ref C∧PC C∧PySem.W.exmOne X.K (.ref C) (.ref T)=some true ∧
    ∀a,ts C a {nx:=fun σ' H''=>D.nx (σ'.set i none) H'',rt:=fun _ _=>False} (σ.set i (some (.ref a))) H')):=by
 intro pins s σ H D I h
 refine wpAny_Try_except ?_
 have hq:interactive X.env=false:=I.quiet
 refine wpAny_execs_cons (wpAny_Expr_any (wpAny_mono (joS F hr hgg hmg hk hb ha I h hdg he hpl) (fun v s1 h1=>?_) fun v s' h1=>?_) hq hsw)
 ·obtain⟨x1,H1,I1,_,q⟩:=h1
  exact wpAny_execs_nil (wpAny_execs_nil ⟨σ,H1,I1,q⟩)
 ·obtain⟨H1,s1,I1,B,a0,a,C,H',rfl,fl,C',hC,hP,hx,hw⟩:=h1
  cases hC
  exact jnl (W:=D.nx) I1 fl hstk hfr hN hi hn hg hm hx (fun oe hc=>hs C a oe hP hc) (fun σ' H'' s4 I4 q=>⟨σ',H'',I4,q⟩) (hw a) hdb
end
end _L2
namespace _L2
open PySem PySem.Spec PyProof.Rows
noncomputable def jda:List (Option Expr)→List Str→Bool
 |[],[]=>true
 |some (.Constant (.str k) _ _) :: r,x :: xs=>k == x && jda r xs
 |_,_=>false
noncomputable def jpG (env:Env)(pos:Pos):List (Option Expr)→List Expr→List (Sem Value×Sem Value)
 |some k :: ks,v :: vs=>(eval k env,do let x ← eval v env;standAt pos;pure x) :: jpG env pos ks vs
 |_,_=>[]
theorem jhX {env:Env}{pos:Pos}:∀{keys:List (Option Expr)} {ks:List Str} {vals:List Expr},jda keys ks=true→vals.length=ks.length →
  (evalEachOpt keys env).zip ((evalEach vals env).map fun v=>do let x ← v;standAt pos;pure x)=(jpG env pos keys vals).map fun p=>(some p.1,p.2)
 |[],[],[],_,_=>rfl
 |[],[],_ :: _,_,h=>by cases h
 |[],_ :: _,_,h,_=>by cases h
 |none :: _,_,_,h,_=>by cases h
 |some _ :: _,[],_,h,_=>by simp[jda]at h
 |some _ :: _,_ :: _,[],_,h=>by cases h
 |some (.Constant (.str k) j p) :: r,x :: xs,v :: vs,h,hl=>by
  have h':(k == x && jda r xs)=true:=h
  have e:=jhX (env:=env) (pos:=pos) (Bool.and_eq_true_iff.mp h').2 (Nat.succ.inj hl)
  show (some (eval (.Constant (.str k) j p) env),(do let x ← eval v env;standAt pos;pure x)) :: ((evalEachOpt r env).zip ((evalEach vs env).map fun v=>do let x ← v;standAt pos;pure x))=_
  rw[e]
  rfl
theorem jlu {env:Env}{pos:Pos}:∀{keys:List (Option Expr)} {ks:List Str} {vals:List Expr},jda keys ks=true→vals.length=ks.length→(jpG env pos keys vals).length=ks.length
 |[],[],_,_,_=>rfl
 |[],_ :: _,_,h,_=>by cases h
 |none :: _,_,_,h,_=>by cases h
 |some _ :: _,[],_,h,_=>by simp[jda]at h
 |some _ :: _,_ :: _,[],_,h=>by cases h
 |some (.Constant (.str k) j p) :: r,x :: xs,v :: vs,h,hl=>by
  have h':(k == x && jda r xs)=true:=h
  exact congrArg Nat.succ (jlu (env:=env) (pos:=pos) (Bool.and_eq_true_iff.mp h').2 (Nat.succ.inj hl))
noncomputable def KP:List Str→List Value→List (Value×Value)→Prop
 |[],[],[]=>True
 |k :: ks,u :: us,(kv,v) :: r=>(∃t,kv=.str k t)∧v=u∧KP ks us r
 |_,_,_=>False
theorem KP.carries {P:Program}{w:World}:∀{ks:List Str} {us:List Value} {r:List (Value×Value)},KP ks us r→Carries (jaY P w) r ((ks.map Sum.inr).zip us)
 |[],[],[],_=>trivial
 |k :: ks,u :: us,(kv,v) :: r,h=>by
  obtain⟨⟨t,rfl⟩,rfl,h⟩:=h
  exact⟨jkE (k:=.inr k) ⟨t,rfl⟩,rfl,KP.carries h⟩
 |[],[],_ :: _,h=>h.elim
 |[],_ :: _,_,h=>h.elim
 |_ :: _,[],_,h=>h.elim
 |_ :: _,_ :: _,[],h=>h.elim
theorem KP.len:∀{ks:List Str} {us:List Value} {r:List (Value×Value)},KP ks us r→us.length=ks.length
 |[],[],[],_=>rfl
 |k :: ks,u :: us,(kv,v) :: r,h=>congrArg Nat.succ (KP.len h.2.2)
 |[],[],_ :: _,h=>h.elim
 |[],_ :: _,_,h=>h.elim
 |_ :: _,[],_,h=>h.elim
 |_ :: _,_ :: _,[],h=>h.elim
theorem jpO {κ:Type}:∀{ks:List κ} {xs:List V} {us:List Value},ja6 xs us→KV (ks.zip xs) (ks.zip us)
 |[],_,_,_=>.nil
 |_ :: _,_,_,.nil=>.nil
 |_ :: _,_,_,.cons r t=>.cons ⟨rfl,r⟩ (jpO t)
section
variable {X:Cx}
noncomputable def jid (X:Cx)(keys:List (Option Expr))(ks:List Str)(vals:List Expr)(pos:Pos)(t:TA):Prop :=
 ∀(pins:List (Addr×Obj)) (s:Shared) (σ:St) (H:Hp) (Q:List V→Hp→Prop),Inv X pins σ H s→t σ H Q→wpAny (model X.prog X.w) X.A (evalPairs (jpG X.env pos keys vals)) (fun vs s'=>∃ys us H',Inv X pins σ H' s'∧ja6 ys us∧KP ks us vs∧Q ys H') X.xe s
theorem jvb {pos:Pos}:jid X [] [] [] pos (fun _ H Q=>Q [] H):=fun pins s σ H Q I h=>evalPairs_nil ⟨[],[],H,I,.nil,trivial,h⟩
theorem jqY {k:Str}{j:Nat}{p pos:Pos}{keys:List (Option Expr)}{ks:List Str}{v:Expr}{vals:List Expr}{te:TE}{t:TA}(he:PE X v te)(ht:jid X keys ks vals pos t) :
  jid X (some (.Constant (.str k) j p) :: keys) (k :: ks) (v :: vals) pos (fun σ H Q=>te σ H fun x H1=>t σ H1 fun xs H2=>Q (x :: xs) H2):=by
 intro pins s σ H Q I h
 refine evalPairs_cons (Calls.Constant_str ?_)
 refine wpAny_bind (thn (he pins _ σ H _ (I.tok (s.toks+1)) h) fun u s1 hu=>?_)
 obtain⟨x,H1,I1,r1,q1⟩:=hu
 refine wpAny_bind (wpAny_standAt (wpAny_pure ?_))
 refine thn (ht pins s1 σ H1 _ I1 q1) fun vs s2 hv=>?_
 obtain⟨ys,us,H2,I2,r2,kp,q2⟩:=hv
 exact⟨x :: ys,u :: us,H2,I2,.cons r1 r2,⟨⟨_,rfl⟩,rfl,kp⟩,q2⟩
theorem jpz {keys:List (Option Expr)}{ks:List Str}{vals:List Expr}{pos:Pos}{t:TA}(hk:jda keys ks=true)(hl:vals.length=ks.length)(h0:ks≠[])(hn:ks.Nodup)(h15:ks.length≤15)(ht:jid X keys ks vals pos t) :
  PE X (.Dict keys vals pos) (fun σ H Q=>∀p,H p=none→t σ (upd H p (.dK [])) fun xs H1=>H1 p=some (.dK [])∧(xs.length=ks.length→Q (.ref p) (upd H1 p (.dK ((ks.map Sum.inr).zip xs))))):=by
 intro pins s σ H Q I h
 have hpl:=jlu (env:=X.env) (pos:=pos) hk hl
 refine wpAny_Dict_pairs (knd:=jaY X.prog X.w) (jhX hk hl) (fun e=>h0 (by rw[e]at hpl;exact List.length_eq_zero_iff.mp hpl.symm)) (by rw[hpl];exact h15) ?_
 have hf:H s.heap.objs.size=none:=I.hok.fresh (Nat.le_refl _)
 have I0:Inv X pins σ (upd H s.heap.objs.size (.dK [])) {s with heap:=s.heap.push {cls:=.type "dict",data:=.dict #[]}} :=
  I.laid (a:=s.heap.objs.size) (o:=.dK []) (t':=s.toks) (fun _ _ q=>Heap.get?_push_of_some _ q) (Nat.le_refl _) (jov s.heap I.big)
 refine thn (ht pins _ σ _ _ I0 (h _ hf)) fun vs s1 hv=>?_
 obtain⟨ys,us,H1,I1,r,kp,hp,q⟩:=hv
 obtain⟨_,hsm,vs0,kv0,dd⟩:=I1.hok _ _ hp
 cases kv0
 refine⟨_,kp.carries,dd,fun h' dd' hs=>?_⟩
 have hyl:ys.length=ks.length:=by rw[r.length];exact kp.len
 have hnd:(((ks.map (Sum.inr:Str→Key)).zip us).map (·.1)).Nodup:=by
  rw[List.map_fst_zip (by rw[List.length_map,← hyl,r.length];exact Nat.le_refl _)]
  exact List.Pairwise.map _ (fun a b hab e=>hab (Sum.inr.inj e)) hn
 rw[merged_nil_of_nodup _ hnd]at dd'
 have hz:((ks.map (Sum.inr:Str→Key)).zip ys).length≤sizeLine:=by
  rw[List.length_zip,List.length_map,hyl,Nat.min_self,sizeLine_eq];omega
 have he:∃q,h'.get? s.heap.objs.size=some q:=let ⟨q,_,_,hq,_⟩:=dd';⟨q,hq⟩
 have I2:=jr8 (t':=s1.toks+vs.length) I1 (by rw[hp];exact True.intro) hs he (jp5 hz hsm (jpO r) dd')
 exact⟨.ref s.heap.objs.size,_,I2,rfl,q hyl⟩
end
end _L2
namespace HT
open PySem PySem.Spec PyProof.Rows
section
variable {prog:Program} {w:World} {A:Around} {E:Value→Shared→Prop} {s:Shared}
theorem cat_none {t b:Addr}{ws:List Value}{Q:Value→Shared→Prop}(ht:IsTup s.heap t ([]:List Value).toArray)(hb:IsTup s.heap b ws.toArray)(h:Q (.ref b) s):wpAny (model prog w) A (binaryOp .Add (.ref t) (.ref b)) Q E s:=by
 obtain⟨⟨cls,dd,data,sl⟩,ho,hc,n,hd⟩:=id ht
 obtain⟨⟨cls2,dd2,data2,sl2⟩,ho2,hc2,n2,hd2⟩:=id hb
 simp only at hc hd hc2 hd2
 subst hc hd hc2 hd2
 exact concat_meets ⟨_,ho,rfl⟩ ⟨_,ho2,rfl⟩ noFill_tuple_add seq_tuple_add PySem.F.slot_tuple_add PySem.F.entry_tuple_add (PySem.F.args_tuple_add_2 _ _)
   (tuple_addW0 t b ([]:List Value).toArray ws.toArray n n2 dd dd2 sl sl2 rfl) ⟨ho,ho2,h⟩
theorem getItem_whole {t sl:Addr}{items:Array Value}{vl vu:Value}{lo hi:Option Int}{Q:Value→Shared→Prop}(ht:IsTup s.heap t items)(hs:s.heap.IsSliceOf sl vl vu .none)(pl:IsPart vl lo)(pu:IsPart vu hi)
  (hw:sIx items.size 0 lo=0∧sIx items.size items.size hi=items.size) (h:Q (.ref t) s):wpAny (model prog w) A (getItem (.ref t) (.ref sl)) Q E s:=by
 obtain⟨os,hos,hcs,hds⟩:=id hs
 have hTs:s.TypeIs (.ref sl) "slice":=⟨os,hos,hcs⟩
 unfold getItem
 try with_reducible refine wpAny_holding ?_
 first | refine wpAny_bind (wpAny_pure ?_) | skip
 refine wpAny_bind (wpAny_sequenceKey ht.typeIs (by decide) ?_)
 refine wpAny_bind (wpAny_callSpecial?_slot (name:=Str.ofString "__getitem__") ht.typeIs PyProof.Rows.slot_tuple_getitem
  (wpAny_call_entry PyProof.Rows.slot_tuple_getitem ht.typeIs entry_tuple_getitem ?_ (args_tuple_getitem _ _)))
 show wpAny _ _ (Builtin.Tuple.tupleItemsOf (.ref t) >>= _) _ _ s
 refine wpAny_bind (tupleItemsOf_ ht ?_)
 refine wpAny_bind (wpAny_typeOf hTs ?_)
 rw[if_pos (by decide)]
 refine wpAny_bind (jdt hs pl pu ?_)
 have hyes:(((sIx items.size 0 lo:Nat):Int) == 0 && (1:Int) == 1 && (sIx items.size items.size hi - sIx items.size 0 lo) == items.size)=true:=by
  rw[hw.1,hw.2];simp
 show wpAny _ _ (if (((sIx items.size 0 lo:Nat):Int) == 0 && (1:Int) == 1 && (sIx items.size items.size hi - sIx items.size 0 lo) == items.size)=true then _ else _) _ _ s
 rw[if_pos hyes]
 have hT:=ht.typeIs
 unfold Builtin.Tuple.tupleIsExact
 refine wpAny_bind (wpAny_bind (wpAny_typeOf hT (wpAny_pure ?_)))
 rw[if_pos (by decide)]
 first
  |exact wpAny_bind (wpAny_rule (wpAny_pure ⟨_,rfl,wpAny_pure h⟩))
  |exact wpAny_bind (wpAny_pure (wpAny_pure ⟨_,rfl,wpAny_pure h⟩))
theorem jfj:fillsNumberSlot (.type "tuple") "mul" = pure false :=
 PySem.fillsNumberSlot_seq (id:="tuple.__mul__") (r:=some (.builtin "tuple.__rmul__")) PySem.F.slot_tuple_mul.lookup (by decide +kernel) PySem.F.slot_tuple_rmul.lookup (by decide +kernel)
theorem jlp:seqRepeat? (.type "tuple")=pure (some (.builtin "tuple.__mul__")):=by
 have e1:=PySem.seqSlot_of (T:="tuple") (name:="__mul__") (id:="tuple.__mul__") PySem.F.slot_tuple_mul.lookup (by decide +kernel)
 have e2:=PySem.seqSlot_of (T:="tuple") (name:="__rmul__") (id:="tuple.__rmul__") PySem.F.slot_tuple_rmul.lookup (by decide +kernel)
 unfold seqRepeat?
 rw[e1,e2]
 rfl
theorem jle (a:Int)(t:Tok)(l:Addr)(items:Array Value)(n:Nat)(dd:Option Addr)(sl:Array (Option Value)) :
  Meets (Builtin.«int.__rmul__» ⟨[.int a t,.ref l],[]⟩) (fun _ R s=>s.heap.get? l=some ⟨.type "tuple",dd,.seq items n,sl⟩∧R (.ok (.ret Value.notImplemented)) s) :=
 .of_wp fun prog w A R s h=>by
  obtain⟨hp,g,d,tk,os⟩:=s
  obtain⟨hl,h⟩:=h
  wp_walk
  exact⟨_,rfl,h⟩
theorem joG (l:Addr)(items:Array Value)(n:Nat)(dd:Option Addr)(sl:Array (Option Value))(k:Int)(u:Tok)(h1:1 < k)(h2:k < 1000)(hne:items.isEmpty=false)(hz:items.size≤1000) :
  Meets (Builtin.«tuple.__mul__» ⟨[.ref l,.int k u],[]⟩) (fun _ R s=>s.heap.get? l=some ⟨.type "tuple",dd,.seq items n,sl⟩ ∧
   R (.ok (.ret (.ref s.heap.objs.size))) {s with heap:=s.heap.push {cls:=.type "tuple",data:=.seq ((List.replicate k.toNat items).foldl (· ++ ·) #[])}}) :=
 .of_wp fun prog w A R s h=>by
  obtain⟨hp,g,d,tk,os⟩:=s
  obtain⟨hl,h⟩:=h
  have f1:typeLookup (.type "int") (Str.ofString "__index__")=pure (some (.builtin "int.__index__")):=PySem.F.slot_int_index.lookup
  have c1:(decide (k < -(2 ^ 63)) || decide (k ≥ 2 ^ 63))=false:=by
   rw[Bool.or_eq_false_iff];exact⟨decide_eq_false (by omega),decide_eq_false (by omega)⟩
  have c2:(items.isEmpty || k == 1)=false:=by
   rw[hne,Bool.false_or];exact beq_eq_false_iff_ne.mpr (by omega)
  have c3:(decide (k≤0) || items.isEmpty)=false:=by
   rw[hne,Bool.or_false];exact decide_eq_false (by omega)
  have ht:IsTup hp l items:=⟨_,hl,rfl,n,rfl⟩
  have hT:(⟨hp,g,d,tk,os⟩:Shared).TypeIs (.ref l) "tuple":=⟨_,hl,rfl⟩
  show wpAny _ _ (asIndex (.int k u) >>= _) _ _ _
  refine wpAny_bind (?_:wpAny _ _ (asIndex (.int k u)) _ _ _)
  have ai:∀{B:Around} {E':Value→Shared→Prop} {Q':Int→Shared→Prop},Q' k ⟨hp,g,d,tk,os⟩→wpAny (model prog w) B (asIndex (.int k u)) Q' E' ⟨hp,g,d,tk,os⟩:=fun q=>by
   wp_walk
   exact q
  refine ai ?_
  rw[if_neg (by rw[c1];exact Bool.false_ne_true)]
  refine wpAny_bind (tupleItemsOf_ ht ?_)
  rw[if_neg (by rw[c2];exact Bool.false_ne_true)]
  have hm:(items.size:Int) * k≤1000000:=by
   have h3:(items.size:Int) * k≤(items.size:Int) * 1000:=Int.mul_le_mul_of_nonneg_left (by omega) (by omega)
   omega
  have c4:¬ ((items.size:Int) * k > (2 ^ 63 - 1) / 8):=by omega
  have c5:Builtin.Tuple.tupleTooMany ((items.size:Int) * k)=false:=decide_eq_false (by rw[sizeLine_eq];omega)
  dsimp only
  rw[if_neg (by rw[c3];exact Bool.false_ne_true),if_neg c4,if_neg (by rw[c5];exact Bool.false_ne_true)]
  have hsz:sizeOk (.seq (List.foldl (fun x1 x2=>x1++x2) #[] (List.replicate k.toNat items))):=by
   show (List.foldl (fun x1 x2=>x1++x2) #[] (List.replicate k.toNat items)).size≤sizeLine
   have:=_L2.foldl_rep items.toList k.toNat []
   rw[List.nil_append]at this
   have e:(List.foldl (fun x1 x2=>x1++x2) #[] (List.replicate k.toNat items))=(List.replicate k.toNat items.toList).flatten.toArray:=this
   rw[e,List.size_toArray,_L2.len_rep,Array.length_toList,sizeLine_eq]
   have h4:k.toNat * items.size≤1000 * 1000:=Nat.mul_le_mul (by omega) hz
   omega
  exact wpAny_bind (m:=Builtin.Tuple.tupleExact _) (wpAny_newObj_type (wpAny_pure ⟨_,rfl,h⟩) hsz)
theorem mul_tup {t:Addr}{vs:List Value}{k:Int}{u:Tok}{Q:Value→Shared→Prop}(ht:IsTup s.heap t vs.toArray)(h1:1 < k)(h2:k < 1000)(hv:vs≠[])(hz:vs.length≤1000)
  (h:Q (.ref s.heap.objs.size) {s with heap:=s.heap.push {cls:=.type "tuple",data:=.seq (List.replicate k.toNat vs).flatten.toArray}}):wpAny (model prog w) A (binaryOp .Mult (.ref t) (.int k u)) Q E s:=by
 have hT:=ht.typeIs
 obtain⟨⟨cls,dd,data,sl⟩,ho,hc,n,hd⟩:=id ht
 simp only at hc hd
 subst hc hd
 have hne:vs.toArray.isEmpty=false:=by cases vs with
  |nil=>exact absurd rfl hv
  |cons a r=>rfl
 refine wpAny_binaryOp_repeat_ref (T:="tuple") (U:="int") (by decide) hT (fun s'=>typeIs_int s' k u) jfj PySem.F.fills_int_mul PySem.F.slot_int_rmul jlp PySem.F.slot_int_index.lookup
  (call_meets PySem.F.slot_int_rmul (typeIs_int s k u) PySem.F.entry_int_rmul (PySem.F.args_int_rmul_2 _ _) (jle k u t vs.toArray n dd sl) ⟨ho,rfl,hT,
   call_meets PySem.F.slot_tuple_mul hT PySem.F.entry_tuple_mul (PySem.F.args_tuple_mul_2 _ _) (joG t vs.toArray n dd sl k u h1 h2 hne (by rw[List.size_toArray];exact hz)) ⟨ho,?_⟩⟩)
 have e:=_L2.foldl_rep vs k.toNat []
 rw[List.nil_append]at e
 replace e:(List.foldl (fun x1 x2=>x1++x2) #[] (List.replicate k.toNat vs.toArray))=(List.replicate k.toNat vs).flatten.toArray:=e
 rw[e]
 exact h
end
end HT
namespace _L2
open PySem PySem.Spec PyProof.Rows
section
variable {X:Cx}
noncomputable def jv3 (K:PySem.W.Frag):R2:=fun x y H Q=>∃a b ys,x=.ref a∧y=.ref b∧SqT K H a []∧SqT K H b ys∧Q (.ref b) H
theorem jta:OpR X (binaryOp .Add) (jv3 X.K):=by
 intro pins s σ H x y v u Q I rx ry h
 obtain⟨a,b,ys,rfl,rfl,ha,hb,q⟩:=h
 cases rx
 cases ry
 obtain⟨its,r1,p1,_⟩:=I.tuple ha
 obtain⟨its2,r2,p2,_⟩:=I.tuple hb
 cases r1
 exact HT.cat_none p1 p2 ⟨.ref b,H,I,rfl,q⟩
noncomputable def jxV (K:PySem.W.Frag):V→Option Int→Option Int→Hp→VK→Prop:=fun x lo hi H Q=>∃a xs,x=.ref a∧SqT K H a xs∧(HT.sIx xs.length 0 lo=0∧HT.sIx xs.length xs.length hi=xs.length)∧Q (.ref a) H
theorem jou:SlR X (jxV X.K):=by
 intro pins s σ H x v vl vu lo hi sl Q I rx hs pl pu h
 obtain⟨a,xs,rfl,hx,hw,q⟩:=h
 cases rx
 obtain⟨its,r,ht,hz⟩:=I.tuple hx
 have hlen:its.toArray.size=xs.length:=by rw[List.size_toArray];exact r.length.symm
 refine⟨"tuple",_,PyProof.Rows.slot_tuple_getitem.lookup,ht.typeIs,?_⟩
 exact HT.getItem_whole ht hs pl pu (by rw[hlen];exact hw) ⟨.ref a,H,I,rfl,q⟩
noncomputable def jvs (K:PySem.W.Frag):R2:=fun x y H Q=>∃a xs k,x=.ref a∧y=.int k∧SqT K H a xs∧xs≠[]∧xs.length≤1000∧1 < k∧k < 1000∧∀p,H p=none→Q (.ref p) (upd H p (.tup (List.replicate k.toNat xs).flatten))
theorem jqA:OpR X (binaryOp .Mult) (jvs X.K):=by
 intro pins s σ H x y v u Q I rx ry h
 obtain⟨a,xs,k,rfl,rfl,ha,hne,hl,h1,h2,q⟩:=h
 cases rx
 obtain⟨t,rfl⟩:=ry
 obtain⟨its,r,ht,hz⟩:=I.tuple ha
 refine HT.mul_tup ht h1 h2 (fun z=>hne (r.nil_iff.mp z)) (by rw[← r.length];exact hl) ?_
 refine⟨.ref s.heap.objs.size,_,I.laid (t':=s.toks) (o:=.tup (List.replicate k.toNat xs).flatten) (fun b ob q=>Heap.get?_push_of_some _ q) (Nat.le_refl _) ?_,rfl,q _ (I.hok.fresh (Nat.le_refl _))⟩
 refine⟨?_,_,r.rep k.toNat,IsTup.new _ _⟩
 rw[len_rep,sizeLine_eq]
 have h4:k.toNat * xs.length≤1000 * 1000:=Nat.mul_le_mul (by omega) hl
 omega
end
end _L2
namespace _L3
open PySem PySem.Spec PyProof.Rows _L2
set_option genInjectivity true in
inductive D where
 |non | bl (b:Bool) | int (i:Int) | str (x:Str) | ty (n:String)
 |tup (ds:List D) | lst (ds:List D) | scr (ds:List D)
 |dK (ks:List Key) (vs:List D) | dT (ks:List (List Key)) (vs:List D) | dF (ks:List Key) (vs:List D)
 |obj (C:Addr) (fs:List Str) (ds:List D)
 |cel (n:Nat)
inductive Cl where
 |lst (ds:List D)
 |dK (ks:List Key) (vs:List D) | dT (ks:List (List Key)) (vs:List D)
 |obj (C:Addr) (fs:List Str) (ds:List D)
noncomputable abbrev M:=List (Option Cl)
set_option genInjectivity true in
inductive Out (α:Type) where
 |ok (a:α) (μ:M) | exc (x:D) (μ:M) | bad
noncomputable def Out.bind {α β:Type}(o:Out α)(f:α→M→Out β):Out β :=
 match o with
 |.ok a μ=>f a μ
 |.exc x μ=>.exc x μ
 |.bad=>.bad
theorem Out.bind_ok {α β:Type}{o:Out α}{f:α→M→Out β}{b:β}{μ:M}(h:o.bind f=.ok b μ):∃a μ1,o=.ok a μ1∧f a μ1=.ok b μ:=by
 cases o with
 |ok a μ1=>exact⟨a,μ1,rfl,h⟩
 |exc x μ1=>cases h
 |bad=>cases h
structure Wd where
 Z:Hp
 γ:Nat→Addr
section
variable (K:PySem.W.Frag) (w:Wd) (n:Nat)
mutual
noncomputable def Den:D→V→Prop
 |.non,v=>v=.non
 |.bl b,v=>v=.bl b
 |.int i,v=>v=.int i
 |.str x,v=>v=.str x
 |.ty t,v=>v=.ty t
 |.tup ds,v=>∃a xs,v=.ref a∧SqT K w.Z a xs∧DenL ds xs
 |.lst ds,v=>∃a xs,v=.ref a∧w.Z a=some (.lst xs)∧DenL ds xs
 |.scr ds,v=>∃a xs,v=.ref a∧SqL K w.Z a xs∧DenL ds xs
 |.dK ks vs,v=>∃a xs,v=.ref a∧ks.length=vs.length∧w.Z a=some (.dK (ks.zip xs))∧DenL vs xs
 |.dT ks vs,v=>∃a xs,v=.ref a∧ks.length=vs.length∧w.Z a=some (.dT (ks.zip xs))∧DenL vs xs
 |.dF ks vs,v=>∃a o es ep xs,v=.ref a∧ks.length=vs.length∧o.data=.dict es ep∧w.Z a=some (.frz o (.dK (ks.zip xs)))∧DenL vs xs
 |.obj C fs ds,v=>∃a dx xs,v=.ref a∧fs.length=ds.length∧w.Z a=some (.ins C dx (fs.zip xs))∧DenL ds xs
 |.cel k,v=>k < n∧v=.ref (w.γ k)
noncomputable def DenL:List D→List V→Prop
 |[],vs=>vs=[]
 |d :: ds,vs=>∃v ws,vs=v :: ws∧Den d v∧DenL ds ws
end
noncomputable def Holds (H:Hp)(a:Addr):Cl→Prop
 |.lst ds=>∃xs,H a=some (.lst xs)∧DenL K w n ds xs
 |.dK ks vs=>∃xs,ks.length=vs.length∧H a=some (.dK (ks.zip xs))∧DenL K w n vs xs
 |.dT ks vs=>∃xs,ks.length=vs.length∧H a=some (.dT (ks.zip xs))∧DenL K w n vs xs
 |.obj C fs ds=>∃dx xs,fs.length=ds.length∧H a=some (.ins C dx (fs.zip xs))∧DenL K w n ds xs
end
structure Ext (w w':Wd) (n n':Nat):Prop where
 z:jdw w.Z w'.Z
 g:∀i,i < n→w'.γ i=w.γ i
 le:n≤n'
theorem Ext.refl (w:Wd)(n:Nat):Ext w w n n:=⟨jdw.refl _,fun _ _=>rfl,Nat.le_refl _⟩
theorem Ext.trans {w w1 w2:Wd}{n n1 n2:Nat}(a:Ext w w1 n n1)(b:Ext w1 w2 n1 n2):Ext w w2 n n2 :=
 ⟨a.z.trans b.z,fun i hi=>(b.g i (Nat.lt_of_lt_of_le hi a.le)).trans (a.g i hi),Nat.le_trans a.le b.le⟩
section
variable {K:PySem.W.Frag} {w w':Wd} {n n':Nat}
theorem jaC:∀{ds:List D} {xs:List V},DenL K w n ds xs ↔ Paired (Den K w n) ds xs
 |[],xs=>by
  unfold DenL
  exact⟨fun h=>by subst h;exact .nil,fun h=>by cases h;rfl⟩
 |d :: ds,xs=>by
  unfold DenL
  constructor
  ·rintro⟨v,ws,rfl,h1,h2⟩
   exact .cons h1 (jaC.mp h2)
  ·intro h
   cases h with
   |cons h1 h2=>exact⟨_,_,rfl,h1,jaC.mpr h2⟩
mutual
theorem Den.mono (e:Ext w w' n n'):∀{d:D} {v:V},Den K w n d v→Den K w' n' d v
 |.non,_,h=>by unfold Den at h ⊢;exact h
 |.bl _,_,h=>by unfold Den at h ⊢;exact h
 |.int _,_,h=>by unfold Den at h ⊢;exact h
 |.str _,_,h=>by unfold Den at h ⊢;exact h
 |.ty _,_,h=>by unfold Den at h ⊢;exact h
 |.tup ds,_,h=>by
  unfold Den at h ⊢
  obtain⟨a,xs,h1,h2,h3⟩:=h
  exact⟨a,xs,h1,e.z.tup h2,DenL.mono e h3⟩
 |.lst ds,_,h=>by
  unfold Den at h ⊢
  obtain⟨a,xs,h1,h2,h3⟩:=h
  exact⟨a,xs,h1,e.z _ _ h2,DenL.mono e h3⟩
 |.scr ds,_,h=>by
  unfold Den at h ⊢
  obtain⟨a,xs,h1,h2,h3⟩:=h
  exact⟨a,xs,h1,e.z.seq h2,DenL.mono e h3⟩
 |.dK ks vs,_,h=>by
  unfold Den at h ⊢
  obtain⟨a,xs,h1,h2,h3,h4⟩:=h
  exact⟨a,xs,h1,h2,e.z _ _ h3,DenL.mono e h4⟩
 |.dT ks vs,_,h=>by
  unfold Den at h ⊢
  obtain⟨a,xs,h1,h2,h3,h4⟩:=h
  exact⟨a,xs,h1,h2,e.z _ _ h3,DenL.mono e h4⟩
 |.dF ks vs,_,h=>by
  unfold Den at h ⊢
  obtain⟨a,o,es,ep,xs,h1,h2,h3,h4,h5⟩:=h
  exact⟨a,o,es,ep,xs,h1,h2,h3,e.z _ _ h4,DenL.mono e h5⟩
 |.obj C fs ds,_,h=>by
  unfold Den at h ⊢
  obtain⟨a,dx,xs,h1,h2,h3,h4⟩:=h
  exact⟨a,dx,xs,h1,h2,e.z _ _ h3,DenL.mono e h4⟩
 |.cel k,_,h=>by
  unfold Den at h ⊢
  exact⟨Nat.lt_of_lt_of_le h.1 e.le,by rw[e.g k h.1];exact h.2⟩
theorem DenL.mono (e:Ext w w' n n'):∀{ds:List D} {xs:List V},DenL K w n ds xs→DenL K w' n' ds xs
 |[],_,h=>by unfold DenL at h ⊢;exact h
 |d :: ds,_,h=>by
  unfold DenL at h ⊢
  obtain⟨v,ws,h1,h2,h3⟩:=h
  exact⟨v,ws,h1,Den.mono e h2,DenL.mono e h3⟩
end
theorem Holds.mono {H H':Hp}{a:Addr}{c:Cl}(e:Ext w w' n n')(ha:H' a=H a)(h:Holds K w n H a c):Holds K w' n' H' a c:=by
 cases c with
 |lst ds=>obtain⟨xs,h1,h2⟩:=h;exact⟨xs,ha.trans h1,h2.mono e⟩
 |dK ks vs=>obtain⟨xs,h0,h1,h2⟩:=h;exact⟨xs,h0,ha.trans h1,h2.mono e⟩
 |dT ks vs=>obtain⟨xs,h0,h1,h2⟩:=h;exact⟨xs,h0,ha.trans h1,h2.mono e⟩
 |obj C fs ds=>obtain⟨dx,xs,h0,h1,h2⟩:=h;exact⟨dx,xs,h0,ha.trans h1,h2.mono e⟩
theorem Holds.some {H:Hp}{a:Addr}{c:Cl}(h:Holds K w n H a c):∃o,H a=some o:=by
 cases c with
 |lst ds=>obtain⟨xs,h1,h2⟩:=h;exact⟨_,h1⟩
 |dK ks vs=>obtain⟨xs,h0,h1,h2⟩:=h;exact⟨_,h1⟩
 |dT ks vs=>obtain⟨xs,h0,h1,h2⟩:=h;exact⟨_,h1⟩
 |obj C fs ds=>obtain⟨dx,xs,h0,h1,h2⟩:=h;exact⟨_,h1⟩
end
structure Rep (K:PySem.W.Frag) (w:Wd) (μ:M) (H:Hp):Prop where
 sub:jdw w.Z H
 liv:∀k c,μ[k]?=some (some c)→w.Z (w.γ k)=none∧Holds K w μ.length H (w.γ k) c
 inj:∀i j ci cj,μ[i]?=some (some ci)→μ[j]?=some (some cj)→w.γ i=w.γ j→i=j
section
variable {K:PySem.W.Frag} {w:Wd} {μ:M} {H:Hp}
theorem Rep.znone (R:Rep K w μ H){p:Addr}(hp:H p=none):w.Z p=none:=R.sub.free hp
theorem Rep.ne (R:Rep K w μ H){p:Addr}(hp:H p=none){k:Nat}{c:Cl}(h:μ[k]?=some (some c)):w.γ k≠p:=fun e=>by
 obtain⟨o,ho⟩:=(R.liv k c h).2.some
 rw[e,hp]at ho
 cases ho
theorem Rep.frz (R:Rep K w μ H){p:Addr}(hp:H p=none)(o:HO):Rep K ⟨upd w.Z p o,w.γ⟩ μ (upd H p o)∧Ext w ⟨upd w.Z p o,w.γ⟩ μ.length μ.length:=by
 have ex:Ext w ⟨upd w.Z p o,w.γ⟩ μ.length μ.length:=⟨(jdw.refl _).upd (R.znone hp),fun _ _=>rfl,Nat.le_refl _⟩
 refine⟨⟨fun b u h=>?_,fun k c h=>?_,R.inj⟩,ex⟩
 ·replace h:upd w.Z p o b=some u:=h
  by_cases e:b=p
  ·subst e
   rw[jay]at h ⊢
   exact h
  ·rw[jal e]at h ⊢
   exact R.sub _ _ h
 ·have hne:=R.ne hp h
  exact⟨by show upd w.Z p o (w.γ k)=none;rw[jal hne];exact (R.liv k c h).1,(R.liv k c h).2.mono ex (jal hne)⟩
theorem Rep.cell (R:Rep K w μ H){p:Addr}(hp:H p=none)(o:HO)(c:Cl)(hc:∀w':Wd,Ext w w' μ.length (μ.length+1)→Holds K w' (μ.length+1) (upd H p o) p c) :
  ∃w':Wd,Rep K w' (μ++[some c]) (upd H p o)∧Ext w w' μ.length (μ.length+1)∧w'.γ μ.length=p:=by
 have ex:Ext w ⟨w.Z,fun i=>if i=μ.length then p else w.γ i⟩ μ.length (μ.length+1):=⟨jdw.refl _,fun i hi=>if_neg (Nat.ne_of_lt hi),Nat.le_succ _⟩
 have hcases:∀(k:Nat) (d:Cl),(μ++[some c])[k]?=some (some d)→(k < μ.length∧μ[k]?=some (some d))∨(k=μ.length∧d=c):=fun k d h=>by
  by_cases hk:k < μ.length
  ·exact .inl ⟨hk,by rwa [List.getElem?_append_left hk]at h⟩
  ·rw[List.getElem?_append_right (by omega)]at h
   have hk0:k - μ.length=0:=by
    cases e:k - μ.length with
    |zero=>rfl
    |succ m=>rw[e]at h;simp at h
   rw[hk0]at h
   exact .inr ⟨by omega,by simpa using h.symm⟩
 refine⟨_,⟨?_,?_,?_⟩,ex,if_pos rfl⟩
 ·intro b u h
  have hb:b≠p:=jaj (R.sub _ _ h) hp
  rw[jal hb]
  exact R.sub _ _ h
 ·intro k d h
  have hlen:(μ++[some c]).length=μ.length+1:=by simp
  rw[hlen]
  rcases hcases k d h with ⟨hk,h'⟩ | ⟨rfl,rfl⟩
  ·have hne:=R.ne hp h'
   have hg:(if k=μ.length then p else w.γ k)=w.γ k:=if_neg (Nat.ne_of_lt hk)
   show w.Z (if k=μ.length then p else w.γ k)=none∧Holds K _ _ _ (if k=μ.length then p else w.γ k) d
   rw[hg]
   exact⟨(R.liv k d h').1,(R.liv k d h').2.mono ex (jal hne)⟩
  ·show w.Z (if μ.length=μ.length then p else w.γ μ.length)=none∧Holds K _ _ _ (if μ.length=μ.length then p else w.γ μ.length) d
   rw[if_pos rfl]
   exact⟨R.znone hp,hc _ ex⟩
 ·intro i j ci cj hi hj e
  have e':(if i=μ.length then p else w.γ i)=(if j=μ.length then p else w.γ j):=e
  rcases hcases i ci hi with ⟨hi',h1⟩ | ⟨rfl,_⟩ <;> rcases hcases j cj hj with ⟨hj',h2⟩ | ⟨rfl,_⟩
  ·rw[if_neg (Nat.ne_of_lt hi'),if_neg (Nat.ne_of_lt hj')]at e'
   exact R.inj i j ci cj h1 h2 e'
  ·rw[if_neg (Nat.ne_of_lt hi'),if_pos rfl]at e'
   exact absurd e' (R.ne hp h1)
  ·rw[if_pos rfl,if_neg (Nat.ne_of_lt hj')]at e'
   exact absurd e'.symm (R.ne hp h2)
  ·rfl
theorem Rep.put (R:Rep K w μ H){k:Nat}{c0 c:Cl}(hk:μ[k]?=some (some c0))(o:HO)(hc:Holds K w μ.length (upd H (w.γ k) o) (w.γ k) c):Rep K w (μ.set k (some c)) (upd H (w.γ k) o):=by
 have hkl:k < μ.length:=(List.getElem?_eq_some_iff.mp hk).1
 have hz:=(R.liv k c0 hk).1
 have hcases:∀(j:Nat) (d:Cl),(μ.set k (some c))[j]?=some (some d)→(j=k∧d=c)∨(j≠k∧μ[j]?=some (some d)):=fun j d h=>by
  by_cases e:j=k
  ·subst e
   rw[List.getElem?_set_self hkl]at h
   exact .inl ⟨rfl,by simpa using h.symm⟩
  ·rw[List.getElem?_set_ne (fun z=>e z.symm)]at h
   exact .inr ⟨e,h⟩
 refine⟨fun b u h=>?_,fun j d h=>?_,fun i j ci cj hi hj e=>?_⟩
 ·have hb:b≠w.γ k:=fun z=>by rw[z,hz]at h;cases h
  rw[jal hb]
  exact R.sub _ _ h
 ·rw[List.length_set]
  rcases hcases j d h with ⟨rfl,rfl⟩ | ⟨hne,h'⟩
  ·exact⟨hz,hc⟩
  ·have:w.γ j≠w.γ k:=fun z=>hne (R.inj j k d c0 h' hk z)
   exact⟨(R.liv j d h').1,(R.liv j d h').2.mono (Ext.refl _ _) (jal this)⟩
 ·have l1:∃c',μ[i]?=some (some c'):=by
   rcases hcases i ci hi with ⟨rfl,_⟩ | ⟨_,h⟩
   ·exact⟨_,hk⟩
   ·exact⟨_,h⟩
  have l2:∃c',μ[j]?=some (some c'):=by
   rcases hcases j cj hj with ⟨rfl,_⟩ | ⟨_,h⟩
   ·exact⟨_,hk⟩
   ·exact⟨_,h⟩
  exact R.inj i j _ _ l1.choose_spec l2.choose_spec e
end
noncomputable abbrev S3:=List (Option D)
noncomputable def jyp (K:PySem.W.Frag)(w:Wd)(n:Nat)(o:Option D)(x:Option V):Prop:=∀d,o=some d→∃v,x=some v∧Den K w n d v
noncomputable abbrev jcz (K:PySem.W.Frag) (w:Wd) (n:Nat) (ρ:S3) (σ:_L2.St):Prop:=Paired (jyp K w n) ρ σ
section
variable {K:PySem.W.Frag} {w w':Wd} {n n':Nat}
theorem jcz.mono (e:Ext w w' n n'):∀{ρ:S3} {σ:_L2.St},jcz K w n ρ σ→jcz K w' n' ρ σ
 |_,_,.nil=>.nil
 |_,_,.cons h t=>.cons (fun d hd=>let ⟨v,h1,h2⟩:=h d hd;⟨v,h1,h2.mono e⟩) (jcz.mono e t)
theorem jcz.get:∀{ρ:S3} {σ:_L2.St} {i:Nat} {d:D},jcz K w n ρ σ→ρ[i]?=some (some d)→∃v,σ[i]?=some (some v)∧Den K w n d v
 |_,_,0,d,.cons h t,e=>by
  obtain⟨v,h1,h2⟩:=h d (by simpa using e)
  exact⟨v,by simp[h1],h2⟩
 |_,_,i+1,d,.cons h t,e=>by
  obtain⟨v,h1,h2⟩:=jcz.get (i:=i) (d:=d) t (by simpa using e)
  exact⟨v,by simpa using h1,h2⟩
 |_,_,_,_,.nil,e=>by simp at e
theorem jcz.set {d:D}{v:V}(hd:Den K w n d v):∀{ρ:S3} {σ:_L2.St} (i:Nat),jcz K w n ρ σ→jcz K w n (ρ.set i (some d)) (σ.set i (some v))
 |_,_,_,.nil=>.nil
 |_,_,0,.cons _ t=>.cons (fun d' e=>by cases e;exact⟨v,rfl,hd⟩) t
 |_,_,i+1,.cons h t=>.cons h (jcz.set hd i t)
theorem jcz.drop1:∀{ρ:S3} {σ:_L2.St} (i:Nat),jcz K w n ρ σ→jcz K w n (ρ.set i none) σ
 |_,_,_,.nil=>.nil
 |_,_,0,.cons _ t=>.cons (fun d' e=>by cases e) t
 |_,_,i+1,.cons h t=>.cons h (jcz.drop1 i t)
noncomputable def forget (fg:List Nat)(ρ:S3):S3:=fg.foldl (fun r i=>r.set i none) ρ
theorem jcz.forget:∀(fg:List Nat) {ρ:S3} {σ:_L2.St},jcz K w n ρ σ→jcz K w n (forget fg ρ) σ
 |[],_,_,h=>h
 |i :: fg,_,_,h=>jcz.forget fg (h.drop1 i)
theorem jcz.blank:∀(k:Nat) {ρ:S3} {σ:_L2.St},jcz K w n ρ σ→jcz K w n (List.replicate k none++ρ) (List.replicate k none++σ)
 |0,_,_,h=>h
 |k+1,_,_,h=>by
  rw[List.replicate_succ,List.replicate_succ]
  exact .cons (fun d e=>by cases e) (jcz.blank k h)
theorem jcz.start {vs:List V}{ds:List D}(h:DenL K w n ds vs)(m:Nat):jcz K w n (ds.map some++List.replicate m none) (vs.map some++List.replicate m none):=by
 have h':=jaC.mp h
 clear h
 induction h' with
 |nil =>
  have:=jcz.blank (K:=K) (w:=w) (n:=n) m (Paired.nil:jcz K w n [] [])
  simpa using this
 |cons r t ih=>exact .cons (fun d e=>by cases e;exact⟨_,rfl,r⟩) ih
end
noncomputable def T3E (K:PySem.W.Frag)(r:S3→M→Out D):TE:=fun σ H Q=>∃(w:Wd) (μ:M) (ρ:S3) (d:D) (μ':M),Rep K w μ H∧jcz K w μ.length ρ σ∧r ρ μ=.ok d μ'∧∀w' H' v,Ext w w' μ.length μ'.length→Rep K w' μ' H'→Den K w' μ'.length d v→Q v H'
noncomputable def T3T (K:PySem.W.Frag)(r:S3→M→Out Bool):TT:=fun σ H Q=>∃(w:Wd) (μ:M) (ρ:S3) (b:Bool) (μ':M),Rep K w μ H∧jcz K w μ.length ρ σ∧r ρ μ=.ok b μ'∧∀w' H',Ext w w' μ.length μ'.length→Rep K w' μ' H'→Q b H'
noncomputable def T3A (K:PySem.W.Frag)(r:S3→M→Out (List D)):TA:=fun σ H Q=>∃(w:Wd) (μ:M) (ρ:S3) (ds:List D) (μ':M),Rep K w μ H∧jcz K w μ.length ρ σ∧r ρ μ=.ok ds μ'∧∀w' H' vs,Ext w w' μ.length μ'.length→Rep K w' μ' H'→DenL K w' μ'.length ds vs→Q vs H'
set_option genInjectivity true in
inductive Fl where
 |nx (ρ:S3) | rt (d:D) | bk (ρ:S3) | ct (ρ:S3)
noncomputable def jw1 (K:PySem.W.Frag)(w:Wd)(n:Nat)(H:Hp)(E:Ends):Fl→Prop
 |.nx ρ=>∀σ,jcz K w n ρ σ→E.nx σ H
 |.rt d=>∀v,Den K w n d v→E.rt v H
 |.bk ρ=>∀σ,jcz K w n ρ σ→E.bk σ H
 |.ct ρ=>∀σ,jcz K w n ρ σ→E.ct σ H
noncomputable def T3S (K:PySem.W.Frag)(r:S3→M→Out Fl):TS:=fun E σ H=>∃(w:Wd) (μ:M) (ρ:S3) (fl:Fl) (μ':M),Rep K w μ H∧jcz K w μ.length ρ σ∧r ρ μ=.ok fl μ'∧∀w' H',Ext w w' μ.length μ'.length→Rep K w' μ' H'→jw1 K w' μ'.length H' E fl
noncomputable abbrev Fn:=List D→M→Out D
noncomputable def jdL (K:PySem.W.Frag)(np:Nat)(F:Fn):Sp:=fun vs H Q _=>vs.length=np∧∃(w:Wd) (μ:M) (ds:List D) (d:D) (μ':M),Rep K w μ H∧DenL K w μ.length ds vs∧F ds μ=.ok d μ'∧∀w' H' v,Ext w w' μ.length μ'.length→Rep K w' μ' H'→Den K w' μ'.length d v→Q v H'
end _L3
namespace _L3
open PySem PySem.Spec PyProof.Rows _L2
inductive Tg where | nm (i:Nat) | tp (is:List Nat)
inductive IK where | seq | enm | zip | rng1 | rng2 | str | items
inductive Md where | raw | frz | new
inductive Bi where | len | sum | min2 | max2 | list | tuple | int | all | isT (n:String) | listRange | str | lenSet | dictZip
inductive Mt where | append | extend | join | split
inductive E where
 |var (i:Nat) | cst (d:D)
 |bin (op:Operator) (m:Bool) (a b:E)
 |neg (a:E) | not_ (a:E) | and_ (a b:E) | or_ (a b:E)
 |cmp (op:CmpOp) (a b:E) | chain (o1 o2:CmpOp) (a b c:E)
 |isN (a:E) | notN (a:E)
 |ife (c a b:E)
 |tup (es:List E) | lst (m:Bool) (es:List E)
 |ix (a b:E) | sl (m:Bool) (a:E) (lo hi:List E) | stp (m:Bool) (a:E) (lo st:List E)
 |fld (a:E) (f:Str)
 |call (f:Nat) (md:Md) (es:List E)
 |bi (b:Bi) (m:Bool) (es:List E)
 |mt (b:Mt) (o:E) (es:List E)
 |comp (m:Bool) (own:Nat) (tg:Tg) (ik:IK) (es:List E) (ifs:List E) (elt:E)
 |gl (f:Nat) | gget (f:Nat) (a d:E) | gin (neg:Bool) (f:Nat) (a:E) | gix (f:Nat) (a:E)
inductive S where
 |asg (tg:Tg) (e:E) | setF (o:E) (f:Str) (e:E) | setI (o i e:E) | ex (e:E)
 |ite (c:E) (a b:List S)
 |for_ (tg:Tg) (ik:IK) (es:List E) (body:List S) (fg:List Nat)
 |ret (e:E) | retN | pass | never
inductive Dat where
 |cst (d:D) | dct (kvs:List (Str×D))
structure FnE where
 name:Str
 ps:List Str
 lv:Nat
 F:Fn
 dat:Option Dat
noncomputable def jfl (μ:M):D→Option (List D)
 |.lst ds=>some ds
 |.scr ds=>some ds
 |.cel k=>match μ[k]? with
  |some (some (.lst ds))=>some ds
  |_=>none
 |_=>none
noncomputable def jeu (μ:M):D→Option (List D)
 |.tup ds=>some ds
 |d=>jfl μ d
noncomputable def mkL (m:Bool)(ds:List D)(μ:M):Out D:=if m then .ok (.cel μ.length) (μ++[some (.lst ds)]) else .ok (.lst ds) μ
noncomputable def cutD (ds:List D)(lo hi:Option Int):List D:=(ds.drop (HT.sIx ds.length 0 lo)).take (HT.sIx ds.length ds.length hi - HT.sIx ds.length 0 lo)
noncomputable def jfF:D→Option V
 |.non=>some .non
 |.bl b=>some (.bl b)
 |.int i=>some (.int i)
 |.str x=>some (.str x)
 |_=>none
noncomputable abbrev joo (i j:Int):Prop:=(-18446744073709551616 < i∧i < 18446744073709551616)∨(-18446744073709551616 < j∧j < 18446744073709551616)
noncomputable abbrev jvt (_ j:Int):Prop:=0 < j∧j < 18446744073709551616
noncomputable abbrev jxF (_ j:Int):Prop:=0 < j
noncomputable abbrev jum (i j:Int):Prop:=0≤j∧j≤1000000∧i.natAbs < 18446744073709551616
noncomputable def jtk (C:Int→Int→Prop)(f:Int→Int→Int)(a b:D)(μ:M):Out D :=
 match a,b with
 |.int i,.int j=>@ite _ (C i j) (Classical.propDecidable _) (.ok (.int (f i j)) μ) .bad
 |_,_=>.bad
noncomputable def jwN (m:Bool)(a b:D)(μ:M):Out D :=
 match a,b with
 |.int i,.int j=>.ok (.int (i+j)) μ
 |.str x,.str y=>@ite _ (x.length+y.length≤sizeLine) (Classical.propDecidable _) (.ok (.str (x++y)) μ) .bad
 |.tup xs,.tup ys=>@ite _ (xs.length+ys.length≤sizeLine) (Classical.propDecidable _) (.ok (.tup (xs++ys)) μ) .bad
 |a,b=>match jfl μ a,jfl μ b with
  |some xs,some ys=>@ite _ (xs.length+ys.length≤sizeLine) (Classical.propDecidable _) (mkL m (xs++ys) μ) .bad
  |_,_=>.bad
noncomputable def jwJ (a b:D)(μ:M):Out D :=
 match a,b with
 |.int i,.int j=>@ite _ (joo i j) (Classical.propDecidable _) (.ok (.int (i * j)) μ) .bad
 |.str z,.int n=>if 0≤n∧n≤1000∧z.length≤1000 then .ok (.str (Txt.mul z n)) μ else .bad
 |.tup ds,.int n=>if 1 < n∧n < 1000∧ds≠[]∧ds.length≤1000 then .ok (.tup (List.replicate n.toNat ds).flatten) μ else .bad
 |_,_=>.bad
noncomputable def jgQ (op:Operator)(m:Bool):D→D→M→Out D :=
 match op with
 |.Add=>jwN m
 |.Sub=>jtk (fun _ _=>True) (· - ·)
 |.Mult=>jwJ
 |.FloorDiv=>jtk jvt (· / ·)
 |.Mod=>jtk jxF (· % ·)
 |.Pow=>jtk jum (fun i j=>i ^ j.toNat)
 |_=>fun _ _ _=>.bad
noncomputable def jlg (f:D→D→Option Bool):List D→List D→Option Bool
 |x :: xs,y :: ys=>match f x y,jlg f xs ys with
  |some a,some b=>some (a && b)
  |_,_=>none
 |_,_=>some true
noncomputable def eqN (f:D→D→Option Bool)(μ:M)(a b:D):Option Bool :=
 match a,b with
 |.tup xs,.tup ys=>(jlg f xs ys).map (· && xs.length == ys.length)
 |a,b=>match jfl μ a,jfl μ b with
  |some xs,some ys=>if xs.length=ys.length then jlg f xs ys else some false
  |_,_=>none
noncomputable def eqD (μ:M):Nat→D→D→Option Bool
 |0,_,_=>none
 |n+1,a,b=>match jfF a,jfF b with
  |some x,some y=>some (eqV x y)
  |_,_=>eqN (eqD μ n) μ a b
noncomputable def jlb (μ:M)(a b:D):Option Bool :=
 match jfF a,jfF b with
 |some x,some y=>if jwt x y=true then some (decide (x=y)) else none
 |_,_=>eqN (eqD μ 8) μ a b
noncomputable def jnK:D→D→Bool
 |.int _,.int _=>true
 |.str _,.str _=>true
 |_,_=>false
noncomputable def jvg:List D→List D→Option Bool
 |[],[]=>some false
 |x :: xs,y :: ys=>if jnK x y then match jfF x,jfF y,jvg xs ys with
   |some a,some b,some r=>some (if eqV a b then r else ltV a b)
   |_,_,_=>none
  else none
 |_,_=>none
noncomputable def jsl (x:V):List D→Option Bool
 |[]=>some false
 |d :: ds=>match jfF d,jsl x ds with
  |some y,some r=>some (eqV y x || r)
  |_,_=>none
noncomputable def jw3:D→Option Key
 |.int i=>some (.inl i)
 |.str x=>some (.inr x)
 |_=>none
noncomputable def jiC (μ:M):D→Option (List Key×List D)
 |.dK ks vs=>some (ks,vs)
 |.dF ks vs=>some (ks,vs)
 |.cel c=>match μ[c]? with
  |some (some (.dK ks vs))=>some (ks,vs)
  |_=>none
 |_=>none
noncomputable def jc7 (k:Key):List Key→List D→Option D
 |g :: ks,d :: ds=>if g=k then some d else jc7 k ks ds
 |_,_=>none
noncomputable def inD (μ:M)(a b:D):Option Bool :=
 match jeu μ b with
 |some ds=>match jfF a with
  |some x=>jsl x ds
  |none=>none
 |none=>match jw3 a,jiC μ b with
  |some k,some (ks,vs)=>some (jc7 k ks vs).isSome
  |_,_=>none
noncomputable def jnF (op:CmpOp)(a b:D)(μ:M):Option Bool :=
 match op with
 |.Eq=>jlb μ a b
 |.NotEq=>(jlb μ a b).map (!·)
 |.Lt=>match a,b with
  |.int i,.int j=>some (decide (i < j))
  |.str i,.str j=>some (decide (i.cps.toList < j.cps.toList))
  |.tup xs,.tup ys=>jvg xs ys
  |_,_=>none
 |.LtE=>match a,b with
  |.int i,.int j=>some (decide (i≤j))
  |.str i,.str j=>some (!decide (j.cps.toList < i.cps.toList))
  |_,_=>none
 |.Gt=>match a,b with
  |.int i,.int j=>some (decide (j < i))
  |_,_=>none
 |.GtE=>match a,b with
  |.int i,.int j=>some (decide (j≤i))
  |_,_=>none
 |.In=>inD μ a b
 |.NotIn=>(inD μ a b).map (!·)
 |.Is=>match a,b with
  |.bl c,.bl d=>some (c == d)
  |_,_=>none
 |.IsNot=>match a,b with
  |.bl c,.bl d=>some (c != d)
  |_,_=>none
noncomputable def jeh (op:CmpOp)(a b:D)(μ:M):Out D :=
 match jnF op a b μ with
 |some r=>.ok (.bl r) μ
 |none=>.bad
noncomputable def jwl (μ:M):D→Option Bool
 |.non=>some false
 |.bl b=>some b
 |.int i=>some (i != 0)
 |.str y=>@ite _ (y.length≤sizeLine) (Classical.propDecidable _) (some ((y.length:Int) != 0)) none
 |.tup ds=>some (!ds.isEmpty)
 |d=>(jfl μ d).map (!·.isEmpty)
noncomputable def jtm (a:D)(k:Key)(μ:M):Out D :=
 match jiC μ a with
 |some (ks,vs)=>match jc7 k ks vs with
  |some d=>.ok d μ
  |none=>.bad
 |none=>.bad
noncomputable def ixD (a b:D)(μ:M):Out D :=
 match b with
 |.int i=>match a with
  |.str z=>@ite _ (z.length≤sizeLine) (Classical.propDecidable _) (match atI z.cps.toList i with
    |some c=>.ok (.str ⟨#[c]⟩) μ
    |none=>.bad) .bad
  |a=>match jeu μ a with
   |some ds=>match atI ds i with
    |some d=>.ok d μ
    |none=>.bad
   |none=>jtm a (.inl i) μ
 |.str k=>jtm a (.inr k) μ
 |_=>.bad
noncomputable def slD (m:Bool)(a:D)(lo hi:Option Int)(μ:M):Out D :=
 match a with
 |.str z=>@ite _ (z.length≤sizeLine) (Classical.propDecidable _) (.ok (.str (Txt.slice z lo hi)) μ) .bad
 |.tup ds=>.ok (.tup (cutD ds lo hi)) μ
 |a=>match jfl μ a with
  |some ds=>mkL m (cutD ds lo hi) μ
  |none=>.bad
noncomputable def jww (m:Bool)(a:D)(lo st:Option Int)(μ:M):Out D :=
 match lo,st with
 |some i,some k=>if 0≤i∧0 < k then match jfl μ a with
   |some ds=>mkL m ((jk2 ds.length i k).filterMap (ds[·]?)) μ
   |none=>.bad
  else .bad
 |_,_=>.bad
noncomputable def jxp (f:Str):List Str→List D→Option D
 |g :: fs,d :: ds=>if f=g then some d else jxp f fs ds
 |_,_=>none
noncomputable def jyB (f:Str)(a:D)(μ:M):Out D :=
 match a with
 |.obj _ fs ds=>match jxp f fs ds with
  |some d=>.ok d μ
  |none=>.bad
 |.cel k=>match μ[k]? with
  |some (some (.obj _ fs ds))=>match jxp f fs ds with
   |some d=>.ok d μ
   |none=>.bad
  |_=>.bad
 |_=>.bad
noncomputable def jmq:List D→Option (List Int)
 |[]=>some []
 |.int i :: ds=>(jmq ds).map (i :: ·)
 |_=>none
noncomputable def jsH:List D→Option (List Bool)
 |[]=>some []
 |.bl i :: ds=>(jsH ds).map (i :: ·)
 |_=>none
noncomputable def jh:List D→Option (List Str)
 |[]=>some []
 |.str i :: ds=>(jh ds).map (i :: ·)
 |_=>none
noncomputable def tyD (μ:M):D→Option String
 |.non=>some "NoneType"
 |.bl _=>some "bool"
 |.int _=>some "int"
 |.str _=>some "str"
 |.tup _=>some "tuple"
 |.scr _=>none
 |d=>(jfl μ d).map fun _=>"list"
noncomputable def jwx (n t:String):Option Bool :=
 if n = "int" then some (t = "int" || t = "bool")
 else if n = "bool"∨n = "str"∨n = "tuple"∨n = "list"∨n = "dict" then some (t=n)
 else none
noncomputable def jwR (ds:List D)(μ:M):Out D :=
 match ds with
 |[.str z]=>@ite _ (z.length≤sizeLine) (Classical.propDecidable _) (.ok (.int z.length) μ) .bad
 |[d]=>match jeu μ d with
  |some xs=>.ok (.int xs.length) μ
  |none=>.bad
 |_=>.bad
noncomputable def jw2 (ds:List D)(μ:M):Out D :=
 match ds with
 |[d]=>match jfl μ d with
  |some xs=>match jmq xs with
   |some ns=>.ok (.int ns.sum) μ
   |none=>.bad
  |none=>.bad
 |_=>.bad
noncomputable def jwL (ds:List D)(μ:M):Out D :=
 match ds with
 |[.int i,.int j]=>.ok (.int (if j < i then j else i)) μ
 |_=>.bad
noncomputable def jxg (ds:List D)(μ:M):Out D :=
 match ds with
 |[.int i,.int j]=>.ok (.int (if j > i then j else i)) μ
 |_=>.bad
noncomputable def jq6 (m:Bool)(ds:List D)(μ:M):Out D :=
 match ds with
 |[d]=>match jeu μ d with
  |some xs=>mkL m xs μ
  |none=>.bad
 |_=>.bad
noncomputable def tupleD (ds:List D)(μ:M):Out D :=
 match ds with
 |[d]=>match jeu μ d with
  |some xs=>.ok (.tup xs) μ
  |none=>.bad
 |_=>.bad
noncomputable def jlM (ds:List D)(μ:M):Out D :=
 match ds with
 |[.int i]=>.ok (.int i) μ
 |[.bl k]=>.ok (.int (if k then 1 else 0)) μ
 |[.str z]=>match PySem.intText? z with
  |some n=>if z.length≤640 then .ok (.int n) μ else .bad
  |none=>.bad
 |_=>.bad
noncomputable def jwv (ds:List D)(μ:M):Out D :=
 match ds with
 |[d]=>match jfl μ d with
  |some xs=>match jsH xs with
   |some bs=>.ok (.bl (bs.all id)) μ
   |none=>.bad
  |none=>.bad
 |_=>.bad
noncomputable def jwi (n:String)(ds:List D)(μ:M):Out D :=
 match ds with
 |[d]=>match tyD μ d with
  |some t=>match jwx n t with
   |some r=>.ok (.bl r) μ
   |none=>.bad
  |none=>.bad
 |_=>.bad
noncomputable def lrD (m:Bool)(ds:List D)(μ:M):Out D :=
 match ds with
 |[.int j]=>if -(2 ^ 62)≤j∧j≤16777216 then mkL m ((List.range j.toNat).map fun (k:Nat)=>.int (k:Int)) μ else .bad
 |_=>.bad
noncomputable def jw7 (ds:List D)(μ:M):Out D :=
 match ds with
 |[.int i]=>@ite _ (i.natAbs.log2 < 1920) (Classical.propDecidable _) (.ok (.str (toString i)) μ) .bad
 |[.str z]=>.ok (.str z) μ
 |_=>.bad
noncomputable def jfR (ds:List D)(μ:M):Out D :=
 match ds with
 |[d]=>match jeu μ d with
  |some xs=>match jh xs with
   |some zs=>if zs.length≤1000 then .ok (.int (ddS zs).length) μ else .bad
   |none=>.bad
  |none=>.bad
 |_=>.bad
noncomputable def jfm (m:Bool)(ds:List D)(μ:M):Out D :=
 match ds with
 |[a,b]=>match jeu μ a,jeu μ b with
  |some xs,some ys=>match jh xs with
   |some zs=>if zs.length=ys.length∧zs.length≤1000∧zs.Nodup then (if m then .ok (.cel μ.length) (μ++[some (.dK (zs.map .inr) ys)]) else .ok (.dF (zs.map .inr) ys) μ) else .bad
   |none=>.bad
  |_,_=>.bad
 |_=>.bad
noncomputable def biD (b:Bi)(m:Bool):List D→M→Out D :=
 match b with
 |.len=>jwR
 |.sum=>jw2
 |.min2=>jwL
 |.max2=>jxg
 |.list=>jq6 m
 |.tuple=>tupleD
 |.int=>jlM
 |.all=>jwv
 |.isT n=>jwi n
 |.listRange=>lrD m
 |.str=>jw7
 |.lenSet=>jfR
 |.dictZip=>jfm m
noncomputable def jmo (b:Mt)(o:D)(μ:M):Bool :=
 match b,o with
 |.join,.str _=>true
 |.join,_=>false
 |.split,.str _=>true
 |.split,_=>false
 |_,.cel k=>match μ[k]? with
  |some (some (.lst _))=>true
  |_=>false
 |_,_=>false
noncomputable def jwu (o:D)(ds:List D)(μ:M):Out D :=
 match o,ds with
 |.cel k,[d]=>match μ[k]? with
  |some (some (.lst xs))=>@ite _ (xs.length < sizeLine) (Classical.propDecidable _) (.ok .non (μ.set k (some (.lst (xs++[d]))))) .bad
  |_=>.bad
 |_,_=>.bad
noncomputable def jxc (o:D)(ds:List D)(μ:M):Out D :=
 match o,ds with
 |.cel k,[.lst ys]=>match μ[k]? with
  |some (some (.lst xs))=>@ite _ (xs.length+ys.length≤sizeLine) (Classical.propDecidable _) (.ok .non (μ.set k (some (.lst (xs++ys))))) .bad
  |_=>.bad
 |_,_=>.bad
noncomputable def jpd (o:D)(ds:List D)(μ:M):Out D :=
 match o,ds with
 |.str z,[d]=>match jfl μ d with
  |some xs=>match jh xs with
   |some ys=>@ite _ ((ys.map (·.length)).sum+ys.length * z.length≤16777216) (Classical.propDecidable _) (.ok (.str (Txt.join z ys)) μ) .bad
   |none=>.bad
  |none=>.bad
 |_,_=>.bad
noncomputable def jmV (o:D)(ds:List D)(μ:M):Out D :=
 match o,ds with
 |.str z,[.str y]=>@ite _ ((y.length == 0)=false∧z.length≤100000) (Classical.propDecidable _) (.ok (.lst ((Txt.split z y).map .str)) μ) .bad
 |_,_=>.bad
noncomputable def mtD (b:Mt):D→List D→M→Out D :=
 match b with
 |.append=>jwu
 |.extend=>jxc
 |.join=>jpd
 |.split=>jmV
noncomputable def jrY:List Nat→List D→S3→Option S3
 |[],[],ρ=>some ρ
 |i :: is,d :: ds,ρ=>jrY is ds (ρ.set i (some d))
 |_,_,_=>none
noncomputable def joz (tg:Tg)(d:D)(ρ:S3):Option S3 :=
 match tg,d with
 |.nm i,d=>some (ρ.set i (some d))
 |.tp is,.tup ds=>jrY is ds ρ
 |_,_=>none
noncomputable def jgz:List D→List D→List D
 |x :: xs,y :: ys=>.tup [x,y] :: jgz xs ys
 |_,_=>[]
noncomputable def ji4:Nat→List D→List D
 |k,x :: xs=>.tup [.int (k:Int),x] :: ji4 (k+1) xs
 |_,[]=>[]
noncomputable def jwM (ds:List D)(μ:M):Option (List D) :=
 match ds with
 |[d]=>jeu μ d
 |_=>none
noncomputable def jrJ (ds:List D)(μ:M):Option (List D) :=
 match ds with
 |[d]=>(jeu μ d).map (ji4 0)
 |_=>none
noncomputable def jme (ds:List D)(μ:M):Option (List D) :=
 match ds with
 |[d,d']=>match jeu μ d,jeu μ d' with
  |some xs,some ys=>some (jgz xs ys)
  |_,_=>none
 |_=>none
noncomputable def jjD (ds:List D)(_:M):Option (List D) :=
 match ds with
 |[.int j]=>@ite _ (-(2 ^ 62)≤j∧j < 2 ^ 62) (Classical.propDecidable _) (some ((List.range j.toNat).map fun (k:Nat)=>.int (k:Int))) none
 |_=>none
noncomputable def jmT (ds:List D)(_:M):Option (List D) :=
 match ds with
 |[.int i,.int j]=>@ite _ (-(2 ^ 62)≤i∧i < 2 ^ 62∧-(2 ^ 62)≤j∧j < 2 ^ 62) (Classical.propDecidable _) (some ((List.range (j - i).toNat).map fun (k:Nat)=>.int (i+(k:Int)))) none
 |_=>none
noncomputable def jrT (ds:List D)(_:M):Option (List D) :=
 match ds with
 |[.str z]=>some (z.cps.toList.map fun c=>.str ⟨#[c]⟩)
 |_=>none
noncomputable def jjj:Key→D
 |.inl i=>.int i
 |.inr x=>.str x
noncomputable def jlf:List Key→List D→List D
 |k :: ks,d :: ds=>.tup [jjj k,d] :: jlf ks ds
 |_,_=>[]
noncomputable def ji1 (ds:List D)(_:M):Option (List D) :=
 match ds with
 |[.dF ks vs]=>some (jlf ks vs)
 |_=>none
noncomputable def itD (ik:IK):List D→M→Option (List D) :=
 match ik with
 |.seq=>jwM
 |.enm=>jrJ
 |.zip=>jme
 |.rng1=>jjD
 |.rng2=>jmT
 |.str=>jrT
 |.items=>ji1
noncomputable def je5 (ik:IK)(ds:List D)(xs:List D)(μ:M):Bool:=@decide (itD ik ds μ=some xs) (Classical.propDecidable _)
noncomputable def jdy (ok:M→Bool)(tg:Tg)(cond:S3→M→Out Bool)(elt:S3→M→Out D)(ρ:S3):List D→M→Out (List D)
 |[],μ=>if ok μ then .ok [] μ else .bad
 |d :: ds,μ=>if ok μ then match joz tg d ρ with
   |some ρ1=>(cond ρ1 μ).bind fun b μ1=>if b then (elt ρ1 μ1).bind fun y μ2=>(jdy ok tg cond elt ρ ds μ2).bind fun ys μ3=>.ok (y :: ys) μ3 else jdy ok tg cond elt ρ ds μ1
   |none=>.bad
  else .bad
noncomputable def jg7 (ok:M→Bool)(tg:Tg)(body:S3→M→Out Fl)(fg:List Nat):List D→S3→M→Out Fl
 |[],ρ,μ=>if ok μ then .ok (.nx (forget fg ρ)) μ else .bad
 |d :: ds,ρ,μ=>if ok μ then match joz tg d ρ with
   |some ρ1=>match body ρ1 μ with
    |.ok (.nx ρ2) μ2=>jg7 ok tg body fg ds (forget fg ρ2) μ2
    |.ok (.ct ρ2) μ2=>jg7 ok tg body fg ds (forget fg ρ2) μ2
    |.ok (.bk ρ2) μ2=>.ok (.nx (forget fg ρ2)) μ2
    |.ok (.rt d) μ2=>.ok (.rt d) μ2
    |.exc x μ2=>.exc x μ2
    |.bad=>.bad
   |none=>.bad
  else .bad
mutual
noncomputable def jb4 (h:Nat→Option D):D→Option D
 |.tup ds=>(frzGs h ds).map .tup
 |.lst ds=>(frzGs h ds).map .lst
 |.scr ds=>(frzGs h ds).map .scr
 |.dK ks vs=>(frzGs h vs).map (.dK ks)
 |.dT ks vs=>(frzGs h vs).map (.dT ks)
 |.dF ks vs=>(frzGs h vs).map (.dF ks)
 |.obj C fs ds=>(frzGs h ds).map (.obj C fs)
 |.cel k=>h k
 |.non=>some .non
 |.bl b=>some (.bl b)
 |.int i=>some (.int i)
 |.str x=>some (.str x)
 |.ty n=>some (.ty n)
noncomputable def frzGs (h:Nat→Option D):List D→Option (List D)
 |[]=>some []
 |d :: ds=>match jb4 h d,frzGs h ds with
  |some e,some es=>some (e :: es)
  |_,_=>none
end
noncomputable def jkG (μ:M)(n0:Nat)(keep:List Nat):Nat→Nat→Option D
 |f,k=>if k < n0 then some (.cel k) else if k∈keep then none else
  match f with
  |0=>none
  |f+1=>match μ[k]? with
   |some (some (.lst ds))=>(frzGs (jkG μ n0 keep f) ds).map .lst
   |some (some (.dK ks vs))=>(frzGs (jkG μ n0 keep f) vs).map (.dK ks)
   |some (some (.dT ks vs))=>(frzGs (jkG μ n0 keep f) vs).map (.dT ks)
   |some (some (.obj C fs ds))=>(frzGs (jkG μ n0 keep f) ds).map (.obj C fs)
   |_=>none
noncomputable def jvm (μ:M)(n0:Nat)(d:D):Option D:=jb4 (jkG μ n0 [] 4) d
noncomputable def jqg:D→List Nat
 |.cel k=>[k]
 |.tup ds=>ds.filterMap fun d=>match d with
  |.cel k=>some k
  |_=>none
 |_=>[]
noncomputable def jo0 (n0:Nat)(ks:List Nat)(k:Nat):Option D:=(ks.idxOf? k).map fun j=>.cel (n0+j)
noncomputable def jkv (μ:M)(n0:Nat)(ks:List Nat):List Nat→Option (List (List D))
 |[]=>some []
 |k :: r=>match μ[k]? with
  |some (some (.lst ds))=>match frzGs (jkG μ n0 ks 4) ds,jkv μ n0 ks r with
   |some c,some cs=>some (c :: cs)
   |_,_=>none
  |_=>none
noncomputable def jve (μ:M)(n0:Nat)(ks:List Nat):D→Option D
 |.cel k=>jo0 n0 ks k
 |d=>jb4 (jkG μ n0 ks 4) d
noncomputable def jjF (μ:M)(n0:Nat)(ks:List Nat):List D→Option (List D)
 |[]=>some []
 |d :: ds=>match jve μ n0 ks d,jjF μ n0 ks ds with
  |some e,some es=>some (e :: es)
  |_,_=>none
noncomputable def jxT (μ:M)(n0:Nat)(d:D):Option (D×List (List D)) :=
 if (jqg d).Nodup∧∀k∈jqg d,n0≤k then
  match jkv μ n0 (jqg d) (jqg d) with
  |some cs=>match d with
   |.cel k=>(jo0 n0 (jqg d) k).map fun d'=>(d',cs)
   |.tup ds=>(jjF μ n0 (jqg d) ds).map fun es=>(.tup es,cs)
   |_=>none
  |none=>none
 else none
open Classical in
noncomputable def jaf (md:Md)(F:Fn)(ds:List D)(μ:M):Out D :=
 match md with
 |.raw=>F ds μ
 |.frz=>match F ds μ with
  |.ok d μ'=>if μ'.take μ.length=μ then match jvm μ' μ.length d with
    |some d'=>.ok d' μ
    |none=>.bad
   else .bad
  |.exc x μ'=>if μ'.take μ.length=μ then match jvm μ' μ.length x with
    |some x'=>.exc x' μ
    |none=>.bad
   else .bad
  |.bad=>.bad
 |.new=>match F ds μ with
  |.ok d μ'=>if μ'.take μ.length=μ then match jxT μ' μ.length d with
    |some (d',cs)=>.ok d' (μ++cs.map fun xs=>some (.lst xs))
    |none=>.bad
   else .bad
  |.exc x μ'=>if μ'.take μ.length=μ then match jvm μ' μ.length x with
    |some x'=>.exc x' μ
    |none=>.bad
   else .bad
  |.bad=>.bad
noncomputable def jiy (G:List FnE)(f:Nat):Option Dat:=(G[f]?).bind (·.dat)
noncomputable def jbt (z:Str):List (Str×D)→Option D
 |[]=>none
 |p :: r=>if p.1=z then some p.2 else jbt z r
noncomputable def glD (o:Option Dat)(μ:M):Out D :=
 match o with
 |some (.cst d)=>.ok d μ
 |_=>.bad
noncomputable def jl0 (o:Option Dat)(x y:D)(μ:M):Out D :=
 match o,x with
 |some (.dct kvs),.str z=>.ok ((jbt z kvs).getD y) μ
 |_,_=>.bad
noncomputable def jtU (neg:Bool)(o:Option Dat)(x:D)(μ:M):Out D :=
 match o,x with
 |some (.dct kvs),.str z=>.ok (.bl (if neg then !(jbt z kvs).isSome else (jbt z kvs).isSome)) μ
 |_,_=>.bad
noncomputable def jtV (o:Option Dat)(x:D)(μ:M):Out D :=
 match o,x with
 |some (.dct kvs),.str z=>match jbt z kvs with
  |some d=>.ok d μ
  |none=>.bad
 |_,_=>.bad
noncomputable def jkT (G:List FnE)(f:Nat)(md:Md)(ds:List D)(μ:M):Out D :=
 match G[f]? with
 |some g=>jaf md g.F ds μ
 |none=>.bad
noncomputable def jib (o:Out (List D)):Out (Option Int):=o.bind fun ds μ=>match ds with
 |[]=>.ok none μ
 |[.int i]=>.ok (some i) μ
 |_=>.bad
noncomputable def toB (r:S3→M→Out D)(ρ:S3)(μ:M):Out Bool:=(r ρ μ).bind fun d μ1=>match jwl μ1 d with
 |some b=>.ok b μ1
 |none=>.bad
structure Ev where
 v:S3→M→Out D
 t:S3→M→Out Bool
noncomputable def Ev.of (v:S3→M→Out D):Ev:=⟨v,toB v⟩
noncomputable section
variable (G:List FnE)
mutual
noncomputable def ev:E→Ev
 |.var i=>.of fun ρ μ=>match ρ[i]? with
  |some (some d)=>.ok d μ
  |_=>.bad
 |.cst d=>.of fun _ μ=>.ok d μ
 |.bin op m a b=>.of fun ρ μ=>((ev a).v ρ μ).bind fun x μ1=>((ev b).v ρ μ1).bind fun y μ2=>jgQ op m x y μ2
 |.neg a=>.of fun ρ μ=>((ev a).v ρ μ).bind fun x μ1=>match x with
  |.int i=>.ok (.int (-i)) μ1
  |_=>.bad
 |.not_ a=>⟨fun ρ μ=>((ev a).v ρ μ).bind fun x μ1=>match x with
  |.bl c=>.ok (.bl (!c)) μ1
  |_=>.bad,fun ρ μ=>((ev a).t ρ μ).bind fun c μ1=>.ok (!c) μ1⟩
 |.and_ a b=>⟨fun ρ μ=>((ev a).v ρ μ).bind fun x μ1=>match x with
  |.bl c=>if c then (ev b).v ρ μ1 else .ok (.bl false) μ1
  |_=>.bad,fun ρ μ=>((ev a).t ρ μ).bind fun c μ1=>if c then (ev b).t ρ μ1 else .ok false μ1⟩
 |.or_ a b=>⟨fun ρ μ=>((ev a).v ρ μ).bind fun x μ1=>match x with
  |.bl c=>if c then .ok (.bl true) μ1 else (ev b).v ρ μ1
  |_=>.bad,fun ρ μ=>((ev a).t ρ μ).bind fun c μ1=>if c then .ok true μ1 else (ev b).t ρ μ1⟩
 |.cmp op a b=>.of fun ρ μ=>((ev a).v ρ μ).bind fun x μ1=>((ev b).v ρ μ1).bind fun y μ2=>jeh op x y μ2
 |.chain o1 o2 a b c=>.of fun ρ μ=>((ev a).v ρ μ).bind fun x μ1=>((ev b).v ρ μ1).bind fun y μ2=>(jeh o1 x y μ2).bind fun z μ3=>match z with
  |.bl k=>if k then ((ev c).v ρ μ3).bind fun u μ4=>jeh o2 y u μ4 else .ok (.bl false) μ3
  |_=>.bad
 |.isN a=>.of fun ρ μ=>((ev a).v ρ μ).bind fun x μ1=>match x with
  |.non=>.ok (.bl true) μ1
  |_=>.ok (.bl false) μ1
 |.notN a=>.of fun ρ μ=>((ev a).v ρ μ).bind fun x μ1=>match x with
  |.non=>.ok (.bl false) μ1
  |_=>.ok (.bl true) μ1
 |.ife c a b=>.of fun ρ μ=>((ev c).t ρ μ).bind fun k μ1=>if k then (ev a).v ρ μ1 else (ev b).v ρ μ1
 |.tup es=>.of fun ρ μ=>(evL es ρ μ).bind fun ds μ1=>if ds.length≤sizeLine then .ok (.tup ds) μ1 else .bad
 |.lst m es=>.of fun ρ μ=>(evL es ρ μ).bind fun ds μ1=>if ds.length≤sizeLine then mkL m ds μ1 else .bad
 |.ix a b=>.of fun ρ μ=>((ev a).v ρ μ).bind fun x μ1=>((ev b).v ρ μ1).bind fun y μ2=>ixD x y μ2
 |.sl m a lo hi=>.of fun ρ μ=>((ev a).v ρ μ).bind fun x μ1=>(jib (evL lo ρ μ1)).bind fun l μ2=>(jib (evL hi ρ μ2)).bind fun h μ3=>slD m x l h μ3
 |.stp m a lo st=>.of fun ρ μ=>((ev a).v ρ μ).bind fun x μ1=>(jib (evL lo ρ μ1)).bind fun l μ2=>(jib (evL st ρ μ2)).bind fun h μ3=>jww m x l h μ3
 |.fld a f=>.of fun ρ μ=>((ev a).v ρ μ).bind fun x μ1=>jyB f x μ1
 |.call f md es=>.of fun ρ μ=>(evL es ρ μ).bind fun ds μ1=>jkT G f md ds μ1
 |.bi b m es=>.of fun ρ μ=>(evL es ρ μ).bind fun ds μ1=>biD b m ds μ1
 |.mt b o es=>.of fun ρ μ=>((ev o).v ρ μ).bind fun x μ1=>if jmo b x μ1 then (evL es ρ μ1).bind fun ds μ2=>mtD b x ds μ2 else .bad
 |.comp m own tg ik es ifs elt=>.of fun ρ μ=>(evL es ρ μ).bind fun ds μ1=>match itD ik ds μ1 with
  |some xs=>if xs.length≤sizeLine then (jdy (je5 ik ds xs) tg (evTs ifs) (ev elt).v (List.replicate own none++ρ) xs μ1).bind fun ys μ2=>mkL m ys μ2 else .bad
  |none=>.bad
 |.gl f=>.of fun _ μ=>glD (jiy G f) μ
 |.gget f a d=>.of fun ρ μ=>((ev a).v ρ μ).bind fun x μ1=>((ev d).v ρ μ1).bind fun y μ2=>jl0 (jiy G f) x y μ2
 |.gin neg f a=>.of fun ρ μ=>((ev a).v ρ μ).bind fun x μ1=>jtU neg (jiy G f) x μ1
 |.gix f a=>.of fun ρ μ=>((ev a).v ρ μ).bind fun x μ1=>jtV (jiy G f) x μ1
noncomputable def evL:List E→S3→M→Out (List D)
 |[],_,μ=>.ok [] μ
 |e :: es,ρ,μ=>((ev e).v ρ μ).bind fun d μ1=>(evL es ρ μ1).bind fun ds μ2=>.ok (d :: ds) μ2
noncomputable def evTs:List E→S3→M→Out Bool
 |[],_,μ=>.ok true μ
 |[e],ρ,μ=>(ev e).t ρ μ
 |_,_,_=>.bad
end
mutual
noncomputable def run:S→S3→M→Out Fl
 |.asg tg e,ρ,μ=>((ev G e).v ρ μ).bind fun d μ1=>match joz tg d ρ with
  |some ρ1=>.ok (.nx ρ1) μ1
  |none=>.bad
 |.setF o f e,ρ,μ=>.bad
 |.setI o i e,ρ,μ=>((ev G e).v ρ μ).bind fun d μ1=>((ev G o).v ρ μ1).bind fun x μ2=>((ev G i).v ρ μ2).bind fun y μ3=>match x,y with
  |.cel k,.int j=>match μ3[k]? with
   |some (some (.lst xs))=>match ixN xs.length j with
    |some p=>.ok (.nx ρ) (μ3.set k (some (.lst (xs.set p d))))
    |none=>.bad
   |_=>.bad
  |_,_=>.bad
 |.ex e,ρ,μ=>((ev G e).v ρ μ).bind fun _ μ1=>.ok (.nx ρ) μ1
 |.ite c a b,ρ,μ=>((ev G c).t ρ μ).bind fun k μ1=>if k then runs a ρ μ1 else runs b ρ μ1
 |.for_ tg ik es body fg,ρ,μ=>(evL G es ρ μ).bind fun ds μ1=>match itD ik ds μ1 with
  |some xs=>jg7 (je5 ik ds xs) tg (runs body) fg xs ρ μ1
  |none=>.bad
 |.ret e,ρ,μ=>((ev G e).v ρ μ).bind fun d μ1=>.ok (.rt d) μ1
 |.retN,_,μ=>.ok (.rt .non) μ
 |.pass,ρ,μ=>.ok (.nx ρ) μ
 |.never,_,_=>.bad
noncomputable def runs:List S→S3→M→Out Fl
 |[],ρ,μ=>.ok (.nx ρ) μ
 |s :: ss,ρ,μ=>match run s ρ μ with
  |.ok (.nx ρ1) μ1=>runs ss ρ1 μ1
  |r=>r
end
noncomputable def fnOf (np nl:Nat)(body:List S):Fn:=fun ds μ=>if ds.length=np then match runs G body (ds.map some++List.replicate nl none) μ with
  |.ok (.rt d) μ1=>.ok d μ1
  |.ok (.nx _) μ1=>.ok .non μ1
  |.ok _ _=>.bad
  |.exc x μ1=>.exc x μ1
  |.bad=>.bad
 else .bad
end
end _L3
namespace _L3
open PySem PySem.Spec PyProof.Rows _L2
section
variable {K:PySem.W.Frag} {w:Wd} {μ:M} {H:Hp} {n:Nat}
theorem jct {d:D}{v x:V}(h:Den K w n d v)(e:jfF d=some x):v=x∧jdx v=true:=by
 cases d <;> simp only[jfF,Option.some.injEq]at e <;> first | (subst e;unfold Den at h;subst h;exact⟨rfl,rfl⟩) | cases e
theorem jbM {d:D}{v:V}{ds:List D}(R:Rep K w μ H)(h:Den K w μ.length d v)(e:jfl μ d=some ds):∃a xs,v=.ref a∧SqL K H a xs∧DenL K w μ.length ds xs:=by
 cases d with
 |lst xs =>
  simp only[jfl,Option.some.injEq]at e
  subst e
  unfold Den at h
  obtain⟨a,xs,h1,h2,h3⟩:=h
  exact⟨a,xs,h1,SqL.of (R.sub _ _ h2),h3⟩
 |scr xs =>
  simp only[jfl,Option.some.injEq]at e
  subst e
  unfold Den at h
  obtain⟨a,xs,h1,h2,h3⟩:=h
  exact⟨a,xs,h1,R.sub.seq h2,h3⟩
 |cel k =>
  simp only[jfl]at e
  split at e
  ·rename_i ys hk
   cases e
   unfold Den at h
   obtain⟨xs,h1,h2⟩:=(R.liv k _ hk).2
   exact⟨_,xs,h.2,SqL.of h1,h2⟩
  ·cases e
 |_=>cases e
theorem jck {ds:List D}{v:V}(R:Rep K w μ H)(h:Den K w μ.length (.tup ds) v):∃a xs,v=.ref a∧SqT K H a xs∧DenL K w μ.length ds xs:=by
 unfold Den at h
 obtain⟨a,xs,h1,h2,h3⟩:=h
 exact⟨a,xs,h1,R.sub.tup h2,h3⟩
theorem jej {d:D}{v:V}{ds:List D}(R:Rep K w μ H)(h:Den K w μ.length d v)(e:jeu μ d=some ds):∃a xs,v=.ref a∧(SqL K H a xs∨SqT K H a xs)∧DenL K w μ.length ds xs:=by
 unfold jeu at e
 split at e
 ·cases e
  obtain⟨a,xs,h1,h2,h3⟩:=jck R h
  exact⟨a,xs,h1,.inr h2,h3⟩
 ·obtain⟨a,xs,h1,h2,h3⟩:=jbM R h e
  exact⟨a,xs,h1,.inl h2,h3⟩
theorem jag {ds:List D}{xs:List V}(h:DenL K w n ds xs):ds.length=xs.length:=(jaC.mp h).length
theorem jc1:∀{ds:List D} {xs:List V} {i:Nat} {d:D},DenL K w n ds xs→ds[i]?=some d→∃v,xs[i]?=some v∧Den K w n d v:=by
 intro ds xs i d h e
 have h':=jaC.mp h
 clear h
 induction h' generalizing i with
 |nil=>simp at e
 |cons r t ih =>
  cases i with
  |zero =>
   simp only[List.getElem?_cons_zero,Option.some.injEq]at e
   subst e
   exact⟨_,rfl,r⟩
  |succ i=>simpa using ih (i:=i) (by simpa using e)
theorem jer {α β:Type}{F:α→β→Prop}:∀{us ws:List α} {xs ys:List β},Paired F us xs→Paired F ws ys→Paired F (us++ws) (xs++ys)
 |_,_,_,_,.nil,s=>s
 |_,_,_,_,.cons r t,s=>.cons r (jer t s)
theorem jf7 {α β:Type}{F:α→β→Prop}:∀{us:List α} {xs:List β} (k:Nat),Paired F us xs→Paired F (us.take k) (xs.take k)
 |_,_,0,_=>by simp;exact .nil
 |_,_,_+1,.nil=>.nil
 |_,_,k+1,.cons r t=>.cons r (jf7 k t)
theorem jfL {α β:Type}{F:α→β→Prop}:∀{us:List α} {xs:List β} (k:Nat),Paired F us xs→Paired F (us.drop k) (xs.drop k)
 |_,_,0,h=>h
 |_,_,_+1,.nil=>.nil
 |_,_,k+1,.cons r t=>jfL k t
theorem jgK {α β:Type}{F:α→β→Prop}{a:α}{b:β}(h:F a b):∀{us:List α} {xs:List β} (k:Nat),Paired F us xs→Paired F (us.set k a) (xs.set k b)
 |_,_,_,.nil=>.nil
 |_,_,0,.cons _ t=>.cons h t
 |_,_,k+1,.cons r t=>.cons r (jgK h k t)
theorem DenL.append {ds es:List D}{xs ys:List V}(h:DenL K w n ds xs)(k:DenL K w n es ys):DenL K w n (ds++es) (xs++ys):=jaC.mpr (jer (jaC.mp h) (jaC.mp k))
theorem DenL.cut {ds:List D}{xs:List V}(h:DenL K w n ds xs)(lo hi:Option Int):DenL K w n (cutD ds lo hi) (jpJ xs lo hi):=by
 unfold cutD jpJ
 rw[jag h]
 exact jaC.mpr (jf7 _ (jfL _ (jaC.mp h)))
theorem DenL.one {d:D}{v:V}(h:Den K w n d v):DenL K w n [d] [v]:=jaC.mpr (.cons h .nil)
theorem jhZ:∀{ds:List D} {xs:List V} {ns:List Int},DenL K w n ds xs→jmq ds=some ns→xs=ns.map V.int
 |[],xs,ns,h,e=>by
  cases e
  unfold DenL at h
  exact h
 |.int i :: ds,xs,ns,h,e=>by
  unfold DenL at h
  obtain⟨v,ws,rfl,h1,h2⟩:=h
  unfold Den at h1
  unfold jmq at e
  cases e2:jmq ds with
  |none=>rw[e2]at e;cases e
  |some ms =>
   rw[e2]at e
   cases e
   rw[h1,jhZ h2 e2]
   rfl
 |.non :: _,_,_,_,e | .bl _ :: _,_,_,_,e | .str _ :: _,_,_,_,e | .ty _ :: _,_,_,_,e | .tup _ :: _,_,_,_,e | .lst _ :: _,_,_,_,e | .scr _ :: _,_,_,_,e | .dK _ _ :: _,_,_,_,e | .dT _ _ :: _,_,_,_,e | .dF _ _ :: _,_,_,_,e | .obj _ _ _ :: _,_,_,_,e | .cel _ :: _,_,_,_,e=>by cases e
theorem jjJ:∀{ds:List D} {xs:List V} {ns:List Bool},DenL K w n ds xs→jsH ds=some ns→xs=ns.map V.bl
 |[],xs,ns,h,e=>by
  cases e
  unfold DenL at h
  exact h
 |.bl i :: ds,xs,ns,h,e=>by
  unfold DenL at h
  obtain⟨v,ws,rfl,h1,h2⟩:=h
  unfold Den at h1
  unfold jsH at e
  cases e2:jsH ds with
  |none=>rw[e2]at e;cases e
  |some ms =>
   rw[e2]at e
   cases e
   rw[h1,jjJ h2 e2]
   rfl
 |.non :: _,_,_,_,e | .int _ :: _,_,_,_,e | .str _ :: _,_,_,_,e | .ty _ :: _,_,_,_,e | .tup _ :: _,_,_,_,e | .lst _ :: _,_,_,_,e | .scr _ :: _,_,_,_,e | .dK _ _ :: _,_,_,_,e | .dT _ _ :: _,_,_,_,e | .dF _ _ :: _,_,_,_,e | .obj _ _ _ :: _,_,_,_,e | .cel _ :: _,_,_,_,e=>by cases e
theorem jex:∀{ds:List D} {xs:List V} {ns:List Str},DenL K w n ds xs→jh ds=some ns→xs=ns.map V.str
 |[],xs,ns,h,e=>by
  cases e
  unfold DenL at h
  exact h
 |.str i :: ds,xs,ns,h,e=>by
  unfold DenL at h
  obtain⟨v,ws,rfl,h1,h2⟩:=h
  unfold Den at h1
  unfold jh at e
  cases e2:jh ds with
  |none=>rw[e2]at e;cases e
  |some ms =>
   rw[e2]at e
   cases e
   rw[h1,jex h2 e2]
   rfl
 |.non :: _,_,_,_,e | .bl _ :: _,_,_,_,e | .int _ :: _,_,_,_,e | .ty _ :: _,_,_,_,e | .tup _ :: _,_,_,_,e | .lst _ :: _,_,_,_,e | .scr _ :: _,_,_,_,e | .dK _ _ :: _,_,_,_,e | .dT _ _ :: _,_,_,_,e | .dF _ _ :: _,_,_,_,e | .obj _ _ _ :: _,_,_,_,e | .cel _ :: _,_,_,_,e=>by cases e
noncomputable abbrev jjZ (K:PySem.W.Frag) (w:Wd) (n:Nat) (d:D) (μ':M) (Q:VK):Prop:=∀w' H' v,Ext w w' n μ'.length→Rep K w' μ' H'→Den K w' μ'.length d v→Q v H'
theorem jcY {Q:VK}{d:D}{p:Addr}{o:HO}(R:Rep K w μ H)(q:jjZ K w μ.length d μ Q)(hp:H p=none)(hd:∀w',Ext w w' μ.length μ.length→w'.Z p=some o→Den K w' μ.length d (.ref p)):Q (.ref p) (upd H p o):=by
 obtain⟨R',x⟩:=R.frz hp o
 exact q _ _ _ x R' (hd _ x jay)
theorem jah {Q:VK}{d:D}{v:V}(R:Rep K w μ H)(q:jjZ K w μ.length d μ Q)(h:Den K w μ.length d v):Q v H:=q w H v (Ext.refl _ _) R h
theorem jeb {m:Bool}{ds:List D}{xs:List V}{d:D}{μ':M}{Q:VK}(R:Rep K w μ H)(h:DenL K w μ.length ds xs)(e:mkL m ds μ=.ok d μ')(q:jjZ K w μ.length d μ' Q):∀p,H p=none→Q (.ref p) (upd H p (.lst xs)):=by
 intro p hp
 cases m with
 |false =>
  simp only[mkL,Bool.false_eq_true,if_false]at e
  cases e
  exact jcY R q hp fun w' x hz=>by unfold Den;exact⟨p,xs,rfl,hz,h.mono x⟩
 |true =>
  simp only[mkL,if_true]at e
  cases e
  obtain⟨w',R',x,hg⟩:=R.cell hp (.lst xs) (.lst ds) (fun w' x=>⟨xs,jay,h.mono x⟩)
  have hl:(μ++[some (Cl.lst ds)]).length=μ.length+1:=by simp
  refine q w' _ _ (by rw[hl];exact x) R' ?_
  unfold Den
  exact⟨by rw[hl];exact Nat.lt_succ_self _,by rw[hg]⟩
end
theorem imE {X:Cx}{e:Expr}{t t':TE}(h:PE X e t)(k:∀σ H Q,t' σ H Q→t σ H Q):PE X e t':=fun pins s σ H Q I hw=>h pins s σ H Q I (k σ H Q hw)
theorem imT {X:Cx}{e:Expr}{t t':TT}(h:PT X e t)(k:∀σ H Q,t' σ H Q→t σ H Q):PT X e t':=fun pins s σ H Q I hw=>h pins s σ H Q I (k σ H Q hw)
theorem imW {X:Cx}{e:Expr}{t t':TT}(h:PW X e t)(k:∀σ H Q,t' σ H Q→t σ H Q):PW X e t':=fun wh pins s σ H Q I hw=>h wh pins s σ H Q I (k σ H Q hw)
theorem imA {X:Cx}{e:List Expr}{t t':TA}(h:PA X e t)(k:∀σ H Q,t' σ H Q→t σ H Q):PA X e t':=fun pos pins s σ H Q I hw=>h pos pins s σ H Q I (k σ H Q hw)
theorem imS {X:Cx}{e:Stmt}{t t':TS}(h:PS X e t)(k:∀E σ H,t' E σ H→t E σ H):PS X e t':=fun pins s σ H Q I hw=>h pins s σ H Q I (k Q σ H hw)
theorem jrg {X:Cx}{e:List Stmt}{t t':TS}(h:PSs X e t)(k:∀E σ H,t' E σ H→t E σ H):PSs X e t':=fun pins s σ H Q I hw=>h pins s σ H Q I (k Q σ H hw)
section
variable {K:PySem.W.Frag}
noncomputable def jln (K:PySem.W.Frag)(f:D→D→M→Out D)(r:R2):Prop:=∀(w:Wd) (μ:M) (H:Hp) (d1 d2 d:D) (μ':M) (v1 v2:V) (Q:VK),Rep K w μ H→Den K w μ.length d1 v1→Den K w μ.length d2 v2→f d1 d2 μ=.ok d μ'→jjZ K w μ.length d μ' Q→r v1 v2 H Q
theorem joD {f:D→D→M→Out D}{r:R2}{ra rb:S3→M→Out D}(hs:jln K f r){σ:_L2.St}{H:Hp}{Q:VK} :
  T3E K (fun ρ μ=>(ra ρ μ).bind fun x μ1=>(rb ρ μ1).bind fun y μ2=>f x y μ2) σ H Q→tOp r (T3E K ra) (T3E K rb) σ H Q:=by
 rintro⟨w,μ,ρ,d,μ',R,S,e,q⟩
 obtain⟨x,μ1,e1,e⟩:=Out.bind_ok e
 obtain⟨y,μ2,e2,e⟩:=Out.bind_ok e
 exact⟨w,μ,ρ,x,μ1,R,S,e1,fun w1 H1 v1 x1 R1 d1=>⟨w1,μ1,ρ,y,μ2,R1,S.mono x1,e2,fun w2 H2 v2 x2 R2 d2=>hs w2 μ2 H2 x y d μ' v1 v2 Q R2 (d1.mono x2) d2 e fun w3 H3 v x3 R3 d3=>q w3 H3 v ((x1.trans x2).trans x3) R3 d3⟩⟩
theorem jot {f:D→M→Out D}{r:V→Hp→VK→Prop}{ra:S3→M→Out D}(hs:∀(w:Wd) (μ:M) (H:Hp) (d1 d:D) (μ':M) (v1:V) (Q:VK),Rep K w μ H→Den K w μ.length d1 v1→f d1 μ=.ok d μ'→jjZ K w μ.length d μ' Q→r v1 H Q){σ:_L2.St}{H:Hp}{Q:VK} :
  T3E K (fun ρ μ=>(ra ρ μ).bind fun x μ1=>f x μ1) σ H Q→T3E K ra σ H fun x H1=>r x H1 Q:=by
 rintro⟨w,μ,ρ,d,μ',R,S,e,q⟩
 obtain⟨x,μ1,e1,e⟩:=Out.bind_ok e
 exact⟨w,μ,ρ,x,μ1,R,S,e1,fun w1 H1 v1 x1 R1 d1=>hs w1 μ1 H1 x d μ' v1 Q R1 d1 e fun w3 H3 v x3 R3 d3=>q w3 H3 v (x1.trans x3) R3 d3⟩
end
end _L3
namespace _L3
open PySem PySem.Spec PyProof.Rows _L2
section
variable {K:PySem.W.Frag} {X:Cx}
theorem jg2 {C:Int→Int→Prop}{f:Int→Int→Int}:jln K (jtk C f) (rI C fun i j=>.int (f i j)):=by
 intro w μ H d1 d2 d μ' v1 v2 Q R h1 h2 e q
 unfold jtk at e
 split at e
 ·split at e
  ·rename_i hc
   cases e
   unfold Den at h1 h2
   exact⟨_,_,h1,h2,hc,jah R q (by unfold Den;rfl)⟩
  ·cases e
 ·cases e
noncomputable def juo (K:PySem.W.Frag):R2:=fun x y H Q=>rI0 (fun i j=>.int (i+j)) x y H Q∨(∃i j,x=.str i∧y=.str j∧i.length+j.length≤sizeLine∧Q (.str (i++j)) H)∨(jv3 K x y H Q∨juY K x y H Q)∨jua K x y H Q
theorem jrc:OpR X (binaryOp .Add) (juo X.K):=jty.or (jk9.or ((jta.or jrH).or jrb))
theorem jsV {m:Bool}:jln K (jwN m) (juo K):=by
 intro w μ H d1 d2 d μ' v1 v2 Q R h1 h2 e q
 unfold jwN at e
 split at e
 ·cases e
  unfold Den at h1 h2
  exact .inl ⟨_,_,h1,h2,jah R q (by unfold Den;rfl)⟩
 ·split at e
  ·rename_i hc
   cases e
   unfold Den at h1 h2
   exact .inr (.inl ⟨_,_,h1,h2,hc,jah R q (by unfold Den;rfl)⟩)
  ·cases e
 ·split at e
  ·rename_i hc
   cases e
   obtain⟨a,us,rfl,s1,l1⟩:=jck R h1
   obtain⟨b,ws,rfl,s2,l2⟩:=jck R h2
   by_cases hu:us=[]
   ·subst hu
    cases jaC.mp l1
    rw[List.nil_append]at q
    exact .inr (.inr (.inl (.inl ⟨a,b,ws,rfl,rfl,s1,s2,jah R q h2⟩)))
   refine .inr (.inr (.inl (.inr ⟨a,b,us,ws,rfl,rfl,s1,s2,hu,by rw[← jag l1,← jag l2];exact hc,fun z=>?_,fun z p hp=>?_⟩)))
   ·subst z
    cases jaC.mp l2
    rw[List.append_nil]at q
    exact jah R q h1
   ·exact jcY R q hp fun w' x hz=>by unfold Den;exact⟨p,_,rfl,SqT.of hz,(l1.append l2).mono x⟩
  ·cases e
 ·split at e
  ·rename_i xs ys e1 e2
   split at e
   ·rename_i hc
    obtain⟨a,us,rfl,s1,l1⟩:=jbM R h1 e1
    obtain⟨b,ws,rfl,s2,l2⟩:=jbM R h2 e2
    exact .inr (.inr (.inr ⟨a,b,us,ws,rfl,rfl,s1,s2,by rw[← jag l1,← jag l2];exact hc,jeb R (l1.append l2) e q⟩))
   ·cases e
  ·cases e
noncomputable def jxo (K:PySem.W.Frag):R2:=fun x y H Q=>rI joo (fun i j=>.int (i * j)) x y H Q∨jur x y H Q∨jvs K x y H Q
theorem jkc {w:Wd}{n:Nat}{ds:List D}{xs:List V}(h:DenL K w n ds xs):∀k:Nat,DenL K w n (List.replicate k ds).flatten (List.replicate k xs).flatten
 |0=>by unfold DenL;rfl
 |k+1=>by
  rw[List.replicate_succ,List.replicate_succ,List.flatten_cons,List.flatten_cons]
  exact h.append (jkc h k)
theorem jqz:jln K jwJ (jxo K):=by
 intro w μ H d1 d2 d μ' v1 v2 Q R h1 h2 e q
 unfold jwJ at e
 split at e
 ·split at e
  ·rename_i hc
   cases e
   unfold Den at h1 h2
   exact .inl ⟨_,_,h1,h2,hc,jah R q (by unfold Den;rfl)⟩
  ·cases e
 ·split at e
  ·rename_i hc
   cases e
   unfold Den at h1 h2
   exact .inr (.inl ⟨_,_,h1,h2,hc.1,hc.2.1,hc.2.2,jah R q (by unfold Den;rfl)⟩)
  ·cases e
 ·split at e
  ·rename_i hc
   cases e
   obtain⟨a,us,rfl,s1,l1⟩:=jck R h1
   unfold Den at h2
   refine .inr (.inr ⟨a,us,_,rfl,h2,s1,fun z=>?_,by rw[← jag l1];exact hc.2.2.2,hc.1,hc.2.1,fun p hp=>?_⟩)
   ·subst z
    cases jaC.mp l1
    exact hc.2.2.1 rfl
   ·exact jcY R q hp fun w' x hz=>by unfold Den;exact⟨p,_,rfl,SqT.of hz,(jkc l1 _).mono x⟩
  ·cases e
 ·cases e
theorem jn:OpR X (binaryOp .FloorDiv) (rI jvt fun i j=>.int (i / j)):=opI fun i j _ _ _ _ _ hc q=>by
 have h1:(0:Int) < j:=hc.1
 have h2:j < 18446744073709551616:=hc.2
 have h3:j.natAbs.log2 < 64:=(Nat.log2_lt (by omega)).mpr (by omega)
 exact floordiv_int (by omega) (by rw[Int.fdiv_eq_ediv_of_nonneg i (by omega)];exact q) (.inl (PyProof.noPylong_of_log2 (by omega)))
theorem jiF {f:Value→Value→Sem Value}{r r':R2}(h:OpR X f r)(k:∀x y H Q,r' x y H Q→r x y H Q):OpR X f r':=fun pins s σ H x y v u Q I rx ry q=>h pins s σ H x y v u Q I rx ry (k _ _ _ _ q)
theorem joO:OpR X (binaryOp .Mult) (rI joo fun i j=>.int (i * j)):=jiF jvX fun x y H Q ⟨i,j,h1,h2,hc,q⟩=>⟨i,j,h1,h2,by unfold joo at hc;unfold jwr;omega,q⟩
theorem jnH:OpR X (binaryOp .Pow) (rI jum fun i j=>.int (i ^ j.toNat)):=jiF jts fun x y H Q ⟨i,j,h1,h2,hc,q⟩=>⟨i,j,h1,h2,⟨hc.1,hc.2.1,by have:=hc.2.2;omega⟩,q⟩
theorem jtT {op:Operator}{m:Bool}:∃r,OpR X (binaryOp op) r∧jln X.K (jgQ op m) r:=by
 cases op with
 |Add=>exact⟨_,jrc,jsV⟩
 |Sub=>exact⟨_,jiF juI fun x y H Q ⟨i,j,h1,h2,_,q⟩=>⟨i,j,h1,h2,q⟩,jg2⟩
 |Mult=>exact⟨_,(joO).or (jrl.or jqA),jqz⟩
 |FloorDiv=>exact⟨_,jn,jg2⟩
 |Mod=>exact⟨_,juP,jg2⟩
 |Pow=>exact⟨_,jnH,jg2⟩
 |_=>exact⟨fun _ _ _ _=>False,fun _ _ _ _ _ _ _ _ _ _ _ _ h=>h.elim,fun _ _ _ _ _ _ _ _ _ _ _ _ _ e _=>by cases e⟩
theorem jnE {A:Around}{s:Shared}{w:Wd}{n:Nat}{f:D→D→Option Bool}(hf:∀d1 d2 x y u v b,Den K w n d1 x→Den K w n d2 y→jba x u→jba y v→f d1 d2=some b→SeqAt.EqAt A s u v b) :
  ∀{ds es:List D} {xs ys:List V} {us vs:List Value} {b:Bool},DenL K w n ds xs→DenL K w n es ys→ja6 xs us→ja6 ys vs→jlg f ds es=some b →
   ∃g:Nat→Bool,(∀(j:Nat) (h1:j < us.length) (h2:j < vs.length),SeqAt.EqAt A s us[j] vs[j] (g j))∧(List.range (min us.length vs.length)).all g=b:=by
 intro ds es xs ys us vs b h1 h2 r1 r2
 have p1:=jaC.mp h1
 have p2:=jaC.mp h2
 clear h1 h2
 induction p1 generalizing es ys us vs b with
 |nil =>
  intro e
  cases r1
  simp only[jlg,Option.some.injEq]at e
  subst e
  exact⟨fun _=>true,fun j h=>absurd h (by simp),by simp⟩
 |cons k1 t1 ih =>
  intro e
  cases p2 with
  |nil =>
   cases r2
   simp only[jlg,Option.some.injEq]at e
   subst e
   exact⟨fun _=>true,fun j _ h=>absurd h (by simp),by simp⟩
  |cons k2 t2 =>
   cases r1 with
   |cons q1 q1' =>
    cases r2 with
    |cons q2 q2' =>
     simp only[jlg]at e
     split at e
     ·rename_i a c ea ec
      cases e
      obtain⟨g,hg,hb⟩:=ih q1' q2' t2 ec
      refine⟨fun j=>match j with | 0=>a | j+1=>g j,fun j j1 j2=>?_,?_⟩
      ·cases j with
       |zero=>exact hf _ _ _ _ _ _ _ k1 k2 q1 q2 ea
       |succ j=>exact hg j (Nat.lt_of_succ_lt_succ j1) (Nat.lt_of_succ_lt_succ j2)
      ·rw[← hb,List.length_cons,List.length_cons,Nat.add_min_add_right,List.range_succ_eq_map,List.all_cons,List.all_map]
       rfl
     ·cases e
section
variable {pins:List (Addr×Obj)} {σ:_L2.St} {H:Hp} {s:Shared} {w:Wd} {μ:M}
theorem jsK (I:Inv X pins σ H s){a:Addr}{xs ys:List V}(h:SqT X.K H a xs)(k:SqT X.K H a ys):xs=ys:=by
 obtain⟨its,rv,p,_⟩:=I.tuple h
 obtain⟨its2,rv2,p2,_⟩:=I.tuple k
 obtain⟨o,g1,_,n1,d1⟩:=p
 obtain⟨o2,g2,_,n2,d2⟩:=p2
 rw[g1]at g2
 cases g2
 rw[d1]at d2
 have e:its=its2:=by
  injection d2 with e _
  simpa using e
 subst e
 exact ja6.inj rv rv2
theorem jsS (I:Inv X pins σ H s){a:Addr}{xs ys:List V}(h:SqL X.K H a xs)(k:SqL X.K H a ys):xs=ys:=by
 obtain⟨its,rv,p,_⟩:=I.list h
 obtain⟨its2,rv2,p2,_⟩:=I.list k
 obtain⟨o,n1,g1,_,_,d1⟩:=p
 obtain⟨o2,n2,g2,_,_,d2⟩:=p2
 rw[g1]at g2
 cases g2
 rw[d1]at d2
 have e:its=its2:=by
  injection d2 with e _
  simpa using e
 subst e
 exact ja6.inj rv rv2
theorem jhM {f:D→D→Option Bool}{n:Nat}(hf:∀d1 d2 x b,Den X.K w n d1 x→Den X.K w n d2 x→f d1 d2=some b→b=true):∀{ds es:List D} {xs:List V} {b:Bool},DenL X.K w n ds xs→DenL X.K w n es xs→jlg f ds es=some b→b=true:=by
 intro ds es xs b h1 h2
 have p1:=jaC.mp h1
 have p2:=jaC.mp h2
 clear h1 h2
 induction p1 generalizing es b with
 |nil =>
  intro e
  simp only[jlg,Option.some.injEq]at e
  exact e.symm
 |cons k1 t1 ih =>
  intro e
  cases p2 with
  |cons k2 t2 =>
   simp only[jlg]at e
   split at e
   ·rename_i a c ea ec
    cases e
    rw[hf _ _ _ _ k1 k2 ea,ih t2 ec]
    rfl
   ·cases e
theorem jjH (I:Inv X pins σ H s)(R:Rep X.K w μ H){f:D→D→Option Bool}(hf:∀d1 d2 x b,Den X.K w μ.length d1 x→Den X.K w μ.length d2 x→f d1 d2=some b→b=true){d1 d2:D}{x:V}{b:Bool}(h1:Den X.K w μ.length d1 x)(h2:Den X.K w μ.length d2 x)(e:eqN f μ d1 d2=some b):b=true:=by
 unfold eqN at e
 split at e
 ·rename_i xs ys
  obtain⟨a,us,e1,s1,l1⟩:=jck R h1
  obtain⟨c,ws,e2,s2,l2⟩:=jck R h2
  rw[e1]at e2
  cases e2
  have:=jsK I s1 s2
  subst this
  cases e3:jlg f xs ys with
  |none=>rw[e3]at e;cases e
  |some k =>
   rw[e3]at e
   cases e
   rw[jhM hf l1 l2 e3,jag l1,jag l2]
   simp
 ·split at e
  ·rename_i xs ys q1 q2
   obtain⟨a,us,e1,s1,l1⟩:=jbM R h1 q1
   obtain⟨c,ws,e2,s2,l2⟩:=jbM R h2 q2
   rw[e1]at e2
   cases e2
   have:=jsS I s1 s2
   subst this
   rw[if_pos (by rw[jag l1,jag l2])]at e
   exact jhM hf l1 l2 e
  ·cases e
theorem jjW (I:Inv X pins σ H s)(R:Rep X.K w μ H):∀(n:Nat) (d1 d2:D) (x:V) (b:Bool),Den X.K w μ.length d1 x→Den X.K w μ.length d2 x→eqD μ n d1 d2=some b→b=true
 |0,_,_,_,_,_,_,e=>by cases e
 |n+1,d1,d2,x,b,h1,h2,e=>by
  unfold eqD at e
  split at e
  ·rename_i x' y' e1 e2
   cases e
   obtain⟨q1,f1⟩:=jct h1 e1
   obtain⟨q2,f2⟩:=jct h2 e2
   rw[← q1,← q2]
   exact jjt f1
  ·exact jjH I R (jjW I R n) h1 h2 e
theorem jlO (I:Inv X pins σ H s)(R:Rep X.K w μ H){A:Around}{f:D→D→Option Bool}(hu:A.units < cLine)(hf:∀d1 d2 x y u v b,Den X.K w μ.length d1 x→Den X.K w μ.length d2 y→jba x u→jba y v→f d1 d2=some b→SeqAt.EqAt A.in1 s u v b)
  {d1 d2:D} {x y:V} {b:Bool} (h1:Den X.K w μ.length d1 x) (h2:Den X.K w μ.length d2 y) (e:eqN f μ d1 d2=some b) :
  ∃a c,x=.ref a∧y=.ref c∧SeqAt.RcAt A s (.ref a) (.ref c) b∧SeqAt.RcNeAt A s (.ref a) (.ref c) (!b):=by
 unfold eqN at e
 split at e
 ·rename_i xs ys
  obtain⟨a,us,rfl,s1,l1⟩:=jck R h1
  obtain⟨c,ws,rfl,s2,l2⟩:=jck R h2
  cases e3:jlg f xs ys with
  |none=>rw[e3]at e;cases e
  |some k =>
   rw[e3]at e
   cases e
   obtain⟨its,rv,p,_⟩:=I.tuple s1
   obtain⟨its2,rv2,p2,_⟩:=I.tuple s2
   obtain⟨g,hg,hk⟩:=jnE hf l1 l2 rv rv2 e3
   have hj:∀j (h1:j < its.toArray.size) (h2:j < its2.toArray.size),SeqAt.EqAt A.in1 s its.toArray[j] its2.toArray[j] (g j):=fun j h1 h2=>by
    have:=hg j (by simpa using h1) (by simpa using h2)
    simpa using this
   have t1:=SeqAt.RcAt.tuples (A:=A) (e:=g) (show s.heap.IsTuple a its.toArray from p) (show s.heap.IsTuple c its2.toArray from p2) hu hj
   have t2:=SeqAt.RcNeAt.tuples (A:=A) (e:=g) (show s.heap.IsTuple a its.toArray from p) (show s.heap.IsTuple c its2.toArray from p2) hu hj
   have el:(its.toArray.size == its2.toArray.size)=(xs.length == ys.length):=by
    rw[List.size_toArray,List.size_toArray,← rv.length,← rv2.length,jag l1,jag l2]
   have ek:(List.range (min its.toArray.size its2.toArray.size)).all g=k:=by simpa using hk
   rw[el,ek]at t1 t2
   exact⟨a,c,rfl,rfl,t1,t2⟩
 ·split at e
  ·rename_i xs ys q1 q2
   obtain⟨a,us,rfl,s1,l1⟩:=jbM R h1 q1
   obtain⟨c,ws,rfl,s2,l2⟩:=jbM R h2 q2
   obtain⟨its,rv,p,_⟩:=I.list s1
   obtain⟨its2,rv2,p2,_⟩:=I.list s2
   have z1:its.toArray.size=xs.length:=by rw[List.size_toArray,← rv.length,jag l1]
   have z2:its2.toArray.size=ys.length:=by rw[List.size_toArray,← rv2.length,jag l2]
   split at e
   ·rename_i hl
    obtain⟨g,hg,hk⟩:=jnE hf l1 l2 rv rv2 e
    have hj:∀j (h1:j < its.toArray.size) (h2:j < its2.toArray.size),SeqAt.EqAt A.in1 s its.toArray[j] its2.toArray[j] (g j):=fun j h1 h2=>by
     have:=hg j (by simpa using h1) (by simpa using h2)
     simpa using this
    have t1:=SeqAt.RcAt.lists (A:=A) (e:=g) p.isList p2.isList (by rw[z1,z2,hl]) hu hj
    have t2:=SeqAt.RcNeAt.lists (A:=A) (e:=g) p.isList p2.isList (by rw[z1,z2,hl]) hu hj
    have ek:(List.range its.toArray.size).all g=b:=by
     have:min its.length its2.length=its.toArray.size:=by
      rw[← List.size_toArray,← List.size_toArray,z1,z2,hl,Nat.min_self]
     rw[this]at hk
     exact hk
    rw[ek]at t1 t2
    exact⟨a,c,rfl,rfl,t1,t2⟩
   ·rename_i hl
    cases e
    have hne:(its.toArray.size != its2.toArray.size)=true:=by
     rw[z1,z2]
     simp[hl]
    exact⟨a,c,rfl,rfl,SeqAt.RcAt.lists_lengths (A:=A) p.isList p2.isList hne hu,SeqAt.RcNeAt.lists_lengths (A:=A) p.isList p2.isList hne hu⟩
  ·cases e
theorem jnv (I:Inv X pins σ H s)(R:Rep X.K w μ H):∀(n:Nat) {A:Around} (d1 d2:D) (x y:V) (u v:Value) (b:Bool),A.units+n < cLine →
  Den X.K w μ.length d1 x→Den X.K w μ.length d2 y→jba x u→jba y v→eqD μ n d1 d2=some b→SeqAt.EqAt A s u v b
 |0,A,d1,d2,x,y,u,v,b,hu,h1,h2,r1,r2,e=>by cases e
 |n+1,A,d1,d2,x,y,u,v,b,hu,h1,h2,r1,r2,e=>by
  have hu1:A.units < cLine:=by omega
  unfold eqD at e
  split at e
  ·rename_i x' y' e1 e2
   cases e
   obtain⟨rfl,f1⟩:=jct h1 e1
   obtain⟨rfl,f2⟩:=jct h2 e2
   exact jjY r1 r2 f1 f2
  ·obtain⟨a,c,rfl,rfl,t1,_⟩:=jlO I R hu1 (fun d1 d2 x y u v b=>jnv I R n (A:=A.in1) d1 d2 x y u v b (by rw[Around.in1_units];omega)) h1 h2 e
   cases r1
   cases r2
   by_cases hne:a=c
   ·subst hne
    rw[jjH I R (jjW I R n) h1 h2 e]
    exact SeqAt.EqAt.same _
   ·exact SeqAt.EqAt.of_refs hne t1
end
noncomputable def jxa (K:PySem.W.Frag)(ne:Bool):R2:=fun x y H Q=>(jwt x y=true∧Q (.bl (if ne then !decide (x=y) else decide (x=y))) H)∨∃w μ d1 d2 b,Rep K w μ H∧Den K w μ.length d1 x∧Den K w μ.length d2 y∧eqN (eqD μ 8) μ d1 d2=some b∧Q (.bl (if ne then !b else b)) H
theorem jt6 (hu:X.A.units+16 < cLine):OpR X (compareOp .Eq) (jxa X.K false):=by
 intro pins s σ H x y v u Q I rx ry h
 rcases h with ⟨hs,q⟩ | ⟨w,μ,d1,d2,b,R,h1,h2,e,q⟩
 ·exact jxz pins s σ H x y v u Q I rx ry ⟨hs,q⟩
 ·obtain⟨a,c,rfl,rfl,t1,_⟩:=jlO I R (A:=X.A) (by omega) (fun d1 d2 x y u v b=>jnv I R 8 (A:=X.A.in1) d1 d2 x y u v b (by rw[Around.in1_units];omega)) h1 h2 e
  cases rx
  cases ry
  exact t1 _ _ _ _ ⟨.bl b,H,I,rfl,q⟩
theorem jvq (hu:X.A.units+16 < cLine):OpR X (compareOp .NotEq) (jxa X.K true):=by
 intro pins s σ H x y v u Q I rx ry h
 rcases h with ⟨hs,q⟩ | ⟨w,μ,d1,d2,b,R,h1,h2,e,q⟩
 ·exact jwP pins s σ H x y v u Q I rx ry ⟨hs,q⟩
 ·obtain⟨a,c,rfl,rfl,_,t2⟩:=jlO I R (A:=X.A) (by omega) (fun d1 d2 x y u v b=>jnv I R 8 (A:=X.A.in1) d1 d2 x y u v b (by rw[Around.in1_units];omega)) h1 h2 e
  cases rx
  cases ry
  exact t2 _ _ _ _ ⟨.bl (!b),H,I,rfl,q⟩
noncomputable def jsg (K:PySem.W.Frag):R2:=fun x y H Q=>∃a c xs ys,x=.ref a∧y=.ref c∧SqT K H a xs∧SqT K H c ys∧Paired jq xs ys∧Q (.bl (jrt xs ys)) H
theorem jrn {w:Wd}{n:Nat}:∀{ds es:List D} {xs ys:List V} {b:Bool},DenL K w n ds xs→DenL K w n es ys→jvg ds es=some b→Paired jq xs ys∧jrt xs ys=b:=by
 intro ds es xs ys b h1 h2
 have p1:=jaC.mp h1
 have p2:=jaC.mp h2
 clear h1 h2
 induction p1 generalizing es ys b with
 |nil =>
  intro e
  cases p2 with
  |nil =>
   simp only[jvg,Option.some.injEq]at e
   exact⟨.nil,e⟩
  |cons _ _=>cases e
 |cons k1 t1 ih =>
  intro e
  cases p2 with
  |nil=>cases e
  |cons k2 t2 =>
   rename_i d1 x1 _ _ d2 x2 _ _
   simp only[jvg]at e
   split at e
   ·rename_i hc
    split at e
    ·rename_i a c r e1 e2 e3
     cases e
     obtain⟨q1,f1⟩:=jct k1 e1
     obtain⟨q2,f2⟩:=jct k2 e2
     subst q1 q2
     obtain⟨i1,i2⟩:=ih t2 e3
     have hv:jq x1 x2:=by
      cases d1 <;> cases d2 <;> first
       |(unfold Den at k1 k2;subst k1 k2;exact .inl ⟨_,_,rfl,rfl⟩)
       |(unfold Den at k1 k2;subst k1 k2;exact .inr ⟨_,_,rfl,rfl⟩)
       |cases hc
     refine⟨.cons hv i1,?_⟩
     unfold jrt
     rw[i2]
    ·cases e
   ·cases e
theorem jnh (hu:X.A.units+16 < cLine):OpR X (compareOp .Lt) (jsg X.K):=by
 intro pins s σ H x y v u Q I rx ry h
 obtain⟨a,c,xs,ys,rfl,rfl,h1,h2,hf,q⟩:=h
 cases rx
 cases ry
 obtain⟨us,ru,p1,_⟩:=I.tuple h1
 obtain⟨ws,rw',p2,_⟩:=I.tuple h2
 obtain⟨el,ev,hz⟩:=jlX hf ru rw'
 have t1:s.heap.IsTuple a us.toArray:=p1
 have t2:s.heap.IsTuple c ws.toArray:=p2
 obtain⟨⟨c1,d1,k1,z1⟩,g1,rfl,m1,rfl⟩:=t1
 obtain⟨⟨c2,d2,k2,z2⟩,g2,rfl,m2,rfl⟩:=t2
 have key:=jo1 a c us.toArray ws.toArray m1 m2 d1 d2 z1 z2 veq vlt (by simp[el])
 show wpAny (model X.prog X.w) X.A (richCompare .Lt (.ref a) (.ref c)) _ _ _
 refine richCompare_meets_room ⟨_,g1,rfl⟩ ⟨_,g2,rfl⟩ F.slot_tuple_lt F.entry_tuple_lt (F.args_tuple_lt_2 _ _) key ⟨g1,g2,fun p hp=>?_,fun p hp P W E Q' hq=>?_,?_⟩ (by omega)
 ·obtain⟨x,y,hc,r1,r2⟩:=hz p hp
  have:=jjY (A:=X.A.in1) (s:=s) r1 r2 hc.flat.1 hc.flat.2
  rw[← (jk hc r1 r2).1]at this
  exact this
 ·obtain⟨x,y,hc,r1,r2⟩:=hz p hp
  obtain⟨pu,pv⟩:=p
  rcases hc with ⟨i,k,rfl,rfl⟩ | ⟨i,k,rfl,rfl⟩
  ·obtain⟨t,rfl⟩:=r1
   obtain⟨t',rfl⟩:=r2
   exact (lt_int hq:wpAny (model P W) X.A.in1 (compareOp .Lt (.int i t) (.int k t')) Q' E s)
  ·obtain⟨t,rfl⟩:=r1
   obtain⟨t',rfl⟩:=r2
   exact (lt_str hq:wpAny (model P W) X.A.in1 (compareOp .Lt (.str i t) (.str k t')) Q' E s)
 ·show Value.bool (joR veq vlt (us.zip ws))≠Value.notImplemented∧EP X pins σ Q (Value.bool (joR veq vlt (us.zip ws))) s
  rw[ev]
  exact⟨(fun z=>nomatch z),.bl (jrt xs ys),H,I,rfl,q⟩
theorem jht {op:CmpOp}{a b d:D}{μ μ':M}(e:jeh op a b μ=.ok d μ'):∃r,jnF op a b μ=some r∧d=.bl r∧μ'=μ:=by
 unfold jeh at e
 split at e
 ·rename_i r hr
  cases e
  exact⟨r,hr,rfl,rfl⟩
 ·cases e
theorem ju5 {w:Wd}{n:Nat}{x:V}:∀{ds:List D} {xs:List V} {b:Bool},DenL K w n ds xs→jsl x ds=some b→xs.all jdx=true∧inV x xs=b:=by
 intro ds xs b h
 have p:=jaC.mp h
 clear h
 induction p generalizing b with
 |nil =>
  intro e
  cases e
  exact⟨rfl,rfl⟩
 |cons k t ih =>
  intro e
  simp only[jsl]at e
  split at e
  ·rename_i y r e1 e2
   cases e
   obtain⟨q,f⟩:=jct k e1
   obtain⟨i1,i2⟩:=ih e2
   refine⟨by rw[List.all_cons,f,i1];rfl,?_⟩
   unfold inV at i2 ⊢
   rw[List.any_cons,i2,q]
  ·cases e
theorem jjp {w:Wd}{μ:M}{H:Hp}{d:D}{v:V}{ks:List Key}{vs:List D}(R:Rep K w μ H)(h:Den K w μ.length d v)(e:jiC μ d=some (ks,vs)):∃a xs,v=.ref a∧ks.length=vs.length∧Rd H a (.dK (ks.zip xs))∧DenL K w μ.length vs xs:=by
 cases d with
 |dK ks' vs' =>
  simp only[jiC,Option.some.injEq,Prod.mk.injEq]at e
  obtain⟨rfl,rfl⟩:=e
  unfold Den at h
  obtain⟨a,xs,h1,h2,h3,h4⟩:=h
  exact⟨a,xs,h1,h2,.inl (R.sub _ _ h3),h4⟩
 |dF ks' vs' =>
  simp only[jiC,Option.some.injEq,Prod.mk.injEq]at e
  obtain⟨rfl,rfl⟩:=e
  unfold Den at h
  obtain⟨a,o,es,ep,xs,h1,h2,h3,h4,h5⟩:=h
  exact⟨a,xs,h1,h2,.inr ⟨o,R.sub _ _ h4⟩,h5⟩
 |cel k =>
  simp only[jiC]at e
  split at e
  ·rename_i ks' vs' hk
   simp only[Option.some.injEq,Prod.mk.injEq]at e
   obtain⟨rfl,rfl⟩:=e
   unfold Den at h
   obtain⟨xs,h0,h1,h2⟩:=(R.liv k _ hk).2
   exact⟨_,xs,h.2,h0,.inl h1,h2⟩
  ·cases e
 |_=>cases e
theorem jha {w:Wd}{n:Nat}(k:Key):∀{ks:List Key} {vs:List D} {xs:List V},DenL K w n vs xs→ks.length=vs.length→(∀d,jc7 k ks vs=some d→∃v,jgi (ks.zip xs) k=some v∧Den K w n d v)∧(jc7 k ks vs=none→jgi (ks.zip xs) k=none)
 |[],vs,xs,h,hl=>⟨fun d e=>(by cases e),fun _=>rfl⟩
 |g :: ks,[],xs,h,hl=>by cases hl
 |g :: ks,d :: vs,xs,h,hl=>by
  unfold DenL at h
  obtain⟨v,ws,rfl,h1,h2⟩:=h
  obtain⟨i1,i2⟩:=jha k h2 (by simpa using hl)
  rw[List.zip_cons_cons]
  by_cases c:g=k
  ·have a1:jc7 k (g :: ks) (d :: vs)=some d:=by unfold jc7;rw[if_pos c]
   rw[a1,jfx (p:=(g,v)) c]
   exact⟨fun d' e=>by cases e;exact⟨v,rfl,h1⟩,fun e=>by cases e⟩
  ·have a1:jc7 k (g :: ks) (d :: vs)=jc7 k ks vs:=by rw[jc7,if_neg c]
   rw[a1,jft (p:=(g,v)) c]
   exact⟨i1,i2⟩
theorem jvS {w:Wd}{n:Nat}{d:D}{v:V}{k:Key}(h:Den K w n d v)(e:jw3 d=some k):v=kV k:=by
 cases d <;> simp only[jw3,Option.some.injEq]at e <;> first | (subst e;unfold Den at h;exact h) | cases e
theorem jpW {neg:Bool}:jln K (fun a b μ=>match (inD μ a b).map (fun r=>if neg then !r else r) with
  |some r=>.ok (.bl r) μ
  |none=>.bad) (fun x y H Q=>rIn K neg x y H Q∨jrh neg x y H Q):=by
 intro w μ H d1 d2 d μ' v1 v2 Q R h1 h2 e q
 dsimp only at e
 cases e0:inD μ d1 d2 with
 |none=>rw[e0]at e;cases e
 |some r =>
  rw[e0]at e
  cases e
  unfold inD at e0
  split at e0
  ·rename_i ds e2
   split at e0
   ·rename_i x e1
    obtain⟨q1,f1⟩:=jct h1 e1
    obtain⟨a,xs,rfl,s2,l2⟩:=jej R h2 e2
    obtain⟨i1,i2⟩:=ju5 l2 e0
    exact .inl ⟨a,xs,rfl,s2,f1,i1,by rw[q1,i2];exact jah R q (by unfold Den;rfl)⟩
   ·cases e0
  ·split at e0
   ·rename_i k ks vs e1 e2
    cases e0
    obtain⟨a,xs,rfl,hl,hz,l2⟩:=jjp R h2 e2
    obtain⟨i1,i2⟩:=jha k l2 hl
    have es:(jgi (ks.zip xs) k).isSome=(jc7 k ks vs).isSome:=by
     cases hg:jc7 k ks vs with
     |none=>rw[i2 hg];rfl
     |some d =>
      obtain⟨v,hv,_⟩:=i1 d hg
      rw[hv]
      rfl
    exact .inr ⟨a,_,rfl,.inl ⟨_,k,hz,jvS h1 e1,rfl⟩,by rw[es];exact jah R q (by unfold Den;rfl)⟩
   ·cases e0
theorem jcW {f:D→D→M→Out D}{r:R2}(h:∀(w:Wd) (μ:M) (H:Hp) (d1 d2:D) (b:Bool) (v1 v2:V) (Q:VK),Rep K w μ H→Den K w μ.length d1 v1→Den K w μ.length d2 v2→f d1 d2 μ=.ok (.bl b) μ→Q (.bl b) H→r v1 v2 H Q)(hb:∀d1 d2 d μ μ',f d1 d2 μ=.ok d μ'→∃b,d=.bl b∧μ'=μ):jln K f r:=by
 intro w μ H d1 d2 d μ' v1 v2 Q R h1 h2 e q
 obtain⟨b,rfl,rfl⟩:=hb _ _ _ _ _ e
 exact h w μ' H d1 d2 b v1 v2 Q R h1 h2 e (jah R q (by unfold Den;rfl))
theorem jdY {op:CmpOp}:∀d1 d2 d μ μ',jeh op d1 d2 μ=.ok d μ'→∃b,d=.bl b∧μ'=μ:=fun _ _ _ _ _ e=>let ⟨r,_,h1,h2⟩:=jht e;⟨r,h1,h2⟩
theorem jf {op:CmpOp}{a b:D}{μ:M}{r:Bool}(e:jeh op a b μ=.ok (.bl r) μ):jnF op a b μ=some r:=by
 obtain⟨r',h,h1,_⟩:=jht e
 cases h1
 exact h
theorem jmn {w:Wd}{μ:M}{H:Hp}{d1 d2:D}{b:Bool}{v1 v2:V}{Q:VK}(ne:Bool)(R:Rep K w μ H)(h1:Den K w μ.length d1 v1)(h2:Den K w μ.length d2 v2)(e:jlb μ d1 d2=some b)(q:Q (.bl (if ne then !b else b)) H):jxa K ne v1 v2 H Q:=by
 unfold jlb at e
 split at e
 ·rename_i x y e1 e2
  split at e
  ·rename_i hs
   cases e
   obtain⟨rfl,_⟩:=jct h1 e1
   obtain⟨rfl,_⟩:=jct h2 e2
   exact .inl ⟨hs,q⟩
  ·cases e
 ·exact .inr ⟨w,μ,d1,d2,b,R,h1,h2,e,q⟩
theorem jmd {op:CmpOp}(hu:X.A.units+16 < cLine):∃r,OpR X (compareOp op) r∧jln X.K (jeh op) r:=by
 cases op with
 |Eq=>exact⟨_,jt6 hu,jcW (fun w μ H d1 d2 b v1 v2 Q R h1 h2 e q=>jmn false R h1 h2 (jf e) q) jdY⟩
 |NotEq =>
  refine⟨_,jvq hu,jcW (fun w μ H d1 d2 b v1 v2 Q R h1 h2 e q=>?_) jdY⟩
  have e':(jlb μ d1 d2).map (!·)=some b:=jf e
  cases e2:jlb μ d1 d2 with
  |none=>rw[e2]at e';cases e'
  |some c =>
   rw[e2]at e'
   cases e'
   exact jmn true R h1 h2 e2 q
 |Lt =>
  refine⟨_,(jxI.or (jmk.or (jnh hu))),jcW (fun w μ H d1 d2 b v1 v2 Q R h1 h2 e q=>?_) jdY⟩
  have e':=jf e
  simp only[jnF]at e'
  split at e'
  ·cases e'
   unfold Den at h1 h2
   exact .inl ⟨_,_,h1,h2,q⟩
  ·cases e'
   unfold Den at h1 h2
   exact .inr (.inl ⟨_,_,h1,h2,q⟩)
  ·obtain⟨a,us,rfl,s1,l1⟩:=jck R h1
   obtain⟨c,ws,rfl,s2,l2⟩:=jck R h2
   obtain⟨i1,i2⟩:=jrn l1 l2 e'
   exact .inr (.inr ⟨a,c,us,ws,rfl,rfl,s1,s2,i1,by rw[i2];exact q⟩)
  ·cases e'
 |LtE =>
  refine⟨_,(jwC.or jm8),jcW (fun w μ H d1 d2 b v1 v2 Q R h1 h2 e q=>?_) jdY⟩
  have e':=jf e
  simp only[jnF]at e'
  split at e'
  ·cases e'
   unfold Den at h1 h2
   exact .inl ⟨_,_,h1,h2,q⟩
  ·cases e'
   unfold Den at h1 h2
   exact .inr ⟨_,_,h1,h2,q⟩
  ·cases e'
 |Gt =>
  refine⟨_,jxy,jcW (fun w μ H d1 d2 b v1 v2 Q R h1 h2 e q=>?_) jdY⟩
  have e':=jf e
  simp only[jnF]at e'
  split at e'
  ·cases e'
   unfold Den at h1 h2
   exact⟨_,_,h1,h2,q⟩
  ·cases e'
 |GtE =>
  refine⟨_,jw9,jcW (fun w μ H d1 d2 b v1 v2 Q R h1 h2 e q=>?_) jdY⟩
  have e':=jf e
  simp only[jnF]at e'
  split at e'
  ·cases e'
   unfold Den at h1 h2
   exact⟨_,_,h1,h2,q⟩
  ·cases e'
 |In =>
  refine⟨_,jlC.or (jsJ (by omega)),fun w μ H d1 d2 d μ' v1 v2 Q R h1 h2 e q=>jpW (neg:=false) w μ H d1 d2 d μ' v1 v2 Q R h1 h2 ?_ q⟩
  obtain⟨r,hr,h3,h4⟩:=jht e
  have hr':inD μ d1 d2=some r:=hr
  dsimp only
  rw[hr',h3,h4]
  rfl
 |NotIn =>
  refine⟨_,jix.or (jkz (by omega)),fun w μ H d1 d2 d μ' v1 v2 Q R h1 h2 e q=>jpW (neg:=true) w μ H d1 d2 d μ' v1 v2 Q R h1 h2 ?_ q⟩
  obtain⟨r,hr,h3,h4⟩:=jht e
  have hr':(inD μ d1 d2).map (!·)=some r:=hr
  dsimp only
  rw[h3,h4]
  cases e2:inD μ d1 d2 with
  |none=>rw[e2]at hr';cases hr'
  |some c =>
   rw[e2]at hr'
   cases hr'
   rfl
 |Is =>
  refine⟨_,juM,jcW (fun w μ H d1 d2 b v1 v2 Q R h1 h2 e q=>?_) jdY⟩
  have e':=jf e
  simp only[jnF]at e'
  split at e'
  ·cases e'
   unfold Den at h1 h2
   exact⟨_,_,h1,h2,q⟩
  ·cases e'
 |IsNot =>
  refine⟨_,jnz,jcW (fun w μ H d1 d2 b v1 v2 Q R h1 h2 e q=>?_) jdY⟩
  have e':=jf e
  simp only[jnF]at e'
  split at e'
  ·cases e'
   unfold Den at h1 h2
   exact⟨_,_,h1,h2,q⟩
  ·cases e'
theorem jpp {w:Wd}{n:Nat}{ds:List D}{xs:List V}{i:Int}{d:D}(h:DenL K w n ds xs)(e:atI ds i=some d):∃v,atI xs i=some v∧Den K w n d v:=by
 unfold atI at e ⊢
 rw[jag h]at e
 cases e2:ixN xs.length i with
 |none=>rw[e2]at e;cases e
 |some j =>
  rw[e2]at e
  exact jc1 h e
theorem jm6 {w:Wd}{μ μ':M}{H:Hp}{d1 d:D}{v1 v2:V}{k:Key}{Q:VK}(R:Rep K w μ H)(h1:Den K w μ.length d1 v1)(hk:v2=kV k)(e:jtm d1 k μ=.ok d μ')(q:jjZ K w μ.length d μ' Q):jsd v1 v2 H Q:=by
 unfold jtm at e
 split at e
 ·rename_i ks vs e2
  split at e
  ·rename_i d' hd
   obtain⟨a,xs,rfl,hl,hz,l2⟩:=jjp R h1 e2
   obtain⟨v,hv,hdv⟩:=(jha k l2 hl).1 d' hd
   cases e
   exact⟨a,v,rfl,.inl ⟨_,k,hz,hk,hv.symm⟩,jah R q hdv⟩
  ·cases e
 ·cases e
theorem jwK:jln K ixD (fun x y H Q=>rIx K x y H Q∨jsd x y H Q):=by
 intro w μ H d1 d2 d μ' v1 v2 Q R h1 h2 e q
 unfold ixD at e
 split at e
 ·rename_i i
  unfold Den at h2
  split at e
  ·rename_i z
   unfold Den at h1
   split at e
   ·rename_i hz
    split at e
    ·rename_i c hc
     cases e
     exact .inl (.inr (.inr ⟨z,i,c,h1,h2,hz,hc,jah R q (by unfold Den;rfl)⟩))
    ·cases e
   ·cases e
  ·split at e
   ·rename_i ds hs
    split at e
    ·rename_i d' hd
     cases e
     obtain⟨a,xs,rfl,s1,l1⟩:=jej R h1 hs
     obtain⟨v,e1,e2⟩:=jpp l1 hd
     rcases s1 with s1 | s1
     ·exact .inl (.inl ⟨a,xs,i,v,rfl,h2,s1,e1,jah R q e2⟩)
     ·exact .inl (.inr (.inl ⟨a,xs,i,v,rfl,h2,s1,e1,jah R q e2⟩))
    ·cases e
   ·exact .inr (jm6 R h1 (k:=.inl i) h2 e q)
 ·rename_i k
  unfold Den at h2
  exact .inr (jm6 R h1 (k:=.inr k) h2 e q)
 ·cases e
noncomputable def jxR (K:PySem.W.Frag):V→Option Int→Option Int→Hp→VK→Prop:=fun x lo hi H Q=>jx1 x lo hi H Q∨(jxV K x lo hi H Q∨jx7 K x lo hi H Q)∨jx8 K x lo hi H Q
theorem jvO:SlR X (jxR X.K):=jvy.or ((jou.or jub).or jrW)
theorem jtA {m:Bool}{w:Wd}{μ μ':M}{H:Hp}{d1 d:D}{v1:V}{lo hi:Option Int}{Q:VK}(R:Rep K w μ H)(h1:Den K w μ.length d1 v1)(e:slD m d1 lo hi μ=.ok d μ')(q:jjZ K w μ.length d μ' Q):jxR K v1 lo hi H Q:=by
 unfold slD at e
 split at e
 ·split at e
  ·rename_i hz
   cases e
   unfold Den at h1
   exact .inl ⟨_,h1,hz,jah R q (by unfold Den;rfl)⟩
  ·cases e
 ·cases e
  obtain⟨a,us,rfl,s1,l1⟩:=jck R h1
  by_cases hw:HT.sIx us.length 0 lo=0∧HT.sIx us.length us.length hi=us.length
  ·refine .inr (.inl (.inl ⟨a,us,rfl,s1,hw,jah R q ?_⟩))
   have hw':=hw
   rw[← jag l1]at hw'
   unfold cutD
   rw[hw'.1,hw'.2,List.drop_zero,Nat.sub_zero,List.take_length]
   exact h1
  ·refine .inr (.inl (.inr ⟨a,us,rfl,s1,hw,fun p hp=>?_⟩))
   exact jcY R q hp fun w' x hz=>by unfold Den;exact⟨p,_,rfl,SqT.of hz,(l1.cut lo hi).mono x⟩
 ·split at e
  ·rename_i ds hs
   obtain⟨a,us,rfl,s1,l1⟩:=jbM R h1 hs
   exact .inr (.inr ⟨a,us,rfl,s1,jeb R (l1.cut lo hi) e q⟩)
  ·cases e
theorem jfP {w:Wd}{n:Nat}{ds:List D}{xs:List V}(h:DenL K w n ds xs):ds.isEmpty=xs.isEmpty:=by
 cases jaC.mp h <;> rfl
theorem jrk {w:Wd}{μ:M}{H:Hp}{d:D}{v:V}{b:Bool}(R:Rep K w μ H)(h:Den K w μ.length d v)(e:jwl μ d=some b):jwe K v H b:=by
 unfold jwl at e
 split at e
 ·cases e;unfold Den at h;subst h;rfl
 ·cases e;unfold Den at h;subst h;rfl
 ·cases e;unfold Den at h;subst h;rfl
 ·split at e
  ·rename_i hz
   cases e;unfold Den at h;subst h;exact⟨hz,rfl⟩
  ·cases e
 ·cases e
  obtain⟨a,us,rfl,s1,l1⟩:=jck R h
  exact .inr (.inl ⟨us,s1,by rw[jfP l1]⟩)
 ·cases e2:jfl μ d with
  |none=>rw[e2]at e;cases e
  |some ds =>
   rw[e2]at e
   cases e
   obtain⟨a,us,rfl,s1,l1⟩:=jbM R h e2
   exact .inl ⟨us,s1,by show (!ds.isEmpty)=_;rw[jfP l1]⟩
end
end _L3
namespace _L3
open PySem PySem.Spec PyProof.Rows _L2
section
variable {K:PySem.W.Frag} {X:Cx}
theorem jvT {σ:_L2.St}{H:Hp}{Q:List V→Hp→Prop}:T3A K (fun _ μ=>.ok [] μ) σ H Q→jxP σ H Q:=by
 rintro⟨w,μ,ρ,ds,μ',R,S,e,q⟩
 cases e
 exact q w H [] (Ext.refl _ _) R (by unfold DenL;rfl)
theorem jr6 {r1:S3→M→Out D}{r2:S3→M→Out (List D)}{σ:_L2.St}{H:Hp}{Q:List V→Hp→Prop} :
  T3A K (fun ρ μ=>(r1 ρ μ).bind fun d μ1=>(r2 ρ μ1).bind fun ds μ2=>.ok (d :: ds) μ2) σ H Q→jlW (T3E K r1) (T3A K r2) σ H Q:=by
 rintro⟨w,μ,ρ,d,μ',R,S,e,q⟩
 obtain⟨x,μ1,e1,e⟩:=Out.bind_ok e
 obtain⟨ys,μ2,e2,e⟩:=Out.bind_ok e
 cases e
 exact⟨w,μ,ρ,x,μ1,R,S,e1,fun w1 H1 v1 x1 R1 d1=>⟨w1,μ1,ρ,ys,_,R1,S.mono x1,e2,fun w2 H2 vs x2 R2 d2=>q w2 H2 (v1 :: vs) (x1.trans x2) R2 (by unfold DenL;exact⟨v1,vs,rfl,d1.mono x2,d2⟩)⟩⟩
noncomputable def jhQ (K:PySem.W.Frag)(f:List D→M→Out D)(r:List V→Hp→VK→Prop):Prop:=∀(w:Wd) (μ:M) (H:Hp) (ds:List D) (d:D) (μ':M) (vs:List V) (Q:VK),Rep K w μ H→DenL K w μ.length ds vs→f ds μ=.ok d μ'→jjZ K w μ.length d μ' Q→r vs H Q
theorem jd6 {f:List D→M→Out D}{r:List V→Hp→VK→Prop}{rl:S3→M→Out (List D)}(hs:jhQ K f r){σ:_L2.St}{H:Hp}{Q:VK} :
  T3E K (fun ρ μ=>(rl ρ μ).bind fun ds μ1=>f ds μ1) σ H Q→T3A K rl σ H fun vs H1=>r vs H1 Q:=by
 rintro⟨w,μ,ρ,d,μ',R,S,e,q⟩
 obtain⟨ds,μ1,e1,e⟩:=Out.bind_ok e
 exact⟨w,μ,ρ,ds,μ1,R,S,e1,fun w1 H1 vs x1 R1 d1=>hs w1 μ1 H1 ds d μ' vs Q R1 d1 e fun w3 H3 v x3 R3 d3=>q w3 H3 v (x1.trans x3) R3 d3⟩
theorem jgn {w:Wd}{n:Nat}{d:D}{vs:List V}(h:DenL K w n [d] vs):∃v,vs=[v]∧Den K w n d v:=by
 unfold DenL at h
 obtain⟨v,ws,rfl,h1,h2⟩:=h
 unfold DenL at h2
 subst h2
 exact⟨v,rfl,h1⟩
theorem jvi {w:Wd}{n:Nat}{d e:D}{vs:List V}(h:DenL K w n [d,e] vs):∃v u,vs=[v,u]∧Den K w n d v∧Den K w n e u:=by
 unfold DenL at h
 obtain⟨v,ws,rfl,h1,h2⟩:=h
 obtain⟨u,rfl,h3⟩:=jgn h2
 exact⟨v,u,rfl,h1,h3⟩
theorem jsG:jhQ K (fun ds μ=>if ds.length≤sizeLine then .ok (.tup ds) μ else .bad) (fun xs H Q=>xs.length≤sizeLine∧∀p,H p=none→Q (.ref p) (upd H p (.tup xs))):=by
 intro w μ H ds d μ' vs Q R h e q
 dsimp only at e
 split at e
 ·rename_i hl
  cases e
  refine⟨by rw[← jag h];exact hl,fun p hp=>?_⟩
  exact jcY R q hp fun w' x hz=>by unfold Den;exact⟨p,_,rfl,SqT.of hz,h.mono x⟩
 ·cases e
theorem jq0 {m:Bool}:jhQ K (fun ds μ=>if ds.length≤sizeLine then mkL m ds μ else .bad) (fun xs H Q=>xs.length≤sizeLine∧∀p,H p=none→Q (.ref p) (upd H p (.lst xs))):=by
 intro w μ H ds d μ' vs Q R h e q
 dsimp only at e
 split at e
 ·rename_i hl
  exact⟨by rw[← jag h];exact hl,jeb R h e q⟩
 ·cases e
noncomputable abbrev jxu (K:PySem.W.Frag):List V→Hp→VK→Prop:=fun xs H Q=>(∃p ys,xs=[.ref p]∧(SqL K H p ys∨SqT K H p ys)∧Q (.int ys.length) H)∨∃z,xs=[.str z]∧z.length≤sizeLine∧Q (.int z.length) H
theorem jrD:jhQ K jwR (jxu K):=by
 intro w μ H ds d μ' vs Q R h e q
 unfold jwR at e
 split at e
 ·split at e
  ·rename_i hz
   cases e
   obtain⟨v,rfl,h1⟩:=jgn h
   unfold Den at h1
   subst h1
   exact .inr ⟨_,rfl,hz,jah R q (by unfold Den;rfl)⟩
  ·cases e
 ·split at e
  ·rename_i xs hs
   cases e
   obtain⟨v,rfl,h1⟩:=jgn h
   obtain⟨a,ys,rfl,s1,l1⟩:=jej R h1 hs
   exact .inl ⟨a,ys,rfl,s1,by rw[← jag l1];exact jah R q (by unfold Den;rfl)⟩
  ·cases e
 ·cases e
theorem jr0:jhQ K jw2 (jyd K):=by
 intro w μ H ds d μ' vs Q R h e q
 unfold jw2 at e
 split at e
 ·split at e
  ·rename_i xs hs
   split at e
   ·rename_i ns hn
    cases e
    obtain⟨v,rfl,h1⟩:=jgn h
    obtain⟨a,ys,rfl,s1,l1⟩:=jbM R h1 hs
    have:=jhZ l1 hn
    subst this
    exact⟨a,ns,rfl,s1,jah R q (by unfold Den;rfl)⟩
   ·cases e
  ·cases e
 ·cases e
theorem js8:jhQ K jwL (fun xs H Q=>∃i j,xs=[.int i,.int j]∧Q (.int (if j < i then j else i)) H):=by
 intro w μ H ds d μ' vs Q R h e q
 unfold jwL at e
 split at e
 ·cases e
  obtain⟨v,u,rfl,h1,h2⟩:=jvi h
  unfold Den at h1 h2
  subst h1 h2
  exact⟨_,_,rfl,jah R q (by unfold Den;rfl)⟩
 ·cases e
theorem jqI:jhQ K jxg (fun xs H Q=>∃i j,xs=[.int i,.int j]∧Q (.int (if j > i then j else i)) H):=by
 intro w μ H ds d μ' vs Q R h e q
 unfold jxg at e
 split at e
 ·cases e
  obtain⟨v,u,rfl,h1,h2⟩:=jvi h
  unfold Den at h1 h2
  subst h1 h2
  exact⟨_,_,rfl,jah R q (by unfold Den;rfl)⟩
 ·cases e
theorem jn7 {m:Bool}:jhQ K (jq6 m) (fun xs H Q=>∃p ys,xs=[.ref p]∧(SqL K H p ys∨SqT K H p ys)∧∀l,H l=none→Q (.ref l) (upd H l (.lst ys))):=by
 intro w μ H ds d μ' vs Q R h e q
 unfold jq6 at e
 split at e
 ·split at e
  ·rename_i xs hs
   obtain⟨v,rfl,h1⟩:=jgn h
   obtain⟨a,ys,rfl,s1,l1⟩:=jej R h1 hs
   exact⟨a,ys,rfl,s1,jeb R l1 e q⟩
  ·cases e
 ·cases e
theorem jlK:jhQ K tupleD (fun xs H Q=>∃p ys,xs=[.ref p]∧((SqL K H p ys∧∀l,H l=none→Q (.ref l) (upd H l (.tup ys)))∨(SqT K H p ys∧Q (.ref p) H))):=by
 intro w μ H ds d μ' vs Q R h e q
 unfold tupleD at e
 split at e
 ·rename_i d0
  split at e
  ·rename_i xs hs
   cases e
   obtain⟨v,rfl,h1⟩:=jgn h
   unfold jeu at hs
   split at hs
   ·cases hs
    obtain⟨a,ys,rfl,s1,l1⟩:=jck R h1
    exact⟨a,ys,rfl,.inr ⟨s1,jah R q h1⟩⟩
   ·obtain⟨a,ys,rfl,s1,l1⟩:=jbM R h1 hs
    exact⟨a,ys,rfl,.inl ⟨s1,fun p hp=>jcY R q hp fun w' x hz=>by unfold Den;exact⟨p,_,rfl,SqT.of hz,l1.mono x⟩⟩⟩
  ·cases e
 ·cases e
theorem jlG:jhQ K jlM (fun xs H Q=>((∃i,xs=[.int i]∧Q (.int i) H)∨∃k,xs=[.bl k]∧Q (.int (if k then 1 else 0)) H)∨juk xs H Q):=by
 intro w μ H ds d μ' vs Q R h e q
 unfold jlM at e
 split at e
 ·cases e
  obtain⟨v,rfl,h1⟩:=jgn h
  unfold Den at h1
  subst h1
  exact .inl (.inl ⟨_,rfl,jah R q (by unfold Den;rfl)⟩)
 ·cases e
  obtain⟨v,rfl,h1⟩:=jgn h
  unfold Den at h1
  subst h1
  exact .inl (.inr ⟨_,rfl,jah R q (by unfold Den;rfl)⟩)
 ·split at e
  ·rename_i n hn
   split at e
   ·rename_i hz
    cases e
    obtain⟨v,rfl,h1⟩:=jgn h
    unfold Den at h1
    subst h1
    exact .inr ⟨_,n,rfl,hn,hz,jah R q (by unfold Den;rfl)⟩
   ·cases e
  ·cases e
 ·cases e
theorem jrO (hc:X.calm=true):jhQ X.K jwv (fun xs H Q=>X.calm=true∧∃(p:Addr) (bs:List Bool),xs=[.ref p]∧SqL X.K H p (bs.map V.bl)∧Q (.bl (bs.all id)) H):=by
 intro w μ H ds d μ' vs Q R h e q
 unfold jwv at e
 split at e
 ·split at e
  ·rename_i xs hs
   split at e
   ·rename_i ns hn
    cases e
    obtain⟨v,rfl,h1⟩:=jgn h
    obtain⟨a,ys,rfl,s1,l1⟩:=jbM R h1 hs
    have:=jjJ l1 hn
    subst this
    exact⟨hc,a,ns,rfl,s1,jah R q (by unfold Den;rfl)⟩
   ·cases e
  ·cases e
 ·cases e
theorem jrp:jhQ K jw7 (fun xs H Q=>(∃i,xs=[.int i]∧i.natAbs.log2 < 1920∧Q (.str (toString i)) H)∨ju4 xs H Q):=by
 intro w μ H ds d μ' vs Q R h e q
 unfold jw7 at e
 split at e
 ·split at e
  ·rename_i hz
   cases e
   obtain⟨v,rfl,h1⟩:=jgn h
   unfold Den at h1
   subst h1
   exact .inl ⟨_,rfl,hz,jah R q (by unfold Den;rfl)⟩
  ·cases e
 ·cases e
  obtain⟨v,rfl,h1⟩:=jgn h
  unfold Den at h1
  subst h1
  exact .inr ⟨_,rfl,jah R q (by unfold Den;rfl)⟩
 ·cases e
theorem jo8 {μ:M}{d:D}{t:String}(e:tyD μ d=some t):(d=.non∧t = "NoneType")∨(∃b,d=.bl b∧t = "bool")∨(∃i,d=.int i∧t = "int")∨(∃x,d=.str x∧t = "str")∨(∃ds,d=.tup ds∧t = "tuple")∨(∃ds,jfl μ d=some ds∧t = "list"):=by
 cases d with
 |non=>cases e;exact .inl ⟨rfl,rfl⟩
 |bl b=>cases e;exact .inr (.inl ⟨b,rfl,rfl⟩)
 |int i=>cases e;exact .inr (.inr (.inl ⟨i,rfl,rfl⟩))
 |str x=>cases e;exact .inr (.inr (.inr (.inl ⟨x,rfl,rfl⟩)))
 |tup ds=>cases e;exact .inr (.inr (.inr (.inr (.inl ⟨ds,rfl,rfl⟩))))
 |scr ds=>cases e
 |lst ds=>cases e;exact .inr (.inr (.inr (.inr (.inr ⟨ds,rfl,rfl⟩))))
 |cel k =>
  simp only[tyD]at e
  cases e2:jfl μ (.cel k) with
  |none=>rw[e2]at e;cases e
  |some ds=>rw[e2]at e;cases e;exact .inr (.inr (.inr (.inr (.inr ⟨ds,rfl,rfl⟩))))
 |_=>cases e
theorem juK {n t:String} {b:Bool} (ht:t = "NoneType"∨t = "bool"∨t = "int"∨t = "str"∨t = "tuple"∨t = "list") (e:jwx n t=some b):PySem.W.kitOne K (.type t) (.type n)=some b:=by
 unfold jwx at e
 split at e
 ·rename_i hn
  subst hn
  rcases ht with rfl | rfl | rfl | rfl | rfl | rfl <;> (cases e;rfl)
 ·split at e
  ·rename_i hn
   rcases hn with rfl | rfl | rfl | rfl | rfl <;> rcases ht with rfl | rfl | rfl | rfl | rfl | rfl <;> (cases e;rfl)
  ·cases e
noncomputable def jxk (K:PySem.W.Frag)(n:String):List V→Hp→VK→Prop:=fun xs H Q=>∃(x:V) (w:Wd) (μ:M) (d:D) (t:String) (b:Bool),xs=[x,.ty n]∧Rep K w μ H∧Den K w μ.length d x∧tyD μ d=some t∧jwx n t=some b∧Q (.bl b) H
theorem jo7 {n:String}:jcd X (.builtin "isinstance") (jxk X.K n):=by
 intro pins s σ H xs us Q I r h
 obtain⟨x,w,μ,d,t,b,rfl,R,hd,ht,hb,q⟩:=h
 obtain⟨u,u2,rfl,ru,ru2⟩:=r.two
 cases (show u2=Value.type n from ru2)
 have hk:∀hh,PySem.W.kitOne X.K (.type t) (.type n)=some b:=fun hh=>juK hh hb
 have fin:∀tk,EP X pins σ Q (.bool b) {s with toks:=tk}:=fun tk=>⟨.bl b,H,I.tok tk,rfl,q⟩
 rcases jo8 ht with ⟨rfl,rfl⟩ | ⟨k,rfl,rfl⟩ | ⟨i,rfl,rfl⟩ | ⟨y,rfl,rfl⟩ | ⟨ds,rfl,rfl⟩ | ⟨ds,e,rfl⟩
 ·unfold Den at hd
  subst hd
  exact jem I ru .non (hk (by simp)) fin
 ·unfold Den at hd
  subst hd
  exact jem I ru (.bl k) (hk (by simp)) fin
 ·unfold Den at hd
  subst hd
  exact jem I ru (.int i) (hk (by simp)) fin
 ·unfold Den at hd
  subst hd
  exact jem I ru (.str y) (hk (by simp)) fin
 ·obtain⟨a,xs,rfl,s1,_⟩:=jck R hd
  cases ru
  obtain⟨its,_,p,_⟩:=I.tuple s1
  obtain⟨o,h1,h2,_⟩:=p
  exact PySem.W.kia_one PySem.W.kitx_tuple I.kIn ⟨o,h1,h2⟩ (hk (by simp)) (fun z=>nomatch z) fin
 ·obtain⟨a,xs,rfl,s1,_⟩:=jbM R hd e
  cases ru
  obtain⟨its,_,p,_⟩:=I.list s1
  obtain⟨o,n1,h1,h2,_⟩:=p
  exact PySem.W.kia_one PySem.W.kitx_list I.kIn ⟨o,h1,h2⟩ (hk (by simp)) (fun z=>nomatch z) fin
theorem js2 {n:String}{w:Wd}{μ μ':M}{H:Hp}{ds:List D}{d:D}{vs:List V}{Q:VK}(R:Rep K w μ H)(h:DenL K w μ.length ds vs)(e:jwi n ds μ=.ok d μ')(q:jjZ K w μ.length d μ' Q):jxk K n (vs++[.ty n]) H Q:=by
 unfold jwi at e
 split at e
 ·rename_i d0
  split at e
  ·rename_i t ht
   split at e
   ·rename_i r hr
    cases e
    obtain⟨v,rfl,h1⟩:=jgn h
    exact⟨v,w,μ,d0,t,r,rfl,R,h1,ht,hr,jah R q (by unfold Den;rfl)⟩
   ·cases e
  ·cases e
 ·cases e
noncomputable def jtM (K:PySem.W.Frag)(f:D→List D→M→Out D)(r:V→List V→Hp→VK→Prop):Prop:=∀(w:Wd) (μ:M) (H:Hp) (o:D) (x:V) (ds:List D) (d:D) (μ':M) (vs:List V) (Q:VK),Rep K w μ H→Den K w μ.length o x→DenL K w μ.length ds vs→f o ds μ=.ok d μ'→jjZ K w μ.length d μ' Q→r x vs H Q
theorem Rep.putL {w:Wd}{μ:M}{H:Hp}{k:Nat}{ds es:List D}{ys:List V}(R:Rep K w μ H)(hk:μ[k]?=some (some (.lst ds)))(h:DenL K w μ.length es ys):Rep K w (μ.set k (some (.lst es))) (upd H (w.γ k) (.lst ys)):=R.put hk (.lst ys) ⟨ys,jay,h⟩
theorem jjy {w:Wd}{μ:M}{H':Hp}{k:Nat}{c:Cl}{d:D}{v:V}{Q:VK}(R:Rep K w (μ.set k (some c)) H')(q:jjZ K w μ.length d (μ.set k (some c)) Q)(h:Den K w μ.length d v):Q v H':=by
 have hl:(μ.set k (some c)).length=μ.length:=List.length_set
 exact q w H' v (by rw[hl];exact Ext.refl _ _) R (by rw[hl];exact h)
theorem jrN:jtM K jwu rAppend:=by
 intro w μ H o x ds d μ' vs Q R h1 h2 e q
 unfold jwu at e
 split at e
 ·rename_i k d0
  split at e
  ·rename_i xs hk
   split at e
   ·rename_i hz
    cases e
    obtain⟨v,rfl,h3⟩:=jgn h2
    unfold Den at h1
    obtain⟨ys,g1,g2⟩:=(R.liv k _ hk).2
    refine⟨w.γ k,ys,v,h1.2,rfl,g1,by rw[← jag g2];exact hz,?_⟩
    exact jjy (R.putL hk (g2.append (DenL.one h3))) q (by unfold Den;rfl)
   ·cases e
  ·cases e
 ·cases e
theorem jqD:jtM K jxc rExtend:=by
 intro w μ H o x ds d μ' vs Q R h1 h2 e q
 unfold jxc at e
 split at e
 ·rename_i k zs
  split at e
  ·rename_i xs hk
   split at e
   ·rename_i hz
    cases e
    obtain⟨v,rfl,h3⟩:=jgn h2
    unfold Den at h1 h3
    obtain⟨ys,g1,g2⟩:=(R.liv k _ hk).2
    obtain⟨b,us,rfl,g3,g4⟩:=h3
    refine⟨w.γ k,b,ys,us,h1.2,rfl,g1,R.sub _ _ g3,by rw[← jag g2,← jag g4];exact hz,?_⟩
    exact jjy (R.putL hk (g2.append g4)) q (by unfold Den;rfl)
   ·cases e
  ·cases e
 ·cases e
theorem jpr:jtM K jpd (jvw K):=by
 intro w μ H o x ds d μ' vs Q R h1 h2 e q
 unfold jpd at e
 split at e
 ·split at e
  ·rename_i xs hs
   split at e
   ·rename_i ys hy
    split at e
    ·rename_i hz
     cases e
     obtain⟨v,rfl,h3⟩:=jgn h2
     unfold Den at h1
     obtain⟨a,us,rfl,s1,l1⟩:=jbM R h3 hs
     have:=jex l1 hy
     subst this
     exact⟨_,a,ys,h1,rfl,s1,hz,jah R q (by unfold Den;rfl)⟩
    ·cases e
   ·cases e
  ·cases e
 ·cases e
theorem jfc {w:Wd}{n:Nat}:∀zs:List Str,DenL K w n (zs.map D.str) (zs.map V.str)
 |[]=>by unfold DenL;rfl
 |z :: zs=>by rw[List.map_cons,List.map_cons];unfold DenL;exact⟨_,_,rfl,by unfold Den;rfl,jfc zs⟩
theorem jmE:jtM K jmV rSplit:=by
 intro w μ H o x ds d μ' vs Q R h1 h2 e q
 unfold jmV at e
 split at e
 ·rename_i z y
  split at e
  ·rename_i hz
   cases e
   obtain⟨v,rfl,h3⟩:=jgn h2
   unfold Den at h1 h3
   subst h3
   exact⟨z,y,h1,rfl,hz.1,hz.2,fun p hp=>jcY R q hp fun w' x hz=>by unfold Den;exact⟨p,_,rfl,hz,jfc _⟩⟩
  ·cases e
 ·cases e
theorem jhq {f:D→List D→M→Out D}{ok:D→M→Bool}{T:String}{r:V→List V→Hp→VK→Prop}{ro:S3→M→Out D}{rl:S3→M→Out (List D)}(hs:jtM K f r)(ht:∀(w:Wd) (μ:M) (H:Hp) (o:D) (x:V),Rep K w μ H→Den K w μ.length o x→ok o μ=true→tyV K T x H){σ:_L2.St}{H:Hp}{Q:VK} :
  T3E K (fun ρ μ=>(ro ρ μ).bind fun x μ1=>if ok x μ1 then (rl ρ μ1).bind fun ds μ2=>f x ds μ2 else .bad) σ H Q→tBM K T r (T3E K ro) (T3A K rl) σ H Q:=by
 rintro⟨w,μ,ρ,d,μ',R,S,e,q⟩
 obtain⟨x,μ1,e1,e⟩:=Out.bind_ok e
 split at e
 ·rename_i hok
  obtain⟨ds,μ2,e2,e⟩:=Out.bind_ok e
  exact⟨w,μ,ρ,x,μ1,R,S,e1,fun w1 H1 v1 x1 R1 d1=>⟨ht w1 μ1 H1 x v1 R1 d1 hok,⟨w1,μ1,ρ,ds,μ2,R1,S.mono x1,e2,fun w2 H2 vs x2 R2 d2=>hs w2 μ2 H2 x v1 ds d μ' vs Q R2 (d1.mono x2) d2 e fun w3 H3 v x3 R3 d3=>q w3 H3 v ((x1.trans x2).trans x3) R3 d3⟩⟩⟩
 ·cases e
theorem jh4 {b:Mt}{w:Wd}{μ:M}{H:Hp}{o:D}{x:V}(hb:b=.append∨b=.extend)(R:Rep K w μ H)(h:Den K w μ.length o x)(e:jmo b o μ=true):tyV K "list" x H:=by
 cases o with
 |cel k =>
  have e':(match μ[k]? with | some (some (.lst _))=>true | _=>false)=true:=by
   rcases hb with rfl | rfl <;> exact e
  split at e'
  ·rename_i ds hk
   unfold Den at h
   obtain⟨ys,g1,g2⟩:=(R.liv k _ hk).2
   rw[h.2]
   exact .inl ⟨rfl,ys,SqL.of g1⟩
  ·cases e'
 |_=>rcases hb with rfl | rfl <;> cases e
theorem ji7 {w:Wd}{μ:M}{H:Hp}{o:D}{x:V}(h:Den K w μ.length o x)(e:jmo .split o μ=true):tyV K "str" x H:=by
 cases o with
 |str z =>
  unfold Den at h
  subst h
  rfl
 |_=>cases e
theorem jo4 {w:Wd}{μ:M}{H:Hp}{o:D}{x:V}(h:Den K w μ.length o x)(e:jmo .join o μ=true):tyV K "str" x H:=by
 cases o with
 |str z =>
  unfold Den at h
  subst h
  rfl
 |_=>cases e
end
end _L3
namespace _L3
open PySem PySem.Spec PyProof.Rows _L2
section
variable {K:PySem.W.Frag} {X:Cx}
noncomputable def jyx (K:PySem.W.Frag)(tl:TE):TI:=fun σ H R=>tl σ H fun x H1=>∃a,x=.ref a∧((∃xs,SqL K H1 a xs∧R (Itl K a) H1)∨∃xs,SqT K H1 a xs∧R (Itt K a) H1)
theorem jtL {tg e:Expr}{te:TE}(h:PE X e te):PI X tg e (jyx X.K te):=by
 intro pins s σ H R I hw
 refine thn (h pins s σ H _ I hw) fun v s1 ⟨x,H1,I1,r1,q1⟩=>?_
 obtain⟨a,e,q⟩:=q1
 subst e
 cases r1
 rcases q with ⟨xs,hq,q⟩ | ⟨xs,hq,q⟩
 ·obtain⟨its,rv,p,hz⟩:=I1.list hq
  refine wpAny_pyIter_list p.isList ?_
  refine⟨s1.heap.objs.size,[s1.heap.objs.size],_,_,H1,rfl,I1.kept (t':=s1.toks) fun b o e=>Heap.get?_push_of_some _ e,jnB a _,⟨_,Heap.get?_push_size _ rfl,rfl,rfl⟩,fun b hb=>?_,q⟩
  have e:b=s1.heap.objs.size:=by simpa using hb
  subst e
  exact I1.fpOk (Nat.le_refl _) (I1.hok.fresh (Nat.le_refl _))
 ·obtain⟨its,rv,p,hz⟩:=I1.tuple hq
  refine wpAny_pyIter_tuple (show s1.heap.IsTuple a its.toArray from p) ?_
  refine⟨s1.heap.objs.size,[s1.heap.objs.size],_,_,H1,rfl,I1.kept (t':=s1.toks) fun b o e=>Heap.get?_push_of_some _ e,jlc a _,⟨_,Heap.get?_push_size _ rfl,rfl,rfl⟩,fun b hb=>?_,q⟩
  have e:b=s1.heap.objs.size:=by simpa using hb
  subst e
  exact I1.fpOk (Nat.le_refl _) (I1.hok.fresh (Nat.le_refl _))
theorem imI {tg it:Expr}{t t':TI}(h:PI X tg it t)(k:∀σ H R,t' σ H R→t σ H R):PI X tg it t':=fun pins s σ H R I hw=>h pins s σ H R I (k σ H R hw)
noncomputable def jti (K:PySem.W.Frag)(w:Wd)(n:Nat)(ok:M→Bool)(xs:List D)(J:It):Prop:=∀(w2:Wd) (μ2:M) (H2:Hp),Ext w w2 n μ2.length→Rep K w2 μ2 H2→ok μ2=true →
 J.stop xs.length H2∧∀i d,xs[i]?=some d→J.go i H2∧∀x H3,J.yld i H2 x H3→∃w3,Ext w2 w3 μ2.length μ2.length∧Rep K w3 μ2 H3∧Den K w3 μ2.length d x
noncomputable def T3I (K:PySem.W.Frag)(ik:IK)(r:S3→M→Out (List D)):TI:=fun σ H R=>∃(w:Wd) (μ:M) (ρ:S3) (ds:List D) (μ1:M) (xs:List D),Rep K w μ H∧jcz K w μ.length ρ σ∧r ρ μ=.ok ds μ1∧itD ik ds μ1=some xs ∧
 ∀w' H' J,Ext w w' μ.length μ1.length→Rep K w' μ1 H'→jti K w' μ1.length (je5 ik ds xs) xs J→R J H'
theorem jeA {ik:IK}{ds xs:List D}{μ:M}:je5 ik ds xs μ=true ↔ itD ik ds μ=some xs:=by
 unfold je5
 exact @decide_eq_true_iff _ (Classical.propDecidable _)
theorem jt4 {w:Wd}{n:Nat}{ok:M→Bool}{xs:List D}{a:Addr}(h:∀(w2:Wd) (μ2:M) (H2:Hp),Ext w w2 n μ2.length→Rep K w2 μ2 H2→ok μ2=true→∃ys,SqL K H2 a ys∧DenL K w2 μ2.length xs ys):jti K w n ok xs (Itl K a):=by
 intro w2 μ2 H2 x2 R2 hk
 obtain⟨ys,s1,l1⟩:=h w2 μ2 H2 x2 R2 hk
 refine⟨⟨ys,s1,by rw[← jag l1];exact Nat.le_refl _⟩,fun i d hd=>?_⟩
 obtain⟨v,e1,e2⟩:=jc1 l1 hd
 refine⟨⟨ys,v,s1,e1⟩,fun x H3 y=>?_⟩
 obtain⟨rfl,y⟩:=y
 have:=y ys s1
 rw[e1]at this
 cases this
 exact⟨w2,Ext.refl _ _,R2,e2⟩
theorem jwg {w:Wd}{n:Nat}{ok:M→Bool}{xs:List D}{a:Addr}(h:∀(w2:Wd) (μ2:M) (H2:Hp),Ext w w2 n μ2.length→Rep K w2 μ2 H2→ok μ2=true→∃ys,SqT K H2 a ys∧DenL K w2 μ2.length xs ys):jti K w n ok xs (Itt K a):=by
 intro w2 μ2 H2 x2 R2 hk
 obtain⟨ys,s1,l1⟩:=h w2 μ2 H2 x2 R2 hk
 refine⟨⟨ys,s1,by rw[← jag l1];exact Nat.le_refl _⟩,fun i d hd=>?_⟩
 obtain⟨v,e1,e2⟩:=jc1 l1 hd
 refine⟨⟨ys,v,s1,e1⟩,fun x H3 y=>?_⟩
 obtain⟨rfl,y⟩:=y
 have:=y ys s1
 rw[e1]at this
 cases this
 exact⟨w2,Ext.refl _ _,R2,e2⟩
theorem jls {r:S3→M→Out D}{ρ:S3}{μ μ1:M}{ds:List D}(e:((r ρ μ).bind fun d μ1=>(Out.ok [] μ1).bind fun ds μ2=>.ok (d :: ds) μ2)=.ok ds μ1):∃d,ds=[d]∧r ρ μ=.ok d μ1:=by
 obtain⟨d,μ2,e1,e⟩:=Out.bind_ok e
 cases e
 exact⟨d,rfl,e1⟩
theorem jqG {tg it:Expr}{r:S3→M→Out D}(h:PE X it (T3E X.K r)):PI X tg it (T3I X.K .seq (fun ρ μ=>(r ρ μ).bind fun d μ1=>(Out.ok [] μ1).bind fun ds μ2=>.ok (d :: ds) μ2)):=by
 refine imI (jtL h) fun σ H R=>?_
 rintro⟨w,μ,ρ,ds,μ1,xs,Rp,S,e,ei,q⟩
 obtain⟨d,rfl,e1⟩:=jls e
 refine⟨w,μ,ρ,d,μ1,Rp,S,e1,fun w1 H1 v x1 R1 d1=>?_⟩
 have ei':jeu μ1 d=some xs:=ei
 by_cases ht:∃ds,d=.tup ds
 ·obtain⟨ds,rfl⟩:=ht
  cases ei'
  obtain⟨a,ys,rfl,s1,l1⟩:=jck R1 d1
  refine⟨a,rfl,.inr ⟨ys,s1,q w1 H1 _ x1 R1 (jwg fun w2 μ2 H2 x2 R2 hk=>?_)⟩⟩
  obtain⟨a',ys',ea,s2,l2⟩:=jck R2 (d1.mono x2)
  cases ea
  exact⟨ys',s2,l2⟩
 ·have hL:∀μ,jeu μ d=jfl μ d:=fun μ=>by
   cases d with
   |tup ds=>exact absurd ⟨ds,rfl⟩ ht
   |_=>rfl
  rw[hL]at ei'
  obtain⟨a,ys,rfl,s1,l1⟩:=jbM R1 d1 ei'
  refine⟨a,rfl,.inl ⟨ys,s1,q w1 H1 _ x1 R1 (jt4 fun w2 μ2 H2 x2 R2 hk=>?_)⟩⟩
  have e2:jeu μ2 d=some xs:=jeA.mp hk
  rw[hL]at e2
  obtain⟨a',ys',ea,s2,l2⟩:=jbM R2 (d1.mono x2) e2
  cases ea
  exact⟨ys',s2,l2⟩
theorem jlw:∀{ds:List D} {k i:Nat} {d:D},(ji4 k ds)[i]?=some d→∃x,ds[i]?=some x∧d=.tup [.int ((k+i:Nat):Int),x]
 |[],_,_,_,e=>by simp[ji4]at e
 |x :: ds,k,0,d,e=>by
  simp only[ji4,List.getElem?_cons_zero,Option.some.injEq]at e
  exact⟨x,rfl,e.symm⟩
 |x :: ds,k,i+1,d,e=>by
  simp only[ji4,List.getElem?_cons_succ]at e
  obtain⟨y,h1,h2⟩:=jlw e
  exact⟨y,by simpa using h1,by rw[h2];congr 4;omega⟩
theorem jnf:∀(ds:List D) (k:Nat),(ji4 k ds).length=ds.length
 |[],_=>rfl
 |x :: ds,k=>by simp[ji4,jnf ds]
noncomputable def jx0:D→Bool
 |.tup _=>true
 |_=>false
theorem jeT {w:Wd}{μ:M}{H:Hp}{d:D}{v:V}{ds:List D}(R:Rep K w μ H)(h:Den K w μ.length d v)(e:jeu μ d=some ds):∃a xs,v=.ref a∧SqB (jx0 d) K H a xs∧DenL K w μ.length ds xs:=by
 by_cases ht:∃ds,d=.tup ds
 ·obtain⟨es,rfl⟩:=ht
  cases e
  exact jck R h
 ·have hL:jeu μ d=jfl μ d∧jx0 d=false:=by
   cases d with
   |tup ds=>exact absurd ⟨ds,rfl⟩ ht
   |_=>exact⟨rfl,rfl⟩
  rw[hL.1]at e
  rw[hL.2]
  exact jbM R h e
theorem jsI {elts:List Expr} {x1:Nat} {tpos p pos:Pos} {a:Expr} {r:S3→M→Out (List D)} (hg:jcj X.env.scope "enumerate" = true) (hm:X.mg "enumerate" = none) (ha:PA X [a] (T3A X.K r)) (hs:jbm a=true) :
  PI X (.Tuple elts x1 tpos) (.Call (.Name "enumerate" p) [a] [] pos) (T3I X.K .enm r):=by
 refine imI (jnM (jax hg).1 hm ha (jaA hs)) fun σ H R=>?_
 rintro⟨w,μ,ρ,ds,μ1,xs,Rp,S,e,ei,q⟩
 refine⟨w,μ,ρ,ds,μ1,Rp,S,e,fun w1 H1 vs x1 R1 d1=>?_⟩
 replace ei:jrJ ds μ1=some xs:=ei
 unfold jrJ at ei
 split at ei
 case h_2=>cases ei
 rename_i d
 cases e0:jeu μ1 d with
 |none=>rw[e0]at ei;cases ei
 |some ys0 =>
  rw[e0]at ei
  cases ei
  obtain⟨v,rfl,h1⟩:=jgn d1
  obtain⟨a,ys,rfl,s1,l1⟩:=jeT R1 h1 e0
  refine⟨a,_,rfl,⟨ys,s1⟩,q w1 H1 _ x1 R1 ?_⟩
  intro w2 μ2 H2 x2 R2 hk
  have e2:(jeu μ2 d).map (ji4 0)=some (ji4 0 ys0):=jeA.mp hk
  cases e3:jeu μ2 d with
  |none=>rw[e3]at e2;cases e2
  |some zs =>
   rw[e3]at e2
   have hz:ji4 0 zs=ji4 0 ys0:=by simpa using e2
   obtain⟨a',ys',ea,s2,l2⟩:=jeT R2 (h1.mono x2) e3
   cases ea
   rw[← hz]
   refine⟨⟨ys',s2,by rw[← jag l2,← jnf zs 0]⟩,fun i d' hd=>?_⟩
   obtain⟨x0,g1,rfl⟩:=jlw hd
   obtain⟨u,u1,u2⟩:=jc1 l2 g1
   refine⟨⟨ys',u,s2,u1⟩,fun x H3 y=>?_⟩
   obtain⟨p,y0,rfl,hn,rfl,y⟩:=y
   have:=y ys' s2
   rw[u1]at this
   cases this
   obtain⟨R3,x3⟩:=R2.frz hn (.tup [.int (i:Int),u])
   refine⟨_,x3,R3,?_⟩
   unfold Den
   refine⟨p,_,rfl,SqT.of jay,?_⟩
   unfold DenL
   exact⟨_,_,rfl,by unfold Den;simp,DenL.one (u2.mono x3)⟩
theorem jli:∀{ks:List Key} {vs:List D} {i:Nat} {d:D},(jlf ks vs)[i]?=some d→∃k v,ks[i]?=some k∧vs[i]?=some v∧d=.tup [jjj k,v]
 |[],_,_,_,e=>by simp[jlf]at e
 |_ :: _,[],_,_,e=>by simp[jlf]at e
 |x :: xs,y :: ys,0,d,e=>by
  simp only[jlf,List.getElem?_cons_zero,Option.some.injEq]at e
  exact⟨x,y,rfl,rfl,e.symm⟩
 |x :: xs,y :: ys,i+1,d,e=>by
  simp only[jlf,List.getElem?_cons_succ]at e
  obtain⟨a,b,h1,h2,h3⟩:=jli e
  exact⟨a,b,by simpa using h1,by simpa using h2,h3⟩
theorem jlt:∀(ks:List Key) (vs:List D),(jlf ks vs).length=min ks.length vs.length
 |[],_=>by simp[jlf]
 |_ :: _,[]=>by simp[jlf]
 |x :: xs,y :: ys=>by simp only[jlf,List.length_cons,jlt xs ys,Nat.add_min_add_right]
theorem jrd {w:Wd}{n:Nat}(k:Key):Den K w n (jjj k) (kV k):=by
 rcases k with i | x <;> (unfold jjj;dsimp only;unfold Den;rfl)
noncomputable def jjb:Expr→Bool
 |.Call _ as _ _=>!as.isEmpty
 |_=>true
theorem joJ {e:Expr}{f:Str}{env:Env}(h:jjb e=true):attributeBase e f env (eval e env)=eval e env:=by
 cases e with
 |Call g as ks p =>
  cases as with
  |nil=>cases h
  |cons a as=>cases g <;> rfl
 |_=>rfl
theorem jnD {elts:List Expr}{x1:Nat}{tpos apos pos:Pos}{a:Expr}{r:S3→M→Out D}(hb:jjb a=true)(hl:(apos.endLine == pos.line)=true)(h:PE X a (T3E X.K r)) :
  PI X (.Tuple elts x1 tpos) (.Call (.Attribute a "items" apos) [] [] pos) (T3I X.K .items (fun ρ μ=>(r ρ μ).bind fun d μ1=>(Out.ok [] μ1).bind fun ds μ2=>.ok (d :: ds) μ2)):=by
 refine imI (joW h (joJ hb) hl) fun σ H R=>?_
 rintro⟨w,μ,ρ,ds,μ1,xs,Rp,S,e,ei,q⟩
 obtain⟨d,rfl,e1⟩:=jls e
 refine⟨w,μ,ρ,d,μ1,Rp,S,e1,fun w1 H1 v x1 R1 d1=>?_⟩
 replace ei:ji1 [d] μ1=some xs:=ei
 unfold ji1 at ei
 split at ei
 case h_2=>cases ei
 rename_i ks vs heq
 cases heq
 cases ei
 unfold Den at d1
 obtain⟨a,o,es,ep,ys,rfl,h2,h3,h4,h5⟩:=d1
 refine⟨a,o,_,es,ep,rfl,R1.sub _ _ h4,h3,q w1 H1 _ x1 R1 ?_⟩
 intro w2 μ2 H2 x2 R2 hk
 have hz:=R2.sub _ _ (x2.z _ _ h4)
 have hle:(ks.zip ys).length=(jlf ks vs).length:=by rw[jlt,List.length_zip,← jag h5]
 refine⟨⟨hz,by rw[hle];exact Nat.le_refl _⟩,fun i d' hd=>?_⟩
 obtain⟨k,v0,g1,g2,rfl⟩:=jli hd
 obtain⟨u,u1,u2⟩:=jc1 h5 g2
 have hp:(ks.zip ys)[i]?=some (k,u):=by rw[List.getElem?_zip_eq_some];exact⟨g1,u1⟩
 refine⟨⟨hz,(List.getElem?_eq_some_iff.mp hp).1⟩,fun x H3 y=>?_⟩
 obtain⟨p,qq,y0,rfl,hn,rfl⟩:=y
 rw[hp]at y0
 cases y0
 obtain⟨R3,x3⟩:=R2.frz hn (.tup [kV k,u])
 refine⟨_,x3,R3,?_⟩
 unfold Den
 refine⟨p,_,rfl,SqT.of jay,?_⟩
 unfold DenL
 exact⟨_,_,rfl,jrd k,DenL.one ((u2.mono x2).mono x3)⟩
theorem jm3:∀{xs ys:List D} {i:Nat} {d:D},(jgz xs ys)[i]?=some d→∃x y,xs[i]?=some x∧ys[i]?=some y∧d=.tup [x,y]
 |[],_,_,_,e=>by simp[jgz]at e
 |_ :: _,[],_,_,e=>by simp[jgz]at e
 |x :: xs,y :: ys,0,d,e=>by
  simp only[jgz,List.getElem?_cons_zero,Option.some.injEq]at e
  exact⟨x,y,rfl,rfl,e.symm⟩
 |x :: xs,y :: ys,i+1,d,e=>by
  simp only[jgz,List.getElem?_cons_succ]at e
  obtain⟨a,b,h1,h2,h3⟩:=jm3 e
  exact⟨a,b,by simpa using h1,by simpa using h2,h3⟩
theorem jl6:∀(xs ys:List D),(jgz xs ys).length=min xs.length ys.length
 |[],_=>by simp[jgz]
 |_ :: _,[]=>by simp[jgz]
 |x :: xs,y :: ys=>by simp only[jgz,List.length_cons,jl6 xs ys,Nat.add_min_add_right]
theorem jrQ {elts:List Expr} {x1:Nat} {tpos p pos:Pos} {a b:Expr} {r:S3→M→Out (List D)} (hg:jcj X.env.scope "zip" = true) (hm:X.mg "zip" = none) (ha:PA X [a,b] (T3A X.K r)) (hs:jak [a,b]=true) :
  PI X (.Tuple elts x1 tpos) (.Call (.Name "zip" p) [a,b] [] pos) (T3I X.K .zip r):=by
 refine imI (jqV hg hm ⟨ha⟩ hs).h fun σ H R=>?_
 rintro⟨w,μ,ρ,ds,μ1,xs,Rp,S,e,ei,q⟩
 refine⟨w,μ,ρ,ds,μ1,Rp,S,e,fun w1 H1 vs x1 R1 d1=>?_⟩
 replace ei:jme ds μ1=some xs:=ei
 unfold jme at ei
 split at ei
 case h_2=>cases ei
 rename_i d d'
 split at ei
 case h_2=>cases ei
 rename_i us ws e1 e2
 cases ei
 obtain⟨v,u,rfl,h1,h2⟩:=jvi d1
 obtain⟨a,ys,rfl,s1,l1⟩:=jeT R1 h1 e1
 obtain⟨b,zs,rfl,s2,l2⟩:=jeT R1 h2 e2
 refine⟨a,b,_,_,rfl,⟨ys,s1⟩,⟨zs,s2⟩,q w1 H1 _ x1 R1 ?_⟩
 intro w2 μ2 H2 x2 R2 hk
 have e3:jme [d,d'] μ2=some (jgz us ws):=jeA.mp hk
 simp only[jme]at e3
 split at e3
 case h_2=>cases e3
 rename_i us' ws' e4 e5
 have hz:jgz us' ws'=jgz us ws:=by simpa using e3
 obtain⟨a',ys',ea,s3,l3⟩:=jeT R2 (h1.mono x2) e4
 obtain⟨b',zs',eb,s4,l4⟩:=jeT R2 (h2.mono x2) e5
 cases ea
 cases eb
 rw[← hz]
 refine⟨⟨ys',zs',s3,s4,?_⟩,fun i d' hd=>?_⟩
 ·rw[jl6,jag l3,jag l4]
  omega
 ·obtain⟨x0,y0,g1,g2,rfl⟩:=jm3 hd
  obtain⟨p1,p2,p3⟩:=jc1 l3 g1
  obtain⟨q1,q2,q3⟩:=jc1 l4 g2
  refine⟨⟨ys',zs',p1,q1,s3,s4,p2,q2⟩,fun x H3 y=>?_⟩
  obtain⟨p,u0,v0,rfl,hn,rfl,y1,y2⟩:=y
  have t1:=y1 ys' s3
  have t2:=y2 zs' s4
  rw[p2]at t1
  rw[q2]at t2
  cases t1
  cases t2
  obtain⟨R3,x3⟩:=R2.frz hn (.tup [p1,q1])
  refine⟨_,x3,R3,?_⟩
  unfold Den
  refine⟨p,_,rfl,SqT.of jay,?_⟩
  unfold DenL
  exact⟨_,_,rfl,p3.mono x3,DenL.one (q3.mono x3)⟩
theorem jqs {w:Wd}{n:Nat}{ok:M→Bool}{lo:Int}{m:Nat}:jti K w n ok ((List.range m).map fun (k:Nat)=>.int (lo+(k:Int))) (Itr lo m):=by
 intro w2 μ2 H2 x2 R2 hk
 refine⟨(by show m≤_;simp),fun i d hd=>?_⟩
 have hi:i < m:=by
  have:=(List.getElem?_eq_some_iff.mp hd).1
  simpa using this
 have ed:d=.int (lo+(i:Int)):=by
  have:((List.range m).map fun (k:Nat)=>D.int (lo+(k:Int)))[i]?=some (.int (lo+(i:Int))):=by simp[hi]
  rw[this]at hd
  exact (Option.some.inj hd).symm
 subst ed
 refine⟨hi,fun x H3 y=>?_⟩
 obtain⟨rfl,rfl⟩:=y
 exact⟨w2,Ext.refl _ _,R2,by unfold Den;rfl⟩
theorem jrM {tg:Expr} {p pos:Pos} {a:Expr} {r:S3→M→Out (List D)} (hg:jcj X.env.scope "range" = true) (hm:X.mg "range" = none) (ha:PA X [a] (T3A X.K r)) (hs:jbm a=true) :
  PI X tg (.Call (.Name "range" p) [a] [] pos) (T3I X.K .rng1 r):=by
 refine imI (jkW hg hm ha hs) fun σ H R=>?_
 rintro⟨w,μ,ρ,ds,μ1,xs,Rp,S,e,ei,q⟩
 refine⟨w,μ,ρ,ds,μ1,Rp,S,e,fun w1 H1 vs x1 R1 d1=>?_⟩
 replace ei:jjD ds μ1=some xs:=ei
 unfold jjD at ei
 split at ei
 case h_2=>cases ei
 rename_i j
 split at ei
 case isFalse=>cases ei
 rename_i hj
 obtain⟨v,rfl,h1⟩:=jgn d1
 unfold Den at h1
 subst h1
 have e0:xs=(List.range j.toNat).map fun (k:Nat)=>D.int (0+(k:Int)):=by
  have:=Option.some.inj ei
  rw[← this]
  congr 1
  funext k
  rw[Int.zero_add]
 refine⟨j,rfl,hj.1,hj.2,q w1 H1 _ x1 R1 ?_⟩
 rw[e0]
 exact jqs
theorem jq5 {tg:Expr} {p pos:Pos} {a b:Expr} {r:S3→M→Out (List D)} (hg:jcj X.env.scope "range" = true) (hm:X.mg "range" = none) (ha:PA X [a,b] (T3A X.K r)) (hs:jak [a,b]=true) :
  PI X tg (.Call (.Name "range" p) [a,b] [] pos) (T3I X.K .rng2 r):=by
 refine imI (jla hg hm ha hs) fun σ H R=>?_
 rintro⟨w,μ,ρ,ds,μ1,xs,Rp,S,e,ei,q⟩
 refine⟨w,μ,ρ,ds,μ1,Rp,S,e,fun w1 H1 vs x1 R1 d1=>?_⟩
 replace ei:jmT ds μ1=some xs:=ei
 unfold jmT at ei
 split at ei
 case h_2=>cases ei
 rename_i i j
 split at ei
 case isFalse=>cases ei
 rename_i hj
 obtain⟨v,u,rfl,h1,h2⟩:=jvi d1
 unfold Den at h1 h2
 subst h1 h2
 cases ei
 exact⟨i,j,rfl,hj,q w1 H1 _ x1 R1 jqs⟩
theorem jsP {tg it:Expr}{r:S3→M→Out D}(h:PE X it (T3E X.K r)):PI X tg it (T3I X.K .str (fun ρ μ=>(r ρ μ).bind fun d μ1=>(Out.ok [] μ1).bind fun ds μ2=>.ok (d :: ds) μ2)):=by
 refine imI (jw h) fun σ H R=>?_
 rintro⟨w,μ,ρ,ds,μ1,xs,Rp,S,e,ei,q⟩
 obtain⟨d,rfl,e1⟩:=jls e
 refine⟨w,μ,ρ,d,μ1,Rp,S,e1,fun w1 H1 v x1 R1 d1=>?_⟩
 replace ei:jrT [d] μ1=some xs:=ei
 unfold jrT at ei
 split at ei
 case h_2=>cases ei
 rename_i z hz
 cases hz
 cases ei
 unfold Den at d1
 subst d1
 refine⟨z,rfl,q w1 H1 _ x1 R1 ?_⟩
 intro w2 μ2 H2 x2 R2 hk
 refine⟨?_,fun i d hd=>?_⟩
 ·show z.cps.size≤_
  simp
 ·have hd':(z.cps.toList.map fun c=>D.str ⟨#[c]⟩)[i]?=some d:=hd
  rw[List.getElem?_map]at hd'
  cases e2:z.cps.toList[i]? with
  |none=>rw[e2]at hd';cases hd'
  |some c =>
   rw[e2]at hd'
   cases hd'
   have hi:i < z.cps.size:=by
    have:=(List.getElem?_eq_some_iff.mp e2).1
    simpa using this
   refine⟨hi,fun x H3 y=>?_⟩
   obtain⟨rfl,c',hc',rfl⟩:=y
   have:z.cps[i]?=some c:=by
    rw[← Array.getElem?_toList]
    exact e2
   rw[this]at hc'
   cases hc'
   exact⟨w2,Ext.refl _ _,R2,by unfold Den;rfl⟩
noncomputable def jtD (K:PySem.W.Frag)(tg:Tg)(g:TG):Prop:=∀(w:Wd) (μ:M) (H:Hp) (ρ ρ':S3) (σ:_L2.St) (d:D) (v:V) (Q:_L2.St→Hp→Prop),Rep K w μ H→jcz K w μ.length ρ σ→Den K w μ.length d v→joz tg d ρ=some ρ'→(∀σ',jcz K w μ.length ρ' σ'→Q σ' H)→g v σ H Q
theorem jia {α:Type}{xs:List α}{i:Nat}(h:i < xs.length):∃d,xs[i]?=some d∧xs.drop i=d :: xs.drop (i+1):=⟨xs[i],by simp[h],List.drop_eq_getElem_cons h⟩
theorem jnI {ok:M→Bool}{tg:Tg}{cond:S3→M→Out Bool}{elt:S3→M→Out D}{ρ:S3}{xs ys:List D}{μ μ':M}(e:jdy ok tg cond elt ρ xs μ=.ok ys μ'):ok μ=true:=by
 cases xs <;> (unfold jdy at e;split at e <;> first | assumption | cases e)
noncomputable def jxK (K:PySem.W.Frag)(w1:Wd)(n1:Nat)(ok:M→Bool)(tg:Tg)(cond:S3→M→Out Bool)(elt:S3→M→Out D)(ρ:S3)(xs ys:List D)(μ2:M)(i:Nat)(vs:List V)(H:Hp):Prop :=
 i≤xs.length∧vs.length≤i∧∃(w2:Wd) (μ:M) (acc rest:List D),Ext w1 w2 n1 μ.length∧Rep K w2 μ H∧DenL K w2 μ.length acc vs∧jdy ok tg cond elt ρ (xs.drop i) μ=.ok rest μ2∧acc++rest=ys
theorem jpj {ok:M→Bool}{tg:Tg}{g:TG}{cond:S3→M→Out Bool}{elt:S3→M→Out D}{ρ:S3}{σ:_L2.St}{J:It}{k:Nat}{m:Bool}{xs ys:List D}{w1:Wd}{μ1 μ2 μ3:M}{H1:Hp}{d:D}{Q:VK}(hT:jtD K tg g)(R1:Rep K w1 μ1 H1)(S1:jcz K w1 μ1.length ρ σ)
  (hJ:jti K w1 μ1.length ok xs J) (hz:xs.length≤sizeLine) (e:jdy ok tg cond elt (List.replicate k none++ρ) xs μ1=.ok ys μ2) (em:mkL m ys μ2=.ok d μ3) (q:jjZ K w1 μ1.length d μ3 Q):Cmp J k g (T3T K cond) (T3E K elt) σ Q H1:=by
 refine⟨fun i n ys' H=>n=xs.length - i∧jxK K w1 μ1.length ok tg cond elt (List.replicate k none++ρ) xs ys μ2 i ys' H,
  ⟨xs.length,by simp,Nat.zero_le _,Nat.le_refl _,w1,μ1,[],ys,Ext.refl _ _,R1,by unfold DenL;rfl,e,rfl⟩,?_⟩
 rintro i n ys' H ⟨rfl,hi,hy,w2,μ,acc,rest,x2,R2,l2,ec,ea⟩
 have hok:=jnI ec
 obtain⟨hstop,hgo⟩:=hJ w2 μ H x2 R2 hok
 by_cases hlt:i < xs.length
 ·obtain⟨d0,hd0,hdr⟩:=jia hlt
  obtain⟨g1,g2⟩:=hgo i d0 hd0
  rw[hdr]at ec
  unfold jdy at ec
  rw[if_pos hok]at ec
  split at ec
  ·rename_i ρ1 has
   obtain⟨b,μa,eb,ec⟩:=Out.bind_ok ec
   refine .inr ⟨g1,by omega,fun y H'=>jxK K w1 μ1.length ok tg cond elt (List.replicate k none++ρ) xs ys μ2 (i+1) (ys'++[y]) H',jxK K w1 μ1.length ok tg cond elt (List.replicate k none++ρ) xs ys μ2 (i+1) ys',
    fun y H' r=>⟨xs.length - (i+1),by omega,rfl,r⟩,fun H' r=>⟨xs.length - (i+1),by omega,rfl,r⟩,fun x H3 hyl=>?_⟩
   obtain⟨w3,x3,R3,d3⟩:=g2 x H3 hyl
   refine hT w3 μ H3 _ ρ1 _ d0 x _ R3 ((S1.mono (x2.trans x3)).blank k) d3 has fun σ2 S2=>?_
   refine⟨w3,μ,ρ1,b,μa,R3,S2,eb,fun w4 H4 x4 R4=>?_⟩
   have x14:=(x2.trans x3).trans x4
   dsimp only
   cases b with
   |false =>
    rw[if_neg Bool.false_ne_true]
    rw[if_neg Bool.false_ne_true]at ec
    exact⟨hlt,by omega,w4,μa,acc,rest,x14,R4,l2.mono (x3.trans x4),ec,ea⟩
   |true =>
    rw[if_pos rfl]
    rw[if_pos rfl]at ec
    obtain⟨y,μb,ey,ec⟩:=Out.bind_ok ec
    obtain⟨zs,μc,ez,ec⟩:=Out.bind_ok ec
    cases ec
    refine⟨w4,μa,ρ1,y,μb,R4,S2.mono x4,ey,fun w5 H5 v5 x5 R5 d5=>?_⟩
    exact⟨hlt,by simp;omega,w5,μb,acc++[y],zs,x14.trans x5,R5,(l2.mono ((x3.trans x4).trans x5)).append (DenL.one d5),ez,by rw[List.append_assoc];exact ea⟩
  ·cases ec
 ·have ei:i=xs.length:=by omega
  subst ei
  rw[List.drop_length]at ec
  unfold jdy at ec
  rw[if_pos hok]at ec
  cases ec
  rw[List.append_nil]at ea
  subst ea
  exact .inl ⟨hstop,jeb R2 l2 em fun w3 H3 v x3 R3 d3=>q w3 H3 v (x2.trans x3) R3 d3⟩
theorem jsh {ok:M→Bool}{tg:Tg}{body:S3→M→Out Fl}{fg:List Nat}{xs:List D}{ρ:S3}{μ μ':M}{fl:Fl}(e:jg7 ok tg body fg xs ρ μ=.ok fl μ'):ok μ=true:=by
 cases xs <;> (unfold jg7 at e;split at e <;> first | assumption | cases e)
noncomputable def jyc (K:PySem.W.Frag)(w1:Wd)(n1:Nat)(ok:M→Bool)(tg:Tg)(body:S3→M→Out Fl)(fg:List Nat)(xs:List D)(fl:Fl)(μ2:M)(i:Nat)(σ:_L2.St)(H:Hp):Prop :=
 i≤xs.length∧∃(w2:Wd) (μ:M) (ρ':S3),Ext w1 w2 n1 μ.length∧Rep K w2 μ H∧jcz K w2 μ.length ρ' σ∧jg7 ok tg body fg (xs.drop i) ρ' μ=.ok fl μ2
theorem jr5 {ok:M→Bool}{tg:Tg}{g:TG}{body:S3→M→Out Fl}{fg:List Nat}{ρ:S3}{σ:_L2.St}{J:It}{xs:List D}{w1:Wd}{μ1 μ2:M}{H1:Hp}{fl:Fl}{E:Ends}(hT:jtD K tg g)(R1:Rep K w1 μ1 H1)(S1:jcz K w1 μ1.length ρ σ)
  (hJ:jti K w1 μ1.length ok xs J) (e:jg7 ok tg body fg xs ρ μ1=.ok fl μ2) (q:∀w' H',Ext w1 w' μ1.length μ2.length→Rep K w' μ2 H'→jw1 K w' μ2.length H' E fl):Lop J g (T3S K body) E σ H1:=by
 refine⟨fun i n σ' H=>n=xs.length - i∧jyc K w1 μ1.length ok tg body fg xs fl μ2 i σ' H,
  ⟨xs.length,by simp,Nat.zero_le _,w1,μ1,ρ,Ext.refl _ _,R1,S1,e⟩,?_⟩
 rintro i n σ' H ⟨rfl,hi,w2,μ,ρ',x2,R2,S2,ef⟩
 have hok:=jsh ef
 obtain⟨hstop,hgo⟩:=hJ w2 μ H x2 R2 hok
 by_cases hlt:i < xs.length
 ·obtain⟨d0,hd0,hdr⟩:=jia hlt
  obtain⟨g1,g2⟩:=hgo i d0 hd0
  rw[hdr]at ef
  unfold jg7 at ef
  rw[if_pos hok]at ef
  split at ef
  ·rename_i ρ1 has
   refine .inr ⟨g1,jyc K w1 μ1.length ok tg body fg xs fl μ2 (i+1),
    fun σ'' H' r=>⟨xs.length - (i+1),by omega,rfl,r⟩,fun x H3 hyl=>?_⟩
   obtain⟨w3,x3,R3,d3⟩:=g2 x H3 hyl
   refine hT w3 μ H3 _ ρ1 _ d0 x _ R3 (S2.mono x3) d3 has fun σ2 S3'=>?_
   split at ef
   ·rename_i ρ2 μa eb
    refine⟨w3,μ,ρ1,.nx ρ2,μa,R3,S3',eb,fun w4 H4 x4 R4 σ4 S4=>?_⟩
    exact⟨hlt,w4,μa,_,(x2.trans x3).trans x4,R4,S4.forget fg,ef⟩
   ·rename_i ρ2 μa eb
    refine⟨w3,μ,ρ1,.ct ρ2,μa,R3,S3',eb,fun w4 H4 x4 R4 σ4 S4=>?_⟩
    exact⟨hlt,w4,μa,_,(x2.trans x3).trans x4,R4,S4.forget fg,ef⟩
   ·rename_i ρ2 μa eb
    cases ef
    refine⟨w3,μ,ρ1,.bk ρ2,_,R3,S3',eb,fun w4 H4 x4 R4 σ4 S4=>?_⟩
    exact q w4 H4 ((x2.trans x3).trans x4) R4 σ4 (S4.forget fg)
   ·rename_i d μa eb
    cases ef
    refine⟨w3,μ,ρ1,.rt d,_,R3,S3',eb,fun w4 H4 x4 R4 v4 d4=>?_⟩
    exact q w4 H4 ((x2.trans x3).trans x4) R4 v4 d4
   ·cases ef
   ·cases ef
  ·cases ef
 ·have ei:i=xs.length:=by omega
  subst ei
  rw[List.drop_length]at ef
  unfold jg7 at ef
  rw[if_pos hok]at ef
  cases ef
  exact .inl ⟨hstop,q w2 H x2 R2 σ' (S2.forget fg)⟩
end
end _L3
namespace _L3
open PySem PySem.Spec PyProof.Rows _L2
mutual
noncomputable def Bel (n:Nat):D→Prop
 |.tup ds=>BelL n ds
 |.lst ds=>BelL n ds
 |.scr ds=>BelL n ds
 |.dK _ vs=>BelL n vs
 |.dT _ vs=>BelL n vs
 |.dF _ vs=>BelL n vs
 |.obj _ _ ds=>BelL n ds
 |.cel k=>k < n
 |.non=>True
 |.bl _=>True
 |.int _=>True
 |.str _=>True
 |.ty _=>True
noncomputable def BelL (n:Nat):List D→Prop
 |[]=>True
 |d :: ds=>Bel n d∧BelL n ds
end
section
variable {K:PySem.W.Frag}
mutual
theorem jsw {w:Wd}{n:Nat}:∀{d:D} {v:V},Den K w n d v→Bel n d
 |.non,_,_=>by unfold Bel;trivial
 |.bl _,_,_=>by unfold Bel;trivial
 |.int _,_,_=>by unfold Bel;trivial
 |.str _,_,_=>by unfold Bel;trivial
 |.ty _,_,_=>by unfold Bel;trivial
 |.tup ds,_,h=>by unfold Den at h;unfold Bel;obtain⟨_,_,_,_,h⟩:=h;exact denL_bel h
 |.lst ds,_,h=>by unfold Den at h;unfold Bel;obtain⟨_,_,_,_,h⟩:=h;exact denL_bel h
 |.scr ds,_,h=>by unfold Den at h;unfold Bel;obtain⟨_,_,_,_,h⟩:=h;exact denL_bel h
 |.dK _ ds,_,h=>by unfold Den at h;unfold Bel;obtain⟨_,_,_,_,_,h⟩:=h;exact denL_bel h
 |.dT _ ds,_,h=>by unfold Den at h;unfold Bel;obtain⟨_,_,_,_,_,h⟩:=h;exact denL_bel h
 |.dF _ ds,_,h=>by unfold Den at h;unfold Bel;obtain⟨_,_,_,_,_,_,_,_,_,h⟩:=h;exact denL_bel h
 |.obj _ _ ds,_,h=>by unfold Den at h;unfold Bel;obtain⟨_,_,_,_,_,_,h⟩:=h;exact denL_bel h
 |.cel k,_,h=>by unfold Den at h;unfold Bel;exact h.1
theorem denL_bel {w:Wd}{n:Nat}:∀{ds:List D} {vs:List V},DenL K w n ds vs→BelL n ds
 |[],_,_=>by unfold BelL;trivial
 |d :: ds,_,h=>by unfold DenL at h;unfold BelL;obtain⟨_,_,_,h1,h2⟩:=h;exact⟨jsw h1,denL_bel h2⟩
end
section
variable {w' w'':Wd} {n' n0 n'':Nat} (hz:jdw w'.Z w''.Z) (hg:∀i,i < n0→w''.γ i=w'.γ i) (hn:n0≤n'')
include hz hg hn
mutual
theorem jsf:∀{d:D} {v:V},Den K w' n' d v→Bel n0 d→Den K w'' n'' d v
 |.non,_,h,_=>by unfold Den at h ⊢;exact h
 |.bl _,_,h,_=>by unfold Den at h ⊢;exact h
 |.int _,_,h,_=>by unfold Den at h ⊢;exact h
 |.str _,_,h,_=>by unfold Den at h ⊢;exact h
 |.ty _,_,h,_=>by unfold Den at h ⊢;exact h
 |.tup ds,_,h,b=>by unfold Den at h ⊢;unfold Bel at b;obtain⟨a,xs,h1,h2,h3⟩:=h;exact⟨a,xs,h1,hz.tup h2,denL_shr h3 b⟩
 |.lst ds,_,h,b=>by unfold Den at h ⊢;unfold Bel at b;obtain⟨a,xs,h1,h2,h3⟩:=h;exact⟨a,xs,h1,hz _ _ h2,denL_shr h3 b⟩
 |.scr ds,_,h,b=>by unfold Den at h ⊢;unfold Bel at b;obtain⟨a,xs,h1,h2,h3⟩:=h;exact⟨a,xs,h1,hz.seq h2,denL_shr h3 b⟩
 |.dK _ ds,_,h,b=>by unfold Den at h ⊢;unfold Bel at b;obtain⟨a,xs,h1,h2,h3,h4⟩:=h;exact⟨a,xs,h1,h2,hz _ _ h3,denL_shr h4 b⟩
 |.dT _ ds,_,h,b=>by unfold Den at h ⊢;unfold Bel at b;obtain⟨a,xs,h1,h2,h3,h4⟩:=h;exact⟨a,xs,h1,h2,hz _ _ h3,denL_shr h4 b⟩
 |.dF _ ds,_,h,b=>by unfold Den at h ⊢;unfold Bel at b;obtain⟨a,o,es,ep,xs,h1,h2,h3,h4,h5⟩:=h;exact⟨a,o,es,ep,xs,h1,h2,h3,hz _ _ h4,denL_shr h5 b⟩
 |.obj _ _ ds,_,h,b=>by unfold Den at h ⊢;unfold Bel at b;obtain⟨a,dx,xs,h1,h2,h3,h4⟩:=h;exact⟨a,dx,xs,h1,h2,hz _ _ h3,denL_shr h4 b⟩
 |.cel k,_,h,b=>by unfold Den at h ⊢;unfold Bel at b;exact⟨Nat.lt_of_lt_of_le b hn,by rw[hg k b];exact h.2⟩
theorem denL_shr:∀{ds:List D} {vs:List V},DenL K w' n' ds vs→BelL n0 ds→DenL K w'' n'' ds vs
 |[],_,h,_=>by unfold DenL at h ⊢;exact h
 |d :: ds,_,h,b=>by unfold DenL at h ⊢;unfold BelL at b;obtain⟨v,ws,h1,h2,h3⟩:=h;exact⟨v,ws,h1,jsf h2 b.1,denL_shr h3 b.2⟩
end
end
theorem jb3 {α β:Type}{o:Option α}{f:α→β}{b:β}(h:o.map f=some b):∃a,o=some a∧b=f a:=by
 cases o with
 |none=>cases h
 |some a=>exact⟨a,rfl,by cases h;rfl⟩
section
variable {w' w'':Wd} {n' n'':Nat} {h:Nat→Option D} (hz:jdw w'.Z w''.Z) (hk:∀k d',h k=some d'→k < n'→Den K w'' n'' d' (.ref (w'.γ k)))
include hz hk
mutual
theorem jjK:∀{d d':D} {v:V},jb4 h d=some d'→Den K w' n' d v→Den K w'' n'' d' v
 |.non,_,_,e,q=>by unfold jb4 at e;cases e;unfold Den at q ⊢;exact q
 |.bl _,_,_,e,q=>by unfold jb4 at e;cases e;unfold Den at q ⊢;exact q
 |.int _,_,_,e,q=>by unfold jb4 at e;cases e;unfold Den at q ⊢;exact q
 |.str _,_,_,e,q=>by unfold jb4 at e;cases e;unfold Den at q ⊢;exact q
 |.ty _,_,_,e,q=>by unfold jb4 at e;cases e;unfold Den at q ⊢;exact q
 |.tup ds,_,_,e,q=>by
  unfold jb4 at e
  obtain⟨es,e1,rfl⟩:=jb3 e
  unfold Den at q ⊢
  obtain⟨a,xs,h1,h2,h3⟩:=q
  exact⟨a,xs,h1,hz.tup h2,frzGs_den e1 h3⟩
 |.lst ds,_,_,e,q=>by
  unfold jb4 at e
  obtain⟨es,e1,rfl⟩:=jb3 e
  unfold Den at q ⊢
  obtain⟨a,xs,h1,h2,h3⟩:=q
  exact⟨a,xs,h1,hz _ _ h2,frzGs_den e1 h3⟩
 |.scr ds,_,_,e,q=>by
  unfold jb4 at e
  obtain⟨es,e1,rfl⟩:=jb3 e
  unfold Den at q ⊢
  obtain⟨a,xs,h1,h2,h3⟩:=q
  exact⟨a,xs,h1,hz.seq h2,frzGs_den e1 h3⟩
 |.dK ks ds,_,_,e,q=>by
  unfold jb4 at e
  obtain⟨es,e1,rfl⟩:=jb3 e
  unfold Den at q ⊢
  obtain⟨a,xs,h1,h2,h3,h4⟩:=q
  have h5:=frzGs_den e1 h4
  exact⟨a,xs,h1,by rw[h2,jag h4,jag h5],hz _ _ h3,h5⟩
 |.dT ks ds,_,_,e,q=>by
  unfold jb4 at e
  obtain⟨es,e1,rfl⟩:=jb3 e
  unfold Den at q ⊢
  obtain⟨a,xs,h1,h2,h3,h4⟩:=q
  have h5:=frzGs_den e1 h4
  exact⟨a,xs,h1,by rw[h2,jag h4,jag h5],hz _ _ h3,h5⟩
 |.dF ks ds,_,_,e,q=>by
  unfold jb4 at e
  obtain⟨es,e1,rfl⟩:=jb3 e
  unfold Den at q ⊢
  obtain⟨a,o,es,ep,xs,h1,h2,h3,h4,h5⟩:=q
  have h6:=frzGs_den e1 h5
  exact⟨a,o,es,ep,xs,h1,by rw[h2,jag h5,jag h6],h3,hz _ _ h4,h6⟩
 |.obj C fs ds,_,_,e,q=>by
  unfold jb4 at e
  obtain⟨es,e1,rfl⟩:=jb3 e
  unfold Den at q ⊢
  obtain⟨a,dx,xs,h1,h2,h3,h4⟩:=q
  have h5:=frzGs_den e1 h4
  exact⟨a,dx,xs,h1,by rw[h2,jag h4,jag h5],hz _ _ h3,h5⟩
 |.cel k,_,_,e,q=>by
  unfold jb4 at e
  unfold Den at q
  rw[q.2]
  exact hk k _ e q.1
theorem frzGs_den:∀{ds es:List D} {vs:List V},frzGs h ds=some es→DenL K w' n' ds vs→DenL K w'' n'' es vs
 |[],_,_,e,q=>by unfold frzGs at e;cases e;unfold DenL at q ⊢;exact q
 |d :: ds,_,_,e,q=>by
  unfold frzGs at e
  split at e
  ·rename_i e1 es1 q1 q2
   cases e
   unfold DenL at q ⊢
   obtain⟨v,ws,h1,h2,h3⟩:=q
   exact⟨v,ws,h1,jjK q1 h2,frzGs_den q2 h3⟩
  ·cases e
end
end
theorem jms {w:Wd}{n:Nat}{H:Hp}{a:Addr}{c:Cl}(h:Holds K w n H a c):(match c with | .lst ds=>BelL n ds | .dK _ vs=>BelL n vs | .dT _ vs=>BelL n vs | .obj _ _ ds=>BelL n ds):=by
 cases c with
 |lst ds=>obtain⟨_,_,h⟩:=h;exact denL_bel h
 |dK ks vs=>obtain⟨_,_,_,h⟩:=h;exact denL_bel h
 |dT ks vs=>obtain⟨_,_,_,h⟩:=h;exact denL_bel h
 |obj C fs ds=>obtain⟨_,_,_,_,h⟩:=h;exact denL_bel h
theorem jhE {μ:M}{n0:Nat}{ks:List Nat}:∀{r:List Nat} {cs:List (List D)},jkv μ n0 ks r=some cs→r.length=cs.length∧∀(j k:Nat),r[j]?=some k→∃ds c,μ[k]?=some (some (.lst ds))∧frzGs (jkG μ n0 ks 4) ds=some c∧cs[j]?=some c
 |[],_,e=>by unfold jkv at e;cases e;exact⟨rfl,fun j k h=>by simp at h⟩
 |k :: r,_,e=>by
  unfold jkv at e
  split at e
  ·rename_i ds hk
   split at e
   ·rename_i c cs e1 e2
    cases e
    obtain⟨i1,i2⟩:=jhE e2
    refine⟨by rw[List.length_cons,List.length_cons,i1],fun j k' h=>?_⟩
    cases j with
    |zero =>
     simp only[List.getElem?_cons_zero,Option.some.injEq]at h
     subst h
     exact⟨ds,c,hk,e1,rfl⟩
    |succ j =>
     obtain⟨ds',c',g1,g2,g3⟩:=i2 j k' (by simpa using h)
     exact⟨ds',c',g1,g2,by simpa using g3⟩
   ·cases e
  ·cases e
theorem jjk:∀{l:List Nat} {i j k:Nat},l.Nodup→l[i]?=some k→l[j]?=some k→i=j
 |[],_,_,_,_,h,_=>by simp at h
 |x :: l,0,0,_,_,_,_=>rfl
 |x :: l,0,j+1,k,nd,h1,h2=>by
  simp only[List.getElem?_cons_zero,Option.some.injEq]at h1
  subst h1
  exact absurd (List.mem_of_getElem? (by simpa using h2)) (List.nodup_cons.mp nd).1
 |x :: l,i+1,0,k,nd,h1,h2=>by
  simp only[List.getElem?_cons_zero,Option.some.injEq]at h2
  subst h2
  exact absurd (List.mem_of_getElem? (by simpa using h1)) (List.nodup_cons.mp nd).1
 |x :: l,i+1,j+1,k,nd,h1,h2=>congrArg (· + 1) (jjk (i:=i) (j:=j) (k:=k) (List.nodup_cons.mp nd).2 (by simpa using h1) (by simpa using h2))
open Classical in
theorem jpY {w w':Wd}{μ μ':M}{H H':Hp}{keep:List Nat}{cs:List (List D)}(R:Rep K w μ H)(x:Ext w w' μ.length μ'.length)(R':Rep K w' μ' H')(ht:μ'.take μ.length=μ)(nd:keep.Nodup)(ge:∀k∈keep,μ.length≤k)
  (hc:jkv μ' μ.length keep keep=some cs):∃w'':Wd,Ext w w'' μ.length (μ++cs.map fun xs=>some (Cl.lst xs)).length∧Rep K w'' (μ++cs.map fun xs=>some (Cl.lst xs)) H' ∧
   (∀d d' v,Den K w' μ'.length d v→jb4 (jkG μ' μ.length keep 4) d=some d'→Den K w'' (μ++cs.map fun xs=>some (Cl.lst xs)).length d' v) ∧
   (∀k d',k < μ'.length→jo0 μ.length keep k=some d'→Den K w'' (μ++cs.map fun xs=>some (Cl.lst xs)).length d' (.ref (w'.γ k)))∧jdw w'.Z w''.Z:=by
 obtain⟨kl,kg⟩:=jhE hc
 have hlen:(μ++cs.map fun xs=>some (Cl.lst xs)).length=μ.length+cs.length:=by simp
 have hpre:∀i,i < μ.length→μ'[i]?=μ[i]?:=fun i hi=>by
  have:=congrArg (fun l=>l[i]?) ht
  simp only[List.getElem?_take,hi,if_true]at this
  exact this
 have hg:∀i,(if i < μ.length then w'.γ i else w'.γ (keep.getD (i - μ.length) 0))=(fun i=>if i < μ.length then w'.γ i else w'.γ (keep.getD (i - μ.length) 0)) i:=fun _=>rfl
 generalize hw:(⟨fun a=>match w'.Z a with
   |some o=>some o
   |none=>if (∃k c,μ.length≤k∧k∉keep∧μ'[k]?=some (some c)∧w'.γ k=a) then H' a else none,fun i=>if i < μ.length then w'.γ i else w'.γ (keep.getD (i - μ.length) 0)⟩:Wd)=w''
 have gLo:∀i,i < μ.length→w''.γ i=w'.γ i:=fun i hi=>by subst hw;exact if_pos hi
 have gHi:∀j k,keep[j]?=some k→w''.γ (μ.length+j)=w'.γ k:=fun j k hj=>by
  subst hw
  show (if μ.length+j < μ.length then _ else w'.γ (keep.getD (μ.length+j - μ.length) 0))=_
  rw[if_neg (by omega),Nat.add_sub_cancel_left]
  simp[hj]
 have zs:jdw w'.Z w''.Z:=fun a o h=>by
  subst hw
  show (match w'.Z a with | some o=>some o | none=>_)=some o
  rw[h]
 have zH:∀a o,w''.Z a=some o→H' a=some o:=fun a o h=>by
  subst hw
  replace h:(match w'.Z a with | some o=>some o | none=>if (∃k c,μ.length≤k∧k∉keep∧μ'[k]?=some (some c)∧w'.γ k=a) then H' a else none)=some o:=h
  cases e:w'.Z a with
  |some o' =>
   rw[e]at h
   cases h
   exact R'.sub _ _ e
  |none =>
   rw[e]at h
   dsimp only at h
   split at h
   ·exact h
   ·cases h
 have zF:∀k c,μ.length≤k→k∉keep→μ'[k]?=some (some c)→w''.Z (w'.γ k)=H' (w'.γ k):=fun k c h1 h2 h3=>by
  subst hw
  show (match w'.Z (w'.γ k) with | some o=>some o | none=>if (∃k' c,μ.length≤k'∧k'∉keep∧μ'[k']?=some (some c)∧w'.γ k'=w'.γ k) then H' (w'.γ k) else none)=_
  rw[(R'.liv k c h3).1]
  exact if_pos ⟨k,c,h1,h2,h3,rfl⟩
 have zN:∀j c,(j < μ.length∨j∈keep)→μ'[j]?=some (some c)→w''.Z (w'.γ j)=none:=fun j c h1 h3=>by
  subst hw
  show (match w'.Z (w'.γ j) with | some o=>some o | none=>if (∃k' c,μ.length≤k'∧k'∉keep∧μ'[k']?=some (some c)∧w'.γ k'=w'.γ j) then H' (w'.γ j) else none)=_
  rw[(R'.liv j c h3).1]
  refine if_neg ?_
  rintro⟨k,c',g1,g2,g3,g4⟩
  have:=R'.inj k j c' c g3 h3 g4
  subst this
  rcases h1 with h1 | h1
  ·omega
  ·exact g2 h1
 have nle:μ.length≤(μ++cs.map fun xs=>some (Cl.lst xs)).length:=by rw[hlen];exact Nat.le_add_right _ _
 have fK:∀(f k:Nat) (d':D),jkG μ' μ.length keep f k=some d'→k < μ'.length→Den K w'' (μ++cs.map fun xs=>some (Cl.lst xs)).length d' (.ref (w'.γ k)):=by
  intro f
  induction f with
  |zero =>
   intro k d' e hk
   unfold jkG at e
   split at e
   ·rename_i h0
    cases e
    unfold Den
    exact⟨Nat.lt_of_lt_of_le h0 nle,by rw[gLo k h0]⟩
   ·split at e
    ·cases e
    ·cases e
  |succ f ih =>
   intro k d' e hk
   unfold jkG at e
   split at e
   ·rename_i h0
    cases e
    unfold Den
    exact⟨Nat.lt_of_lt_of_le h0 nle,by rw[gLo k h0]⟩
   ·rename_i h0
    split at e
    ·cases e
    ·rename_i h1
     dsimp only at e
     split at e
     ·rename_i ds hk'
      obtain⟨es,e1,rfl⟩:=jb3 e
      obtain⟨xs,g1,g2⟩:=(R'.liv k _ hk').2
      have g3:=frzGs_den zs ih e1 g2
      unfold Den
      exact⟨_,xs,rfl,(zF k _ (by omega) h1 hk').trans g1,g3⟩
     ·rename_i ks ds hk'
      obtain⟨es,e1,rfl⟩:=jb3 e
      obtain⟨xs,g0,g1,g2⟩:=(R'.liv k _ hk').2
      have g3:=frzGs_den zs ih e1 g2
      unfold Den
      exact⟨_,xs,rfl,by rw[g0,jag g2,jag g3],(zF k _ (by omega) h1 hk').trans g1,g3⟩
     ·rename_i ks ds hk'
      obtain⟨es,e1,rfl⟩:=jb3 e
      obtain⟨xs,g0,g1,g2⟩:=(R'.liv k _ hk').2
      have g3:=frzGs_den zs ih e1 g2
      unfold Den
      exact⟨_,xs,rfl,by rw[g0,jag g2,jag g3],(zF k _ (by omega) h1 hk').trans g1,g3⟩
     ·rename_i C fs ds hk'
      obtain⟨es,e1,rfl⟩:=jb3 e
      obtain⟨dx,xs,g0,g1,g2⟩:=(R'.liv k _ hk').2
      have g3:=frzGs_den zs ih e1 g2
      unfold Den
      exact⟨_,dx,xs,rfl,by rw[g0,jag g2,jag g3],(zF k _ (by omega) h1 hk').trans g1,g3⟩
     ·cases e
 have hcell:∀(i:Nat) (c:Cl),(μ++cs.map fun xs=>some (Cl.lst xs))[i]?=some (some c)→(i < μ.length∧μ'[i]?=some (some c))∨∃j k ds es,i=μ.length+j∧keep[j]?=some k∧μ'[k]?=some (some (.lst ds))∧frzGs (jkG μ' μ.length keep 4) ds=some es∧c=.lst es:=fun i c h=>by
  by_cases hi:i < μ.length
  ·rw[List.getElem?_append_left hi]at h
   exact .inl ⟨hi,by rw[hpre i hi];exact h⟩
  ·rw[List.getElem?_append_right (by omega),List.getElem?_map]at h
   cases e:cs[i - μ.length]? with
   |none=>rw[e]at h;cases h
   |some es =>
    rw[e]at h
    have hj:i - μ.length < keep.length:=by
     rw[kl]
     exact (List.getElem?_eq_some_iff.mp e).1
    obtain⟨ds,es',g1,g2,g3⟩:=kg (i - μ.length) keep[i - μ.length] (by simp[hj])
    rw[e]at g3
    cases g3
    exact .inr ⟨i - μ.length,_,ds,es,by omega,by simp[hj],g1,g2,by simpa using h.symm⟩
 refine⟨w'',⟨x.z.trans zs,fun i hi=>(gLo i hi).trans (x.g i hi),nle⟩,⟨fun a o h=>zH a o h,fun i c h=>?_,fun i j ci cj hi hj e=>?_⟩,fun d d' v hd e=>jjK zs (fK 4) e hd,fun k d' hk e=>?_,zs⟩
 ·rcases hcell i c h with ⟨hi,h'⟩ | ⟨j,k,ds,es,rfl,g1,g2,g3,rfl⟩
  ·rw[gLo i hi]
   refine⟨zN i c (.inl hi) h',?_⟩
   have b:=jms (R.liv i c (by rw[← hpre i hi];exact h')).2
   have hh:=(R'.liv i c h').2
   cases c with
   |lst ds=>obtain⟨xs,g1,g2⟩:=hh;exact⟨xs,g1,denL_shr zs gLo nle g2 b⟩
   |dK ks vs=>obtain⟨xs,g0,g1,g2⟩:=hh;exact⟨xs,g0,g1,denL_shr zs gLo nle g2 b⟩
   |dT ks vs=>obtain⟨xs,g0,g1,g2⟩:=hh;exact⟨xs,g0,g1,denL_shr zs gLo nle g2 b⟩
   |obj C fs ds=>obtain⟨dx,xs,g0,g1,g2⟩:=hh;exact⟨dx,xs,g0,g1,denL_shr zs gLo nle g2 b⟩
  ·rw[gHi j k g1]
   have hk:k∈keep:=List.mem_of_getElem? g1
   obtain⟨xs,q1,q2⟩:=(R'.liv k _ g2).2
   exact⟨zN k _ (.inr hk) g2,xs,q1,frzGs_den zs (fK 4) g3 q2⟩
 ·rcases hcell i ci hi with ⟨hi',h1⟩ | ⟨j1,k1,ds1,es1,rfl,a1,a2,_,_⟩ <;> rcases hcell j cj hj with ⟨hj',h2⟩ | ⟨j2,k2,ds2,es2,rfl,b1,b2,_,_⟩
  ·rw[gLo i hi',gLo j hj']at e
   exact R'.inj i j _ _ h1 h2 e
  ·rw[gLo i hi',gHi j2 k2 b1]at e
   have:=R'.inj i k2 _ _ h1 b2 e
   have:=ge k2 (List.mem_of_getElem? b1)
   omega
  ·rw[gHi j1 k1 a1,gLo j hj']at e
   have:=R'.inj k1 j _ _ a2 h2 e
   have:=ge k1 (List.mem_of_getElem? a1)
   omega
  ·rw[gHi j1 k1 a1,gHi j2 k2 b1]at e
   have hk:=R'.inj k1 k2 _ _ a2 b2 e
   subst hk
   rw[jjk nd a1 b1]
 ·unfold jo0 at e
  obtain⟨j,e1,rfl⟩:=jb3 e
  have hj:keep[j]?=some k:=by
   have:=List.idxOf?_eq_some_iff.mp e1
   obtain⟨h1,h2,_⟩:=this
   exact List.getElem?_eq_some_iff.mpr ⟨h1,by simpa using h2⟩
  unfold Den
  refine⟨?_,by rw[gHi j k hj]⟩
  rw[hlen,← kl]
  have:=(List.getElem?_eq_some_iff.mp hj).1
  omega
end
end _L3
namespace _L3
open PySem PySem.Spec PyProof.Rows _L2
structure Stt where
 N:List Str
 sc:Scope
 cmp:Bool
noncomputable def jdX:List Str:=["len","sum","min","max","list","tuple","int","all","isinstance","range","str","enumerate","zip","bool","dict","set"]
noncomputable def jkp (c:Stt)(i:Nat)(e:Expr):Bool :=
 match e with
 |.Name x _=>if c.cmp then jog c.N c.sc i x else jeg c.N c.sc i x
 |_=>false
noncomputable def jn9 (c:Stt):List Nat→List Expr→Bool
 |[],[]=>true
 |i :: is,e :: es=>jkp c i e && jn9 c is es
 |_,_=>false
noncomputable def jgt (c:Stt)(tg:Tg)(e:Expr):Bool :=
 match tg,e with
 |.nm i,e=>jkp c i e
 |.tp is,.Tuple es _ _=>jn9 c is es && jak es
 |_,_=>false
noncomputable def jmZ:Expr→Bool
 |.Tuple ..=>true
 |_=>false
noncomputable def jd5:Expr→Option Str
 |.Name x _=>some x
 |_=>none
theorem jdV {e:Expr}{x:Str}(h:jd5 e=some x):∃p,e=.Name x p:=by
 unfold jd5 at h
 split at h
 ·cases h
  exact⟨_,rfl⟩
 ·cases h
noncomputable def jew:Expr→Option (Str×List Expr)
 |.Call f as ks _=>match ks with
  |[]=>match jd5 f with
   |some x=>some (x,as)
   |none=>none
  |_=>none
 |_=>none
theorem jcL {e:Expr}{x:Str}{as:List Expr}(h:jew e=some (x,as)):∃p q,e=.Call (.Name x p) as [] q:=by
 unfold jew at h
 split at h
 ·split at h
  ·split at h
   ·rename_i y hy
    cases h
    obtain⟨p,rfl⟩:=jdV hy
    exact⟨p,_,rfl⟩
   ·cases h
  ·cases h
 ·cases h
noncomputable def jjh:Expr→Option (Expr×Str×Pos×Pos)
 |.Call f as ks q=>match f,as,ks with
  |.Attribute z n p,[],[]=>some (z,n,p,q)
  |_,_,_=>none
 |_=>none
theorem jkV {e z:Expr}{n:Str}{p q:Pos}(h:jjh e=some (z,n,p,q)):e=.Call (.Attribute z n p) [] [] q:=by
 unfold jjh at h
 split at h
 ·split at h
  ·cases h
   rfl
  ·cases h
 ·cases h
noncomputable def jkj:Expr→Option (Expr×Expr×Expr)
 |.Subscript x y _=>match y with
  |.Slice l u s _=>match l,u,s with
   |some a,none,some b=>some (x,a,b)
   |_,_,_=>none
  |_=>none
 |_=>none
theorem jna {e x a b:Expr}(h:jkj e=some (x,a,b)):∃p q,e=.Subscript x (.Slice (some a) none (some b) p) q:=by
 unfold jkj at h
 split at h
 ·split at h
  ·split at h
   ·cases h
    exact⟨_,_,rfl⟩
   ·cases h
  ·cases h
 ·cases h
noncomputable def jdN (c:Stt)(ik:IK)(tg it:Expr):Option (List Expr) :=
 match ik with
 |.seq=>some [it]
 |.str=>some [it]
 |.items=>match jjh it with
  |some (z,n,p,q)=>if n == "items" && jjb z && (p.endLine == q.line) && jmZ tg then some [z] else none
  |none=>none
 |.enm=>match jew it with
  |some (x,[a])=>if x == "enumerate" && jcj c.sc "enumerate" && jbm a && jmZ tg then some [a] else none
  |_=>none
 |.zip=>match jew it with
  |some (x,[a,b])=>if x == "zip" && jcj c.sc "zip" && jak [a,b] && jmZ tg then some [a,b] else none
  |_=>none
 |.rng1=>match jew it with
  |some (x,[a])=>if x == "range" && jcj c.sc "range" && jbm a then some [a] else none
  |_=>none
 |.rng2=>match jew it with
  |some (x,[a,b])=>if x == "range" && jcj c.sc "range" && jak [a,b] then some [a,b] else none
  |_=>none
noncomputable def jjN:Bi→Str
 |.len=>"len" |.sum=>"sum" |.min2=>"min" |.max2=>"max" |.list=>"list" |.tuple=>"tuple" |.int=>"int" |.all=>"all" |.isT _=>"isinstance" |.listRange=>"list" |.str=>"str" |.lenSet=>"len" |.dictZip=>"dict"
noncomputable def jeK (c:Stt)(b:Bi)(as:List Expr):Option (List Expr) :=
 match b with
 |.isT n=>match as with
  |[a,t]=>match jd5 t with
   |some x=>if x == Str.ofString n && jcj c.sc x && isTn n && jbm a then some [a] else none
   |none=>none
  |_=>none
 |.listRange=>match as with
  |[e]=>match jew e with
   |some (x,[a])=>if x == "range" && jcj c.sc "range" && jbm a then some [a] else none
   |_=>none
  |_=>none
 |.lenSet=>match as with
  |[e]=>match jew e with
   |some (x,[a])=>if x == "set" && jcj c.sc "set" && jbm a then some [a] else none
   |_=>none
  |_=>none
 |.dictZip=>match as with
  |[e]=>match jew e with
   |some (x,[a,b])=>if x == "zip" && jcj c.sc "zip" && jak [a,b] then some [a,b] else none
   |_=>none
  |_=>none
 |_=>some as
where isTn (n:String):Bool:=n == "int" || n == "bool" || n == "str" || n == "list" || n == "tuple" || n == "dict"
noncomputable def jjq:Mt→Str
 |.append=>"append" |.extend=>"extend" |.join=>"join" |.split=>"split"
noncomputable def jcO:Expr→List Str
 |.Name x _=>[x]
 |.Tuple es _ _=>es.filterMap fun e=>match e with
  |.Name x _=>some x
  |_=>none
 |_=>[]
noncomputable def jf3 (own N:List Str):List Str:=own++N.map fun x=>if own.contains x then Str.ofString "?" ++ x else x
noncomputable def jfN (c:Stt)(tg:Expr)(scope:Scope):Stt:=⟨jf3 (jcO tg) c.N,jfs scope c.sc,true⟩
noncomputable def tst:Expr→Bool
 |.IfExp ..=>false
 |_=>true
noncomputable def jw0 (d:D)(k:Const):Bool :=
 match d,k with
 |.int i,.int j=>i == j
 |.bl a,.bool b=>a == b
 |.non,.none=>true
 |.str x,.str y=>x == y
 |_,_=>false
noncomputable def jdo:Expr→Bool
 |.Slice ..=>false
 |_=>true
theorem jfE {b:Expr}(h:jdo b=true):jml b:=by
 intro o i
 cases b <;> first | rfl | cases h
noncomputable def je3:Expr→Bool
 |.Constant k _ _=>match k with
  |.none=>true
  |_=>false
 |_=>false
theorem jgE {e:Expr}(h:je3 e=true):∃k p,e=.Constant .none k p:=by
 unfold je3 at h
 split at h
 ·split at h
  ·exact⟨_,_,rfl⟩
  ·cases h
 ·cases h
theorem jj9 {P:Str→Pos→Bool}{e:Expr}(h:(match e with
  |.Name x p=>P x p
  |_=>false)=true):∃x p,e=.Name x p∧P x p=true:=by
 split at h
 ·exact⟨_,_,rfl,h⟩
 ·cases h
theorem jm7 {P:Const→Nat→Pos→Bool}{e:Expr}(h:(match e with
  |.Constant k n p=>P k n p
  |_=>false)=true):∃k n p,e=.Constant k n p∧P k n p=true:=by
 split at h
 ·exact⟨_,_,_,rfl,h⟩
 ·cases h
theorem jrG {P:Expr→Operator→Expr→Pos→Bool}{e:Expr}(h:(match e with
  |.BinOp x o y p=>P x o y p
  |_=>false)=true):∃x o y p,e=.BinOp x o y p∧P x o y p=true:=by
 split at h
 ·exact⟨_,_,_,_,rfl,h⟩
 ·cases h
theorem js3 {P:Expr→Bool}{e:Expr}(h:(match e with
  |.UnaryOp .USub x _=>P x
  |_=>false)=true):∃x p,e=.UnaryOp .USub x p∧P x=true:=by
 split at h
 ·exact⟨_,_,rfl,h⟩
 ·cases h
theorem jrj {P:Expr→Bool}{e:Expr}(h:(match e with
  |.UnaryOp .Not x _=>P x
  |_=>false)=true):∃x p,e=.UnaryOp .Not x p∧P x=true:=by
 split at h
 ·exact⟨_,_,rfl,h⟩
 ·cases h
theorem jri {P:Expr→Expr→Bool}{R:Expr→Expr→Expr→List Expr→Pos→Bool}{e:Expr}(h:(match e with
  |.BoolOp .And [x,y] _=>P x y
  |.BoolOp .And (x :: y :: z :: rest) p=>R x y z rest p
  |_=>false)=true):(∃x y p,e=.BoolOp .And [x,y] p∧P x y=true)∨∃x y z rest p,e=.BoolOp .And (x :: y :: z :: rest) p∧R x y z rest p=true:=by
 split at h
 ·exact .inl ⟨_,_,_,rfl,h⟩
 ·exact .inr ⟨_,_,_,_,_,rfl,h⟩
 ·cases h
theorem jug {P:Expr→Expr→Bool}{R:Expr→Expr→Expr→List Expr→Pos→Bool}{e:Expr}(h:(match e with
  |.BoolOp .Or [x,y] _=>P x y
  |.BoolOp .Or (x :: y :: z :: rest) p=>R x y z rest p
  |_=>false)=true):(∃x y p,e=.BoolOp .Or [x,y] p∧P x y=true)∨∃x y z rest p,e=.BoolOp .Or (x :: y :: z :: rest) p∧R x y z rest p=true:=by
 split at h
 ·exact .inl ⟨_,_,_,rfl,h⟩
 ·exact .inr ⟨_,_,_,_,_,rfl,h⟩
 ·cases h
theorem jhj {P:Expr→CmpOp→Expr→Bool}{e:Expr}(h:(match e with
  |.Compare x [o] [y] _=>P x o y
  |_=>false)=true):∃x o y p,e=.Compare x [o] [y] p∧P x o y=true:=by
 split at h
 ·exact⟨_,_,_,_,rfl,h⟩
 ·cases h
theorem jmP {P:Expr→CmpOp→CmpOp→Expr→Expr→Bool}{e:Expr}(h:(match e with
  |.Compare x [p,q] [y,z] _=>P x p q y z
  |_=>false)=true):∃x p q y z r,e=.Compare x [p,q] [y,z] r∧P x p q y z=true:=by
 split at h
 ·exact⟨_,_,_,_,_,_,rfl,h⟩
 ·cases h
theorem jqE {P:Expr→Expr→Expr→Bool}{e:Expr}(h:(match e with
  |.IfExp z x y _=>P z x y
  |_=>false)=true):∃z x y p,e=.IfExp z x y p∧P z x y=true:=by
 split at h
 ·exact⟨_,_,_,_,rfl,h⟩
 ·cases h
theorem jsT {P:List Expr→Bool}{e:Expr}(h:(match e with
  |.Tuple xs _ _=>P xs
  |_=>false)=true):∃xs k p,e=.Tuple xs k p∧P xs=true:=by
 split at h
 ·exact⟨_,_,_,rfl,h⟩
 ·cases h
theorem jrV {P:List Expr→Bool}{e:Expr}(h:(match e with
  |.List xs _=>P xs
  |_=>false)=true):∃xs p,e=.List xs p∧P xs=true:=by
 split at h
 ·exact⟨_,_,rfl,h⟩
 ·cases h
theorem jly {P:Expr→Expr→Bool}{e:Expr}(h:(match e with
  |.Subscript x y _=>P x y
  |_=>false)=true):∃x y p,e=.Subscript x y p∧P x y=true:=by
 split at h
 ·exact⟨_,_,_,rfl,h⟩
 ·cases h
theorem jtS {P:Expr→Option Expr→Option Expr→Bool}{e:Expr}(h:(match e with
  |.Subscript x (.Slice l u none _) _=>P x l u
  |_=>false)=true):∃x l u p q,e=.Subscript x (.Slice l u none p) q∧P x l u=true:=by
 split at h
 ·exact⟨_,_,_,_,_,rfl,h⟩
 ·cases h
theorem jke {P:Str→Pos→Expr→List Expr→Pos→Bool}{e:Expr}(h:(match e with
  |.Call (.Name x q) (y :: ys) [] p=>P x q y ys p
  |_=>false)=true):∃x q y ys p,e=.Call (.Name x q) (y :: ys) [] p∧P x q y ys p=true:=by
 split at h
 ·exact⟨_,_,_,_,_,rfl,h⟩
 ·cases h
theorem jqb {P:Expr→Str→Pos→Expr→List Expr→Pos→Bool}{e:Expr}(h:(match e with
  |.Call (.Attribute z n q) (y :: ys) [] p=>P z n q y ys p
  |_=>false)=true):∃z n q y ys p,e=.Call (.Attribute z n q) (y :: ys) [] p∧P z n q y ys p=true:=by
 split at h
 ·exact⟨_,_,_,_,_,_,rfl,h⟩
 ·cases h
theorem jkg {P:Expr→Comprehension→Scope→Bool}{e:Expr}(h:(match e with
  |.ListComp el [g] scope _=>P el g scope
  |_=>false)=true):∃el g scope p,e=.ListComp el [g] scope p∧P el g scope=true:=by
 split at h
 ·exact⟨_,_,_,_,rfl,h⟩
 ·cases h
noncomputable def nmG (G:List FnE)(c:Stt)(f:Nat)(x:Str):Bool :=
 match G[f]? with
 |some g=>g.name == x && jcj c.sc x
 |none=>false
section
variable (G:List FnE) (j:Nat)
mutual
noncomputable def chk:E→Stt→Expr→Bool
 |.var i,c,e=>match e with
  |.Name x _=>jfh c.N c.sc i x
  |_=>false
 |.cst d,_,e=>match e with
  |.Constant k _ _=>jw0 d k
  |_=>false
 |.bin op _ a b,c,e=>match e with
  |.BinOp x o y _=>o == op && chk a c x && chk b c y
  |_=>false
 |.neg a,c,e=>match e with
  |.UnaryOp .USub x _=>chk a c x
  |_=>false
 |.not_ a,c,e=>match e with
  |.UnaryOp .Not x _=>chk a c x && tst x
  |_=>false
 |.and_ a b,c,e=>match e with
  |.BoolOp .And [x,y] _=>chk a c x && tst x && (chk b c y && tst y)
  |.BoolOp .And (x :: y :: z :: rest) p=>chk a c x && tst x && chk b c (.BoolOp .And (y :: z :: rest) p)
  |_=>false
 |.or_ a b,c,e=>match e with
  |.BoolOp .Or [x,y] _=>chk a c x && tst x && (chk b c y && tst y)
  |.BoolOp .Or (x :: y :: z :: rest) p=>chk a c x && tst x && chk b c (.BoolOp .Or (y :: z :: rest) p)
  |_=>false
 |.cmp op a b,c,e=>match e with
  |.Compare x [o] [y] _=>o == op && chk a c x && chk b c y && !(behindInMarks o y)
  |_=>false
 |.chain o1 o2 a b d,c,e=>match e with
  |.Compare x [p,q] [y,z] _=>p == o1 && q == o2 && chk a c x && chk b c y && chk d c z && !(lastMarks [p,q] [y,z])
  |_=>false
 |.isN a,c,e=>match e with
  |.Compare x [o] [y] _=>o == .Is && je3 y && chk a c x
  |_=>false
 |.notN a,c,e=>match e with
  |.Compare x [o] [y] _=>o == .IsNot && je3 y && chk a c x
  |_=>false
 |.ife k a b,c,e=>match e with
  |.IfExp z x y _=>chk k c z && tst z && chk a c x && chk b c y
  |_=>false
 |.tup es,c,e=>match e with
  |.Tuple xs _ _=>chkL es c xs && jak xs
  |_=>false
 |.lst _ es,c,e=>match e with
  |.List xs _=>chkL es c xs && jak xs
  |_=>false
 |.ix a b,c,e=>match e with
  |.Subscript x y _=>chk a c x && chk b c y && jdo y
  |_=>false
 |.sl _ a lo hi,c,e=>match e with
  |.Subscript x (.Slice l h none _) _=>chk a c x && chkL lo c l.toList && chkL hi c h.toList
  |_=>false
 |.stp _ a lo st,c,e=>match jkj e with
  |some (x,l,s)=>chk a c x && chkL lo c [l] && chkL st c [s]
  |none=>false
 |.fld _ _,_,_=>false
 |.call f _ es,c,e=>match e with
  |.Call (.Name x _) (y :: ys) [] _=>(match G[f]? with
   |some g=>g.name == x && jcj c.sc x && es.length == g.ps.length && decide (g.lv≤j)
   |none=>false) && chkL es c (y :: ys) && jak (y :: ys)
  |_=>false
 |.bi b _ es,c,e=>match e with
  |.Call (.Name x _) (y :: ys) [] _=>jjN b == x && jcj c.sc x && jak (y :: ys) && (match jeK c b (y :: ys) with
   |some as=>chkL es c as
   |none=>false)
  |_=>false
 |.mt b o es,c,e=>match e with
  |.Call (.Attribute z name apos) (y :: ys) [] cpos=>jjq b == name && chk o c z && jcc z && jak (y :: ys) && decide (ys.length < 28) && (apos.endLine == cpos.line) && chkL es c (y :: ys)
  |_=>false
 |.comp _ own tg ik es ifs elt,c,e=>match e with
  |.ListComp el [g] scope _=>g.is_async == 0 && own == (jcO g.target).length && jwS c.N c.sc (jcO g.target) (jf3 (jcO g.target) c.N) scope && decide (jf3 (jcO g.target) c.N).Nodup && jgd g.iter && (match jdN c ik g.target g.iter with
   |some as=>chkL es c as
   |none=>false) && jgt (jfN c g.target scope) tg g.target && chkTs ifs (jfN c g.target scope) g.ifs && chk elt (jfN c g.target scope) el
  |_=>false
 |.gl f,c,e=>match e with
  |.Name x _=>nmG G c f x
  |_=>false
 |.gget f a d,c,e=>match e with
  |.Call (.Attribute z0 name apos) (y :: ys) [] cpos=>name == "get" && (match jd5 z0,ys with
   |some x,[z]=>nmG G c f x && chk d c z && jak [y,z]
   |_,_=>false) && chk a c y && jcc z0 && (apos.endLine == cpos.line)
  |_=>false
 |.gin neg f a,c,e=>match e with
  |.Compare x [o] [z] _=>o == (if neg then .NotIn else .In) && (match jd5 z with
   |some y=>nmG G c f y
   |none=>false) && chk a c x && !(behindInMarks o z)
  |_=>false
 |.gix f a,c,e=>match e with
  |.Subscript z y _=>(match jd5 z with
   |some x=>nmG G c f x
   |none=>false) && chk a c y && jdo y
  |_=>false
noncomputable def chkL:List E→Stt→List Expr→Bool
 |[],_,[]=>true
 |e :: es,c,x :: xs=>chk e c x && jbm x && chkL es c xs
 |_,_,_=>false
noncomputable def chkTs:List E→Stt→List Expr→Bool
 |[],_,[]=>true
 |[e],c,[x]=>chk e c x && tst x
 |_,_,_=>false
end
end
noncomputable def jja (K:PySem.W.Frag)(W:World)(mg:Str→Option Value)(x:Str):Dat→Prop
 |.cst d=>∃u v,mg x=some u∧jba v u∧∀wd n,Den K wd n d v
 |.dct kvs=>∃a xs,mg x=some (.ref a)∧MD K W a ((kvs.map (·.1)).zip xs)∧∀wd n,DenL K wd n (kvs.map (·.2)) xs
structure Ok (G:List FnE) (j:Nat) (c:Stt) (X:Cx):Prop where
 hN:X.N=c.N
 nd:c.N.Nodup
 sc:X.env.scope=c.sc
 calm:X.calm=true
 room:Room j X.A
 mg:∀x∈jdX,X.mg x=none
 fns:∀(i:Nat) (g:FnE),G[i]?=some g→g.lv≤j→Callee X.prog X.w X.K X.mg X.base g.lv g.name g.ps (jdL X.K g.ps.length g.F)
 dts:∀(i:Nat) (g:FnE) (d:Dat),G[i]?=some g→g.dat=some d→jja X.K X.w X.mg g.name d
 fn:c.cmp=false→∀x,X.fn x=true
end _L3
namespace _L3
open PySem PySem.Spec PyProof.Rows _L2
noncomputable def jxU:Expr→Bool
 |.BoolOp ..=>true
 |_=>false
structure Snd (G:List FnE) (X:Cx) (ir:E) (e:Expr):Prop where
 v:PE X e (T3E X.K (ev G ir).v)
 t:tst e=true→PT X e (T3T X.K (ev G ir).t)
 w:jxU e=true→PW X e (T3T X.K (ev G ir).t)
section
variable {K:PySem.W.Frag} {X:Cx} {G:List FnE} {j:Nat} {c:Stt}
theorem jwc {r:S3→M→Out D}{σ:_L2.St}{H:Hp}{Q:Bool→Hp→Prop}:T3T K (toB r) σ H Q→T3E K r σ H fun x H'=>∃k,jwe K x H' k∧Q k H':=by
 rintro⟨w,μ,ρ,b,μ',R,S,e,q⟩
 obtain⟨d,μ1,e1,e⟩:=Out.bind_ok e
 split at e
 ·rename_i b' hb
  cases e
  exact⟨w,μ,ρ,d,_,R,S,e1,fun w1 H1 v x1 R1 d1=>⟨b,jrk R1 d1 hb,q w1 H1 x1 R1⟩⟩
 ·cases e
theorem jaD {e:Expr}{r:S3→M→Out D}(v:PE X e (T3E X.K r))(h:jnr e=true):(tst e=true→PT X e (T3T X.K (toB r)))∧(jxU e=true→PW X e (T3T X.K (toB r))) :=
 ⟨fun _=>imT (juV ⟨v⟩ h).h fun σ H Q q=>jwc q,fun hb=>by cases e <;> first | (cases hb;done) | (cases h;done)⟩
theorem jnc {r:S3→M→Out D}(hb:∀ρ μ d μ',r ρ μ=.ok d μ'→∃b,d=.bl b){σ:_L2.St}{H:Hp}{Q:Bool→Hp→Prop}:T3T K (toB r) σ H Q→T3E K r σ H fun x H'=>∃k,x=.bl k∧Q k H':=by
 rintro⟨w,μ,ρ,b,μ',R,S,e,q⟩
 obtain⟨d,μ1,e1,e⟩:=Out.bind_ok e
 obtain⟨b',rfl⟩:=hb _ _ _ _ e1
 have e':Out.ok b' μ1=.ok b μ':=e
 cases e'
 refine⟨w,μ,ρ,.bl b,_,R,S,e1,fun w1 H1 v x1 R1 d1=>?_⟩
 unfold Den at d1
 exact⟨b,d1,q w1 H1 x1 R1⟩
theorem jnu (o:Ok G j c X):X.A.units+16 < cLine:=by
 have:=o.room.un
 omega
noncomputable def jgM:D→Bool
 |.non=>true
 |_=>false
theorem jmR {w:Wd}{n:Nat}{d:D}{v:V}(h:Den K w n d v):decide (v=.non)=jgM d:=by
 cases d with
 |non=>unfold Den at h;subst h;rfl
 |bl b=>unfold Den at h;subst h;rfl
 |int i=>unfold Den at h;subst h;rfl
 |str x=>unfold Den at h;subst h;rfl
 |ty t=>unfold Den at h;subst h;rfl
 |tup ds=>unfold Den at h;obtain⟨a,xs,rfl,_⟩:=h;rfl
 |lst ds=>unfold Den at h;obtain⟨a,xs,rfl,_⟩:=h;rfl
 |scr ds=>unfold Den at h;obtain⟨a,xs,rfl,_⟩:=h;rfl
 |dK ks ds=>unfold Den at h;obtain⟨a,xs,rfl,_⟩:=h;rfl
 |dT ks ds=>unfold Den at h;obtain⟨a,xs,rfl,_⟩:=h;rfl
 |dF ks ds=>unfold Den at h;obtain⟨a,_,_,_,xs,rfl,_⟩:=h;rfl
 |obj C fs ds=>unfold Den at h;obtain⟨a,dx,xs,rfl,_⟩:=h;rfl
 |cel k=>unfold Den at h;obtain⟨_,rfl⟩:=h;rfl
theorem jru {i:Nat}{e:Expr}(o:Ok G j c X)(h:chk G j (.var i) c e=true):Snd G X (.var i) e:=by
 have hh:=jj9 (P:=fun x _=>jfh c.N c.sc i x) h
 clear h
 obtain⟨x,pos,rfl,h⟩:=hh
 ·have hv:PE X (.Name x pos) (T3E X.K (ev G (.var i)).v):=by
   refine imE (pvk i (by rw[o.hN,o.sc];exact h)) fun σ H Q=>?_
   rintro⟨w,μ,ρ,d,μ',R,S,e,q⟩
   have e':(match ρ[i]? with | some (some d)=>Out.ok d μ | _=>.bad)=.ok d μ':=e
   split at e'
   ·rename_i d' hd
    cases e'
    obtain⟨v,h1,h2⟩:=S.get hd
    exact⟨v,h1,jah R q h2⟩
   ·cases e'
  exact⟨hv,(jaD hv rfl).1,(jaD hv rfl).2⟩
theorem jsO {d:D}{e:Expr}(h:chk G j (.cst d) c e=true):Snd G X (.cst d) e:=by
 have hh:=jm7 (P:=fun k _ _=>jw0 d k) h
 clear h
 obtain⟨k,kk,pos,rfl,h⟩:=hh
 ·have key:∀v:V,(∀w n,Den X.K w n d v)→PE X (.Constant k kk pos) (nC v)→Snd G X (.cst d) (.Constant k kk pos):=fun v hd hp=>by
   have hv:PE X (.Constant k kk pos) (T3E X.K (ev G (.cst d)).v):=by
    refine imE hp fun σ H Q=>?_
    rintro⟨w,μ,ρ,d',μ',R,S,e,q⟩
    have e':Out.ok d μ=.ok d' μ':=e
    cases e'
    exact jah R q (hd _ _)
   exact⟨hv,(jaD hv rfl).1,(jaD hv rfl).2⟩
  unfold jw0 at h
  split at h
  ·have:=eq_of_beq h
   subst this
   exact key _ (fun w n=>by unfold Den;rfl) (jvu).h
  ·have:=eq_of_beq h
   subst this
   exact key _ (fun w n=>by unfold Den;rfl) (jwQ).h
  ·exact key _ (fun w n=>by unfold Den;rfl) (jtt).h
  ·have:=eq_of_beq h
   subst this
   exact key _ (fun w n=>by unfold Den;rfl) (jvz).h
  ·cases h
theorem jqy {op:Operator}{m:Bool}{a b:E}{x y:Expr}{pos:Pos}(ha:Snd G X a x)(hb:Snd G X b y):Snd G X (.bin op m a b) (.BinOp x op y pos):=by
 obtain⟨r,ho,hs⟩:=jtT (X:=X) (op:=op) (m:=m)
 have hv:PE X (.BinOp x op y pos) (T3E X.K (ev G (.bin op m a b)).v):=imE (jxM ho ha.v hb.v) fun σ H Q q=>joD hs q
 exact⟨hv,(jaD hv rfl).1,(jaD hv rfl).2⟩
theorem jst {a:E}{x:Expr}{pos:Pos}(ha:Snd G X a x):Snd G X (.neg a) (.UnaryOp .USub x pos):=by
 have hv:PE X (.UnaryOp .USub x pos) (T3E X.K (ev G (.neg a)).v):=by
  refine imE (jwZ jt3 ⟨ha.v⟩).h fun σ H Q q=>jot (r:=rU fun i=>.int (-i)) (fun w μ H d1 d μ' v1 Q R h e q=>?_) q
  split at e
  ·cases e
   unfold Den at h
   exact⟨_,h,jah R q (by unfold Den;rfl)⟩
  ·cases e
 exact⟨hv,(jaD hv rfl).1,(jaD hv rfl).2⟩
theorem js5 {a:E}{x:Expr}{pos:Pos}(ht:tst x=true)(ha:Snd G X a x):Snd G X (.not_ a) (.UnaryOp .Not x pos):=by
 refine⟨?_,fun _=>?_,fun h=>by cases h⟩
 ·refine imE (ju0 ⟨ha.v⟩).h fun σ H Q q=>jot (r:=fun x H Q=>∃c,x=.bl c∧Q (.bl (!c)) H) (fun w μ H d1 d μ' v1 Q R h e q=>?_) q
  split at e
  ·cases e
   unfold Den at h
   exact⟨_,h,jah R q (by unfold Den;rfl)⟩
  ·cases e
 ·refine imT (jv9 ⟨ha.t ht⟩).h fun σ H Q=>?_
  rintro⟨w,μ,ρ,b,μ',R,S,e,q⟩
  obtain⟨k,μ1,e1,e⟩:=Out.bind_ok e
  cases e
  exact⟨w,μ,ρ,k,_,R,S,e1,q⟩
theorem juX {a b:E}{σ:_L2.St}{H:Hp}{Q:VK}:T3E K (ev G (.and_ a b)).v σ H Q→jrf (T3E K (ev G a).v) (T3E K (ev G b).v) σ H Q:=by
 rintro⟨w,μ,ρ,d,μ',R,S,e,q⟩
 obtain⟨x,μ1,e1,e⟩:=Out.bind_ok e
 split at e
 ·rename_i k
  refine⟨w,μ,ρ,_,μ1,R,S,e1,fun w1 H1 v x1 R1 d1=>?_⟩
  unfold Den at d1
  refine⟨k,d1,?_⟩
  cases k with
  |true =>
   rw[if_pos rfl]at e ⊢
   exact⟨w1,μ1,ρ,d,μ',R1,S.mono x1,e,fun w2 H2 v2 x2 R2 d2=>q w2 H2 v2 (x1.trans x2) R2 d2⟩
  |false =>
   rw[if_neg Bool.false_ne_true]at e ⊢
   cases e
   exact q w1 H1 _ x1 R1 (by unfold Den;rfl)
 ·cases e
theorem jx3 {a b:E}{σ:_L2.St}{H:Hp}{Q:VK}:T3E K (ev G (.or_ a b)).v σ H Q→jw6 (T3E K (ev G a).v) (T3E K (ev G b).v) σ H Q:=by
 rintro⟨w,μ,ρ,d,μ',R,S,e,q⟩
 obtain⟨x,μ1,e1,e⟩:=Out.bind_ok e
 split at e
 ·rename_i k
  refine⟨w,μ,ρ,_,μ1,R,S,e1,fun w1 H1 v x1 R1 d1=>?_⟩
  unfold Den at d1
  refine⟨k,d1,?_⟩
  cases k with
  |true =>
   rw[if_pos rfl]at e ⊢
   cases e
   exact q w1 H1 _ x1 R1 (by unfold Den;rfl)
  |false =>
   rw[if_neg Bool.false_ne_true]at e ⊢
   exact⟨w1,μ1,ρ,d,μ',R1,S.mono x1,e,fun w2 H2 v2 x2 R2 d2=>q w2 H2 v2 (x1.trans x2) R2 d2⟩
 ·cases e
theorem ju2 {a b:E}{σ:_L2.St}{H:Hp}{Q:Bool→Hp→Prop}:T3T K (ev G (.and_ a b)).t σ H Q→jxe (T3T K (ev G a).t) (T3T K (ev G b).t) σ H Q:=by
 rintro⟨w,μ,ρ,d,μ',R,S,e,q⟩
 obtain⟨k,μ1,e1,e⟩:=Out.bind_ok e
 refine⟨w,μ,ρ,k,μ1,R,S,e1,fun w1 H1 x1 R1=>?_⟩
 dsimp only
 cases k with
 |true =>
  rw[if_pos rfl]at e ⊢
  exact⟨w1,μ1,ρ,d,μ',R1,S.mono x1,e,fun w2 H2 x2 R2=>q w2 H2 (x1.trans x2) R2⟩
 |false =>
  rw[if_neg Bool.false_ne_true]at e ⊢
  cases e
  exact q w1 H1 x1 R1
theorem jx6 {a b:E}{σ:_L2.St}{H:Hp}{Q:Bool→Hp→Prop}:T3T K (ev G (.or_ a b)).t σ H Q→tOr (T3T K (ev G a).t) (T3T K (ev G b).t) σ H Q:=by
 rintro⟨w,μ,ρ,d,μ',R,S,e,q⟩
 obtain⟨k,μ1,e1,e⟩:=Out.bind_ok e
 refine⟨w,μ,ρ,k,μ1,R,S,e1,fun w1 H1 x1 R1=>?_⟩
 dsimp only
 cases k with
 |true =>
  rw[if_pos rfl]at e ⊢
  cases e
  exact q w1 H1 x1 R1
 |false =>
  rw[if_neg Bool.false_ne_true]at e ⊢
  exact⟨w1,μ1,ρ,d,μ',R1,S.mono x1,e,fun w2 H2 x2 R2=>q w2 H2 (x1.trans x2) R2⟩
theorem joq {a b:E}{x y:Expr}{pos:Pos}(h1:tst x=true)(h2:tst y=true)(ha:Snd G X a x)(hb:Snd G X b y):Snd G X (.and_ a b) (.BoolOp .And [x,y] pos):=by
 have hw:PW X (.BoolOp .And [x,y] pos) (T3T X.K (ev G (.and_ a b)).t):=imW (jqm ⟨ha.t h1⟩ (jqC ⟨hb.t h2⟩)).h fun σ H Q q=>ju2 q
 exact⟨imE (jqq ⟨ha.v⟩ (jqj ⟨hb.v⟩)).h fun σ H Q q=>juX q,fun _=>hw.pt,fun _=>hw⟩
theorem jnW {a b:E}{x y:Expr}{rest:List Expr}{pos:Pos}(h1:tst x=true)(ha:Snd G X a x)(hb:Snd G X b (.BoolOp .And (y :: rest) pos)):Snd G X (.and_ a b) (.BoolOp .And (x :: y :: rest) pos):=by
 have hw:PW X (.BoolOp .And (x :: y :: rest) pos) (T3T X.K (ev G (.and_ a b)).t):=imW (jqm ⟨ha.t h1⟩ ⟨hb.w rfl⟩).h fun σ H Q q=>ju2 q
 exact⟨imE (jqq ⟨ha.v⟩ ⟨hb.v⟩).h fun σ H Q q=>juX q,fun _=>hw.pt,fun _=>hw⟩
theorem jr9 {a b:E}{x y:Expr}{pos:Pos}(h1:tst x=true)(h2:tst y=true)(ha:Snd G X a x)(hb:Snd G X b y):Snd G X (.or_ a b) (.BoolOp .Or [x,y] pos):=by
 have hw:PW X (.BoolOp .Or [x,y] pos) (T3T X.K (ev G (.or_ a b)).t):=imW (jvV ⟨ha.t h1⟩ (jtp ⟨hb.t h2⟩)).h fun σ H Q q=>jx6 q
 exact⟨imE (juT ⟨ha.v⟩ (jqj ⟨hb.v⟩)).h fun σ H Q q=>jx3 q,fun _=>hw.pt,fun _=>hw⟩
theorem jr {a b:E}{x y:Expr}{rest:List Expr}{pos:Pos}(h1:tst x=true)(ha:Snd G X a x)(hb:Snd G X b (.BoolOp .Or (y :: rest) pos)):Snd G X (.or_ a b) (.BoolOp .Or (x :: y :: rest) pos):=by
 have hw:PW X (.BoolOp .Or (x :: y :: rest) pos) (T3T X.K (ev G (.or_ a b)).t):=imW (jvV ⟨ha.t h1⟩ ⟨hb.w rfl⟩).h fun σ H Q q=>jx6 q
 exact⟨imE (juT ⟨ha.v⟩ ⟨hb.v⟩).h fun σ H Q q=>jx3 q,fun _=>hw.pt,fun _=>hw⟩
theorem jqR {op:CmpOp}{a b:E}{x y:Expr}{pos:Pos}(o:Ok G j c X)(hm:behindInMarks op y=false)(ha:Snd G X a x)(hb:Snd G X b y):Snd G X (.cmp op a b) (.Compare x [op] [y] pos):=by
 obtain⟨r,ho,hs⟩:=jmd (X:=X) (op:=op) (jnu o)
 refine⟨imE (jpM ho ⟨ha.v⟩ ⟨hb.v⟩ hm).h fun σ H Q q=>joD hs q,fun _=>?_,fun h=>by cases h⟩
 refine imT (jpR ho ⟨ha.v⟩ ⟨hb.v⟩ hm).h fun σ H Q q=>joD hs (jnc (fun ρ μ d μ' e=>?_) q)
 obtain⟨_,_,_,e⟩:=Out.bind_ok e
 obtain⟨_,_,_,e⟩:=Out.bind_ok e
 obtain⟨b,h,_⟩:=jdY _ _ _ _ _ e
 exact⟨b,h⟩
theorem jmy {o1 o2:CmpOp}{a b d:E}{r r':R2}(hs:jln K (jeh o1) r)(hs':jln K (jeh o2) r'){σ:_L2.St}{H:Hp}{Q:VK}:T3E K (ev G (.chain o1 o2 a b d)).v σ H Q→jhI r r' (T3E K (ev G a).v) (T3E K (ev G b).v) (T3E K (ev G d).v) σ H Q:=by
 rintro⟨w,μ,ρ,d0,μ',R,S,e,q⟩
 obtain⟨x,μ1,e1,e⟩:=Out.bind_ok e
 obtain⟨y,μ2,e2,e⟩:=Out.bind_ok e
 obtain⟨z,μ3,e3,eB⟩:=Out.bind_ok e
 clear e
 obtain⟨k,rfl,rfl⟩:=jdY _ _ _ _ _ e3
 refine⟨w,μ,ρ,x,μ1,R,S,e1,fun w1 H1 v1 x1 R1 d1=>⟨w1,μ1,ρ,y,μ3,R1,S.mono x1,e2,fun w2 H2 v2 x2 R2 d2=>?_⟩⟩
 refine hs w2 μ3 H2 x y (.bl k) μ3 v1 v2 _ R2 (d1.mono x2) d2 e3 fun w3 H3 v3 x3 R3 d3=>?_
 unfold Den at d3
 refine⟨k,d3,?_⟩
 have e':(if k then ((ev G d).v ρ μ3).bind fun u μ4=>jeh o2 y u μ4 else Out.ok (.bl false) μ3)=.ok d0 μ':=eB
 cases k with
 |true =>
  rw[if_pos rfl]at e' ⊢
  obtain⟨u,μ4,e4,e'⟩:=Out.bind_ok e'
  exact⟨w3,μ3,ρ,u,μ4,R3,S.mono ((x1.trans x2).trans x3),e4,fun w4 H4 v4 x4 R4 d4=>hs' w4 μ4 H4 y u d0 μ' v2 v4 Q R4 (d2.mono (x3.trans x4)) d4 e' fun w5 H5 v5 x5 R5 d5=>q w5 H5 v5 ((((x1.trans x2).trans x3).trans x4).trans x5) R5 d5⟩
 |false =>
  rw[if_neg Bool.false_ne_true]at e' ⊢
  cases e'
  exact q w3 H3 _ ((x1.trans x2).trans x3) R3 (by unfold Den;rfl)
theorem jmK {o1 o2:CmpOp}{a b d:E}{x y z:Expr}{pos:Pos}(o:Ok G j c X)(hm:lastMarks [o1,o2] [y,z]=false)(ha:Snd G X a x)(hb:Snd G X b y)(hd:Snd G X d z):Snd G X (.chain o1 o2 a b d) (.Compare x [o1,o2] [y,z] pos):=by
 obtain⟨r,ho,hs⟩:=jmd (X:=X) (op:=o1) (jnu o)
 obtain⟨r',ho',hs'⟩:=jmd (X:=X) (op:=o2) (jnu o)
 refine⟨imE (jom ho ho' ⟨ha.v⟩ ⟨hb.v⟩ ⟨hd.v⟩ hm).h fun σ H Q q=>jmy hs hs' q,fun _=>?_,fun h=>by cases h⟩
 refine imT (joQ ho ho' ⟨ha.v⟩ ⟨hb.v⟩ ⟨hd.v⟩ hm).h fun σ H Q q=>jmy hs hs' (jnc (fun ρ μ d μ' e=>?_) q)
 obtain⟨_,_,_,e⟩:=Out.bind_ok e
 obtain⟨_,_,_,e⟩:=Out.bind_ok e
 obtain⟨z,_,e3,e⟩:=Out.bind_ok e
 split at e
 ·split at e
  ·obtain⟨_,_,_,e⟩:=Out.bind_ok e
   obtain⟨b,h,_⟩:=jdY _ _ _ _ _ e
   exact⟨b,h⟩
  ·cases e
   exact⟨_,rfl⟩
 ·cases e
theorem ju8 {a:E}{σ:_L2.St}{H:Hp}{Q:VK}:T3E K (ev G (.isN a)).v σ H Q→jwq (T3E K (ev G a).v) σ H Q:=fun q=>jot (r:=fun x H Q=>Q (.bl (decide (x=.non))) H) (fun w μ H d1 d μ' v1 Q R h e q=>by
 rw[jmR h]
 split at e
 ·cases e
  exact jah R q (by unfold Den;rfl)
 ·rename_i hn
  cases e
  have:jgM d1=false:=by
   cases d1 <;> first | rfl | exact absurd rfl hn
  rw[this]
  exact jah R q (by unfold Den;rfl)) q
theorem jpH {a:E}{σ:_L2.St}{H:Hp}{Q:VK}:T3E K (ev G (.notN a)).v σ H Q→joL (T3E K (ev G a).v) σ H Q:=fun q=>jot (r:=fun x H Q=>Q (.bl (!decide (x=.non))) H) (fun w μ H d1 d μ' v1 Q R h e q=>by
 rw[jmR h]
 split at e
 ·cases e
  exact jah R q (by unfold Den;rfl)
 ·rename_i hn
  cases e
  have:jgM d1=false:=by
   cases d1 <;> first | rfl | exact absurd rfl hn
  rw[this]
  exact jah R q (by unfold Den;rfl)) q
theorem js7 {a:E}{x:Expr}{k:Nat}{p pos:Pos}(ha:Snd G X a x):Snd G X (.isN a) (.Compare x [.Is] [.Constant .none k p] pos):=by
 refine⟨imE (jvK ⟨ha.v⟩).h fun σ H Q q=>ju8 q,fun _=>?_,fun h=>by cases h⟩
 refine imT (jtI ⟨ha.v⟩).h fun σ H Q q=>ju8 (jnc (fun ρ μ d μ' e=>?_) q)
 obtain⟨_,_,_,e⟩:=Out.bind_ok e
 split at e <;> (cases e;exact⟨_,rfl⟩)
theorem jpb {a:E}{x:Expr}{k:Nat}{p pos:Pos}(ha:Snd G X a x):Snd G X (.notN a) (.Compare x [.IsNot] [.Constant .none k p] pos):=by
 refine⟨imE (jr2 ⟨ha.v⟩).h fun σ H Q q=>jpH q,fun _=>?_,fun h=>by cases h⟩
 refine imT (jqS ⟨ha.v⟩).h fun σ H Q q=>jpH (jnc (fun ρ μ d μ' e=>?_) q)
 obtain⟨_,_,_,e⟩:=Out.bind_ok e
 split at e <;> (cases e;exact⟨_,rfl⟩)
theorem js4 {k a b:E}{z x y:Expr}{pos:Pos}(ht:tst z=true)(hk:Snd G X k z)(ha:Snd G X a x)(hb:Snd G X b y):Snd G X (.ife k a b) (.IfExp z x y pos):=by
 refine⟨imE (jn4 ⟨hk.t ht⟩ ⟨ha.v⟩ ⟨hb.v⟩).h fun σ H Q=>?_,(fun h=>by cases h),(fun h=>by cases h)⟩
 rintro⟨w,μ,ρ,d,μ',R,S,e,q⟩
 obtain⟨k',μ1,e1,e⟩:=Out.bind_ok e
 refine⟨w,μ,ρ,k',μ1,R,S,e1,fun w1 H1 x1 R1=>?_⟩
 dsimp only
 cases k' with
 |true =>
  rw[if_pos rfl]at e ⊢
  exact⟨w1,μ1,ρ,d,μ',R1,S.mono x1,e,fun w2 H2 v2 x2 R2 d2=>q w2 H2 v2 (x1.trans x2) R2 d2⟩
 |false =>
  rw[if_neg Bool.false_ne_true]at e ⊢
  exact⟨w1,μ1,ρ,d,μ',R1,S.mono x1,e,fun w2 H2 v2 x2 R2 d2=>q w2 H2 v2 (x1.trans x2) R2 d2⟩
theorem jnZ {es:List E}{xs:List Expr}{k:Nat}{pos:Pos}(h:PA X xs (T3A X.K (evL G es))):Snd G X (.tup es) (.Tuple xs k pos):=by
 have hv:PE X (.Tuple xs k pos) (T3E X.K (ev G (.tup es)).v):=imE (jmv h) fun σ H Q q=>jd6 jsG q
 exact⟨hv,(jaD hv rfl).1,(jaD hv rfl).2⟩
theorem jpf {m:Bool}{es:List E}{xs:List Expr}{pos:Pos}(h:PA X xs (T3A X.K (evL G es))):Snd G X (.lst m es) (.List xs pos):=by
 have hv:PE X (.List xs pos) (T3E X.K (ev G (.lst m es)).v):=imE (jjR h) fun σ H Q q=>jd6 jq0 q
 exact⟨hv,(jaD hv rfl).1,(jaD hv rfl).2⟩
theorem jvY {a b:E}{x y:Expr}{pos:Pos}(o:Ok G j c X)(hp:jdo y=true)(ha:Snd G X a x)(hb:Snd G X b y):Snd G X (.ix a b) (.Subscript x y pos):=by
 have hv:PE X (.Subscript x y pos) (T3E X.K (ev G (.ix a b)).v):=imE (juw (jwf.or (jxC (by have:=jnu o;omega))) ha.v hb.v (jfE hp)) fun σ H Q q=>joD jwK q
 exact⟨hv,(jaD hv rfl).1,(jaD hv rfl).2⟩
end
end _L3
namespace _L3
open PySem PySem.Spec PyProof.Rows _L2
section
variable {K:PySem.W.Frag} {X:Cx} {G:List FnE} {j:Nat} {c:Stt}
noncomputable def T3O (K:PySem.W.Frag)(r:S3→M→Out (Option Int)):TO:=fun σ H Q=>∃(w:Wd) (μ:M) (ρ:S3) (o:Option Int) (μ':M),Rep K w μ H∧jcz K w μ.length ρ σ∧r ρ μ=.ok o μ'∧∀w' H',Ext w w' μ.length μ'.length→Rep K w' μ' H'→Q o H'
theorem imO {e:Option Expr}{t t':TO}(h:PO X e t)(k:∀σ H Q,t' σ H Q→t σ H Q):PO X e t':=fun pins s σ H Q I hw=>h pins s σ H Q I (k σ H Q hw)
theorem jor {es:List E}{l:Option Expr}(h:∀e x,es=[e]→l=some x→PE X x (T3E X.K (ev G e).v))(hl:es.length=l.toList.length):PO X l (T3O X.K fun ρ μ=>jib (evL G es ρ μ)):=by
 cases l with
 |none =>
  have:es=[]:=List.length_eq_zero_iff.mp hl
  subst this
  refine imO jqH fun σ H Q=>?_
  rintro⟨w,μ,ρ,o,μ',R,S,e,q⟩
  have e':Out.ok none μ=.ok o μ':=by
   have:evL G [] ρ μ=.ok [] μ:=rfl
   unfold jib at e
   dsimp only at e
   rw[this]at e
   exact e
  cases e'
  exact q w H (Ext.refl _ _) R
 |some x =>
  obtain⟨e1,rfl⟩:∃e1,es=[e1]:=List.length_eq_one_iff.mp hl
  refine imO (jrI (h e1 x rfl rfl)) fun σ H Q=>?_
  rintro⟨w,μ,ρ,o,μ',R,S,e,q⟩
  have e':(((ev G e1).v ρ μ).bind fun d μ1=>Out.ok [d] μ1).bind (fun ds μ=>match ds with
    |[]=>.ok none μ
    |[.int i]=>.ok (some i) μ
    |_=>.bad)=.ok o μ':=by
   have:evL G [e1] ρ μ=(((ev G e1).v ρ μ).bind fun d μ1=>Out.ok [d] μ1):=rfl
   unfold jib at e
   dsimp only at e
   rw[this]at e
   exact e
  obtain⟨ds,μ1,e1',e2⟩:=Out.bind_ok e'
  obtain⟨d,μ2,e3,e4⟩:=Out.bind_ok e1'
  cases e4
  split at e2
  ·rename_i hh
   cases hh
  ·rename_i i hh
   cases hh
   cases e2
   refine⟨w,μ,ρ,.int i,_,R,S,e3,fun w1 H1 v x1 R1 d1=>?_⟩
   unfold Den at d1
   exact⟨i,d1,q w1 H1 x1 R1⟩
  ·cases e2
theorem jv2 {m:Bool}{a:E}{lo hi:List E}{x:Expr}{l h:Option Expr}{p pos:Pos}(ha:Snd G X a x)(hl:PO X l (T3O X.K fun ρ μ=>jib (evL G lo ρ μ)))(hh:PO X h (T3O X.K fun ρ μ=>jib (evL G hi ρ μ))):Snd G X (.sl m a lo hi) (.Subscript x (.Slice l h none p) pos):=by
 have hv:PE X (.Subscript x (.Slice l h none p) pos) (T3E X.K (ev G (.sl m a lo hi)).v):=by
  refine imE (jpq jvO ha.v hl hh) fun σ H Q=>?_
  rintro⟨w,μ,ρ,d,μ',R,S,e,q⟩
  obtain⟨d1,μ1,e1,e⟩:=Out.bind_ok e
  obtain⟨o1,μ2,e2,e⟩:=Out.bind_ok e
  obtain⟨o2,μ3,e3,e⟩:=Out.bind_ok e
  exact⟨w,μ,ρ,d1,μ1,R,S,e1,fun w1 H1 v1 x1 R1 k1=>⟨w1,μ1,ρ,o1,μ2,R1,S.mono x1,e2,fun w2 H2 x2 R2=>⟨w2,μ2,ρ,o2,μ3,R2,S.mono (x1.trans x2),e3,fun w3 H3 x3 R3=>jtA R3 (k1.mono (x2.trans x3)) e fun w4 H4 v4 x4 R4 k4=>q w4 H4 v4 (((x1.trans x2).trans x3).trans x4) R4 k4⟩⟩⟩
 exact⟨hv,(jaD hv rfl).1,(jaD hv rfl).2⟩
theorem jgY {w:Wd}{n:Nat}{ds:List D}{xs:List V}(h:DenL K w n ds xs):∀ns:List Nat,DenL K w n (ns.filterMap (ds[·]?)) (ns.filterMap (xs[·]?))
 |[]=>by unfold DenL;rfl
 |i :: ns=>by
  rw[List.filterMap_cons,List.filterMap_cons]
  cases e:ds[i]? with
  |none =>
   have:xs[i]?=none:=by
    rw[List.getElem?_eq_none_iff]at e ⊢
    rw[← jag h]
    exact e
   rw[this]
   exact jgY h ns
  |some d =>
   obtain⟨v,e1,e2⟩:=jc1 h e
   rw[e1]
   unfold DenL
   exact⟨v,_,rfl,e2,jgY h ns⟩
theorem jtf {m:Bool}{w:Wd}{μ μ':M}{H:Hp}{d1 d:D}{v1:V}{lo st:Option Int}{Q:VK}(R:Rep K w μ H)(h1:Den K w μ.length d1 v1)(e:jww m d1 lo st μ=.ok d μ')(q:jjZ K w μ.length d μ' Q):jul K v1 lo st H Q:=by
 unfold jww at e
 split at e
 ·rename_i i k
  split at e
  ·rename_i hc
   split at e
   ·rename_i ds hs
    obtain⟨a,us,rfl,s1,l1⟩:=jbM R h1 hs
    refine⟨a,us,i,k,rfl,rfl,rfl,hc.1,hc.2,s1,jeb R ?_ e q⟩
    rw[← jag l1]
    exact jgY l1 _
   ·cases e
  ·cases e
 ·cases e
theorem jtc {m:Bool}{a:E}{lo st:List E}{x l h:Expr}{p pos:Pos}(ha:Snd G X a x)(hl:PO X (some l) (T3O X.K fun ρ μ=>jib (evL G lo ρ μ)))(hh:PO X (some h) (T3O X.K fun ρ μ=>jib (evL G st ρ μ))):Snd G X (.stp m a lo st) (.Subscript x (.Slice (some l) none (some h) p) pos):=by
 have hv:PE X (.Subscript x (.Slice (some l) none (some h) p) pos) (T3E X.K (ev G (.stp m a lo st)).v):=by
  refine imE (jrr ha.v hl hh) fun σ H Q=>?_
  rintro⟨w,μ,ρ,d,μ',R,S,e,q⟩
  obtain⟨d1,μ1,e1,e⟩:=Out.bind_ok e
  obtain⟨o1,μ2,e2,e⟩:=Out.bind_ok e
  obtain⟨o2,μ3,e3,e⟩:=Out.bind_ok e
  exact⟨w,μ,ρ,d1,μ1,R,S,e1,fun w1 H1 v1 x1 R1 k1=>⟨w1,μ1,ρ,o1,μ2,R1,S.mono x1,e2,fun w2 H2 x2 R2=>⟨w2,μ2,ρ,o2,μ3,R2,S.mono (x1.trans x2),e3,fun w3 H3 x3 R3=>jtf R3 (k1.mono (x2.trans x3)) e fun w4 H4 v4 x4 R4 k4=>q w4 H4 v4 (((x1.trans x2).trans x3).trans x4) R4 k4⟩⟩⟩
 exact⟨hv,(jaD hv rfl).1,(jaD hv rfl).2⟩
theorem jmS:∀{es:List E} {ρ:S3} {μ μ':M} {ds:List D},evL G es ρ μ=.ok ds μ'→ds.length=es.length
 |[],ρ,μ,μ',ds,e=>by
  have e':Out.ok [] μ=.ok ds μ':=e
  cases e'
  rfl
 |x :: es,ρ,μ,μ',ds,e=>by
  obtain⟨d,μ1,e1,e⟩:=Out.bind_ok e
  obtain⟨ds',μ2,e2,e⟩:=Out.bind_ok e
  cases e
  rw[List.length_cons,List.length_cons,jmS e2]
theorem joU {md:Md}{F:Fn}{np:Nat}{w1:Wd}{μ1 μ':M}{H1:Hp}{ds:List D}{d:D}{vs:List V}{Q:VK}{EX:XK}(hl:ds.length=np)(R1:Rep K w1 μ1 H1)(l1:DenL K w1 μ1.length ds vs)(e:jaf md F ds μ1=.ok d μ')(q:jjZ K w1 μ1.length d μ' Q):jdL K np F vs H1 Q EX:=by
 refine⟨by rw[← jag l1];exact hl,?_⟩
 cases md with
 |raw=>exact⟨w1,μ1,ds,d,μ',R1,l1,e,q⟩
 |frz =>
  simp only[jaf]at e
  split at e
  ·rename_i d0 μ0 e0
   split at e
   ·rename_i ht
    split at e
    ·rename_i d' hd'
     cases e
     refine⟨w1,_,ds,d0,μ0,R1,l1,e0,fun w2 H2 v x2 R2 d2=>?_⟩
     obtain⟨w3,x3,R3,f3,_,_⟩:=jpY (keep:=[]) (cs:=[]) R1 x2 R2 ht List.nodup_nil (fun k h=>by cases h) rfl
     simp only[List.map_nil,List.append_nil]at x3 R3 f3
     exact q w3 H2 v x3 R3 (f3 _ _ _ d2 hd')
    ·cases e
   ·cases e
  ·split at e
   ·split at e <;> cases e
   ·cases e
  ·cases e
 |new =>
  simp only[jaf]at e
  split at e
  ·rename_i d0 μ0 e0
   split at e
   ·rename_i ht
    split at e
    ·rename_i d' cs hd'
     cases e
     refine⟨w1,μ1,ds,d0,μ0,R1,l1,e0,fun w2 H2 v x2 R2 d2=>?_⟩
     unfold jxT at hd'
     split at hd'
     ·rename_i hk
      split at hd'
      ·rename_i cs' hc
       obtain⟨w3,x3,R3,f3,c3,z3⟩:=jpY (keep:=jqg d0) (cs:=cs') R1 x2 R2 ht hk.1 hk.2 hc
       split at hd'
       ·rename_i k
        obtain⟨d'',e1,e2⟩:=jb3 hd'
        cases e2
        unfold Den at d2
        rw[d2.2]at *
        exact q w3 H2 _ x3 R3 (c3 k _ d2.1 e1)
       ·rename_i es
        obtain⟨es',e1,e2⟩:=jb3 hd'
        cases e2
        refine q w3 H2 v x3 R3 ?_
        unfold Den at d2 ⊢
        obtain⟨a,xs,rfl,s1,l2⟩:=d2
        refine⟨a,xs,rfl,z3.tup s1,?_⟩
        generalize jqg (.tup es)=ks at e1 f3 c3
        clear hd' s1 hk hc e0 q
        have p2:=jaC.mp l2
        clear l2
        refine jaC.mpr ?_
        induction p2 generalizing es' with
        |nil=>unfold jjF at e1;cases e1;exact .nil
        |cons r t ih =>
         unfold jjF at e1
         split at e1
         ·rename_i y ys h1 h2
          cases e1
          refine .cons ?_ (ih _ h2)
          unfold jve at h1
          split at h1
          ·unfold Den at r
           rw[r.2]
           exact c3 _ _ r.1 h1
          ·exact f3 _ _ _ r h1
         ·cases e1
       ·cases hd'
      ·cases hd'
     ·cases hd'
    ·cases e
   ·cases e
  ·split at e
   ·split at e <;> cases e
   ·cases e
  ·cases e
theorem joK {f:Nat}{g:FnE}{md:Md}{es:List E}{x:Str}{y:Expr}{ys:List Expr}{p pos:Pos}(o:Ok G j c X)(hf:G[f]?=some g)(hn:g.name=x)(hg:jcj c.sc x=true)(hp:es.length=g.ps.length)(hlv:g.lv≤j)(hst:jak (y :: ys)=true)(h:PA X (y :: ys) (T3A X.K (evL G es))) :
  Snd G X (.call f md es) (.Call (.Name x p) (y :: ys) [] pos):=by
 subst hn
 have hv:PE X (.Call (.Name g.name p) (y :: ys) [] pos) (T3E X.K (ev G (.call f md es)).v):=by
  refine imE (jtx (o.fns f g hf hlv) o.room (by rw[o.sc];exact hg) h hlv hst) fun σ H Q=>?_
  rintro⟨w,μ,ρ,d,μ',R,S,e,q⟩
  obtain⟨ds,μ1,e1,e⟩:=Out.bind_ok e
  unfold jkT at e
  rw[hf]at e
  refine⟨w,μ,ρ,ds,μ1,R,S,e1,fun w1 H1 vs x1 R1 d1=>?_⟩
  show jdL X.K g.ps.length g.F (vs++[]) H1 Q E0
  rw[List.append_nil]
  exact joU ((jmS e1).trans hp) R1 d1 e fun w2 H2 v x2 R2 d2=>q w2 H2 v (x1.trans x2) R2 d2
 exact⟨hv,(jaD hv rfl).1,(jaD hv rfl).2⟩
noncomputable def joy (ta:TA):TE:=fun σ H Q=>ta σ H fun vs H1=>∃n:Int,vs=[.int n]∧-(2 ^ 62)≤n∧n≤16777216∧∀p,H1 p=none→Q (.ref p) (upd H1 p (.lst ((List.range n.toNat).map fun (k:Nat)=>V.int (k:Int))))
theorem jiv {α β:Type}{F:α→β→Prop}:∀{xs:List α} {ys:List β},xs.length=ys.length→(∀(i:Nat) (a:α) (b:β),xs[i]?=some a→ys[i]?=some b→F a b)→Paired F xs ys
 |[],[],_,_=>.nil
 |[],_ :: _,h,_=>by cases h
 |_ :: _,[],h,_=>by cases h
 |a :: xs,b :: ys,h,k=>.cons (k 0 a b rfl rfl) (jiv (by simpa using h) fun i a b h1 h2=>k (i+1) a b (by simpa using h1) (by simpa using h2))
theorem jkM {a:Expr} {ta:TA} {p1 p2 p3 p4:Pos} (hc:X.calm=true) (hg1:Gl X "list") (hm1:X.mg "list" = none) (hg2:Gl X "range") (hm2:X.mg "range" = none) (ha:PA X [a] ta)
  (b1:starEach [.Call (.Name "range" p2) [a] [] p3] X.env=[(false,eval (.Call (.Name "range" p2) [a] [] p3) X.env)]) (b2:starEach [a] X.env=[(false,eval a X.env)]) :
  PE X (.Call (.Name "list" p1) [.Call (.Name "range" p2) [a] [] p3] [] p4) (joy ta):=by
 intro pins s σ H Q I h
 refine Call_name1 b1 (jdJ I hg1 hm1 ji2 (callWith_type1 (Call_ (jdJ I hg2 hm2 boot_range (PyProof.Rows.callWith_type1 (thn (ha p3 pins s σ H _ I h) fun us s1 ⟨vs,H1,I1,r1,q1⟩=>?_) b2 rfl)))))
 obtain⟨n,rfl,h1,h2,q⟩:=q1
 obtain⟨u,rfl,t,rfl⟩:=r1.one
 refine call_range_1 ?_
 refine call_list_range (n:=n.toNat) (I1.ok.hd hc) (IsRange.new ..) (small_one (by omega) (by omega) h1 (by omega)) (by rw[rangeSize_one];split <;> omega) (by omega) fun h' tk acc c' k g it=>?_
 obtain⟨ez,ei⟩:=it
 have hl:acc.toList.length=n.toNat:=by simpa using ez
 have ez2:(s1.heap.push {cls:=.type "range",data:=.fields #[.int 0 s1.toks,.int n t,.int 1 (s1.toks+1)]}).objs.size=s1.heap.objs.size+1:=Heap.size_push _ _
 refine⟨.ref (s1.heap.objs.size+1),upd H1 (s1.heap.objs.size+1) (.lst ((List.range n.toNat).map fun (k:Nat)=>V.int (k:Int))),I1.laid (fun b o g'=>k b o (Heap.get?_push_of_some _ g')) (Nat.le_succ _) ⟨?_,acc.toList,c',?_,?_⟩,?_,q _ (I1.hok.fresh (Nat.le_succ _))⟩
 ·rw[List.length_map,List.length_range,sizeLine_eq]
  omega
 ·refine jiv (by rw[List.length_map,List.length_range,hl]) fun i x v h1 h2=>?_
  have hi:i < n.toNat:=by
   have:=(List.getElem?_eq_some_iff.mp h1).1
   simpa using this
  have ex:x=V.int (i:Int):=by
   have:((List.range n.toNat).map fun (k:Nat)=>V.int (k:Int))[i]?=some (.int (i:Int)):=by simp[hi]
   rw[this]at h1
   exact (Option.some.inj h1).symm
  subst ex
  obtain⟨t,rfl⟩:=ei i v (by simpa using h2)
  exact⟨t,by simp⟩
 ·rw[Array.toArray_toList]
  exact ez2 ▸ g
 ·show Value.ref (s1.heap.push _).objs.size=_
  rw[ez2]
theorem jcF {w:Wd}{n:Nat}:∀ks:List Int,DenL K w n (ks.map D.int) (ks.map V.int)
 |[]=>by unfold DenL;rfl
 |k :: ks=>by rw[List.map_cons,List.map_cons];unfold DenL;exact⟨_,_,rfl,by unfold Den;rfl,jcF ks⟩
theorem jvx {m:Bool}:jhQ K (lrD m) (fun vs H Q=>∃n:Int,vs=[.int n]∧-(2 ^ 62)≤n∧n≤16777216∧∀p,H p=none→Q (.ref p) (upd H p (.lst ((List.range n.toNat).map fun (k:Nat)=>V.int (k:Int))))):=by
 intro w μ H ds d μ' vs Q R h e q
 unfold lrD at e
 split at e
 ·rename_i n
  split at e
  ·rename_i hn
   obtain⟨v,rfl,h1⟩:=jgn h
   unfold Den at h1
   subst h1
   refine⟨n,rfl,hn.1,hn.2,jeb R ?_ e q⟩
   have:=jcF (K:=K) (w:=w) (n:=μ.length) ((List.range n.toNat).map fun (k:Nat)=>(k:Int))
   rw[List.map_map,List.map_map]at this
   exact this
  ·cases e
 ·cases e
end
end _L3
namespace _L3
open PySem PySem.Spec PyProof.Rows _L2
section
variable {K:PySem.W.Frag} {X:Cx} {G:List FnE} {j:Nat} {c:Stt}
theorem mg_of (o:Ok G j c X){x:Str}(h:x∈jdX):X.mg x=none:=o.mg x h
theorem jbo (o:Ok G j c X){x:Str}(h:jcj c.sc x=true):jcj X.env.scope x=true:=by rw[o.sc];exact h
theorem jkq:jhQ X.K jfR (jmt X.K X.prog X.w):=by
 intro w μ H ds d μ' vs Q R h e q
 unfold jfR at e
 split at e
 ·split at e
  ·rename_i xs hs
   split at e
   ·rename_i zs hz
    split at e
    ·rename_i hl
     cases e
     obtain⟨v,rfl,h1⟩:=jgn h
     obtain⟨a,us,rfl,s1,l1⟩:=jej R h1 hs
     have:=jex l1 hz
     subst this
     refine⟨a,zs,rfl,s1,hl,fun l hn=>⟨l,_,rfl,jay,Nat.le_trans (jpN zs) hl,?_⟩⟩
     obtain⟨R',x⟩:=R.frz hn (jtJ X.prog X.w l (ddS zs).length)
     exact q _ _ _ x R' (by unfold Den;rfl)
    ·cases e
   ·cases e
  ·cases e
 ·cases e
theorem jqh {H:Hp}{a:Addr}{xs:List V}(h:SqL K H a xs∨SqT K H a xs):∃b,SqB b K H a xs:=by
 rcases h with h | h
 ·exact⟨false,h⟩
 ·exact⟨true,h⟩
theorem jiK {m:Bool}:jhQ K (jfm m) (jjr K):=by
 intro w μ H ds d μ' vs Q R h e q
 unfold jfm at e
 split at e
 ·split at e
  ·rename_i xs ys hx hy
   split at e
   ·rename_i zs hz
    split at e
    ·rename_i hc
     obtain⟨v,u,rfl,h1,h2⟩:=jvi h
     obtain⟨a,us,rfl,s1,l1⟩:=jej R h1 hx
     obtain⟨b,ws,rfl,s2,l2⟩:=jej R h2 hy
     have:=jex l1 hz
     subst this
     obtain⟨b1,s1⟩:=jqh s1
     obtain⟨b2,s2⟩:=jqh s2
     have hk:(zs.map (Sum.inr:Str→Key)).length=ys.length:=by rw[List.length_map];exact hc.1
     refine⟨a,b,b1,b2,zs,ws,rfl,s1,s2,by rw[← jag l2,hc.1],hc.2.1,hc.2.2,?_⟩
     cases m with
     |false =>
      rw[if_neg Bool.false_ne_true]at e
      cases e
      exact .inr fun l o es ep hl ho=>jcY R q hl fun w' x hz=>by unfold Den;exact⟨l,o,es,ep,ws,rfl,hk,ho,hz,l2.mono x⟩
     |true =>
      refine .inl fun l hl=>?_
      rw[if_pos rfl]at e
      cases e
      obtain⟨w',R',x,hg⟩:=R.cell hl (.dK ((zs.map Sum.inr).zip ws)) (.dK (zs.map Sum.inr) ys) (fun w' x=>⟨ws,hk,jay,l2.mono x⟩)
      have hlen:(μ++[some (Cl.dK (zs.map Sum.inr) ys)]).length=μ.length+1:=by simp
      refine q w' _ _ (by rw[hlen];exact x) R' ?_
      unfold Den
      exact⟨by rw[hlen];exact Nat.lt_succ_self _,by rw[hg]⟩
    ·cases e
   ·cases e
  ·cases e
 ·cases e
theorem jdF {x:Str}{id:String}{f:List D→M→Out D}{r:List V→Hp→VK→Prop}{es:List E}{y:Expr}{ys:List Expr}{p pos:Pos}(o:Ok G j c X)(hc:jcd X (.builtin id) r)(hs:jhQ X.K f r)(hg:jcj c.sc x=true)(hm:x∈jdX)(hv:bootBuiltins x=some (.builtin id))(hst:jak (y :: ys)=true)(h:PA X (y :: ys) (T3A X.K (evL G es))) :
  PE X (.Call (.Name x p) (y :: ys) [] pos) (T3E X.K fun ρ μ=>(evL G es ρ μ).bind fun ds μ1=>f ds μ1):=imE (jc9 hc (jbo o hg) (mg_of o hm) hv h hst) fun σ H Q q=>jd6 hs q
theorem jd2 {x:Str}{T:String}{f:List D→M→Out D}{r:List V→Hp→VK→Prop}{es:List E}{y:Expr}{ys:List Expr}{p pos:Pos}(o:Ok G j c X)(hc:jcd X (.type T) r)(hs:jhQ X.K f r)(hg:jcj c.sc x=true)(hm:x∈jdX)(hv:bootBuiltins x=some (.type T))(hst:jak (y :: ys)=true)(h:PA X (y :: ys) (T3A X.K (evL G es))) :
  PE X (.Call (.Name x p) (y :: ys) [] pos) (T3E X.K fun ρ μ=>(evL G es ρ μ).bind fun ds μ1=>f ds μ1):=imE (jgy hc (jbo o hg) (mg_of o hm) hv h hst) fun σ H Q q=>jd6 hs q
theorem jsU {e1:E}{ρ:S3}{μ μ':M}{ds:List D}(e:evL G [e1] ρ μ=.ok ds μ'):∃d,ds=[d]∧(ev G e1).v ρ μ=.ok d μ':=by
 obtain⟨d,μ1,e1',e⟩:=Out.bind_ok e
 cases e
 exact⟨d,rfl,e1'⟩
theorem jv7 {n:String} {e1:E} {a:Expr} {x:Str} {p q pos:Pos} (o:Ok G j c X) (hg:jcj c.sc "isinstance" = true) (hx:x=Str.ofString n) (hgx:jcj c.sc x=true) (hn:jeK.isTn n=true) (ha:jbm a=true) (h:PE X a (T3E X.K (ev G e1).v)) :
  PE X (.Call (.Name "isinstance" p) [a,.Name x q] [] pos) (T3E X.K fun ρ μ=>(evL G [e1] ρ μ).bind fun ds μ1=>jwi n ds μ1):=by
 subst hx
 have hb':bootBuiltins (Str.ofString n)=some (.type n)∧Str.ofString n∈jdX:=by
  unfold jeK.isTn at hn
  simp only[Bool.or_eq_true,beq_iff_eq]at hn
  rcases hn with ((((rfl | rfl) | rfl) | rfl) | rfl) | rfl
  ·exact⟨jp3,by decide +kernel⟩
  ·exact⟨jq4,by decide +kernel⟩
  ·exact⟨jqe,by decide +kernel⟩
  ·exact⟨ji2,by decide +kernel⟩
  ·exact⟨jj7,by decide +kernel⟩
  ·exact⟨jmJ,by decide +kernel⟩
 have h2:PE X (.Name (Str.ofString n) q) (nC (.ty n)):=(js6 (v:=.ty n) (jbo o hgx) (mg_of o hb'.2) hb'.1 rfl).h
 have hA:PA X [a,.Name (Str.ofString n) q] (jlW (T3E X.K (ev G e1).v) (jlW (nC (.ty n)) jyb)):=pac h (pac h2 jdr) ha
 refine imE (jc9 (r:=jxk X.K n) jo7 (jbo o hg) (mg_of o (by decide +kernel)) jet hA (by unfold jak;simp[ha];rfl)) fun σ H Q=>?_
 rintro⟨w,μ,ρ,d,μ',R,S,e,q⟩
 obtain⟨ds,μ1,e1,e⟩:=Out.bind_ok e
 obtain⟨d0,rfl,e2⟩:=jsU e1
 exact⟨w,μ,ρ,d0,μ1,R,S,e2,fun w1 H1 v x1 R1 d1=>js2 R1 (DenL.one d1) e fun w3 H3 v x3 R3 d3=>q w3 H3 v (x1.trans x3) R3 d3⟩
theorem jxt {m:Bool} {es:List E} {a:Expr} {p p2 p3 pos:Pos} (o:Ok G j c X) (hg:jcj c.sc "list" = true) (hg2:jcj c.sc "range" = true) (ha:jbm a=true) (h:PA X [a] (T3A X.K (evL G es))) :
  PE X (.Call (.Name "list" p) [.Call (.Name "range" p2) [a] [] p3] [] pos) (T3E X.K fun ρ μ=>(evL G es ρ μ).bind fun ds μ1=>lrD m ds μ1) :=
 imE (jkM o.calm (jax (jbo o hg)).1 (mg_of o (by decide +kernel)) (jax (jbo o hg2)).1 (mg_of o (by decide +kernel)) h (jaA rfl) (jaA ha)) fun σ H Q q=>jd6 jvx q
theorem jtO {b:Bi}{m:Bool}{es:List E}{x:Str}{y:Expr}{ys as:List Expr}{p pos:Pos}(o:Ok G j c X)(hx:jjN b=x)(hg:jcj c.sc x=true)(hst:jak (y :: ys)=true)(hb:jeK c b (y :: ys)=some as)(hA:PA X as (T3A X.K (evL G es)))(h1:∀e a,es=[e]→as=[a]→PE X a (T3E X.K (ev G e).v))(hl:es.length=as.length) :
  Snd G X (.bi b m es) (.Call (.Name x p) (y :: ys) [] pos):=by
 subst hx
 have hv:PE X (.Call (.Name (jjN b) p) (y :: ys) [] pos) (T3E X.K (ev G (.bi b m es)).v):=by
  cases b with
  |len=>cases hb;exact jdF o (jip.or jhN) jrD hg (by decide +kernel) jp8 hst hA
  |sum=>cases hb;exact jdF o (joa o.calm) jr0 hg (by decide +kernel) ju hst hA
  |min2=>cases hb;exact jdF o (jlq o.calm) js8 hg (by decide +kernel) juv hst hA
  |max2=>cases hb;exact jdF o (jnx o.calm) jqI hg (by decide +kernel) jtq hst hA
  |list=>cases hb;exact jd2 o jhU jn7 hg (by decide +kernel) ji2 hst hA
  |tuple=>cases hb;exact jd2 o jgS jlK hg (by decide +kernel) jj7 hst hA
  |int=>cases hb;exact jd2 o (jnj.or jmG) jlG hg (by decide +kernel) jp3 hst hA
  |all=>cases hb;exact jdF o jn2 (jrO o.calm) hg (by decide +kernel) jvC hst hA
  |str=>cases hb;exact jd2 o (jhV.or jnn) jrp hg (by decide +kernel) jqe hst hA
  |isT n =>
   simp only[jeK]at hb
   split at hb
   ·rename_i a t heq
    split at hb
    ·rename_i x hx
     split at hb
     ·rename_i hc
      cases hb
      cases heq
      obtain⟨q,rfl⟩:=jdV hx
      simp only[Bool.and_eq_true,beq_iff_eq]at hc
      obtain⟨⟨⟨c1,c2⟩,c3⟩,c4⟩:=hc
      obtain⟨e1,rfl⟩:∃e1,es=[e1]:=List.length_eq_one_iff.mp hl
      exact jv7 o hg c1 c2 c3 c4 (h1 e1 _ rfl rfl)
     ·cases hb
    ·cases hb
   ·cases hb
  |listRange =>
   simp only[jeK]at hb
   split at hb
   ·rename_i e heq
    split at hb
    ·rename_i x a hx
     split at hb
     ·rename_i hc
      cases hb
      cases heq
      obtain⟨p2,q2,rfl⟩:=jcL hx
      simp only[Bool.and_eq_true,beq_iff_eq]at hc
      obtain⟨⟨c1,c2⟩,c3⟩:=hc
      subst c1
      exact jxt o hg c2 c3 hA
     ·cases hb
    ·cases hb
   ·cases hb
  |lenSet =>
   simp only[jeK]at hb
   split at hb
   ·rename_i e heq
    split at hb
    ·rename_i x a hx
     split at hb
     ·rename_i hc
      cases hb
      cases heq
      obtain⟨p2,q2,rfl⟩:=jcL hx
      simp only[Bool.and_eq_true,beq_iff_eq]at hc
      obtain⟨⟨c1,c2⟩,c3⟩:=hc
      subst c1
      exact imE (jmx o.calm (jbo o hg) (mg_of o (by decide +kernel)) (jbo o c2) (mg_of o (by decide +kernel)) hA c3) fun σ H Q q=>jd6 jkq q
     ·cases hb
    ·cases hb
   ·cases hb
  |dictZip =>
   simp only[jeK]at hb
   split at hb
   ·rename_i e heq
    split at hb
    ·rename_i x a b hx
     split at hb
     ·rename_i hc
      cases hb
      cases heq
      obtain⟨p2,q2,rfl⟩:=jcL hx
      simp only[Bool.and_eq_true,beq_iff_eq]at hc
      obtain⟨⟨c1,c2⟩,c3⟩:=hc
      subst c1
      exact imE (jkN o.calm (jbo o hg) (mg_of o (by decide +kernel)) (jbo o c2) (mg_of o (by decide +kernel)) hA c3) fun σ H Q q=>jd6 jiK q
     ·cases hb
    ·cases hb
   ·cases hb
 exact⟨hv,(jaD hv rfl).1,(jaD hv rfl).2⟩
theorem jwb {b:Mt}{ob:E}{es:List E}{z y:Expr}{ys:List Expr}{apos cpos:Pos}(o:Ok G j c X)(hz:Snd G X ob z)(hp:jcc z=true)(hst:jak (y :: ys)=true)(hl:ys.length < 28)(hline:(apos.endLine == cpos.line)=true)(hA:PA X (y :: ys) (T3A X.K (evL G es))) :
  Snd G X (.mt b ob es) (.Call (.Attribute z (jjq b) apos) (y :: ys) [] cpos):=by
 have hv:PE X (.Call (.Attribute z (jjq b) apos) (y :: ys) [] cpos) (T3E X.K (ev G (.mt b ob es)).v):=by
  cases b with
  |append=>exact imE (jm PySem.F.plainAttrs_list PySem.F.slot_list_append PySem.F.type_list_append jij ⟨hz.v⟩ ⟨hA⟩ hp hst hl hline).h fun σ H Q q=>jhq jrN (fun w μ H ob x R h e=>jh4 (.inl rfl) R h e) q
  |extend=>exact imE (jm PySem.F.plainAttrs_list PySem.F.slot_list_extend PySem.F.type_list_extend jnt ⟨hz.v⟩ ⟨hA⟩ hp hst hl hline).h fun σ H Q q=>jhq jqD (fun w μ H ob x R h e=>jh4 (.inr rfl) R h e) q
  |split=>exact imE (jm PySem.F.plainAttrs_str PySem.F.slot_str_split PySem.F.type_str_split joC ⟨hz.v⟩ ⟨hA⟩ hp hst hl hline).h fun σ H Q q=>jhq jmE (fun w μ H ob x R h e=>ji7 h e) q
  |join=>exact imE (jm PySem.F.plainAttrs_str PySem.F.slot_str_join PySem.F.type_str_join jrA ⟨hz.v⟩ ⟨hA⟩ hp hst hl hline).h fun σ H Q q=>jhq jpr (fun w μ H ob x R h e=>jo4 h e) q
 exact⟨hv,(jaD hv rfl).1,(jaD hv rfl).2⟩
theorem jkf {i:Nat}{e:Expr}(o:Ok G j c X)(h:jkp c i e=true):PG X e (je4 i)∧jbm e=true:=by
 unfold jkp at h
 split at h
 ·rename_i x pos
  refine⟨?_,rfl⟩
  split at h
  ·exact jsZ (by rw[o.hN];exact o.nd) (by rw[o.hN,o.sc];exact h)
  ·rename_i hc
   exact jpy (by rw[o.hN];exact o.nd) (by rw[o.hN,o.sc];exact h) (o.fn (by simpa using hc) x)
 ·cases h
noncomputable def gNs:List Nat→TGs
 |[]=>jxY
 |i :: is=>jvd (je4 i) (gNs is)
theorem jjV (o:Ok G j c X):∀{is:List Nat} {es:List Expr},jn9 c is es=true→PGs X es (gNs is)∧es.length=is.length
 |[],[],_=>⟨jsX,rfl⟩
 |[],_ :: _,h=>by cases h
 |_ :: _,[],h=>by cases h
 |i :: is,e :: es,h=>by
  unfold jn9 at h
  simp only[Bool.and_eq_true]at h
  obtain⟨h1,h2⟩:=h
  obtain⟨p1,p2⟩:=jkf o h1
  obtain⟨q1,q2⟩:=jjV o h2
  exact⟨jnQ p1 q1 (by rw[jho p2];rfl),by simp[q2]⟩
theorem jji {w:Wd}{n:Nat}:∀{is:List Nat} {ds:List D} {vs:List V} {ρ ρ':S3} {σ:_L2.St} {H:Hp} {Q:_L2.St→Hp→Prop},DenL K w n ds vs→jcz K w n ρ σ→jrY is ds ρ=some ρ'→(∀σ',jcz K w n ρ' σ'→Q σ' H)→gNs is vs σ H Q∧ds.length=is.length
 |[],[],vs,ρ,ρ',σ,H,Q,h,S,e,q=>by
  unfold DenL at h
  cases e
  exact⟨⟨h,q σ S⟩,rfl⟩
 |[],_ :: _,_,_,_,_,_,_,_,_,e,_=>by cases e
 |_ :: _,[],_,_,_,_,_,_,_,_,e,_=>by cases e
 |i :: is,d :: ds,vs,ρ,ρ',σ,H,Q,h,S,e,q=>by
  unfold DenL at h
  obtain⟨v,ws,rfl,h1,h2⟩:=h
  obtain⟨g1,g2⟩:=jji (is:=is) (H:=H) (Q:=Q) h2 (S.set h1 i) e q
  exact⟨⟨v,ws,rfl,g1⟩,by simp[g2]⟩
noncomputable def gOf (K:PySem.W.Frag):Tg→TG
 |.nm i=>je4 i
 |.tp is=>jyh K is.length (gNs is)
theorem jfD (tg:Tg):jtD K tg (gOf K tg):=by
 intro w μ H ρ ρ' σ d v Q R S hd e q
 cases tg with
 |nm i =>
  cases e
  exact q _ (S.set hd i)
 |tp is =>
  cases d with
  |tup ds =>
   obtain⟨a,xs,rfl,s1,l1⟩:=jck R hd
   obtain⟨g1,g2⟩:=jji (H:=H) (Q:=Q) l1 S e q
   exact⟨a,xs,rfl,s1,by rw[← jag l1,g2],g1⟩
  |_=>cases e
theorem jox {tg:Tg}{t:Expr}(o:Ok G j c X)(h:jgt c tg t=true):PG X t (gOf X.K tg)∧jbm t=true:=by
 unfold jgt at h
 split at h
 ·exact jkf o h
 ·rename_i is es k pos
  simp only[Bool.and_eq_true]at h
  obtain⟨h1,h2⟩:=h
  obtain⟨p1,p2⟩:=jjV o h1
  exact⟨juz o.calm p1 ((ji9 h2).1.trans p2) (ji9 h2).2,rfl⟩
 ·cases h
theorem jsM:evL G []=fun _ μ=>.ok [] μ:=rfl
theorem jpx {e:E}{es:List E}:evL G (e :: es)=fun ρ μ=>((ev G e).v ρ μ).bind fun d μ1=>(evL G es ρ μ1).bind fun ds μ2=>.ok (d :: ds) μ2:=rfl
theorem jpB:evTs G []=fun _ μ=>.ok true μ:=rfl
theorem jnU {e:E}:evTs G [e]=(ev G e).t:=rfl
end
end _L3
namespace _L3
open PySem PySem.Spec PyProof.Rows _L2
section
variable {K:PySem.W.Frag} {X:Cx} {G:List FnE} {j:Nat} {c:Stt}
theorem jjX {f:Nat}{x:Str}(h:nmG G c f x=true):∃g,G[f]?=some g∧g.name=x∧jcj c.sc x=true:=by
 unfold nmG at h
 split at h
 ·rename_i g hg
  simp only[Bool.and_eq_true,beq_iff_eq]at h
  exact⟨g,hg,h.1,h.2⟩
 ·cases h
theorem je {f:Nat}{g:FnE}(h:G[f]?=some g):jiy G f=g.dat:=by unfold jiy;rw[h];rfl
theorem jfw {wd:Wd}{n:Nat}(z:Str):∀{kvs:List (Str×D)} {xs:List V},DenL K wd n (kvs.map (·.2)) xs→(∀d,jbt z kvs=some d→∃v,jd ((kvs.map (·.1)).zip xs) z=some v∧Den K wd n d v)∧(jbt z kvs=none→jd ((kvs.map (·.1)).zip xs) z=none)
 |[],xs,h=>⟨fun d e=>(by cases e),fun _=>rfl⟩
 |p :: kvs,xs,h=>by
  rw[List.map_cons]at h
  unfold DenL at h
  obtain⟨v,ws,rfl,h1,h2⟩:=h
  obtain⟨i1,i2⟩:=jfw z h2
  rw[List.map_cons,List.zip_cons_cons]
  by_cases c:p.1=z
  ·have a1:jbt z (p :: kvs)=some p.2:=by unfold jbt;rw[if_pos c]
   have a2:jd ((p.1,v) :: (kvs.map (·.1)).zip ws) z=some v:=by simp[jd,List.find?_cons,c]
   rw[a1,a2]
   exact⟨fun d e=>by cases e;exact⟨v,rfl,h1⟩,fun e=>by cases e⟩
  ·have a1:jbt z (p :: kvs)=jbt z kvs:=by rw[jbt,if_neg c]
   have a2:jd ((p.1,v) :: (kvs.map (·.1)).zip ws) z=jd ((kvs.map (·.1)).zip ws) z:=by simp[jd,List.find?_cons,c]
   rw[a1,a2]
   exact⟨i1,i2⟩
theorem jtu {f:Nat}{x:Str}{pos:Pos}(o:Ok G j c X)(h:nmG G c f x=true):Snd G X (.gl f) (.Name x pos):=by
 obtain⟨g,hg,rfl,hok⟩:=jjX h
 have hv:PE X (.Name g.name pos) (T3E X.K (ev G (.gl f)).v):=by
  cases hd:g.dat with
  |none =>
   intro pins s σ H Q I hw
   obtain⟨w,μ,ρ,d,μ',R,S,e,q⟩:=hw
   have e':glD (jiy G f) μ=.ok d μ':=e
   rw[je hg,hd]at e'
   cases e'
  |some t =>
   cases t with
   |dct kvs =>
    intro pins s σ H Q I hw
    obtain⟨w,μ,ρ,d,μ',R,S,e,q⟩:=hw
    have e':glD (jiy G f) μ=.ok d μ':=e
    rw[je hg,hd]at e'
    cases e'
   |cst d0 =>
    obtain⟨u,v,hm,rv,hden⟩:=o.dts f g _ hg hd
    refine imE (jep (jbo o hok) hm rv) fun σ H Q=>?_
    rintro⟨w,μ,ρ,d,μ',R,S,e,q⟩
    have e':glD (jiy G f) μ=.ok d μ':=e
    rw[je hg,hd]at e'
    cases e'
    exact jah R q (hden _ _)
 exact⟨hv,(jaD hv rfl).1,(jaD hv rfl).2⟩
theorem jsF {e:Expr}{t:TE}(h:∀σ H Q,¬ t σ H Q):PE X e t:=fun pins s σ H Q I hw=>(h σ H Q hw).elim
theorem jn1 {f:Nat}{a d:E}{x:Str}{y z:Expr}{p apos cpos:Pos}(o:Ok G j c X)(h:nmG G c f x=true)(ha:Snd G X a y)(hd:Snd G X d z)(hp:jcc (.Name x p)=true)(hst:jak [y,z]=true)(hl:(apos.endLine == cpos.line)=true) :
  Snd G X (.gget f a d) (.Call (.Attribute (.Name x p) "get" apos) [y,z] [] cpos):=by
 obtain⟨g,hg,rfl,hok⟩:=jjX h
 have hv:PE X (.Call (.Attribute (.Name g.name p) "get" apos) [y,z] [] cpos) (T3E X.K (ev G (.gget f a d)).v):=by
  have bad:(∀kvs,g.dat≠some (.dct kvs))→PE X (.Call (.Attribute (.Name g.name p) "get" apos) [y,z] [] cpos) (T3E X.K (ev G (.gget f a d)).v):=fun hn=>jsF fun σ H Q=>by
   rintro⟨w,μ,ρ,d0,μ',R,S,e,q⟩
   obtain⟨d1,μ1,e1,e⟩:=Out.bind_ok e
   obtain⟨d2,μ2,e2,e⟩:=Out.bind_ok e
   rw[je hg]at e
   have hb:jl0 g.dat d1 d2 μ2=.bad:=by
    unfold jl0
    cases hq:g.dat with
    |none=>rfl
    |some t =>
     cases t with
     |cst _=>rfl
     |dct kvs=>exact absurd hq (hn kvs)
   rw[hb]at e
   cases e
  cases hdt:g.dat with
  |none=>exact bad fun kvs e=>by rw[hdt]at e;cases e
  |some t =>
   cases t with
   |cst d0=>exact bad fun kvs e=>by rw[hdt]at e;cases e
   |dct kvs =>
    obtain⟨A,xs,hm,hmd,hden⟩:=o.dts f g _ hg hdt
    refine imE (jn5 ⟨jep (v:=.ref A) (jbo o hok) hm rfl⟩ ⟨ha.v⟩ ⟨hd.v⟩ hp hst hl).h fun σ H Q=>?_
    rintro⟨w,μ,ρ,d0,μ',R,S,e,q⟩
    obtain⟨d1,μ1,e1,e⟩:=Out.bind_ok e
    obtain⟨d2,μ2,e2,e⟩:=Out.bind_ok e
    rw[je hg,hdt]at e
    refine⟨A,_,rfl,hmd,w,μ,ρ,d1,μ1,R,S,e1,fun w1 H1 v1 x1 R1 k1=>⟨w1,μ1,ρ,d2,μ2,R1,S.mono x1,e2,fun w2 H2 v2 x2 R2 k2=>?_⟩⟩
    cases d1 with
    |str zz =>
     have e':Out.ok ((jbt zz kvs).getD d2) μ2=.ok d0 μ':=e
     simp only[Out.ok.injEq]at e'
     obtain⟨rfl,rfl⟩:=e'
     have k1':=k1
     unfold Den at k1'
     refine⟨zz,k1',?_⟩
     obtain⟨l1,l2⟩:=jfw zz (hden w2 μ2.length)
     have q':∀w' H' v,Ext w2 w' μ2.length μ2.length→Rep X.K w' μ2 H'→Den X.K w' μ2.length ((jbt zz kvs).getD d2) v→Q v H':=fun w3 H3 v x3 R3 d3=>q w3 H3 v ((x1.trans x2).trans x3) R3 d3
     cases hlk:jbt zz kvs with
     |none =>
      rw[hlk]at q'
      rw[l2 hlk]
      exact q' w2 H2 v2 (Ext.refl _ _) R2 k2
     |some dd =>
      rw[hlk]at q'
      obtain⟨v,hv,hdv⟩:=l1 dd hlk
      rw[hv]
      exact q' w2 H2 v (Ext.refl _ _) R2 hdv
    |_=>cases e
 exact⟨hv,(jaD hv rfl).1,(jaD hv rfl).2⟩
theorem jsm {neg:Bool}{f:Nat}{a:E}{y:Str}{x:Expr}{p pos:Pos}(o:Ok G j c X)(h:nmG G c f y=true)(ha:Snd G X a x)(hm:behindInMarks (if neg then .NotIn else .In) (.Name y p)=false) :
  Snd G X (.gin neg f a) (.Compare x [if neg then .NotIn else .In] [.Name y p] pos):=by
 obtain⟨g,hg,rfl,hok⟩:=jjX h
 have key:∀{σ:_L2.St} {H:Hp} {Q:VK},T3E X.K (ev G (.gin neg f a)).v σ H Q→∃A xs kvs,g.dat=some (.dct kvs)∧X.mg g.name=some (.ref A)∧MD X.K X.w A xs∧tOp (jnV X.K X.w neg) (T3E X.K (ev G a).v) (tC (.ref A)) σ H Q:=by
  rintro σ H Q ⟨w,μ,ρ,d0,μ',R,S,e,q⟩
  obtain⟨d1,μ1,e1,e⟩:=Out.bind_ok e
  rw[je hg]at e
  unfold jtU at e
  split at e
  ·rename_i kvs z heq
   cases e
   obtain⟨A,xs,hmA,hmd,hden⟩:=o.dts f g _ hg heq
   refine⟨A,_,kvs,heq,hmA,hmd,w,μ,ρ,.str z,_,R,S,e1,fun w1 H1 v1 x1 R1 k1=>⟨A,_,z,rfl,by unfold Den at k1;exact k1,hmd,?_⟩⟩
   obtain⟨l1,l2⟩:=jfw z (hden w1 0)
   have es:(jd ((kvs.map (·.1)).zip xs) z).isSome=(jbt z kvs).isSome:=by
    cases hlk:jbt z kvs with
    |none=>rw[l2 hlk];rfl
    |some dd =>
     obtain⟨v,hv,_⟩:=l1 dd hlk
     rw[hv]
     rfl
   rw[es]
   exact q w1 H1 _ x1 R1 (by unfold Den;rfl)
  ·cases e
 have hb:∀ρ μ d μ',(ev G (.gin neg f a)).v ρ μ=.ok d μ'→∃b,d=.bl b:=by
  intro ρ μ d μ' e
  obtain⟨d1,μ1,e1,e⟩:=Out.bind_ok e
  unfold jtU at e
  split at e
  ·cases e;exact⟨_,rfl⟩
  ·cases e
 have opr:OpR X (compareOp (if neg then .NotIn else .In)) (jnV X.K X.w neg):=by
  cases neg
  ·exact jsk
  ·exact jkF
 refine⟨fun pins s σ H Q I hw=>?_,fun _ pins s σ H Q I hw=>?_,fun h=>by cases h⟩
 ·obtain⟨A,xs,kvs,_,hmA,_,t⟩:=key hw
  exact (jpM opr ⟨ha.v⟩ ⟨jep (v:=.ref A) (jbo o hok) hmA rfl⟩ hm).h pins s σ H Q I t
 ·obtain⟨A,xs,kvs,_,hmA,_,t⟩:=key (jnc hb hw)
  exact (jpR opr ⟨ha.v⟩ ⟨jep (v:=.ref A) (jbo o hok) hmA rfl⟩ hm).h pins s σ H Q I t
theorem jrX {f:Nat}{a:E}{x:Str}{y:Expr}{p pos:Pos}(o:Ok G j c X)(h:nmG G c f x=true)(ha:Snd G X a y)(hp:jdo y=true):Snd G X (.gix f a) (.Subscript (.Name x p) y pos):=by
 obtain⟨g,hg,rfl,hok⟩:=jjX h
 have hv:PE X (.Subscript (.Name g.name p) y pos) (T3E X.K (ev G (.gix f a)).v):=by
  intro pins s σ H Q I hw
  obtain⟨w,μ,ρ,d0,μ',R,S,e,q⟩:=hw
  obtain⟨d1,μ1,e1,e⟩:=Out.bind_ok e
  rw[je hg]at e
  unfold jtV at e
  split at e
  ·rename_i kvs z heq
   split at e
   ·rename_i dd hlk
    cases e
    obtain⟨A,xs,hmA,hmd,hden⟩:=o.dts f g _ hg heq
    refine juw jxE (jep (v:=.ref A) (jbo o hok) hmA rfl) ha.v (jfE hp) pins s σ H Q I ?_
    refine⟨w,μ,ρ,.str z,_,R,S,e1,fun w1 H1 v1 x1 R1 k1=>?_⟩
    obtain⟨v,hv,hdv⟩:=(jfw z (hden w1 μ'.length)).1 _ hlk
    exact⟨A,_,z,v,rfl,by unfold Den at k1;exact k1,hmd,hv,q w1 H1 v x1 R1 hdv⟩
   ·cases e
  ·cases e
 exact⟨hv,(jaD hv rfl).1,(jaD hv rfl).2⟩
end
end _L3
namespace _L3
open PySem PySem.Spec PyProof.Rows _L2
section
variable {K:PySem.W.Frag} {X:Cx} {G:List FnE} {j:Nat} {c:Stt}
theorem jrx {ik:IK}{es:List E}{tg it:Expr}{as:List Expr}(o:Ok G j c X)(h:jdN c ik tg it=some as)(hA:PA X as (T3A X.K (evL G es)))(h1:∀e a,es=[e]→as=[a]→PE X a (T3E X.K (ev G e).v))(hl:es.length=as.length):PI X tg it (T3I X.K ik (evL G es)):=by
 have e1:∀e,(fun ρ μ=>((ev G e).v ρ μ).bind fun d μ1=>(Out.ok [] μ1).bind fun ds μ2=>Out.ok (d :: ds) μ2)=evL G [e]:=fun e=>rfl
 cases ik with
 |seq =>
  cases h
  obtain⟨e0,rfl⟩:∃e0,es=[e0]:=List.length_eq_one_iff.mp hl
  rw[← e1]
  exact jqG (h1 e0 _ rfl rfl)
 |str =>
  cases h
  obtain⟨e0,rfl⟩:∃e0,es=[e0]:=List.length_eq_one_iff.mp hl
  rw[← e1]
  exact jsP (h1 e0 _ rfl rfl)
 |items =>
  simp only[jdN]at h
  split at h
  ·rename_i z n p q hx
   split at h
   ·rename_i hc
    cases h
    have hx':=jkV hx
    subst hx'
    simp only[Bool.and_eq_true,beq_iff_eq]at hc
    obtain⟨⟨⟨rfl,c2⟩,c3⟩,c4⟩:=hc
    obtain⟨e0,rfl⟩:∃e0,es=[e0]:=List.length_eq_one_iff.mp hl
    rw[← e1]
    cases tg with
    |Tuple elts k tp=>exact jnD c2 (by simpa using c3) (h1 e0 _ rfl rfl)
    |_=>cases c4
   ·cases h
  ·cases h
 |enm =>
  simp only[jdN]at h
  split at h
  ·rename_i x a hx
   split at h
   ·rename_i hc
    cases h
    obtain⟨p,q,rfl⟩:=jcL hx
    simp only[Bool.and_eq_true,beq_iff_eq]at hc
    obtain⟨⟨⟨rfl,c2⟩,c3⟩,c4⟩:=hc
    cases tg with
    |Tuple elts k tp=>exact jsI (jbo o c2) (mg_of o (by decide +kernel)) hA c3
    |_=>cases c4
   ·cases h
  ·cases h
 |zip =>
  simp only[jdN]at h
  split at h
  ·rename_i x a b hx
   split at h
   ·rename_i hc
    cases h
    obtain⟨p,q,rfl⟩:=jcL hx
    simp only[Bool.and_eq_true,beq_iff_eq]at hc
    obtain⟨⟨⟨rfl,c2⟩,c3⟩,c4⟩:=hc
    cases tg with
    |Tuple elts k tp=>exact jrQ (jbo o c2) (mg_of o (by decide +kernel)) hA c3
    |_=>cases c4
   ·cases h
  ·cases h
 |rng1 =>
  simp only[jdN]at h
  split at h
  ·rename_i x a hx
   split at h
   ·rename_i hc
    cases h
    obtain⟨p,q,rfl⟩:=jcL hx
    simp only[Bool.and_eq_true,beq_iff_eq]at hc
    obtain⟨⟨rfl,c2⟩,c3⟩:=hc
    exact jrM (jbo o c2) (mg_of o (by decide +kernel)) hA c3
   ·cases h
  ·cases h
 |rng2 =>
  simp only[jdN]at h
  split at h
  ·rename_i x a b hx
   split at h
   ·rename_i hc
    cases h
    obtain⟨p,q,rfl⟩:=jcL hx
    simp only[Bool.and_eq_true,beq_iff_eq]at hc
    obtain⟨⟨rfl,c2⟩,c3⟩:=hc
    exact jq5 (jbo o c2) (mg_of o (by decide +kernel)) hA c3
   ·cases h
  ·cases h
theorem jka {t:Expr}{scope:Scope}(o:Ok G j c X)(hnd:(jf3 (jcO t) c.N).Nodup)(C:Addr)(fp:List Addr)(s:Shared)(H:Hp):Ok G j (jfN c t scope) (jbN X (jf3 (jcO t) c.N) scope C fp s H) where
 hN:=rfl
 nd:=hnd
 sc:=by
  show relabel scope X.env=jfs scope c.sc
  rw[jlF,o.sc]
 calm:=o.calm
 room:=o.room
 mg:=o.mg
 fns:=o.fns
 dts:=o.dts
 fn:=fun h=>by cases h
structure CompOk (G:List FnE) (X:Cx) (tg:Tg) (ik:IK) (es ifs:List E) (elt:E) (own:List Str) (N':List Str) (scope:Scope) (t it:Expr) (fs:List Expr) (el:Expr):Prop where
 cs:CompScope X own N' scope
 hit:PI X t it (T3I X.K ik (evL G es))
 hg:∀C fp s H,PG (jbN X N' scope C fp s H) t (gOf X.K tg)
 ht:(∀C fp s H,PTs (jbN X N' scope C fp s H) fs (T3T X.K (evTs G ifs)))
 he:∀C fp s H,PE (jbN X N' scope C fp s H) el (T3E X.K (ev G elt).v)
 ns:jgd it=true
theorem jmw {m:Bool}{own:Nat}{tg:Tg}{g:TG}{ik:IK}{es ifs:List E}{elt:E}(hT:jtD K tg g){σ:_L2.St}{H:Hp}{Q:VK}:T3E K (ev G (.comp m own tg ik es ifs elt)).v σ H Q→jsv own (T3I K ik (evL G es)) g (T3T K (evTs G ifs)) (T3E K (ev G elt).v) σ H Q:=by
 rintro⟨w,μ,ρ,d,μ',R,S,e,q⟩
 obtain⟨ds,μ1,e1,e⟩:=Out.bind_ok e
 split at e
 ·rename_i xs hx
  split at e
  ·rename_i hz
   obtain⟨ys,μ2,e2,e3⟩:=Out.bind_ok e
   exact⟨w,μ,ρ,ds,μ1,xs,R,S,e1,hx,fun w1 H1 J x1 R1 hJ=>jpj hT R1 (S.mono x1) hJ hz e2 e3 fun w2 H2 v x2 R2 d2=>q w2 H2 v (x1.trans x2) R2 d2⟩
  ·cases e
 ·cases e
theorem jnJ {m:Bool}{own:List Str}{tg:Tg}{ik:IK}{es ifs:List E}{elt:E}{N':List Str}{scope:Scope}{t it el:Expr}{fs:List Expr}{pos:Pos}(o:Ok G j c X)(h:CompOk G X tg ik es ifs elt own N' scope t it fs el):Snd G X (.comp m own.length tg ik es ifs elt) (.ListComp el [⟨t,it,fs,0⟩] scope pos):=by
 have hv:PE X (.ListComp el [⟨t,it,fs,0⟩] scope pos) (T3E X.K (ev G (.comp m own.length tg ik es ifs elt)).v):=imE (jqB o.calm h.cs h.hit h.hg h.ht h.he (jfK h.ns)) fun σ H Q q=>jmw (jfD tg) q
 exact⟨hv,(jaD hv rfl).1,(jaD hv rfl).2⟩
end
noncomputable def jws (G:List FnE)(j:Nat)(own:Nat)(tg:Tg)(ik:IK)(es ifs:List E)(elt:E)(c:Stt):Expr→Comprehension→Scope→Bool:=fun el g scope=>g.is_async == 0 && own == (jcO g.target).length && jwS c.N c.sc (jcO g.target) (jf3 (jcO g.target) c.N) scope && decide (jf3 (jcO g.target) c.N).Nodup && jgd g.iter && (match jdN c ik g.target g.iter with
   |some as=>chkL G j es c as
   |none=>false) && jgt (jfN c g.target scope) tg g.target && chkTs G j ifs (jfN c g.target scope) g.ifs && chk G j elt (jfN c g.target scope) el
section
variable {G:List FnE} {j:Nat}
mutual
theorem snd:∀(ir:E) {c:Stt} {X:Cx} {e:Expr},Ok G j c X→chk G j ir c e=true→Snd G X ir e
 |.var i,c,X,e,o,h=>jru o h
 |.cst d,c,X,e,o,h=>jsO h
 |.bin op m a b,c,X,e,o,h=>by
  have hh:=jrG (P:=fun x o y _=>o == op && chk G j a c x && chk G j b c y) h
  clear h
  obtain⟨x,o',y,p,rfl,h⟩:=hh
  simp only[Bool.and_eq_true,beq_iff_eq]at h
  obtain⟨⟨rfl,h1⟩,h2⟩:=h
  exact jqy (snd a o h1) (snd b o h2)
 |.neg a,c,X,e,o,h=>by
  have hh:=js3 (P:=fun x=>chk G j a c x) h
  clear h
  obtain⟨x,p,rfl,h⟩:=hh
  exact jst (snd a o h)
 |.not_ a,c,X,e,o,h=>by
  have hh:=jrj (P:=fun x=>chk G j a c x && tst x) h
  clear h
  obtain⟨x,p,rfl,h⟩:=hh
  simp only[Bool.and_eq_true]at h
  exact js5 h.2 (snd a o h.1)
 |.and_ a b,c,X,e,o,h=>by
  have hh:=jri (P:=fun x y=>chk G j a c x && tst x && (chk G j b c y && tst y)) (R:=fun x y z rest p=>chk G j a c x && tst x && chk G j b c (.BoolOp .And (y :: z :: rest) p)) h
  clear h
  rcases hh with ⟨x,y,p,rfl,h⟩ | ⟨x,y,z,rest,p,rfl,h⟩
  ·simp only[Bool.and_eq_true]at h
   exact joq h.1.2 h.2.2 (snd a o h.1.1) (snd b o h.2.1)
  ·simp only[Bool.and_eq_true]at h
   exact jnW h.1.2 (snd a o h.1.1) (snd b o h.2)
 |.or_ a b,c,X,e,o,h=>by
  have hh:=jug (P:=fun x y=>chk G j a c x && tst x && (chk G j b c y && tst y)) (R:=fun x y z rest p=>chk G j a c x && tst x && chk G j b c (.BoolOp .Or (y :: z :: rest) p)) h
  clear h
  rcases hh with ⟨x,y,p,rfl,h⟩ | ⟨x,y,z,rest,p,rfl,h⟩
  ·simp only[Bool.and_eq_true]at h
   exact jr9 h.1.2 h.2.2 (snd a o h.1.1) (snd b o h.2.1)
  ·simp only[Bool.and_eq_true]at h
   exact jr h.1.2 (snd a o h.1.1) (snd b o h.2)
 |.cmp op a b,c,X,e,o,h=>by
  have hh:=jhj (P:=fun x o y=>o == op && chk G j a c x && chk G j b c y && !(behindInMarks o y)) h
  clear h
  obtain⟨x,o',y,p,rfl,h⟩:=hh
  simp only[Bool.and_eq_true,beq_iff_eq,Bool.not_eq_true']at h
  obtain⟨⟨⟨rfl,h1⟩,h2⟩,h3⟩:=h
  exact jqR o h3 (snd a o h1) (snd b o h2)
 |.chain o1 o2 a b d,c,X,e,o,h=>by
  have hh:=jmP (P:=fun x p q y z=>p == o1 && q == o2 && chk G j a c x && chk G j b c y && chk G j d c z && !(lastMarks [p,q] [y,z])) h
  clear h
  obtain⟨x,p,q,y,z,r,rfl,h⟩:=hh
  simp only[Bool.and_eq_true,beq_iff_eq,Bool.not_eq_true']at h
  obtain⟨⟨⟨⟨⟨rfl,rfl⟩,h1⟩,h2⟩,h3⟩,h4⟩:=h
  exact jmK o h4 (snd a o h1) (snd b o h2) (snd d o h3)
 |.isN a,c,X,e,o,h=>by
  have hh:=jhj (P:=fun x o y=>o == .Is && je3 y && chk G j a c x) h
  clear h
  obtain⟨x,o',y,p,rfl,h⟩:=hh
  simp only[Bool.and_eq_true,beq_iff_eq]at h
  obtain⟨⟨rfl,h1⟩,h2⟩:=h
  obtain⟨k,q,rfl⟩:=jgE h1
  exact js7 (snd a o h2)
 |.notN a,c,X,e,o,h=>by
  have hh:=jhj (P:=fun x o y=>o == .IsNot && je3 y && chk G j a c x) h
  clear h
  obtain⟨x,o',y,p,rfl,h⟩:=hh
  simp only[Bool.and_eq_true,beq_iff_eq]at h
  obtain⟨⟨rfl,h1⟩,h2⟩:=h
  obtain⟨k,q,rfl⟩:=jgE h1
  exact jpb (snd a o h2)
 |.ife k a b,c,X,e,o,h=>by
  have hh:=jqE (P:=fun z x y=>chk G j k c z && tst z && chk G j a c x && chk G j b c y) h
  clear h
  obtain⟨z,x,y,p,rfl,h⟩:=hh
  simp only[Bool.and_eq_true]at h
  obtain⟨⟨⟨h1,h2⟩,h3⟩,h4⟩:=h
  exact js4 h2 (snd k o h1) (snd a o h3) (snd b o h4)
 |.tup es,c,X,e,o,h=>by
  have hh:=jsT (P:=fun xs=>chkL G j es c xs && jak xs) h
  clear h
  obtain⟨xs,k,p,rfl,h⟩:=hh
  simp only[Bool.and_eq_true]at h
  exact jnZ (sndL es o h.1).1
 |.lst m es,c,X,e,o,h=>by
  have hh:=jrV (P:=fun xs=>chkL G j es c xs && jak xs) h
  clear h
  obtain⟨xs,p,rfl,h⟩:=hh
  simp only[Bool.and_eq_true]at h
  exact jpf (sndL es o h.1).1
 |.ix a b,c,X,e,o,h=>by
  have hh:=jly (P:=fun x y=>chk G j a c x && chk G j b c y && jdo y) h
  clear h
  obtain⟨x,y,p,rfl,h⟩:=hh
  simp only[Bool.and_eq_true]at h
  exact jvY o h.2 (snd a o h.1.1) (snd b o h.1.2)
 |.sl m a lo hi,c,X,e,o,h=>by
  have hh:=jtS (P:=fun x l u=>chk G j a c x && chkL G j lo c l.toList && chkL G j hi c u.toList) h
  clear h
  obtain⟨x,l,u,p,q,rfl,h⟩:=hh
  simp only[Bool.and_eq_true]at h
  obtain⟨⟨h1,h2⟩,h3⟩:=h
  have k1:=sndL lo o h2
  have k2:=sndL hi o h3
  exact jv2 (snd a o h1) (jor (fun e x e1 e2=>k1.2.1 e x e1 (by rw[e2];rfl)) k1.2.2) (jor (fun e x e1 e2=>k2.2.1 e x e1 (by rw[e2];rfl)) k2.2.2)
 |.stp m a lo st,c,X,e,o,h=>by
  have h':(match jkj e with
   |some (x,l,s)=>chk G j a c x && chkL G j lo c [l] && chkL G j st c [s]
   |none=>false)=true:=h
  clear h
  split at h'
  ·rename_i x l s hx
   obtain⟨p,q,rfl⟩:=jna hx
   simp only[Bool.and_eq_true]at h'
   obtain⟨⟨h1,h2⟩,h3⟩:=h'
   have k1:=sndL lo o h2
   have k2:=sndL st o h3
   exact jtc (snd a o h1) (jor (fun e x e1 e2=>k1.2.1 e x e1 (by cases e2;rfl)) k1.2.2) (jor (fun e x e1 e2=>k2.2.1 e x e1 (by cases e2;rfl)) k2.2.2)
  ·cases h'
 |.fld a f,c,X,e,o,h=>by
  have h':false=true:=h
  cases h'
 |.call f md es,c,X,e,o,h=>by
  have hh:=jke (P:=fun x _ y ys _=>(match G[f]? with
   |some g=>g.name == x && jcj c.sc x && es.length == g.ps.length && decide (g.lv≤j)
   |none=>false) && chkL G j es c (y :: ys) && jak (y :: ys)) h
  clear h
  obtain⟨x,q,y,ys,p,rfl,h⟩:=hh
  simp only[Bool.and_eq_true]at h
  obtain⟨⟨h1,h2⟩,h3⟩:=h
  split at h1
  ·rename_i g hg
   simp only[Bool.and_eq_true,beq_iff_eq,decide_eq_true_eq]at h1
   obtain⟨⟨⟨a1,a2⟩,a3⟩,a4⟩:=h1
   exact joK o hg a1 a2 a3 a4 h3 (sndL es o h2).1
  ·cases h1
 |.bi b m es,c,X,e,o,h=>by
  have hh:=jke (P:=fun x _ y ys _=>jjN b == x && jcj c.sc x && jak (y :: ys) && (match jeK c b (y :: ys) with
   |some as=>chkL G j es c as
   |none=>false)) h
  clear h
  obtain⟨x,q,y,ys,p,rfl,h⟩:=hh
  simp only[Bool.and_eq_true,beq_iff_eq]at h
  obtain⟨⟨⟨h1,h2⟩,h3⟩,h4⟩:=h
  split at h4
  ·rename_i as ha
   have k:=sndL es o h4
   exact jtO o h1 h2 h3 ha k.1 k.2.1 k.2.2
  ·cases h4
 |.mt b ob es,c,X,e,o,h=>by
  have hh:=jqb (P:=fun z n q y ys p=>jjq b == n && chk G j ob c z && jcc z && jak (y :: ys) && decide (ys.length < 28) && (q.endLine == p.line) && chkL G j es c (y :: ys)) h
  clear h
  obtain⟨z,n,q,y,ys,p,rfl,h⟩:=hh
  simp only[Bool.and_eq_true,beq_iff_eq,decide_eq_true_eq]at h
  obtain⟨⟨⟨⟨⟨⟨rfl,h1⟩,h2⟩,h3⟩,h4⟩,h5⟩,h6⟩:=h
  exact jwb o (snd ob o h1) h2 h3 h4 (by simpa using h5) (sndL es o h6).1
 |.comp m own tg ik es ifs elt,c,X,e,o,h=>by
  have hh:=jkg (P:=jws G j own tg ik es ifs elt c) h
  clear h
  obtain⟨el,g,scope,p,rfl,h⟩:=hh
  obtain⟨t,it,fs,kk⟩:=g
  simp only[jws,Bool.and_eq_true,beq_iff_eq,decide_eq_true_eq]at h
  obtain⟨⟨⟨⟨⟨⟨⟨⟨rfl,rfl⟩,h1⟩,h2⟩,h3⟩,h4⟩,h5⟩,h6⟩,h7⟩:=h
  split at h4
  ·rename_i as ha
   have k:=sndL es o h4
   have oi:=jka (t:=t) (scope:=scope) o h2
   exact jnJ o ⟨csk (by rw[o.hN,o.sc];exact h1),jrx o ha k.1 k.2.1 k.2.2,fun C fp s H=>(jox (oi C fp s H) h5).1,fun C fp s H=>sndT ifs (oi C fp s H) h6,fun C fp s H=>(snd elt (oi C fp s H) h7).v,h3⟩
  ·cases h4
 |.gl f,c,X,e,o,h=>by
  have hh:=jj9 (P:=fun x _=>nmG G c f x) h
  clear h
  obtain⟨x,p,rfl,h⟩:=hh
  exact jtu o h
 |.gget f a d,c,X,e,o,h=>by
  have hh:=jqb (P:=fun z0 name apos y ys cpos=>name == "get" && (match jd5 z0,ys with
   |some x,[z]=>nmG G c f x && chk G j d c z && jak [y,z]
   |_,_=>false) && chk G j a c y && jcc z0 && (apos.endLine == cpos.line)) h
  clear h
  obtain⟨z,n,q,y,ys,p,rfl,h⟩:=hh
  simp only[Bool.and_eq_true,beq_iff_eq]at h
  obtain⟨⟨⟨⟨rfl,h1⟩,h2⟩,h4⟩,h6⟩:=h
  split at h1
  ·rename_i x z' hx
   obtain⟨p',rfl⟩:=jdV hx
   simp only[Bool.and_eq_true]at h1
   exact jn1 o h1.1.1 (snd a o h2) (snd d o h1.1.2) h4 h1.2 (by simpa using h6)
  ·cases h1
 |.gin neg f a,c,X,e,o,h=>by
  have hh:=jhj (P:=fun x o z=>o == (if neg then .NotIn else .In) && (match jd5 z with
   |some y=>nmG G c f y
   |none=>false) && chk G j a c x && !(behindInMarks o z)) h
  clear h
  obtain⟨x,o',z,p,rfl,h⟩:=hh
  simp only[Bool.and_eq_true,beq_iff_eq,Bool.not_eq_true']at h
  obtain⟨⟨⟨rfl,h1⟩,h2⟩,h3⟩:=h
  split at h1
  ·rename_i y hy
   obtain⟨p',rfl⟩:=jdV hy
   exact jsm o h1 (snd a o h2) h3
  ·cases h1
 |.gix f a,c,X,e,o,h=>by
  have hh:=jly (P:=fun z y=>(match jd5 z with
   |some x=>nmG G c f x
   |none=>false) && chk G j a c y && jdo y) h
  clear h
  obtain⟨z,y,p,rfl,h⟩:=hh
  simp only[Bool.and_eq_true]at h
  obtain⟨⟨h1,h2⟩,h3⟩:=h
  split at h1
  ·rename_i x hx
   obtain⟨p',rfl⟩:=jdV hx
   exact jrX o h1 (snd a o h2) h3
  ·cases h1
theorem sndT:∀(ifs:List E) {c:Stt} {X:Cx} {xs:List Expr},Ok G j c X→chkTs G j ifs c xs=true→PTs X xs (T3T X.K (evTs G ifs))
 |[],c,X,xs,o,h=>by
  cases xs with
  |nil =>
   intro pins s σ H Q I hw
   refine jqx pins s σ H Q I ?_
   rw[jpB]at hw
   obtain⟨w,μ,ρ,b,μ',R,S,e,q⟩:=hw
   cases e
   exact q w H (Ext.refl _ _) R
  |cons x xs=>have h':false=true:=h;cases h'
 |[e],c,X,xs,o,h=>by
  match xs,h with
  |[x],h =>
   have h:(chk G j e c x && tst x)=true:=h
   simp only[Bool.and_eq_true]at h
   rw[jnU]
   exact jsz ((snd e o h.1).t h.2)
  |[],h=>have h':false=true:=h;cases h'
  |_ :: _ :: _,h=>have h':false=true:=h;cases h'
 |e :: e' :: es,c,X,xs,o,h=>by
  cases xs <;> (have h':false=true:=h;cases h')
theorem sndL:∀(es:List E) {c:Stt} {X:Cx} {xs:List Expr},Ok G j c X→chkL G j es c xs=true→PA X xs (T3A X.K (evL G es))∧(∀e a,es=[e]→xs=[a]→PE X a (T3E X.K (ev G e).v))∧es.length=xs.length
 |[],c,X,xs,o,h=>by
  cases xs with
  |nil=>exact⟨imA jdr fun σ H Q q=>jvT (by rw[jsM]at q;exact q),(fun e a h=>by cases h),rfl⟩
  |cons x xs=>have h':false=true:=h;cases h'
 |e :: es,c,X,xs,o,h=>by
  cases xs with
  |nil=>have h':false=true:=h;cases h'
  |cons x xs =>
   have h:(chk G j e c x && jbm x && chkL G j es c xs)=true:=h
   simp only[Bool.and_eq_true]at h
   have k1:=snd e o h.1.1
   have k2:=sndL es o h.2
   exact⟨imA (pac k1.v k2.1 h.1.2) fun σ H Q q=>jr6 (by rw[jpx]at q;exact q),(fun e' a h1 h2=>by cases h1;cases h2;exact k1.v),by simp[k2.2.2]⟩
end
end
end _L3
namespace _L3
open PySem PySem.Spec PyProof.Rows _L2
noncomputable def jfM:Expr→Bool
 |.Tuple ..=>true
 |_=>false
noncomputable def juD (sc:Scope)(y:Str)(py:Pos)(v:Expr):Bool :=
 match v with
 |.ListComp _ _ s p=>sc.names.lookup y == some .local && py.line == p.line && !(s.names.any fun (n,k)=>n == y && (k == .local || k == .cell))
 |_=>false
noncomputable def tgV (tg:Tg)(v:Expr):Bool :=
 match tg with
 |.nm _=>true
 |.tp _=>notComp v && !(jfM v)
noncomputable def jp2:E→Bool
 |.comp ..=>true
 |_=>false
noncomputable def joT (e:E)(v:Expr):Bool:=jp2 e || notComp v
section
variable (G:List FnE) (j:Nat)
mutual
noncomputable def jvN:S→Stt→Stmt→Bool
 |.asg tg e,c,st=>match st with
  |.Assign [t] v _=>chk G j e c v && jgt c tg t && !c.cmp && tgV tg v && joT e v
  |_=>false
 |.setF _ _ _,_,_=>false
 |.setI o i e,c,st=>match st with
  |.Assign [.Subscript x y _] v _=>chk G j e c v && chk G j o c x && chk G j i c y && jiV y && notComp v && !(jfM v)
  |_=>false
 |.ex e,c,st=>match st with
  |.Expr v _=>chk G j e c v && notComp v
  |_=>false
 |.ite k a b,c,st=>match st with
  |.If x ss tt _=>chk G j k c x && tst x && chkSs a c ss && chkSs b c tt
  |_=>false
 |.for_ tg ik es body _,c,st=>match st with
  |.For t it ss [] _=>jgd it && (match jdN c ik t it with
   |some as=>chkL G j es c as
   |none=>false) && jgt c tg t && chkSs body c ss
  |_=>false
 |.ret e,c,st=>match st with
  |.Return (some v) _=>chk G j e c v
  |_=>false
 |.retN,_,st=>match st with
  |.Return none _=>true
  |_=>false
 |.pass,_,st=>match st with
  |.Pass _=>true
  |_=>false
 |.never,_,_=>true
noncomputable def chkSs:List S→Stt→List Stmt→Bool
 |[],_,[]=>true
 |s :: ss,c,t :: ts=>jvN s c t && chkSs ss c ts
 |_,_,_=>false
end
end
theorem jr1 {P:Expr→Expr→Pos→Bool}{e:Stmt}(h:(match e with
  |.Assign [t] v p=>P t v p
  |_=>false)=true):∃t v p,e=.Assign [t] v p∧P t v p=true:=by
 split at h
 ·exact⟨_,_,_,rfl,h⟩
 ·cases h
theorem jnT {P:Expr→Expr→Expr→Bool}{e:Stmt}(h:(match e with
  |.Assign [.Subscript x y _] v _=>P x y v
  |_=>false)=true):∃x y p v q,e=.Assign [.Subscript x y p] v q∧P x y v=true:=by
 split at h
 ·exact⟨_,_,_,_,_,rfl,h⟩
 ·cases h
theorem jwa {P:Expr→Bool}{e:Stmt}(h:(match e with
  |.Expr v _=>P v
  |_=>false)=true):∃v p,e=.Expr v p∧P v=true:=by
 split at h
 ·exact⟨_,_,rfl,h⟩
 ·cases h
theorem jtW {P:Expr→List Stmt→List Stmt→Bool}{e:Stmt}(h:(match e with
  |.If x ss tt _=>P x ss tt
  |_=>false)=true):∃x ss tt p,e=.If x ss tt p∧P x ss tt=true:=by
 split at h
 ·exact⟨_,_,_,_,rfl,h⟩
 ·cases h
theorem jqK {P:Expr→Expr→List Stmt→Bool}{e:Stmt}(h:(match e with
  |.For t it ss [] _=>P t it ss
  |_=>false)=true):∃t it ss p,e=.For t it ss [] p∧P t it ss=true:=by
 split at h
 ·exact⟨_,_,_,_,rfl,h⟩
 ·cases h
theorem js1 {P:Expr→Bool}{e:Stmt}(h:(match e with
  |.Return (some v) _=>P v
  |_=>false)=true):∃v p,e=.Return (some v) p∧P v=true:=by
 split at h
 ·exact⟨_,_,rfl,h⟩
 ·cases h
theorem joE {e:Stmt}(h:(match e with
  |.Return none _=>true
  |_=>false)=true):∃p,e=.Return none p:=by
 split at h
 ·exact⟨_,rfl⟩
 ·cases h
theorem jn6 {e:Stmt}(h:(match e with
  |.Pass _=>true
  |_=>false)=true):∃p,e=.Pass p:=by
 split at h
 ·exact⟨_,rfl⟩
 ·cases h
structure OkS (G:List FnE) (j:Nat) (c:Stt) (X:Cx):Prop extends Ok G j c X where
 pass:PassesOwn (model X.prog X.w) X.A X.env X.xe
 kd:c.sc.kind=.function
section
variable {K:PySem.W.Frag} {X:Cx} {G:List FnE} {j:Nat} {c:Stt}
theorem jj6 {tg:Tg}{e:E}{te:TE}{g:TG}(hT:jtD K tg g)(he:∀σ H Q,T3E K (ev G e).v σ H Q→te σ H Q){E:Ends}{σ:_L2.St}{H:Hp}:T3S K (run G (.asg tg e)) E σ H→jvG te g E σ H:=by
 rintro⟨w,μ,ρ,fl,μ',R,S,e1,q⟩
 obtain⟨d,μ1,e2,e1⟩:=Out.bind_ok e1
 refine he σ H _ ⟨w,μ,ρ,d,μ1,R,S,e2,fun w1 H1 v x1 R1 d1=>?_⟩
 split at e1
 ·rename_i ρ1 ha
  cases e1
  exact hT w1 _ H1 ρ ρ1 σ d v E.nx R1 (S.mono x1) d1 ha fun σ' S'=>q w1 H1 x1 R1 σ' S'
 ·cases e1
theorem jpo {sc:Scope}{y:Str}{py p:Pos}{el:Expr}{gs:List Comprehension}{s:Scope}{l:Nat}(hs:X.env.scope=sc)(hk:sc.kind=.function):swapsWith (.ListComp el gs s p) (some (.Name y py)) l X.env=pure (juD sc y py (.ListComp el gs s p)):=by
 have hb:X.env.blockKind=.function:=by
  unfold Env.blockKind
  rw[hs,hk]
  rfl
 have hq:X.env.kindOf y=sc.names.lookup y:=by
  rw[← hs]
  rfl
 show (pure (X.env.blockKind == .function && X.env.kindOf y == some .local && py.line == p.line && !(s.names.any fun (n,k)=>n == y && (k == .local || k == .cell))):Sem Bool)=_
 rw[hb,hq]
 rfl
theorem jk8 {es:List Expr}{k:Nat}{p:Pos}{v:Expr}{env:Env}(h:jfM v=false):swappedStores [.Tuple es k p] v env=pure none:=by
 cases v <;> first | rfl | cases h
theorem jrS {tg:Tg}{e:E}{t v:Expr}{pos:Pos}(o:OkS G j c X)(he:chk G j e c v=true)(ht:jgt c tg t=true)(hcm:c.cmp=false)(hx:tgV tg v=true)(hcp:joT e v=true):PS X (.Assign [t] v pos) (T3S X.K (run G (.asg tg e))):=by
 have k:=snd e o.toOk he
 obtain⟨hg,hst⟩:=jox o.toOk ht
 cases tg with
 |tp is =>
  simp only[tgV,Bool.and_eq_true,Bool.not_eq_true']at hx
  have hst2:swappedStores [t] v X.env=pure none:=by
   cases t with
   |Tuple es k p=>exact jk8 hx.2
   |_=>cases ht
  exact imS (jpQ k.v hg (show swapsWith v (some t) pos.line X.env=pure false from jd1 hx.1) hst2 (by rw[jho hst];rfl)) fun E σ H q=>jj6 (jfD _) (fun _ _ _ q=>q) q
 |nm i =>
  have ht':jkp c i t=true:=ht
  unfold jkp at ht'
  split at ht'
  ·rename_i x px
   rw[hcm]at ht'
   have hok:jeg c.N c.sc i x=true:=ht'
   have hok':jeg X.N X.env.scope i x=true:=by rw[o.hN,o.sc];exact hok
   have hnd:X.N.Nodup:=by rw[o.hN];exact o.nd
   have hfn:X.fn x=true:=o.fn hcm x
   cases hI:jp2 e with
   |false =>
    have hc:notComp v=true:=by simpa[joT,hI] using hcp
    exact imS (jfZ hnd hok' k.v hc hfn) fun E σ H q=>jj6 (g:=je4 i) (jfD (.nm i)) (fun _ _ _ q=>q) q
   |true =>
    cases e with
    |comp m own tg' ik es ifs elt =>
     have hh:=jkg (P:=jws G j own tg' ik es ifs elt c) he
     clear he
     obtain⟨el,g,s,p,rfl,he⟩:=hh
     obtain⟨t',it,fs,kk⟩:=g
     simp only[jws,Bool.and_eq_true,beq_iff_eq,decide_eq_true_eq]at he
     obtain⟨⟨⟨⟨⟨⟨⟨⟨rfl,rfl⟩,h1⟩,h2⟩,h3⟩,h4⟩,h5⟩,h6⟩,h7⟩:=he
     ·have hs:=jpo (X:=X) (sc:=c.sc) (y:=x) (py:=px) (p:=p) (el:=el) (gs:=[⟨t',it,fs,0⟩]) (s:=s) (l:=pos.line) o.sc o.kd
      cases hsw:juD c.sc x px (.ListComp el [⟨t',it,fs,0⟩] s p) with
      |false =>
       rw[hsw]at hs
       exact imS (jp6 hnd (jcu hok').1 (jcu hok').2 k.v hs (.inl hfn)) fun E σ H q=>jj6 (g:=je4 i) (jfD (.nm i)) (fun _ _ _ q=>q) q
      |true =>
       rw[hsw]at hs
       split at h4
       ·rename_i as ha
        have kk:=sndL es o.toOk h4
        have oi:=jka (t:=t') (scope:=s) o.toOk h2
        exact imS (jk4 hnd (jcu hok').1 (jcu hok').2 o.calm (csk (by rw[o.hN,o.sc];exact h1)) (jrx o.toOk ha kk.1 kk.2.1 kk.2.2) (fun C fp s H=>(jox (oi C fp s H) h5).1) (fun C fp s H=>sndT ifs (oi C fp s H) h6) (fun C fp s H=>(snd elt (oi C fp s H) h7).v) hs (jfK h3) (.inl hfn))
         fun E σ H q=>jj6 (g:=je4 i) (jfD (.nm i)) (fun _ _ _ q=>jmw (jfD tg') q) q
       ·cases h4
    |_=>cases hI
  ·cases ht'
theorem joY {ob ix e:E}{x y v:Expr}{p pos:Pos}(o:OkS G j c X)(he:chk G j e c v=true)(ho:chk G j ob c x=true)(hi:chk G j ix c y=true)(hp:jiV y=true)(hc:notComp v=true)(ht:jfM v=false):PS X (.Assign [.Subscript x y p] v pos) (T3S X.K (run G (.setI ob ix e))):=by
 have k1:=snd e o.toOk he
 have k2:=snd ob o.toOk ho
 have k3:=snd ix o.toOk hi
 refine imS (jpQ k1.v (jtR k2.v k3.v jpi (by intro v;cases y <;> first | rfl | cases hp)) (show swapsWith v (some (.Subscript x y p)) pos.line X.env=pure false from jd1 hc) (by cases v <;> rfl) rfl) fun E σ H=>?_
 rintro⟨w,μ,ρ,fl,μ',R,S,e1,q⟩
 obtain⟨d,μ1,a1,e1⟩:=Out.bind_ok e1
 obtain⟨d2,μ2,a2,e1⟩:=Out.bind_ok e1
 obtain⟨d3,μ3,a3,e1⟩:=Out.bind_ok e1
 refine⟨w,μ,ρ,d,μ1,R,S,a1,fun w1 H1 v1 x1 R1 k1=>⟨w1,μ1,ρ,d2,μ2,R1,S.mono x1,a2,fun w2 H2 v2 x2 R2 k2=>⟨w2,μ2,ρ,d3,μ3,R2,S.mono (x1.trans x2),a3,fun w3 H3 v3 x3 R3 k3=>?_⟩⟩⟩
 split at e1
 ·rename_i kc jx hh
  split at e1
  ·rename_i xs hk
   split at e1
   ·rename_i pl hpl
    cases e1
    have kk2:=k2.mono x3
    unfold Den at kk2 k3
    obtain⟨ys,g1,g2⟩:=(R3.liv kc _ hk).2
    have R4:=R3.putL hk (jaC.mpr (jgK (k1.mono (x2.trans x3)) pl (jaC.mp g2)))
    have hl:(μ3.set kc (some (Cl.lst (xs.set pl d)))).length=μ3.length:=List.length_set
    refine⟨w3.γ kc,ys,jx,pl,kk2.2,k3,g1,by rw[← jag g2];exact hpl,?_⟩
    have x13:=(x1.trans x2).trans x3
    exact q w3 _ (by rw[hl];exact x13) R4 σ (by rw[hl];exact S.mono x13)
   ·cases e1
  ·cases e1
 ·cases e1
theorem jut {e:E}{v:Expr}{pos:Pos}(o:OkS G j c X)(he:chk G j e c v=true)(hc:notComp v=true):PS X (.Expr v pos) (T3S X.K (run G (.ex e))):=by
 refine imS (jne (snd e o.toOk he).v (jd1 hc)) fun E σ H=>?_
 rintro⟨w,μ,ρ,fl,μ',R,S,e1,q⟩
 obtain⟨d,μ1,a1,e1⟩:=Out.bind_ok e1
 cases e1
 exact⟨w,μ,ρ,d,_,R,S,a1,fun w1 H1 v1 x1 R1 k1=>q w1 H1 x1 R1 σ (S.mono x1)⟩
theorem js0 {e:E}{v:Expr}{pos:Pos}(o:OkS G j c X)(he:chk G j e c v=true):PS X (.Return (some v) pos) (T3S X.K (run G (.ret e))):=by
 refine imS (jpS (snd e o.toOk he).v) fun E σ H=>?_
 rintro⟨w,μ,ρ,fl,μ',R,S,e1,q⟩
 obtain⟨d,μ1,a1,e1⟩:=Out.bind_ok e1
 cases e1
 exact⟨w,μ,ρ,d,_,R,S,a1,fun w1 H1 v1 x1 R1 k1=>q w1 H1 x1 R1 v1 k1⟩
theorem jsj {k:E}{a b:List S}{x:Expr}{ss tt:List Stmt}{pos:Pos}(o:OkS G j c X)(hk:chk G j k c x=true)(ht:tst x=true)(ha:PSs X ss (T3S X.K (runs G a)))(hb:PSs X tt (T3S X.K (runs G b))):PS X (.If x ss tt pos) (T3S X.K (run G (.ite k a b))):=by
 refine imS (juh ((snd k o.toOk hk).t ht) ha hb) fun E σ H=>?_
 rintro⟨w,μ,ρ,fl,μ',R,S,e1,q⟩
 obtain⟨b',μ1,a1,e1⟩:=Out.bind_ok e1
 refine⟨w,μ,ρ,b',μ1,R,S,a1,fun w1 H1 x1 R1=>?_⟩
 dsimp only
 cases b' with
 |true =>
  rw[if_pos rfl]at e1 ⊢
  exact⟨w1,μ1,ρ,fl,μ',R1,S.mono x1,e1,fun w2 H2 x2 R2=>q w2 H2 (x1.trans x2) R2⟩
 |false =>
  rw[if_neg Bool.false_ne_true]at e1 ⊢
  exact⟨w1,μ1,ρ,fl,μ',R1,S.mono x1,e1,fun w2 H2 x2 R2=>q w2 H2 (x1.trans x2) R2⟩
theorem jrZ {tg:Tg}{ik:IK}{es:List E}{body:List S}{fg:List Nat}{t it:Expr}{as:List Expr}{ss:List Stmt}{pos:Pos}(o:OkS G j c X)(hn:jgd it=true)(hi:jdN c ik t it=some as)(hes:chkL G j es c as=true)(ht:jgt c tg t=true)(hb:PSs X ss (T3S X.K (runs G body))):PS X (.For t it ss [] pos) (T3S X.K (run G (.for_ tg ik es body fg))):=by
 have k:=sndL es o.toOk hes
 refine imS (juy o.pass o.calm (jrx o.toOk hi k.1 k.2.1 k.2.2) (jox o.toOk ht).1 hb (jfK hn)) fun E σ H=>?_
 rintro⟨w,μ,ρ,fl,μ',R,S,e1,q⟩
 obtain⟨ds,μ1,a1,e1⟩:=Out.bind_ok e1
 split at e1
 ·rename_i xs hx
  exact⟨w,μ,ρ,ds,μ1,xs,R,S,a1,hx,fun w1 H1 J x1 R1 hJ=>jr5 (jfD tg) R1 (S.mono x1) hJ e1 fun w2 H2 x2 R2=>q w2 H2 (x1.trans x2) R2⟩
 ·cases e1
theorem jq7 {s:S}{ss:List S}{st:Stmt}{sts:List Stmt}(h1:PS X st (T3S X.K (run G s)))(h2:PSs X sts (T3S X.K (runs G ss))):PSs X (st :: sts) (T3S X.K (runs G (s :: ss))):=by
 refine jrg (jc0 h1 h2) fun E σ H=>?_
 rintro⟨w,μ,ρ,fl,μ',R,S,e1,q⟩
 replace e1:(match run G s ρ μ with
  |.ok (.nx ρ1) μ1=>runs G ss ρ1 μ1
  |r=>r)=.ok fl μ':=e1
 cases e2:run G s ρ μ with
 |exc x μ1=>rw[e2]at e1;cases e1
 |bad=>rw[e2]at e1;cases e1
 |ok f1 μ1 =>
  rw[e2]at e1
  refine⟨w,μ,ρ,f1,μ1,R,S,e2,fun w1 H1 x1 R1=>?_⟩
  cases f1 with
  |nx ρ1 =>
   intro σ1 S1
   exact⟨w1,μ1,ρ1,fl,μ',R1,S1,e1,fun w2 H2 x2 R2=>q w2 H2 (x1.trans x2) R2⟩
  |rt d =>
   cases e1
   exact q w1 H1 x1 R1
  |bk ρ1 =>
   cases e1
   exact q w1 H1 x1 R1
  |ct ρ1 =>
   cases e1
   exact q w1 H1 x1 R1
end
section
variable {G:List FnE} {j:Nat}
mutual
theorem jya:∀(s:S) {c:Stt} {X:Cx} {st:Stmt},OkS G j c X→jvN G j s c st=true→PS X st (T3S X.K (run G s))
 |.asg tg e,c,X,st,o,h=>by
  have hh:=jr1 (P:=fun t v _=>chk G j e c v && jgt c tg t && !c.cmp && tgV tg v && joT e v) h
  clear h
  obtain⟨t,v,p,rfl,h⟩:=hh
  simp only[Bool.and_eq_true,Bool.not_eq_true']at h
  exact jrS o h.1.1.1.1 h.1.1.1.2 h.1.1.2 h.1.2 h.2
 |.setF _ _ _,c,X,st,o,h=>by
  have h':false=true:=h
  cases h'
 |.setI ob i e,c,X,st,o,h=>by
  have hh:=jnT (P:=fun x y v=>chk G j e c v && chk G j ob c x && chk G j i c y && jiV y && notComp v && !(jfM v)) h
  clear h
  obtain⟨x,y,p,v,q,rfl,h⟩:=hh
  simp only[Bool.and_eq_true,Bool.not_eq_true']at h
  obtain⟨⟨⟨⟨⟨h1,h2⟩,h3⟩,h4⟩,h5⟩,h6⟩:=h
  exact joY o h1 h2 h3 h4 h5 h6
 |.ex e,c,X,st,o,h=>by
  have hh:=jwa (P:=fun v=>chk G j e c v && notComp v) h
  clear h
  obtain⟨v,p,rfl,h⟩:=hh
  simp only[Bool.and_eq_true]at h
  exact jut o h.1 h.2
 |.ite k a b,c,X,st,o,h=>by
  have hh:=jtW (P:=fun x ss tt=>chk G j k c x && tst x && chkSs G j a c ss && chkSs G j b c tt) h
  clear h
  obtain⟨x,ss,tt,p,rfl,h⟩:=hh
  simp only[Bool.and_eq_true]at h
  obtain⟨⟨⟨h1,h2⟩,h3⟩,h4⟩:=h
  exact jsj o h1 h2 (sndSs a o h3) (sndSs b o h4)
 |.for_ tg ik es body fg,c,X,st,o,h=>by
  have hh:=jqK (P:=fun t it ss=>jgd it && (match jdN c ik t it with
   |some as=>chkL G j es c as
   |none=>false) && jgt c tg t && chkSs G j body c ss) h
  clear h
  obtain⟨t,it,ss,p,rfl,h⟩:=hh
  simp only[Bool.and_eq_true]at h
  obtain⟨⟨⟨h1,h2⟩,h3⟩,h4⟩:=h
  split at h2
  ·rename_i as ha
   exact jrZ o h1 ha h2 h3 (sndSs body o h4)
  ·cases h2
 |.ret e,c,X,st,o,h=>by
  have hh:=js1 (P:=fun v=>chk G j e c v) h
  clear h
  obtain⟨v,p,rfl,h⟩:=hh
  exact js0 o h
 |.retN,c,X,st,o,h=>by
  have hh:=joE h
  clear h
  obtain⟨p,rfl⟩:=hh
  refine imS jth fun E σ H=>?_
  rintro⟨w,μ,ρ,fl,μ',R,S,e1,q⟩
  have e2:Out.ok (Fl.rt D.non) μ=.ok fl μ':=e1
  cases e2
  exact q w H (Ext.refl _ _) R .non (by unfold Den;rfl)
 |.pass,c,X,st,o,h=>by
  have hh:=jn6 h
  clear h
  obtain⟨p,rfl⟩:=hh
  refine imS jsq fun E σ H=>?_
  rintro⟨w,μ,ρ,fl,μ',R,S,e1,q⟩
  have e2:Out.ok (Fl.nx ρ) μ=.ok fl μ':=e1
  cases e2
  exact q w H (Ext.refl _ _) R σ S
 |.never,c,X,st,o,h=>by
  refine imS jp fun E σ H=>?_
  rintro⟨w,μ,ρ,fl,μ',R,S,e1,q⟩
  have e2:(Out.bad:Out Fl)=.ok fl μ':=e1
  cases e2
theorem sndSs:∀(ss:List S) {c:Stt} {X:Cx} {sts:List Stmt},OkS G j c X→chkSs G j ss c sts=true→PSs X sts (T3S X.K (runs G ss))
 |[],c,X,sts,o,h=>by
  cases sts with
  |nil =>
   refine jrg jiz fun E σ H=>?_
   rintro⟨w,μ,ρ,fl,μ',R,S,e1,q⟩
   have e2:Out.ok (Fl.nx ρ) μ=.ok fl μ':=e1
   cases e2
   exact q w H (Ext.refl _ _) R σ S
  |cons _ _ =>
   have h':false=true:=h
   cases h'
 |s :: ss,c,X,sts,o,h=>by
  cases sts with
  |nil =>
   have h':false=true:=h
   cases h'
  |cons t ts =>
   have h':(jvN G j s c t && chkSs G j ss c ts)=true:=h
   clear h
   have h:=h'
   simp only[Bool.and_eq_true]at h
   exact jq7 (jya s o h.1) (sndSs ss o h.2)
end
end
section
variable {P:Program} {w:World} {K:PySem.W.Frag} {mg:Str→Option Value} {base:Heap}
structure Tab (P:Program) (w:World) (K:PySem.W.Frag) (mg:Str→Option Value) (base:Heap) (j:Nat) (G:List FnE):Prop where
 hm:∀x∈jdX,mg x=none
 hf:∀(i:Nat) (g:FnE),G[i]?=some g→g.lv≤j→_L2.Callee P w K mg base g.lv g.name g.ps (jdL K g.ps.length g.F)
 hd:∀(i:Nat) (g:FnE) (d:Dat),G[i]?=some g→g.dat=some d→jja K w mg g.name d
theorem jbO {x qual:Str}{st:Stmt}{f:Addr}{fd:FuncData}{N ps:List Str}{j:Nat}{G:List FnE}{body:List S}(F:Fun K x qual st f fd)(Sc:FnScope N ps (ja st))(T:Tab P w K mg base j G)(h:chkSs G j body ⟨N,ja st,false⟩ (jae st)=true) :
  FnOk P w K mg base CX0 (j+1) f fd ps (jdL K ps.length (fnOf G ps.length (N.length - ps.length) body)):=by
 refine F.okQ Sc (fun vs H Q E h=>h.1) (fun cdv A outer s H vs Q E hr hsp=>?_)
 refine⟨T3S K (runs G body),⟨sndSs body (c:=⟨N,ja st,false⟩) ⟨⟨rfl,Sc.nd,rfl,rfl,hr,T.hm,T.hf,T.hd,fun _ _=>rfl⟩,PassesOwn.never,Sc.kind⟩ h⟩,?_⟩
 obtain⟨hl,w0,μ,ds,d,μ',R,hD,e,q⟩:=hsp
 unfold fnOf at e
 split at e
 ·rename_i hn
  have hS:jcz K w0 μ.length (ds.map some++List.replicate (N.length - ps.length) none) (_L2.start N vs):=by
   unfold _L2.start
   rw[hl]
   exact jcz.start hD _
  split at e
  ·rename_i d1 μ1 e1
   cases e
   exact⟨w0,μ,_,_,_,R,hS,e1,fun w1 H1 x1 R1 v dv=>q w1 H1 v x1 R1 dv⟩
  ·rename_i ρ1 μ1 e1
   cases e
   exact⟨w0,μ,_,_,_,R,hS,e1,fun w1 H1 x1 R1 σ' S'=>q w1 H1 .non x1 R1 (by unfold Den;rfl)⟩
  ·cases e
  ·cases e
  ·cases e
 ·cases e
theorem jqX {f:Addr} {fd:FuncData} {k:Nat} {F:Fn} (h:FnOk P w K mg base CX0 k f fd ["_law_script"] (jdL K 1 F)) (hF:∀ns:List Int,ns.length≤63→∃μ,F [.scr (ns.map D.int)] []=.ok (.bl true) μ):FnOk P w K mg base CX0 k f fd ["_law_script"] (spLaw K):=by
 refine h.imp fun vs H Q E=>?_
 rintro⟨a,ns,rfl,hS,hn,q⟩
 obtain⟨μ,hm⟩:=hF ns hn
 refine⟨rfl,⟨fun b=>if b=a then H a else none,fun _=>0⟩,[],_,_,μ,⟨fun b o h=>?_,fun k c h=>by simp at h,fun i j ci cj h=>by simp at h⟩,?_,hm,fun w' H' v _ _ hv=>?_⟩
 ·replace h:(if b=a then H a else none)=some o:=h
  split at h
  ·rename_i e
   rw[e]
   exact h
  ·cases h
 ·unfold DenL
  refine⟨.ref a,[],rfl,?_,by unfold DenL;rfl⟩
  unfold Den
  refine⟨a,ns.map V.int,rfl,?_,jcF ns⟩
  rcases hS with hS | hS
  ·left
   rcases hS with h | ⟨o,h⟩
   ·exact .inl (by show (if a=a then H a else none)=_;rw[if_pos rfl];exact h)
   ·exact .inr ⟨o,by show (if a=a then H a else none)=_;rw[if_pos rfl];exact h⟩
  ·exact .inr hS
 ·unfold Den at hv
  subst hv
  exact q H'
end
end _L3
namespace _L3
open PySem PySem.Spec PyProof.Rows _L2
theorem nr {α:Type}{a b:α}(h:a=b):a=b:=h
section
variable {α β:Type}
theorem jc {a:α}{μ:M}{f:α→M→Out β}:(Out.ok a μ).bind f=f a μ:=rfl
theorem jpF {f:α→M→Out β}:(Out.bad:Out α).bind f=.bad:=rfl
end
noncomputable def jp7 (o:Out Fl)(k:S3→M→Out Fl):Out Fl :=
 match o with
 |.ok (.nx ρ) μ=>k ρ μ
 |r=>r
noncomputable def jgq (o:Out Fl):Out D :=
 match o with
 |.ok (.rt d) μ=>.ok d μ
 |.ok (.nx _) μ=>.ok .non μ
 |.ok _ _=>.bad
 |.exc x μ=>.exc x μ
 |.bad=>.bad
theorem jcB {ρ:S3}{μ:M}{k:S3→M→Out Fl}:jp7 (.ok (.nx ρ) μ) k=k ρ μ:=rfl
theorem jsA {d:D}{μ:M}{k:S3→M→Out Fl}:jp7 (.ok (.rt d) μ) k=.ok (.rt d) μ:=rfl
theorem jsE {d:D}{μ:M}:jgq (.ok (.rt d) μ)=.ok d μ:=rfl
theorem jrU {ρ:S3}{μ:M}:jgq (.ok (.nx ρ) μ)=.ok .non μ:=rfl
section
variable {G:List FnE} {ρ:S3} {μ:M}
theorem jeW {np nl:Nat}{b:List S}{ds:List D}:fnOf G np nl b ds μ=if ds.length=np then jgq (runs G b (ds.map some++List.replicate nl none) μ) else .bad:=rfl
theorem jdg:runs G [] ρ μ=.ok (.nx ρ) μ:=rfl
theorem jbJ {s:S}{ss:List S}:runs G (s :: ss) ρ μ=jp7 (_L3.run G s ρ μ) (runs G ss):=rfl
noncomputable def jxG (tg:Tg)(ρ:S3)(d:D)(μ:M):Out Fl :=
 match joz tg d ρ with
 |some ρ1=>.ok (.nx ρ1) μ
 |none=>.bad
theorem jsa {tg:Tg}{e:E}:_L3.run G (.asg tg e) ρ μ=((ev G e).v ρ μ).bind fun d μ1=>jxG tg ρ d μ1:=rfl
theorem jqP {i:Nat}{d:D}:jxG (.nm i) ρ d μ=.ok (.nx (ρ.set i (some d))) μ:=rfl
theorem jvD {e:E}:_L3.run G (.ex e) ρ μ=((ev G e).v ρ μ).bind fun _ μ1=>.ok (.nx ρ) μ1:=rfl
theorem jdG {c:E}{a b:List S}:_L3.run G (.ite c a b) ρ μ=((ev G c).t ρ μ).bind fun k μ1=>if k then runs G a ρ μ1 else runs G b ρ μ1:=rfl
theorem jiQ {e:E}:_L3.run G (.ret e) ρ μ=((ev G e).v ρ μ).bind fun d μ1=>.ok (.rt d) μ1:=rfl
noncomputable def jxi (ik:IK)(ds:List D)(tg:Tg)(body:S3→M→Out Fl)(fg:List Nat)(ρ:S3)(μ:M):Out Fl :=
 match itD ik ds μ with
 |some xs=>jg7 (je5 ik ds xs) tg body fg xs ρ μ
 |none=>.bad
theorem jiM {ik:IK}{ds xs:List D}{tg:Tg}{body:S3→M→Out Fl}{fg:List Nat}(h:itD ik ds μ=some xs):jxi ik ds tg body fg ρ μ=jg7 (je5 ik ds xs) tg body fg xs ρ μ:=by
 unfold jxi
 rw[h]
theorem jsb {tg:Tg}{ik:IK}{es:List E}{body:List S}{fg:List Nat}:_L3.run G (.for_ tg ik es body fg) ρ μ=(evL G es ρ μ).bind fun ds μ1=>jxi ik ds tg (runs G body) fg ρ μ1:=rfl
noncomputable def jys (ρ:S3)(d x y:D)(μ:M):Out Fl :=
 match x,y with
 |.cel k,.int j=>match μ[k]? with
  |some (some (.lst xs))=>match ixN xs.length j with
   |some p=>.ok (.nx ρ) (μ.set k (some (.lst (xs.set p d))))
   |none=>.bad
  |_=>.bad
 |_,_=>.bad
theorem jos {o i e:E}:_L3.run G (.setI o i e) ρ μ=((ev G e).v ρ μ).bind fun d μ1=>((ev G o).v ρ μ1).bind fun x μ2=>((ev G i).v ρ μ2).bind fun y μ3=>jys ρ d x y μ3:=rfl
theorem jui {d:D}:(ev G (.cst d)).v ρ μ=.ok d μ:=rfl
theorem juS {op:Operator}{m:Bool}{a b:E}:(ev G (.bin op m a b)).v ρ μ=((ev G a).v ρ μ).bind fun x μ1=>((ev G b).v ρ μ1).bind fun y μ2=>jgQ op m x y μ2:=rfl
noncomputable def jxQ (x:D)(μ:M):Out D :=
 match x with
 |.int i=>.ok (.int (-i)) μ
 |_=>.bad
theorem jvj {a:E}:(ev G (.neg a)).v ρ μ=((ev G a).v ρ μ).bind jxQ:=rfl
theorem jop {i:Int}:jxQ (.int i) μ=.ok (.int (-i)) μ:=rfl
noncomputable def jx5 (o:Option (Option D))(μ:M):Out D :=
 match o with
 |some (some d)=>.ok d μ
 |_=>.bad
theorem jvW {i:Nat}:(ev G (.var i)).v ρ μ=jx5 ρ[i]? μ:=rfl
theorem jtv {d:D}:jx5 (some (some d)) μ=.ok d μ:=rfl
noncomputable def jxS (x:D)(μ:M):Out D :=
 match x with
 |.bl c=>.ok (.bl (!c)) μ
 |_=>.bad
theorem jwd {a:E}:(ev G (.not_ a)).v ρ μ=((ev G a).v ρ μ).bind jxS:=rfl
theorem juc {op:CmpOp}{a b:E}:(ev G (.cmp op a b)).v ρ μ=((ev G a).v ρ μ).bind fun x μ1=>((ev G b).v ρ μ1).bind fun y μ2=>jeh op x y μ2:=rfl
theorem jvI {a:E}:(ev G (.isN a)).v ρ μ=((ev G a).v ρ μ).bind fun x μ1=>.ok (.bl (jgM x)) μ1:=by
 show ((ev G a).v ρ μ).bind _=_
 congr 1
 funext x μ1
 cases x <;> rfl
theorem jsC {a:E}:(ev G (.notN a)).v ρ μ=((ev G a).v ρ μ).bind fun x μ1=>.ok (.bl (!jgM x)) μ1:=by
 show ((ev G a).v ρ μ).bind _=_
 congr 1
 funext x μ1
 cases x <;> rfl
noncomputable def boD (k:Bool)(o:Out D)(x:D)(μ:M):Out D :=
 match x with
 |.bl c=>if c=k then o else .ok (.bl c) μ
 |_=>.bad
theorem jvU {a b:E}:(ev G (.and_ a b)).v ρ μ=((ev G a).v ρ μ).bind fun x μ1=>boD true ((ev G b).v ρ μ1) x μ1:=by
 show ((ev G a).v ρ μ).bind _=_
 congr 1
 funext x μ1
 cases x with
 |bl c=>cases c <;> rfl
 |_=>rfl
theorem jwY {a b:E}:(ev G (.or_ a b)).v ρ μ=((ev G a).v ρ μ).bind fun x μ1=>boD false ((ev G b).v ρ μ1) x μ1:=by
 show ((ev G a).v ρ μ).bind _=_
 congr 1
 funext x μ1
 cases x with
 |bl c=>cases c <;> rfl
 |_=>rfl
theorem jvc {c a b:E}:(ev G (.ife c a b)).v ρ μ=((ev G c).t ρ μ).bind fun k μ1=>if k then (ev G a).v ρ μ1 else (ev G b).v ρ μ1:=rfl
theorem jt9 {es:List E}:(ev G (.tup es)).v ρ μ=(evL G es ρ μ).bind fun ds μ1=>if ds.length≤sizeLine then .ok (.tup ds) μ1 else .bad:=rfl
theorem ju3 {m:Bool}{es:List E}:(ev G (.lst m es)).v ρ μ=(evL G es ρ μ).bind fun ds μ1=>if ds.length≤sizeLine then mkL m ds μ1 else .bad:=rfl
theorem jw8 {a b:E}:(ev G (.ix a b)).v ρ μ=((ev G a).v ρ μ).bind fun x μ1=>((ev G b).v ρ μ1).bind fun y μ2=>ixD x y μ2:=rfl
theorem jxJ {m:Bool}{a:E}{lo hi:List E}:(ev G (.sl m a lo hi)).v ρ μ=((ev G a).v ρ μ).bind fun x μ1=>(jib (evL G lo ρ μ1)).bind fun l μ2=>(jib (evL G hi ρ μ2)).bind fun h μ3=>slD m x l h μ3:=rfl
theorem jt2 {m:Bool}{a:E}{lo hi:List E}:(ev G (.stp m a lo hi)).v ρ μ=((ev G a).v ρ μ).bind fun x μ1=>(jib (evL G lo ρ μ1)).bind fun l μ2=>(jib (evL G hi ρ μ2)).bind fun h μ3=>jww m x l h μ3:=rfl
theorem jrs {f:Nat}{md:Md}{es:List E}:(ev G (.call f md es)).v ρ μ=(evL G es ρ μ).bind fun ds μ1=>jkT G f md ds μ1:=rfl
theorem jwI {b:Bi}{m:Bool}{es:List E}:(ev G (.bi b m es)).v ρ μ=(evL G es ρ μ).bind fun ds μ1=>biD b m ds μ1:=rfl
theorem jwE {b:Mt}{o:E}{es:List E}:(ev G (.mt b o es)).v ρ μ=((ev G o).v ρ μ).bind fun x μ1=>if jmo b x μ1 then (evL G es ρ μ1).bind fun ds μ2=>mtD b x ds μ2 else .bad:=rfl
noncomputable def jqL (m:Bool)(ik:IK)(ds:List D)(tg:Tg)(cond:S3→M→Out Bool)(elt:S3→M→Out D)(ρ:S3)(μ:M):Out D :=
 match itD ik ds μ with
 |some xs=>if xs.length≤sizeLine then (jdy (je5 ik ds xs) tg cond elt ρ xs μ).bind fun ys μ2=>mkL m ys μ2 else .bad
 |none=>.bad
theorem jn8 {m:Bool}{ik:IK}{ds xs ys:List D}{tg:Tg}{cond:S3→M→Out Bool}{elt:S3→M→Out D}{μ2:M}(h:itD ik ds μ=some xs)(hl:xs.length≤sizeLine)(hc:jdy (je5 ik ds xs) tg cond elt ρ xs μ=.ok ys μ2):jqL m ik ds tg cond elt ρ μ=mkL m ys μ2:=by
 unfold jqL
 simp only[h]
 rw[if_pos hl,hc,jc]
theorem jni {m:Bool}{own:Nat}{tg:Tg}{ik:IK}{es ifs:List E}{elt:E}:(ev G (.comp m own tg ik es ifs elt)).v ρ μ=(evL G es ρ μ).bind fun ds μ1=>jqL m ik ds tg (evTs G ifs) (ev G elt).v (List.replicate own none++ρ) μ1:=rfl
theorem jpc {o1 o2:CmpOp}{a b c:E}:(ev G (.chain o1 o2 a b c)).v ρ μ=((ev G a).v ρ μ).bind fun x μ1=>((ev G b).v ρ μ1).bind fun y μ2=>(jeh o1 x y μ2).bind fun z μ3=>boD true (((ev G c).v ρ μ3).bind fun u μ4=>jeh o2 y u μ4) z μ3:=by
 show ((ev G a).v ρ μ).bind _=_
 congr 1
 funext x μ1
 congr 1
 funext y μ2
 congr 1
 funext z μ3
 cases z with
 |bl c=>cases c <;> rfl
 |_=>rfl
theorem jw4:evL G [] ρ μ=.ok [] μ:=rfl
theorem jxr {e:E}{es:List E}:evL G (e :: es) ρ μ=((ev G e).v ρ μ).bind fun d μ1=>(evL G es ρ μ1).bind fun ds μ2=>.ok (d :: ds) μ2:=rfl
theorem jxb:evTs G [] ρ μ=.ok true μ:=rfl
theorem jxn {e:E}:evTs G [e] ρ μ=(ev G e).t ρ μ:=rfl
noncomputable def tru (μ:M)(d:D):Out Bool :=
 match jwl μ d with
 |some b=>.ok b μ
 |none=>.bad
theorem jqQ {op:CmpOp}{a b:E}:(ev G (.cmp op a b)).t ρ μ=((ev G (.cmp op a b)).v ρ μ).bind fun d μ1=>tru μ1 d:=rfl
theorem jns {o1 o2:CmpOp}{a b c:E}:(ev G (.chain o1 o2 a b c)).t ρ μ=((ev G (.chain o1 o2 a b c)).v ρ μ).bind fun d μ1=>tru μ1 d:=rfl
theorem jsy {i:Nat}:(ev G (.var i)).t ρ μ=((ev G (.var i)).v ρ μ).bind fun d μ1=>tru μ1 d:=rfl
theorem jpg {f:Nat}{md:Md}{es:List E}:(ev G (.call f md es)).t ρ μ=((ev G (.call f md es)).v ρ μ).bind fun d μ1=>tru μ1 d:=rfl
theorem jva {b:Bi}{m:Bool}{es:List E}:(ev G (.bi b m es)).t ρ μ=((ev G (.bi b m es)).v ρ μ).bind fun d μ1=>tru μ1 d:=rfl
theorem jrm {a:E}:(ev G (.isN a)).t ρ μ=((ev G (.isN a)).v ρ μ).bind fun d μ1=>tru μ1 d:=rfl
theorem joM {a:E}:(ev G (.notN a)).t ρ μ=((ev G (.notN a)).v ρ μ).bind fun d μ1=>tru μ1 d:=rfl
theorem jrq {a:E}:(ev G (.not_ a)).t ρ μ=((ev G a).t ρ μ).bind fun c μ1=>.ok (!c) μ1:=rfl
theorem jte {a b:E}:(ev G (.and_ a b)).t ρ μ=((ev G a).t ρ μ).bind fun c μ1=>if c then (ev G b).t ρ μ1 else .ok false μ1:=rfl
theorem juZ {a b:E}:(ev G (.or_ a b)).t ρ μ=((ev G a).t ρ μ).bind fun c μ1=>if c then .ok true μ1 else (ev G b).t ρ μ1:=rfl
end
theorem jdS:∀zs:List Str,jh (zs.map D.str)=some zs
 |[]=>rfl
 |z :: zs=>by rw[List.map_cons];unfold jh;rw[jdS zs];rfl
section
variable {μ:M}
theorem ju7 {b:Bool}:tru μ (.bl b)=.ok b μ:=rfl
theorem jto {b:Bool}:jxS (.bl b) μ=.ok (.bl (!b)) μ:=rfl
theorem jwB {k c:Bool}{o:Out D}:boD k o (.bl c) μ=if c=k then o else .ok (.bl c) μ:=rfl
theorem jv4:jib (.ok [] μ)=.ok none μ:=rfl
theorem jv0 {i:Int}:jib (.ok [.int i] μ)=.ok (some i) μ:=rfl
theorem jsr {m:Bool}{i j:Int}:jgQ .Add m (.int i) (.int j) μ=.ok (.int (i+j)) μ:=nr rfl
theorem jsD {m:Bool}{i j:Int}:jgQ .Sub m (.int i) (.int j) μ=.ok (.int (i - j)) μ:=if_pos trivial
theorem jhp {m:Bool}{i j:Int}(h : -18446744073709551616 < i)(h2:i < 18446744073709551616):jgQ .Mult m (.int i) (.int j) μ=.ok (.int (i * j)) μ:=if_pos (.inl ⟨h,h2⟩)
theorem jki {m:Bool}{i j:Int}(h : -18446744073709551616 < j)(h2:j < 18446744073709551616):jgQ .Mult m (.int i) (.int j) μ=.ok (.int (i * j)) μ:=if_pos (.inr ⟨h,h2⟩)
theorem jmf {m:Bool}{i j:Int}(h:0 < j)(h2:j < 18446744073709551616):jgQ .FloorDiv m (.int i) (.int j) μ=.ok (.int (i / j)) μ:=if_pos ⟨h,h2⟩
theorem jdp {m:Bool}{i j:Int}(h:0 < j):jgQ .Mod m (.int i) (.int j) μ=.ok (.int (i % j)) μ:=if_pos h
theorem jrB {m:Bool}{i j:Int}(h:0≤j)(h1:j≤1000000)(h2:i.natAbs < 18446744073709551616):jgQ .Pow m (.int i) (.int j) μ=.ok (.int (i ^ j.toNat)) μ:=if_pos ⟨h,h1,h2⟩
theorem jlR {m:Bool}{j:Int}(h:0≤j)(h1:j≤1000000):jgQ .Pow m (.int 10) (.int j) μ=.ok (.int (10 ^ j.toNat)) μ:=jrB h h1 (by decide)
theorem jg4 {m:Bool}{x y:Str}(h:x.length+y.length≤sizeLine):jgQ .Add m (.str x) (.str y) μ=.ok (.str (x++y)) μ:=if_pos h
theorem jhs {m:Bool}{z:Str}{l h:Option Int}(hz:z.length≤sizeLine):slD m (.str z) l h μ=.ok (.str (Txt.slice z l h)) μ:=if_pos hz
theorem jlJ {z:Str}{ys:List Str}(h:(ys.map (·.length)).sum+ys.length * z.length≤16777216):mtD .join (.str z) [.lst (ys.map D.str)] μ=.ok (.str (Txt.join z ys)) μ:=by
 have e:jfl μ (.lst (ys.map D.str))=some (ys.map D.str):=nr rfl
 simp only[mtD,jpd,e,jdS,h,if_true]
theorem ju1 {i j:Int}:jeh .Lt (.int i) (.int j) μ=.ok (.bl (decide (i < j))) μ:=nr rfl
theorem jud {i j:Int}:jeh .LtE (.int i) (.int j) μ=.ok (.bl (decide (i≤j))) μ:=nr rfl
theorem jv1 {i j:Int}:jeh .Gt (.int i) (.int j) μ=.ok (.bl (decide (j < i))) μ:=nr rfl
theorem jt0 {i j:Int}:jeh .GtE (.int i) (.int j) μ=.ok (.bl (decide (j≤i))) μ:=nr rfl
theorem jrE {i j:Int}:jeh .Eq (.int i) (.int j) μ=.ok (.bl (decide (i=j))) μ:=by
 show Out.ok (D.bl (decide (V.int i=V.int j))) μ=_
 simp
theorem jrv {i j:Str}:jeh .Eq (.str i) (.str j) μ=.ok (.bl (decide (i=j))) μ:=by
 show Out.ok (D.bl (decide (V.str i=V.str j))) μ=_
 simp
theorem jqU {i j:Int}:jeh .NotEq (.int i) (.int j) μ=.ok (.bl (!decide (i=j))) μ:=by
 show Out.ok (D.bl (!decide (V.int i=V.int j))) μ=_
 simp
theorem jss {i j:Str}:jeh .NotEq (.str i) (.str j) μ=.ok (.bl (!decide (i=j))) μ:=by
 show Out.ok (D.bl (!decide (V.str i=V.str j))) μ=_
 simp
theorem jw5 {ds:List D}:mkL false ds μ=.ok (.lst ds) μ:=rfl
theorem jwT {ds:List D}:mkL true ds μ=.ok (.cel μ.length) (μ++[some (.lst ds)]):=rfl
theorem jfn {ik:IK}{ds xs:List D}(h:itD ik ds μ=some xs):je5 ik ds xs μ=true:=jeA.mpr h
theorem jlA {c:Cl}:(μ++[some c])[μ.length]?=some (some c):=by simp
theorem jtd {g:FnE}{G:List FnE}{f:Nat}{md:Md}{ds:List D}:jkT (g :: G) (f+1) md ds μ=jkT G f md ds μ:=rfl
theorem jr7 {g:FnE}{G:List FnE}{md:Md}{ds:List D}:jkT (g :: G) 0 md ds μ=jaf md g.F ds μ:=rfl
theorem jjO {F:Fn}{ds:List D}{d d':D}{ν:M}(h:F ds μ=.ok d (μ++ν))(hd:jvm (μ++ν) μ.length d=some d'):jaf .frz F ds μ=.ok d' μ:=by
 unfold jaf
 simp only[h]
 rw[if_pos (by simp),hd]
theorem jac {F:Fn}{ds:List D}{d:D}(h:F ds μ=.ok d μ)(hd:jvm μ μ.length d=some d):jaf .frz F ds μ=.ok d μ:=by
 have:=jjO (ν:=[]) (by rw[List.append_nil];exact h) (by rw[List.append_nil];exact hd)
 exact this
end
section
variable {μ:M}
theorem jmi {z:Str}:jmo .join (.str z) μ=true:=rfl
theorem jk0 {z:Str}:jmo .split (.str z) μ=true:=rfl
theorem jo2 {xs:List D}:jmo .append (.cel μ.length) (μ++[some (.lst xs)])=true:=by simp[jmo]
theorem jon {xs:List D}:jmo .extend (.cel μ.length) (μ++[some (.lst xs)])=true:=by simp[jmo]
theorem joe {xs:List D}{d:D}(h:xs.length < sizeLine):mtD .append (.cel μ.length) [d] (μ++[some (.lst xs)])=.ok .non (μ++[some (.lst (xs++[d]))]):=by
 simp[mtD,jwu,h]
end
theorem jg8 {ok:M→Bool}{tg:Tg}{body:S3→M→Out Fl}{fg:List Nat}{ρ:S3}{μ:M}(h:ok μ=true):jg7 ok tg body fg [] ρ μ=.ok (.nx (forget fg ρ)) μ:=by
 unfold jg7
 rw[if_pos h]
theorem jfB {ok:M→Bool}{tg:Tg}{body:S3→M→Out Fl}{fg:List Nat}{ρ ρ1 ρ2:S3}{μ μ2:M}{d:D}{ds:List D}(h:ok μ=true)(ha:joz tg d ρ=some ρ1)(hb:body ρ1 μ=.ok (.nx ρ2) μ2):jg7 ok tg body fg (d :: ds) ρ μ=jg7 ok tg body fg ds (forget fg ρ2) μ2:=by
 rw[jg7,if_pos h,ha]
 simp only[hb]
theorem jlj {ok:M→Bool}{tg:Tg}{cond:S3→M→Out Bool}{elt:S3→M→Out D}{ρ:S3}{μ:M}(h:ok μ=true):jdy ok tg cond elt ρ [] μ=.ok [] μ:=by
 unfold jdy
 rw[if_pos h]
theorem jkK {ok:M→Bool}{tg:Tg}{cond:S3→M→Out Bool}{elt:S3→M→Out D}{ρ ρ1:S3}{μ:M}{d:D}{ds:List D}(h:ok μ=true)(ha:joz tg d ρ=some ρ1):jdy ok tg cond elt ρ (d :: ds) μ=(cond ρ1 μ).bind fun b μ1=>if b then (elt ρ1 μ1).bind fun y μ2=>(jdy ok tg cond elt ρ ds μ2).bind fun ys μ3=>.ok (y :: ys) μ3 else jdy ok tg cond elt ρ ds μ1:=by
 rw[jdy,if_pos h,ha]
theorem jhz {α:Type}{ok:M→Bool}{tg:Tg}{cond:S3→M→Out Bool}{elt:S3→M→Out D}{ρ:S3}{μ:M}(h:ok μ=true){e:α→D}{c:α→Bool}{f:α→D}:∀(xs:List α),(∀x∈xs,∃ρ1,joz tg (e x) ρ=some ρ1∧cond ρ1 μ=.ok (c x) μ∧(c x=true→elt ρ1 μ=.ok (f x) μ)) →
  jdy ok tg cond elt ρ (xs.map e) μ=.ok ((xs.filter c).map f) μ
 |[],_=>jlj h
 |x :: xs,hx=>by
  obtain⟨ρ1,h1,h2,h3⟩:=hx x (by simp)
  have ih:=jhz (e:=e) (c:=c) (f:=f) h xs fun y hy=>hx y (by simp[hy])
  rw[List.map_cons,jkK h h1,h2,jc]
  cases hc:c x with
  |true=>rw[if_pos rfl,h3 hc,jc,ih,jc,List.filter_cons_of_pos hc,List.map_cons]
  |false=>rw[if_neg Bool.false_ne_true,ih,List.filter_cons_of_neg (by simp[hc])]
theorem jbl {α:Type}{G:List FnE}{m:Bool}{own:Nat}{tg:Tg}{ik:IK}{es ifs:List E}{elt:E}{ρ:S3}{μ:M}{ds:List D}{xs:List α}{e:α→D}(c:α→Bool)(f:α→D)(he:evL G es ρ μ=.ok ds μ)(hi:itD ik ds μ=some (xs.map e))(hl:xs.length≤sizeLine)
  (h:∀x∈xs,∃ρ1,joz tg (e x) (List.replicate own none++ρ)=some ρ1∧evTs G ifs ρ1 μ=.ok (c x) μ∧(c x=true→(ev G elt).v ρ1 μ=.ok (f x) μ)):(ev G (.comp m own tg ik es ifs elt)).v ρ μ=mkL m ((xs.filter c).map f) μ:=by
 rw[jni,he,jc,jn8 hi (by rw[List.length_map];exact hl) (jhz (jfn hi) xs h)]
theorem je6 {n:Nat}{μ:M}(h:n≤1000000):itD .rng1 [.int (n:Int)] μ=some ((List.range n).map fun (k:Nat)=>D.int (k:Int)):=by
 unfold itD jjD
 dsimp only
 rw[if_pos ⟨by omega,by omega⟩,Int.toNat_natCast]
theorem jjd {ds:List D}{i:Int}(h0:0≤i)(h1:i < ds.length){a:D}{μ:M}(ha:jeu μ a=some ds)(hs:∀z,a≠.str z):∃d∈ds,ixD a (.int i) μ=.ok d μ:=by
 obtain⟨n,rfl⟩:∃n:Nat,i=n:=⟨i.toNat,by omega⟩
 have hn:n < ds.length:=by omega
 refine⟨ds[n],List.getElem_mem hn,?_⟩
 have e:atI ds (n:Int)=some ds[n]:=jdq (by simp[hn])
 unfold ixD
 cases a <;> first | exact absurd rfl (hs _) | simp only[ha,e]
theorem sz0:(0≤sizeLine)=True:=by rw[sizeLine_eq];simp
theorem sz1:(1≤sizeLine)=True:=by rw[sizeLine_eq];simp
theorem sz2:(2≤sizeLine)=True:=by rw[sizeLine_eq];simp
theorem sz3:(3≤sizeLine)=True:=by rw[sizeLine_eq];simp
theorem sz4:(4≤sizeLine)=True:=by rw[sizeLine_eq];simp
theorem sz5:(5≤sizeLine)=True:=by rw[sizeLine_eq];simp
theorem sz6:(6≤sizeLine)=True:=by rw[sizeLine_eq];simp
theorem sz7:(7≤sizeLine)=True:=by rw[sizeLine_eq];simp
theorem sz8:(8≤sizeLine)=True:=by rw[sizeLine_eq];simp
theorem sz9:(9≤sizeLine)=True:=by rw[sizeLine_eq];simp
theorem jyv:(10≤sizeLine)=True:=by rw[sizeLine_eq];simp
theorem jyC:(11≤sizeLine)=True:=by rw[sizeLine_eq];simp
theorem jyA:(12≤sizeLine)=True:=by rw[sizeLine_eq];simp
theorem jcv {α:Type}{h:Nat→Option D}{e:α→D}(he:∀x,jb4 h (e x)=some (e x)):∀xs:List α,frzGs h (xs.map e)=some (xs.map e)
 |[]=>by unfold frzGs;rfl
 |x :: xs=>by rw[List.map_cons];unfold frzGs;rw[he x,jcv he xs]
theorem jaX {h:Nat→Option D}{i:Int}:jb4 h (.int i)=some (.int i):=by unfold jb4;rfl
theorem jad {h:Nat→Option D}{i:Str}:jb4 h (.str i)=some (.str i):=by unfold jb4;rfl
theorem jaG {h:Nat→Option D}{i:Bool}:jb4 h (.bl i)=some (.bl i):=by unfold jb4;rfl
theorem jeQ {h:Nat→Option D}:jb4 h .non=some .non:=by unfold jb4;rfl
theorem jas {h:Nat→Option D}{ds es:List D}(k:frzGs h ds=some es):jb4 h (.tup ds)=some (.tup es):=by unfold jb4;rw[k];rfl
theorem jqF {h:Nat→Option D}{ds es:List D}(k:frzGs h ds=some es):jb4 h (.lst ds)=some (.lst es):=by unfold jb4;rw[k];rfl
theorem jaa {h:Nat→Option D}{d e:D}{ds es:List D}(k1:jb4 h d=some e)(k2:frzGs h ds=some es):frzGs h (d :: ds)=some (e :: es):=by unfold frzGs;rw[k1,k2]
theorem jaN {h:Nat→Option D}:frzGs h []=some []:=by unfold frzGs;rfl
end _L3
namespace _L3
open PySem PySem.Spec PyProof.Rows _L2
section
variable {G:List FnE} {ρ:S3} {μ:M}
theorem jxA {f:Nat}:(ev G (.gl f)).v ρ μ=glD (jiy G f) μ:=rfl
theorem jq1 {f:Nat}{a d:E}:(ev G (.gget f a d)).v ρ μ=((ev G a).v ρ μ).bind fun x μ1=>((ev G d).v ρ μ1).bind fun y μ2=>jl0 (jiy G f) x y μ2:=rfl
theorem juu {neg:Bool}{f:Nat}{a:E}:(ev G (.gin neg f a)).v ρ μ=((ev G a).v ρ μ).bind fun x μ1=>jtU neg (jiy G f) x μ1:=rfl
theorem jqO {neg:Bool}{f:Nat}{a:E}:(ev G (.gin neg f a)).t ρ μ=((ev G (.gin neg f a)).v ρ μ).bind fun d μ1=>tru μ1 d:=rfl
theorem jvp {f:Nat}{a:E}:(ev G (.gix f a)).v ρ μ=((ev G a).v ρ μ).bind fun x μ1=>jtV (jiy G f) x μ1:=rfl
theorem jup {g:FnE}{f:Nat}:jiy (g :: G) (f+1)=jiy G f:=rfl
theorem juN {g:FnE}:jiy (g :: G) 0=g.dat:=rfl
theorem juF {d:D}:glD (some (.cst d)) μ=.ok d μ:=rfl
theorem jpe {kvs:List (Str×D)}{z:Str}{y:D}:jl0 (some (.dct kvs)) (.str z) y μ=.ok ((jbt z kvs).getD y) μ:=rfl
theorem js {kvs:List (Str×D)}{z:Str}:jtU false (some (.dct kvs)) (.str z) μ=.ok (.bl (jbt z kvs).isSome) μ:=rfl
theorem jlk {kvs:List (Str×D)}{z:Str}{d:D}(h:jbt z kvs=some d):jtV (some (.dct kvs)) (.str z) μ=.ok d μ:=by
 unfold jtV
 simp only[h]
theorem jl4 {c d:Bool}:jeh .IsNot (.bl c) (.bl d) μ=.ok (.bl (c != d)) μ:=nr rfl
theorem jvJ {c d:Bool}:jeh .Is (.bl c) (.bl d) μ=.ok (.bl (c == d)) μ:=nr rfl
end
end _L3
namespace _L3
open PySem PySem.Spec PyProof.Rows _L2
theorem jiG {n:Nat}(h:n < 100000):n≤sizeLine:=by rw[sizeLine_eq];omega
noncomputable def jbT (z:Str):Bool:=decide (1≤z.length) && (decide (z.length≤8) && z.cps.toList.all fun c=>decide (97≤c) && decide (c≤122))
noncomputable def sTx (c:List Nat):Str:=⟨c.toArray⟩
theorem jc6 (c:List Nat):(sTx c).length=c.length:=by simp[sTx,Str.length]
theorem ji8 (a b:List Nat):sTx a++sTx b=sTx (a++b):=Str.ext' (by rw[Str.cps_append];simp[sTx])
theorem jqw {a b:List Nat}(h:sTx a=sTx b):a=b:=by
 have:=congrArg (fun s:Str=>s.cps.toList) h
 simpa[sTx] using this
noncomputable def Ltr (c:List Nat):Prop:=∀x∈c,97≤x∧x≤122
theorem joF {c:List Nat}(h1:1≤c.length)(h2:c.length≤8)(h:Ltr c):jbT (sTx c)=true:=by
 unfold jbT
 rw[jc6,decide_eq_true h1,decide_eq_true h2,Bool.true_and,Bool.true_and,List.all_eq_true]
 intro x hx
 have hx':x∈c:=by simpa[sTx] using hx
 have:=h x hx'
 simp[this.1,this.2]
theorem jik (t:List Nat){a b:Nat}(hab:a≤b)(hb:b≤t.length)(lo:Option Int)(hlo:Builtin.Str.strSliceIndices lo (some (b:Int)) 1 t.length=Builtin.Str.strSliceIndices (some (a:Int)) (some (b:Int)) 1 t.length):Txt.slice (sTx t) lo (some (b:Int))=sTx ((t.drop a).take (b - a)):=by
 have hl:(sTx t).length=t.length:=jc6 t
 have e1:=PySem.StrLaws.strSliceIndices_plain hab (len:=t.length) hb
 have e2:=PySem.StrLaws.sliced_plain (sTx t) hab (by rw[hl];exact hb)
 rw[hl]at e2
 unfold Txt.slice
 rw[hl,hlo,e2]
 have e3:(Builtin.Str.strSliceIndices (some (a:Int)) (some (b:Int)) 1 t.length).length=b - a:=by rw[e1];simp
 rw[e3]
 have e4:(sTx t).cps.toList=t:=by simp[sTx]
 rw[e4]
 split
 ·rename_i h
  have hba:b - a=t.length:=by simpa using h
  have ha:a=0:=by omega
  subst ha
  rw[List.drop_zero,List.take_of_length_le (by omega)]
 ·rfl
theorem jmU (t:List Nat){a b:Int}(h0:0≤a)(hab:a≤b)(hb:b≤t.length):Txt.slice (sTx t) (some a) (some b)=sTx ((t.drop a.toNat).take (b.toNat - a.toNat)):=by
 obtain⟨x,rfl⟩:∃x:Nat,a=x:=⟨a.toNat,by omega⟩
 obtain⟨y,rfl⟩:∃y:Nat,b=y:=⟨b.toNat,by omega⟩
 exact jik t (by omega) (by omega) _ rfl
theorem jhc (t:List Nat){b:Int}(h0:0≤b)(hb:b≤t.length):Txt.slice (sTx t) none (some b)=sTx (t.take b.toNat):=by
 obtain⟨y,rfl⟩:∃y:Nat,b=y:=⟨b.toNat,by omega⟩
 have:=jik t (a:=0) (b:=y) (by omega) (by omega) none (by
  have e:max (0:Int) (min 0 (t.length:Int))=0:=by omega
  simp[Builtin.Str.strSliceIndices,e])
 rw[this,List.drop_zero]
 rfl
theorem jpu (cs:List Nat):Txt.join (Str.ofString "") (cs.map fun c=>sTx [c])=sTx cs:=by
 have e:∀l:List Str,Txt.join (Str.ofString "") l=Str.join (Str.ofString "") l:=fun l=>by simpa using join_plain_closes (Str.ofString "") l
 rw[e]
 induction cs with
 |nil=>rfl
 |cons c r ih =>
  cases r with
  |nil=>rfl
  |cons d r =>
   show sTx [c]++Str.ofString "" ++ Str.join (Str.ofString "") ((d :: r).map fun c=>sTx [c])=_
   rw[ih]
   refine Str.ext' ?_
   rw[Str.cps_append,Str.cps_append]
   have e0:(Str.ofString "").cps = #[]:=by decide +kernel
   rw[e0]
   simp[sTx]
theorem jei {α:Type}{f:Nat→α}{n:Nat}(h:∀i j,i < n→j < n→f i=f j→i=j):((List.range n).map f).Nodup:=by
 rw[List.Nodup,List.pairwise_map]
 refine List.Pairwise.imp_of_mem (R:=fun a b=>a < b) (fun {a b} ha hb hab e=>?_) List.pairwise_lt_range
 have:=h a b (by simpa using ha) (by simpa using hb) e
 omega
theorem jno:(Str.ofString "abcdefghijklmnopqrstuvwxyz").length=26:=by decide +kernel
theorem jkU:∀n:Nat,n < 26→(Str.ofString "abcdefghijklmnopqrstuvwxyz").cps.toList[n]?=some (97+n):=by decide +kernel
theorem jt5 {i:Int}(h0:0≤i)(h1:i < 26)(μ:M):ixD (.str (Str.ofString "abcdefghijklmnopqrstuvwxyz")) (.int i) μ=.ok (.str (sTx [97+i.toNat])) μ:=by
 obtain⟨n,rfl⟩:∃n:Nat,i=n:=⟨i.toNat,by omega⟩
 have e:atI (Str.ofString "abcdefghijklmnopqrstuvwxyz").cps.toList (n:Int)=some (97+n):=jdq (jkU n (by omega))
 unfold ixD
 simp only[if_pos (show (Str.ofString "abcdefghijklmnopqrstuvwxyz").length≤sizeLine by rw[jno];exact jiG (by decide)),e]
 rfl
theorem jat {n:Nat}(h:n≤1000):n≤sizeLine:=jiG (by omega)
theorem jhn {xs ys:List D}{μ:M}(h:xs.length+ys.length≤sizeLine):jgQ .Add false (.lst xs) (.lst ys) μ=.ok (.lst (xs++ys)) μ:=by
 show @ite _ (xs.length+ys.length≤sizeLine) (Classical.propDecidable _) (mkL false (xs++ys) μ) .bad=_
 rw[if_pos h]
 rfl
theorem jmI {zs:List Str}(z:Str)(h:zs.Nodup):zs.length≤(zs.filter fun y=>!decide (y=z)).length+1:=by
 induction zs with
 |nil=>simp
 |cons y ys ih =>
  have hy:y∉ys∧ys.Nodup:=by simpa using h
  by_cases e:y=z
  ·subst e
   have:ys.filter (fun x=>!decide (x=y))=ys:=List.filter_eq_self.mpr fun x hx=>by
    have:x≠y:=fun q=>hy.1 (q ▸ hx)
    simp[this]
   rw[List.filter_cons_of_neg (by simp),this]
   simp
  ·rw[List.filter_cons_of_pos (by simp[e])]
   have:=ih hy.2
   simp only[List.length_cons]
   omega
end _L3
namespace _L3
open PySem PySem.Spec PyProof.Rows _L2
theorem jfq {G:List FnE}:∀(a b:List S) (ρ:S3) (μ:M),runs G (a++b) ρ μ=jp7 (runs G a ρ μ) (runs G b)
 |[],b,ρ,μ=>by rw[List.nil_append,jdg,jcB]
 |s :: a,b,ρ,μ=>by
  rw[List.cons_append,jbJ,jbJ]
  cases _L3.run G s ρ μ with
  |ok fl μ1 =>
   cases fl with
   |nx ρ1=>rw[jcB,jcB];exact jfq a b ρ1 μ1
   |rt d=>rfl
   |bk ρ1=>rfl
   |ct ρ1=>rfl
  |exc x μ1=>rfl
  |bad=>rfl
end _L3
namespace _L3
open PySem PySem.Spec PyProof.Rows _L2
inductive SX where
 |st (s:S) | grd (c:E) (cls:Str) (msg:Str)
section
variable (G:List FnE)
noncomputable def jiW:List SX→S3→M→Out Fl
 |[],ρ,μ=>.ok (.nx ρ) μ
 |.st s :: r,ρ,μ=>match run G s ρ μ with
  |.ok (.nx ρ1) μ1=>jiW r ρ1 μ1
  |.ok f μ1=>.ok f μ1
  |_=>.bad
 |.grd c cls _ :: r,ρ,μ=>match (ev G c).t ρ μ with
  |.ok true μ1=>.exc (.str cls) μ1
  |.ok false μ1=>jiW r ρ μ1
  |_=>.bad
noncomputable def fnX (np nl:Nat)(body:List SX):Fn:=fun ds μ=>if ds.length=np then match jiW G body (ds.map some++List.replicate nl none) μ with
  |.ok (.rt d) μ1=>.ok d μ1
  |.ok (.nx _) μ1=>.ok .non μ1
  |.ok _ _=>.bad
  |.exc x μ1=>.exc x μ1
  |.bad=>.bad
 else .bad
noncomputable def jqu (j:Nat):List SX→Stt→List Stmt→Bool
 |[],_,sts=>sts.isEmpty
 |.st s :: r,c,sts=>match sts with
  |st :: sts=>jvN G j s c st && jqu j r c sts
  |[]=>false
 |.grd k cls msg :: r,c,sts=>match sts with
  |.If x [.Raise (some (.Call (.Name y _) [.Constant (.str m) _ _] [] _)) none _] [] _ :: sts=>chk G j k c x && tst x && y == cls && m == msg && jcj c.sc cls && !(cls == ("__debug__" : Str)) && jqu j r c sts
  |_=>false
end
noncomputable def T3X (K:PySem.W.Frag)(EX:Str→Hp→Prop)(r:S3→M→Out Fl):TS:=fun D σ H=>∃(w:Wd) (μ:M) (ρ:S3),Rep K w μ H∧jcz K w μ.length ρ σ ∧
 ((∃fl μ',r ρ μ=.ok fl μ'∧∀w' H',Ext w w' μ.length μ'.length→Rep K w' μ' H'→jw1 K w' μ'.length H' D fl) ∨
  ∃c μ',r ρ μ=.exc (.str c) μ'∧∀w' H',Ext w w' μ.length μ'.length→Rep K w' μ' H'→EX c H')
noncomputable def spX (K:PySem.W.Frag)(mg:Str→Option Value)(np:Nat)(F:Fn):Sp:=fun vs H Q E=>vs.length=np∧∃(w:Wd) (μ:M) (ds:List D),Rep K w μ H∧DenL K w μ.length ds vs ∧
 ((∃d μ',F ds μ=.ok d μ'∧∀w' H' v,Ext w w' μ.length μ'.length→Rep K w' μ' H'→Den K w' μ'.length d v→Q v H') ∨
  ∃c μ' C,F ds μ=.exc (.str c) μ'∧mg c=some (.ref C)∧∀w' H',Ext w w' μ.length μ'.length→Rep K w' μ' H'→E (.ref C) none H')
theorem jux {X:Cx}{st:Stmt}{t:TS}(h:PS X.nox st t):PS X st t:=fun pins s σ H D I hw =>
 wpAny_mono (h pins s σ H D (I.wish _) hw) (fun _ _ q=>q.unwish) fun _ _ z=>False.elim z
section
variable {X:Cx} {G:List FnE} {j:Nat} {c:Stt} {EX:Str→Hp→Prop}
theorem jwX:PSs X [] (T3X X.K EX (jiW G [])):=jrg jiz fun D σ H=>by
 rintro⟨w,μ,ρ,R,S,h⟩
 rcases h with ⟨fl,μ',e,q⟩ | ⟨c,μ',e,q⟩
 ·have e2:Out.ok (Fl.nx ρ) μ=.ok fl μ':=e
  cases e2
  exact q w H (Ext.refl _ _) R σ S
 ·have e2:Out.ok (Fl.nx ρ) μ=.exc (.str c) μ':=e
  cases e2
theorem jyD {s:S}{r:List SX}{st:Stmt}{sts:List Stmt}(h1:PS X st (T3S X.K (run G s)))(h2:PSs X sts (T3X X.K EX (jiW G r))):PSs X (st :: sts) (T3X X.K EX (jiW G (.st s :: r))):=by
 refine jrg (jc0 h1 h2) fun D σ H=>?_
 rintro⟨w,μ,ρ,R,S,h⟩
 have key:∀o,jiW G (.st s :: r) ρ μ=o→(match run G s ρ μ with
  |.ok (.nx ρ1) μ1=>jiW G r ρ1 μ1
  |.ok f μ1=>.ok f μ1
  |_=>.bad)=o:=fun o e=>e
 cases e2:run G s ρ μ with
 |bad =>
  rcases h with ⟨fl,μ',e,q⟩ | ⟨c,μ',e,q⟩
  ·have:=key _ e;rw[e2]at this;cases this
  ·have:=key _ e;rw[e2]at this;cases this
 |exc x μ1 =>
  rcases h with ⟨fl,μ',e,q⟩ | ⟨c,μ',e,q⟩
  ·have:=key _ e;rw[e2]at this;cases this
  ·have:=key _ e;rw[e2]at this;cases this
 |ok f1 μ1 =>
  refine⟨w,μ,ρ,f1,μ1,R,S,e2,fun w1 H1 x1 R1=>?_⟩
  cases f1 with
  |nx ρ1 =>
   intro σ1 S1
   refine⟨w1,μ1,ρ1,R1,S1,?_⟩
   rcases h with ⟨fl,μ',e,q⟩ | ⟨c,μ',e,q⟩
   ·have:=key _ e
    rw[e2]at this
    exact .inl ⟨fl,μ',this,fun w2 H2 x2 R2=>q w2 H2 (x1.trans x2) R2⟩
   ·have:=key _ e
    rw[e2]at this
    exact .inr ⟨c,μ',this,fun w2 H2 x2 R2=>q w2 H2 (x1.trans x2) R2⟩
  |rt d =>
   rcases h with ⟨fl,μ',e,q⟩ | ⟨c,μ',e,q⟩
   ·have:=key _ e;rw[e2]at this;cases this;exact q w1 H1 x1 R1
   ·have:=key _ e;rw[e2]at this;cases this
  |bk ρ1 =>
   rcases h with ⟨fl,μ',e,q⟩ | ⟨c,μ',e,q⟩
   ·have:=key _ e;rw[e2]at this;cases this;exact q w1 H1 x1 R1
   ·have:=key _ e;rw[e2]at this;cases this
  |ct ρ1 =>
   rcases h with ⟨fl,μ',e,q⟩ | ⟨c,μ',e,q⟩
   ·have:=key _ e;rw[e2]at this;cases this;exact q w1 H1 x1 R1
   ·have:=key _ e;rw[e2]at this;cases this
theorem jxx {k:E}{cls msg:Str}{r:List SX}{x:Expr}{rs:Stmt}{pos:Pos}{sts:List Stmt}(hk:PT X x (T3T X.K (ev G k).t))(hr:PS X rs (fun _ _ H=>EX cls H))(h2:PSs X sts (T3X X.K EX (jiW G r))) :
  PSs X (.If x [rs] [] pos :: sts) (T3X X.K EX (jiW G (.grd k cls msg :: r))):=by
 refine jrg (jc0 (juh hk (jje hr) jiz) h2) fun D σ H=>?_
 rintro⟨w,μ,ρ,R,S,h⟩
 have key:∀o,jiW G (.grd k cls msg :: r) ρ μ=o→(match (ev G k).t ρ μ with
  |.ok true μ1=>Out.exc (.str cls) μ1
  |.ok false μ1=>jiW G r ρ μ1
  |_=>.bad)=o:=fun o e=>e
 cases e2:(ev G k).t ρ μ with
 |bad =>
  rcases h with ⟨fl,μ',e,q⟩ | ⟨c,μ',e,q⟩
  ·have:=key _ e;rw[e2]at this;cases this
  ·have:=key _ e;rw[e2]at this;cases this
 |exc x μ1 =>
  rcases h with ⟨fl,μ',e,q⟩ | ⟨c,μ',e,q⟩
  ·have:=key _ e;rw[e2]at this;cases this
  ·have:=key _ e;rw[e2]at this;cases this
 |ok b μ1 =>
  refine⟨w,μ,ρ,b,μ1,R,S,e2,fun w1 H1 x1 R1=>?_⟩
  cases b with
  |true =>
   rw[if_pos rfl]
   rcases h with ⟨fl,μ',e,q⟩ | ⟨c,μ',e,q⟩
   ·have:=key _ e;rw[e2]at this;cases this
   ·have:=key _ e;rw[e2]at this;cases this;exact q w1 H1 x1 R1
  |false =>
   rw[if_neg Bool.false_ne_true]
   refine⟨w1,μ1,ρ,R1,S.mono x1,?_⟩
   rcases h with ⟨fl,μ',e,q⟩ | ⟨c,μ',e,q⟩
   ·have:=key _ e
    rw[e2]at this
    exact .inl ⟨fl,μ',this,fun w2 H2 x2 R2=>q w2 H2 (x1.trans x2) R2⟩
   ·have:=key _ e
    rw[e2]at this
    exact .inr ⟨c,μ',this,fun w2 H2 x2 R2=>q w2 H2 (x1.trans x2) R2⟩
end
section
variable {P:Program} {w:World} {K:PySem.W.Frag} {mg:Str→Option Value} {base:Heap} {N:List Str} {qual:Str} {scope:Scope} {f:Addr} {cd:Value} {A:Around} {outer:List Env} {s0:Shared} {H0:Hp} {E:XK} {G:List FnE} {j:Nat} {c:Stt}
noncomputable def jpD (K:PySem.W.Frag)(mg:Str→Option Value):List SX→Prop
 |[]=>True
 |.st _ :: r=>jpD K mg r
 |.grd _ cls _ :: r=>(∃C,mg cls=some (.ref C)∧ExcC K C)∧jpD K mg r
theorem jwF:∀(body:List SX) {sts:List Stmt},OkS G j c (jhv (CX1 P w) P w K mg base N qual scope f cd A outer s0 H0 E).nox→jpD K mg body→jqu G j body c sts=true →
  PSs (jhv (CX1 P w) P w K mg base N qual scope f cd A outer s0 H0 E) sts (T3X K (fun cl H=>∃C,mg cl=some (.ref C)∧E (.ref C) none H) (jiW G body))
 |[],sts,o,hc,h=>by
  cases sts with
  |nil=>exact jwX
  |cons a b=>cases (show false=true from h)
 |.st s :: r,sts,o,hc,h=>by
  cases sts with
  |nil=>cases (show false=true from h)
  |cons t ts =>
   have h':(jvN G j s c t && jqu G j r c ts)=true:=h
   obtain⟨h1,h2⟩:=Bool.and_eq_true_iff.mp h'
   exact jyD (jux (jya s o h1)) (jwF r o hc h2)
 |.grd k cls msg :: r,sts,o,hc,h=>by
  have hh:∃x y np m jj mp cpos rpos ipos ts,sts=.If x [.Raise (some (.Call (.Name y np) [.Constant (.str m) jj mp] [] cpos)) none rpos] [] ipos :: ts∧(chk G j k c x && tst x && y == cls && m == msg && jcj c.sc cls && !(cls == ("__debug__" : Str)) && jqu G j r c ts)=true:=by
   unfold jqu at h
   split at h
   ·exact⟨_,_,_,_,_,_,_,_,_,_,rfl,h⟩
   ·cases h
  obtain⟨x,y,np,m,jj,mp,cpos,rpos,ipos,ts,rfl,h'⟩:=hh
  simp only[Bool.and_eq_true,beq_iff_eq,Bool.not_eq_true']at h'
  obtain⟨⟨⟨⟨⟨⟨h1,h2⟩,rfl⟩,rfl⟩,h5⟩,h6⟩,h7⟩:=h'
  obtain⟨⟨C,hm,hC⟩,hc'⟩:=hc
  have hg:Gl (jhv (CX1 P w) P w K mg base N qual scope f cd A outer s0 H0 E) y:=(jax (X:=(jhv (CX1 P w) P w K mg base N qual scope f cd A outer s0 H0 E).nox) (jbo o.toOk h5)).1
  have hrs:PS (jhv (CX1 P w) P w K mg base N qual scope f cd A outer s0 H0 E) (.Raise (some (.Call (.Name y np) [.Constant (.str m) jj mp] [] cpos)) none rpos) (fun _ _ H=>∃C,mg y=some (.ref C)∧E (.ref C) none H):=by
   refine imS (jpa hC hg hm (jbS jqt jdr) h6) fun D σ H=>?_
   rintro⟨C',hm',hE⟩
   rw[hm]at hm'
   cases hm'
   exact⟨by show 1≤sizeLine;decide,hE⟩
  exact jxx (PT.nox ((snd k o.toOk h1).t h2)) hrs (jwF r o hc' h7)
theorem jtF {x:Str}{st:Stmt}{fd:FuncData}{ps:List Str}{body:List SX}(F:Fun K x qual st f fd)(Sc:FnScope N ps (ja st))(T:Tab P w K mg base j G)(hc:jpD K mg body)(h:jqu G j body ⟨N,ja st,false⟩ (jae st)=true) :
  FnOk P w K mg base (CX1 P w) (j+1) f fd ps (spX K mg ps.length (fnX G ps.length (N.length - ps.length) body)):=by
 obtain⟨oc,od,kV,doc,pm,an,cdv,ct,osl,rfl,lk,hcd⟩:=F.ex
 refine jv5 lk hcd Sc (fun vs H Q E h=>h.1) fun A outer s H vs Q E hr hsp=>?_
 refine⟨_,jwF body (c:=⟨N,ja st,false⟩) ⟨⟨rfl,Sc.nd,rfl,rfl,hr,T.hm,T.hf,T.hd,fun _ _=>rfl⟩,PassesOwn.never,Sc.kind⟩ hc h,?_⟩
 obtain⟨hl,w0,μ,ds,R,hD,hh⟩:=hsp
 have hS:jcz K w0 μ.length (ds.map some++List.replicate (N.length - ps.length) none) (_L2.start N vs):=by
  unfold _L2.start
  rw[hl]
  exact jcz.start hD _
 have hn:ds.length=ps.length:=by rw[jag hD];exact hl
 refine⟨w0,μ,_,R,hS,?_⟩
 rcases hh with ⟨d,μ',e,q⟩ | ⟨cl,μ',C,e,hm,q⟩
 ·refine .inl ?_
  unfold fnX at e
  rw[if_pos hn]at e
  split at e
  ·rename_i d1 μ1 e1
   cases e
   exact⟨_,_,e1,fun w1 H1 x1 R1 v dv=>q w1 H1 v x1 R1 dv⟩
  ·rename_i ρ1 μ1 e1
   cases e
   exact⟨_,_,e1,fun w1 H1 x1 R1 σ' S'=>q w1 H1 .non x1 R1 (by unfold Den;rfl)⟩
  ·cases e
  ·cases e
  ·cases e
 ·refine .inr ?_
  unfold fnX at e
  rw[if_pos hn]at e
  split at e
  ·cases e
  ·cases e
  ·cases e
  ·rename_i x1 μ1 e1
   cases e
   exact⟨_,_,e1,fun w1 H1 x1 R1=>⟨C,hm,q w1 H1 x1 R1⟩⟩
  ·cases e
end
end _L3
namespace _L3
open PySem PySem.Spec PyProof.Rows _L2
structure CalleeX (P:Program) (w:World) (K:PySem.W.Frag) (mg:Str→Option Value) (base:Heap) (k:Nat) (x:Str) (ps:List Str) (sp:Sp):Prop where
 ex:∃(f:Addr) (fd:FuncData),FnOk P w K mg base (CX1 P w) k f fd ps sp∧mg x=some (.ref f)∧PySem.W.keepIn K (.ref f)=true∧jgu K fd ps []
noncomputable def jwk (F:Fn)(c1:Str):Fn:=fun ds μ=>match F ds μ with
 |.exc (.str c) μ'=>if c=c1 then .ok (.bl true) μ' else .bad
 |_=>.bad
theorem Rep.same {K:PySem.W.Frag}{w:Wd}{μ:M}{H H':Hp}(R:Rep K w μ H)(s:jdw H H'):Rep K w μ H' :=
 ⟨R.sub.trans s,fun k c e=>⟨(R.liv k c e).1,(R.liv k c e).2.mono (Ext.refl _ _) (by obtain⟨o,q⟩:=(R.liv k c e).2.some;rw[q];exact s _ _ q)⟩,R.inj⟩
theorem jg0 {H:Hp}{p:Addr}{o:HO}(h:H p=none):jdw H (upd H p o):=fun b u e=>by
 rw[jal (jaj e h)]
 exact e
noncomputable def jmg (mg:Str→Option Value)(sc:Scope):List Expr→List Addr→Prop
 |[],[]=>True
 |.Name x _ :: es,a :: as=>mg x=some (.ref a)∧jcj sc x=true∧jmg mg sc es as
 |_,_=>False
theorem jp1 {X:Cx}:∀{es:List Expr} {as:List Addr},jmg X.mg X.env.scope es as→PA X es (fun _ H Q=>Q (as.map V.ref) H)
 |[],[],_=>fun _ _ _ _ H Q I h=>Calls.spliced_nil ⟨[],H,I,.nil,h⟩
 |.Name x p :: es,a :: as,h=>by
  have k:=jbS (ji3 (pos:=p) (jax h.2.1).1 h.1 (show jba (.ref a) (.ref a) from rfl) (jax h.2.1).2.1) (jp1 h.2.2)
  exact imA k fun σ H Q q=>q
 |[],_ :: _,h=>h.elim
 |.Name _ _ :: _,[],h=>h.elim
structure RefOk (K:PySem.W.Frag) (C T:Addr) (ts:List Addr):Prop where
 c:ExcC K C
 a:ExcA K C
 it:PySem.W.kitCls K (.ref C) (.ref C)=some true
 ex:PySem.W.exmOne K (.ref C) (.ref T)=some true
 k1:PySem.W.kitOne K (.ref C) (.ref C)=some true
 k2:PySem.W.kitOne K (.ref C) (.type "ValueError")=some true
 k3:PySem.W.kitAny K (.ref C) (ts.map Value.ref)=some false
 len:ts.length≤100
section
variable {P:Program} {w:World} {K:PySem.W.Frag} {mg:Str→Option Value} {base:Heap}
theorem jil:∀as:List Addr,(as.map V.ref).mapM jwh=some (as.map Value.ref)
 |[]=>rfl
 |a :: as=>by
  rw[List.map_cons,List.mapM_cons,jil as]
  rfl
theorem joh {X:Cx}{a C:Addr}{oe:Obj}{fl er c1:Str}{css:List Expr}{as:List Addr}{T:Addr}{k24:Nat}{p9 p10 p11 p12 p13 p14 p15 p16 p17 p18 p19 p20 p21 p22 p23 p24 p25 p26 p27:Pos}(hN:X.N.Nodup)(R:RefOk X.K C T as)(hc:oe.cls=.ref C)
  (hf:jeg X.N X.env.scope 1 fl=true) (hff:X.fn fl=true) (hv:jfh X.N X.env.scope 1 fl=true) (he:jfh X.N X.env.scope 2 er=true) (hi:jcj X.env.scope "isinstance" = true) (hiN:X.mg "isinstance" = none) (h1:jcj X.env.scope c1=true) (m1:X.mg c1=some (.ref C))
  (hve:jcj X.env.scope "ValueError" = true) (mve:X.mg "ValueError" = none) (hcs:jmg X.mg X.env.scope css as) (hline:(p21.endLine == p26.line)=true) :
  PSs (X.hand a oe) [.Assign [.Name fl p9] (.List [.Call (.Name "isinstance" p10) [.Name er p11,.Name c1 p12] [] p13,.Call (.Name "isinstance" p14) [.Name er p15,.Name "ValueError" p16] [] p17] p18) p19,
   .Expr (.Call (.Attribute (.Name fl p20) "append" p21) [.Call (.Name "isinstance" p22) [.Name er p23,.Tuple css k24 p24] [] p25] [] p26) p27]
   (fun D σ H=>σ[2]?=some (some (.ref a))∧σ.length=3∧∀(p:Addr) (H2:Hp),H p=none→H2 p=some (.lst [.bl true,.bl true,.bl false])→jdw H H2→D.nx (σ.set 1 (some (.ref p))) H2):=by
 have hmem:(a,oe)∈(X.hand a oe).pn:=.head _
 have is1:=jnO (X:=X.hand a oe) hmem hc R.c R.a R.it
 have is2:=jl5 (X:=X.hand a oe) hmem hc R.c R.a R.it
 have bi:bootBuiltins "isinstance" = some (.builtin "isinstance"):=jet
 have bv:bootBuiltins "ValueError" = some (.type "ValueError"):=PyProof.Rows.Boot.«ValueError»
 have E1:PE (X.hand a oe) (.Call (.Name "isinstance" p10) [.Name er p11,.Name c1 p12] [] p13) _ :=
  jc9 is1 hi hiN bi (jbS (pvk 2 he) (jbS (ji3 (jax (X:=X.hand a oe) h1).1 m1 (show jba (.ref C) (.ref C) from rfl) (jax (X:=X.hand a oe) h1).2.1) jdr))
 have E2:PE (X.hand a oe) (.Call (.Name "isinstance" p14) [.Name er p15,.Name "ValueError" p16] [] p17) _ :=
  jc9 is1 hi hiN bi (jbS (pvk 2 he) (jbS (jjM hve mve bv (show jba (.ty "ValueError") (.type "ValueError") from rfl)) jdr))
 have E3:PE (X.hand a oe) (.Call (.Name "isinstance" p22) [.Name er p23,.Tuple css k24 p24] [] p25) _ :=
  jc9 is2 hi hiN bi (jbS (pvk 2 he) (jbS (jmv (jp1 (X:=X.hand a oe) hcs)) jdr))
 have S1:PS (X.hand a oe) (.Assign [.Name fl p9] (.List [.Call (.Name "isinstance" p10) [.Name er p11,.Name c1 p12] [] p13,.Call (.Name "isinstance" p14) [.Name er p15,.Name "ValueError" p16] [] p17] p18) p19) _ :=
  jfZ hN hf (jjR (jbS E1 (jbS E2 jdr))) rfl hff
 have S2:PS (X.hand a oe) (.Expr (.Call (.Attribute (.Name fl p20) "append" p21) [.Call (.Name "isinstance" p22) [.Name er p23,.Tuple css k24 p24] [] p25] [] p26) p27) _ :=
  jne (jm (X:=X.hand a oe) PySem.F.plainAttrs_list PySem.F.slot_list_append PySem.F.type_list_append jij ⟨pvk (X:=X.hand a oe) 1 hv⟩ ⟨jbS (X:=X.hand a oe) E3 jdr⟩ rfl rfl (by decide) hline).h
 refine jrg (jc0 S1 (jje S2)) fun D σ H=>?_
 rintro⟨h2,hl,q⟩
 have hl1:1 < σ.length:=by rw[hl];decide
 refine⟨_,h2,.ref C,.ref C,true,rfl,rfl,R.k1,?_⟩
 refine⟨_,h2,.ty "ValueError",.type "ValueError",true,rfl,rfl,R.k2,?_⟩
 refine⟨by show 2≤sizeLine;decide,fun p hp=>?_⟩
 have g1:(σ.set 1 (some (.ref p)))[1]?=some (some (V.ref p)):=List.getElem?_set_self hl1
 have g2:(σ.set 1 (some (.ref p)))[2]?=some (some (V.ref a)):=by rw[List.getElem?_set_ne (by decide)];exact h2
 refine⟨_,g1,.inl ⟨rfl,_,SqL.of jay⟩,_,g2,?_⟩
 refine⟨?_,fun p3 hp3=>?_⟩
 ·have:=R.len
  rw[List.length_map,sizeLine_eq];omega
 have ne:p≠p3:=jaj jay hp3
 refine⟨p3,as.map V.ref,as.map Value.ref,false,rfl,SqT.of jay,jil as,R.k3,p,[.bl true,.bl true],.bl false,rfl,rfl,?_,by show 2 < sizeLine;decide,?_⟩
 ·rw[jal ne];exact jay
 ·refine q p _ hp jay fun b o e=>?_
  have nb:b≠p:=jaj e hp
  have nb3:b≠p3:=fun z=>by
   subst z
   rw[jal nb,e]at hp3
   cases hp3
  rw[jal nb,jal nb3,jal nb]
  exact e
theorem jkJ {x qual:Str}{st:Stmt}{f:Addr}{fd:FuncData}{arg fl er g cP c1:Str}{gps:List Str}{css:List Expr}{as:List Addr}{C T:Addr}{j k24 kb1 kb2 kb3:Nat}{Fg:Fn}
  {p1 p2 p3 p4 p5 p6 p7 p8 p9 p10 p11 p12 p13 p14 p15 p16 p17 p18 p19 p20 p21 p22 p23 p24 p25 p26 p27 p28 p29 p30 p31 p32 p33 q1 q2 q3:Pos}
  (F:Fun K x qual st f fd) (Sc:FnScope [arg,fl,er] [arg] (ja st)) (cg:CalleeX P w K mg base j g gps (spX K mg 1 Fg)) (R:RefOk K C T as)
  (hb:jae st=[.Assign [.Name fl p1] (.List [] p2) p3,
   .Try [.Expr (.Call (.Name g p4) [.Name arg p5] [] p6) p7] [.ExceptHandler (some (.Name cP p8)) (some er)
    [.Assign [.Name fl p9] (.List [.Call (.Name "isinstance" p10) [.Name er p11,.Name c1 p12] [] p13,.Call (.Name "isinstance" p14) [.Name er p15,.Name "ValueError" p16] [] p17] p18) p19,
     .Expr (.Call (.Attribute (.Name fl p20) "append" p21) [.Call (.Name "isinstance" p22) [.Name er p23,.Tuple css k24 p24] [] p25] [] p26) p27] p28] [] [] p29,
   .Return (some (.Compare (.Name fl p30) [.Eq] [.List [.Constant (.bool true) kb1 q1,.Constant (.bool true) kb2 q2,.Constant (.bool false) kb3 q3] p31] p32)) p33])
  (ha:jfh [arg,fl,er] (ja st) 0 arg=true) (hf:jeg [arg,fl,er] (ja st) 1 fl=true) (hv:jfh [arg,fl,er] (ja st) 1 fl=true) (he:jfh [arg,fl,er] (ja st) 2 er=true) (hel:(ja st).names.lookup er=some .local)
  (hg:jcj (ja st) g=true) (hP:jcj (ja st) cP=true) (mP:mg cP=some (.ref T)) (hi:jcj (ja st) "isinstance" = true) (hiN:mg "isinstance" = none) (h1:jcj (ja st) c1=true) (m1:mg c1=some (.ref C))
  (hve:jcj (ja st) "ValueError" = true) (mve:mg "ValueError" = none) (hcs:jmg mg (ja st) css as) (hline:(p21.endLine == p26.line)=true) (hj:0 < j) :
  FnOk P w K mg base CX0 (j+1) f fd [arg] (jdL K 1 (jwk Fg c1)):=by
 refine F.ok Sc (fun vs H Q E h=>h.1) (fun cdv A outer s H vs Q E hr hsp=>?_)
 obtain⟨fg,fdg,Fok,mgg,kg,bg⟩:=cg.ex
 rw[hb]
 have nd:([arg,fl,er]:List Str).Nodup:=Sc.nd
 let X:Cx:=(jhv CX0 P w K mg base [arg,fl,er] qual (ja st) f cdv A outer s H E).nox
 have hG:Gl X g:=(jax (X:=X) hg).1
 have hGP:Gl X cP:=(jax (X:=X) hP).1
 have S1:PS X (.Assign [.Name fl p1] (.List [] p2) p3) _:=jfZ nd hf (jjR jdr)
 have S2:PS X (.Try [.Expr (.Call (.Name g p4) [.Name arg p5] [] p6) p7] [.ExceptHandler (some (.Name cP p8)) (some er) [.Assign [.Name fl p9] (.List [.Call (.Name "isinstance" p10) [.Name er p11,.Name c1 p12] [] p13,.Call (.Name "isinstance" p14) [.Name er p15,.Name "ValueError" p16] [] p17] p18) p19,
     .Expr (.Call (.Attribute (.Name fl p20) "append" p21) [.Call (.Name "isinstance" p22) [.Name er p23,.Tuple css k24 p24] [] p25] [] p26) p27] p28] [] [] p29) _ :=
  jra (X:=X) (i:=2) (n:=er) (PC:=fun C'=>C'=C) (ts:=fun _ a=>fun D σ H=>σ[2]?=some (some (.ref a))∧σ.length=3∧∀(p:Addr) (H2:Hp),H p=none→H2 p=some (.lst [.bl true,.bl true,.bl false])→jdw H H2→D.nx (σ.set 1 (some (.ref p))) H2)
   Fok hr hG mgg kg bg (jbS (X:=X.nox) (pvk (X:=X.nox) 0 ha) jdr) rfl rfl nd rfl hel hGP mP
   (fun C' a oe hC hc=>by subst hC;exact joh (X:=X) nd R hc hf rfl hv he hi hiN h1 m1 hve mve hcs hline) (jax (X:=X) hP).2.1 (jax (X:=X) hg).2.1
 have S3:PS X (.Return (some (.Compare (.Name fl p30) [.Eq] [.List [.Constant (.bool true) kb1 q1,.Constant (.bool true) kb2 q2,.Constant (.bool false) kb3 q3] p31] p32)) p33) _ :=
  jpS (jl9 (juU (X:=X) (by have:=hr.un;show (A.deeper (envOfC qual (ja st) s.heap.objs.size f cdv)).units+16 < cLine;omega)) (pvk (X:=X) 1 hv) (jjR (jbS jok (jbS jok (jbS jok jdr)))) (jmp _))
 refine⟨_,jc0 S1 (jc0 S2 (jje S3)),?_⟩
 obtain⟨hl,w0,μ,ds,d,μ',R0,hD,e,q⟩:=hsp
 obtain⟨v0,rfl⟩:∃v,vs=[v]:=List.length_eq_one_iff.mp hl
 refine⟨Nat.zero_le _,fun p hp=>⟨v0,rfl,rfl,w0,μ,ds,R0.same (jg0 hp),hD,.inr ?_⟩⟩
 unfold jwk at e
 split at e
 ·rename_i c μ1 e1
  split at e
  ·rename_i hc
   subst hc
   cases e
   refine⟨c,μ',C,e1,m1,fun w' H' x1 R1=>⟨C,rfl,rfl,R.ex,fun a=>⟨rfl,rfl,fun p2 H2 hp2 hH2 sm=>?_⟩⟩⟩
   refine⟨.ref p2,rfl,by show 3≤sizeLine;decide,fun p4 hp4=>?_⟩
   have ne:p2≠p4:=jaj hH2 hp4
   refine⟨p2,p4,[.bl true,.bl true,.bl false],[.bl true,.bl true,.bl false],rfl,rfl,.inr ⟨by rw[jal ne];exact hH2,jay⟩,jf9 (fun x hx=>.inl ?_),?_⟩
   ·rcases List.mem_cons.mp hx with rfl | hx
    ·rfl
    rcases List.mem_cons.mp hx with rfl | hx
    ·rfl
    rcases List.mem_cons.mp hx with rfl | hx
    ·rfl
    cases hx
   ·exact q w' _ (.bl true) x1 (R1.same (sm.trans (jg0 hp4))) (by unfold Den;rfl)
  ·cases e
 ·cases e
end
end _L3
namespace _L3
open PySem PySem.Spec PyProof.Rows _L2
noncomputable def jkH:List Expr→List Int→Bool
 |[],[]=>true
 |.Constant (.int i) _ _ :: es,k :: ks=>i == k && jkH es ks
 |_,_=>false
noncomputable def jir:List Expr→List (List Int)→Bool
 |[],[]=>true
 |.Tuple es _ _ :: r,is :: iss=>jkH es is && decide (is.length≤100) && jir r iss
 |_,_=>false
noncomputable def jsn:List (List Int)→TA
 |[]=>fun _ H Q=>Q [] H
 |is :: r=>fun σ H Q=>∀p,H p=none→jsn r σ (upd H p (.tup (is.map V.int))) fun xs H2=>Q (.ref p :: xs) H2
theorem jlB {X:Cx}:∀{es:List Expr} {is:List Int},jkH es is=true→PA X es (fun _ H Q=>Q (is.map V.int) H)
 |[],[],_=>fun _ _ _ _ H Q I h=>Calls.spliced_nil ⟨[],H,I,.nil,h⟩
 |.Constant (.int i) j p :: es,k :: ks,h=>by
  have h':(i == k && jkH es ks)=true:=h
  obtain⟨h1,h2⟩:=Bool.and_eq_true_iff.mp h'
  have e:i=k:=beq_iff_eq.mp h1
  subst e
  exact imA (jbS jpV (jlB h2)) fun σ H Q q=>q
 |[],_ :: _,h=>by cases h
 |.Constant (.int _) _ _ :: _,[],h=>by cases h
theorem jjs:∀{vals:List Expr} {vss:List (List Int)},jir vals vss=true→vals.length=vss.length
 |[],[],_=>rfl
 |.Tuple es _ _ :: r,is :: iss,h=>by
  have h':(jkH es is && decide (is.length≤100) && jir r iss)=true:=h
  exact congrArg Nat.succ (jjs (Bool.and_eq_true_iff.mp h').2)
 |[],_ :: _,h=>by cases h
 |.Tuple _ _ _ :: _,[],h=>by cases h
theorem jm2 {X:Cx}{pos:Pos}:∀{keys:List (Option Expr)} {ks:List Str} {vals:List Expr} {vss:List (List Int)},jda keys ks=true→jir vals vss=true→vals.length=ks.length→jid X keys ks vals pos (jsn vss)
 |[],[],[],[],_,_,_=>jvb
 |some (.Constant (.str k) j p) :: keys,x :: ks,.Tuple es a b :: vals,is :: vss,h1,h2,h3=>by
  have h1':(k == x && jda keys ks)=true:=h1
  have h2':(jkH es is && decide (is.length≤100) && jir vals vss)=true:=h2
  simp only[Bool.and_eq_true,beq_iff_eq,decide_eq_true_eq]at h1' h2'
  obtain⟨rfl,h1'⟩:=h1'
  have c:=jqY (k:=k) (j:=j) (p:=p) (pos:=pos) (jmv (x1:=a) (pos:=b) (jlB (X:=X) h2'.1.1)) (jm2 (X:=X) (pos:=pos) h1' h2'.2 (Nat.succ.inj h3))
  intro pins s σ H Q I h
  refine c pins s σ H Q I ⟨?_,fun q hq=>h q hq⟩
  have:=h2'.1.2
  rw[List.length_map,sizeLine_eq];omega
 |some _ :: _,[],_,_,h,_,_=>by simp[jda]at h
 |[],_ :: _,_,_,h,_,_=>by cases h
 |none :: _,_,_,_,h,_,_=>by cases h
 |_,_,[],_ :: _,_,h,_=>by cases h
 |_,_,_ :: _,[],_,h,_=>by simp[jir]at h
 |_,_ :: _,[],_,_,_,h=>by cases h
 |_,[],_ :: _,_,_,_,h=>by cases h
section
variable {K:PySem.W.Frag}
theorem Rep.over {w:Wd}{μ:M}{H:Hp}{p:Addr}(R:Rep K w μ H)(hz:w.Z p=none)(hg:∀k c,μ[k]?=some (some c)→w.γ k≠p)(o:HO):Rep K ⟨upd w.Z p o,w.γ⟩ μ (upd H p o)∧Ext w ⟨upd w.Z p o,w.γ⟩ μ.length μ.length:=by
 have ex:Ext w ⟨upd w.Z p o,w.γ⟩ μ.length μ.length:=⟨(jdw.refl _).upd hz,fun _ _=>rfl,Nat.le_refl _⟩
 refine⟨⟨fun b u h=>?_,fun k c h=>?_,R.inj⟩,ex⟩
 ·replace h:upd w.Z p o b=some u:=h
  by_cases e:b=p
  ·subst e
   rw[jay]at h ⊢
   exact h
  ·rw[jal e]at h ⊢
   exact R.sub _ _ h
 ·have hne:=hg k c h
  exact⟨by show upd w.Z p o (w.γ k)=none;rw[jal hne];exact (R.liv k c h).1,(R.liv k c h).2.mono ex (jal hne)⟩
noncomputable abbrev jgf (is:List Int):D:=.tup (is.map D.int)
theorem jj4 {μ:M}{p:Addr}:∀(vss:List (List Int)) {w:Wd} {H:Hp} {σ:_L2.St} {Q:List V→Hp→Prop},Rep K w μ H→H p=some (.dK [])→w.Z p=none→(∀k c,μ[k]?=some (some c)→w.γ k≠p) →
  (∀w1 H1 xs,Ext w w1 μ.length μ.length→Rep K w1 μ H1→w1.Z p=none→(∀k c,μ[k]?=some (some c)→w1.γ k≠p)→H1 p=some (.dK [])→DenL K w1 μ.length (vss.map jgf) xs→Q xs H1)→jsn vss σ H Q
 |[],w,H,σ,Q,R,hH,hz,hg,q=>q w H [] (Ext.refl _ _) R hz hg hH (by unfold DenL;rfl)
 |is :: r,w,H,σ,Q,R,hH,hz,hg,q=>by
  intro p1 hp1
  have ne:p≠p1:=jaj hH hp1
  obtain⟨R1,x1⟩:=R.frz hp1 (.tup (is.map V.int))
  refine jj4 r R1 (by rw[jal ne];exact hH) (by show upd w.Z p1 _ p=none;rw[jal ne];exact hz) hg fun w2 H2 xs x2 R2 z2 g2 h2 d2=>?_
  refine q w2 H2 (.ref p1 :: xs) (x1.trans x2) R2 z2 g2 h2 ?_
  unfold DenL
  refine⟨_,_,rfl,?_,d2⟩
  unfold Den
  exact⟨p1,is.map V.int,rfl,SqT.of (x2.z _ _ jay),jcF is⟩
noncomputable def jdO (y:Str):List Str→List (List Int)→Option (List Int)
 |k :: ks,v :: vs=>if k=y then some v else jdO y ks vs
 |_,_=>none
noncomputable def jh0 (G:List FnE)(i k:Nat)(ks:List Str)(vss:List (List Int))(ek ez:E)(rest:List S):S3→M→Out Fl:=fun ρ μ =>
 ((ev G ek).v (ρ.set i (some (.dK (ks.map Sum.inr) (vss.map jgf)))) μ).bind fun y μ1=>((ev G ez).v (ρ.set i (some (.dK (ks.map Sum.inr) (vss.map jgf)))) μ1).bind fun z μ2=>match y with
  |.str y=>runs G rest ((ρ.set i (some (.dK (ks.map Sum.inr) (vss.map jgf)))).set k (some (((jdO y ks vss).map jgf).getD z))) μ2
  |_=>.bad
theorem jjz {w:Wd}{n:Nat}{y:Str}:∀{ks:List Str} {vss:List (List Int)} {xs:List V},DenL K w n (vss.map jgf) xs →
  (∃is x,jdO y ks vss=some is∧jgi ((ks.map (Sum.inr:Str→Key)).zip xs) (.inr y)=some x∧Den K w n (jgf is) x)∨(jdO y ks vss=none∧jgi ((ks.map (Sum.inr:Str→Key)).zip xs) (.inr y)=none)
 |[],vss,xs,_=>.inr ⟨by unfold jdO;rfl,rfl⟩
 |k :: ks,[],xs,h=>by
  replace h:DenL K w n [] xs:=h
  unfold DenL at h
  subst h
  exact .inr ⟨by unfold jdO;rfl,rfl⟩
 |k :: ks,is :: vss,xs,h=>by
  replace h:DenL K w n (jgf is :: vss.map jgf) xs:=h
  unfold DenL at h
  obtain⟨x,ws,rfl,h1,h2⟩:=h
  by_cases e:k=y
  ·subst e
   refine .inl ⟨is,x,?_,?_,h1⟩
   ·unfold jdO;rw[if_pos rfl]
   ·unfold jgi
    rw[List.map_cons,List.zip_cons_cons,List.find?_cons_of_pos (by simp)]
    rfl
  ·have e':¬ ((Sum.inr k:Key)=Sum.inr y):=fun z=>e (Sum.inr.inj z)
   have ih:=jjz (y:=y) (ks:=ks) h2
   have a1:jdO y (k :: ks) (is :: vss)=jdO y ks vss:=by rw[jdO,if_neg e]
   have a2:jgi (((k :: ks).map (Sum.inr:Str→Key)).zip (x :: ws)) (.inr y)=jgi ((ks.map (Sum.inr:Str→Key)).zip ws) (.inr y):=by
    unfold jgi
    rw[List.map_cons,List.zip_cons_cons,List.find?_cons_of_neg (by simpa using e')]
   rw[a1,a2]
   exact ih
theorem jt7 {G:List FnE}{j:Nat}{c:Stt}{X:Cx}{i k:Nat}{n m:Str}{keys:List (Option Expr)}{ks:List Str}{vals:List Expr}{vss:List (List Int)}{ek ez:E}{xk xz:Expr}{rest:List S}{sts:List Stmt}{q1 q2 q3 q4 q5 apos cpos q6:Pos}
  (o:Ok G j c X) (hi:jeg c.N c.sc i n=true) (hv:jfh c.N c.sc i n=true) (hk:jeg c.N c.sc k m=true) (hcm:c.cmp=false) (h1:jda keys ks=true) (h2:jir vals vss=true) (h3:vals.length=ks.length) (h4:ks≠[]) (h5:ks.Nodup) (h6:ks.length≤15)
  (he:Snd G X ek xk) (hz:Snd G X ez xz) (hst:jak [xk,xz]=true) (hline:(apos.endLine == cpos.line)=true) (hlen:i < c.N.length) (hr:PSs X sts (T3S X.K (runs G rest))) :
  PSs X (.Assign [.Name n q1] (.Dict keys vals q2) q3 :: .Assign [.Name m q4] (.Call (.Attribute (.Name n q5) "get" apos) [xk,xz] [] cpos) q6 :: sts) (fun D σ H=>σ.length=c.N.length∧T3S X.K (jh0 G i k ks vss ek ez rest) D σ H):=by
 have hN:X.N=c.N:=o.hN
 have hnd:X.N.Nodup:=by rw[hN];exact o.nd
 have hi':jeg X.N X.env.scope i n=true:=by rw[hN,o.sc];exact hi
 have hv':jfh X.N X.env.scope i n=true:=by rw[hN,o.sc];exact hv
 have hk':jeg X.N X.env.scope k m=true:=by rw[hN,o.sc];exact hk
 have hst1:=hst
 unfold jak at hst1
 simp only[List.all_cons,Bool.and_eq_true]at hst1
 have S1:PS X (.Assign [.Name n q1] (.Dict keys vals q2) q3) _:=jfZ hnd hi' (jpz h1 h3 h4 h5 h6 (jm2 h1 h2 h3)) rfl (o.fn hcm n)
 have M2':M2 X (.Name n q5) "get" apos xk xz cpos:=⟨rfl,jnp hst (by show 1 < 28;decide),hline,by rw[jaA hst1.1,jaA hst1.2.1];rfl⟩
 have S2:PS X (.Assign [.Name m q4] (.Call (.Attribute (.Name n q5) "get" apos) [xk,xz] [] cpos) q6) _:=jfZ hnd hk' (jod (by have:=jnu o;omega) (pvk i hv') he.v hz.v M2') rfl (o.fn hcm m)
 refine jrg (jc0 S1 (jc0 S2 hr)) fun D σ H=>?_
 rintro⟨hl,w,μ,ρ,fl,μ',R,S,e,q⟩
 intro p hp
 refine jj4 vss (R.same (jg0 hp)) jay (R.znone hp) (fun k c h=>R.ne hp h) fun w1 H1 xs x1 R1 z1 g1 hH1 dx=>⟨hH1,fun hxl=>?_⟩
 obtain⟨R2,x2⟩:=R1.over z1 g1 (.dK ((ks.map Sum.inr).zip xs))
 obtain⟨y,μ1,e1,e⟩:=Out.bind_ok e
 obtain⟨z,μ2,e2,e⟩:=Out.bind_ok e
 have hden:Den X.K ⟨upd w1.Z p (.dK ((ks.map Sum.inr).zip xs)),w1.γ⟩ μ.length (.dK (ks.map Sum.inr) (vss.map jgf)) (.ref p):=by
  unfold Den
  refine⟨p,xs,rfl,?_,jay,dx.mono x2⟩
  rw[List.length_map,List.length_map,← h3]
  exact jjs h2
 have S2':=jcz.set hden i (S.mono (x1.trans x2))
 have hil:i < σ.length:=by rw[hl];exact hlen
 refine⟨_,List.getElem?_set_self hil,p,rfl,.inl ⟨_,.inl jay⟩,?_⟩
 refine⟨_,μ,_,y,μ1,R2,S2',e1,fun w3 H3 v3 x3 R3 d3=>⟨w3,μ1,_,z,μ2,R3,S2'.mono x3,e2,fun w4 H4 v4 x4 R4 d4=>?_⟩⟩
 cases y with
 |str y' =>
  have d3':=d3
  unfold Den at d3'
  subst d3'
  have hp4:H4 p=some (.dK ((ks.map Sum.inr).zip xs)):=R4.sub _ _ (x4.z _ _ (x3.z _ _ jay))
  have dx4:DenL X.K w4 μ2.length (vss.map jgf) xs:=dx.mono ((x2.trans x3).trans x4)
  refine⟨jgi ((ks.map Sum.inr).zip xs) (.inr y'),.inl ⟨_,.inr y',.inl hp4,rfl,rfl⟩,?_⟩
  have hpl:Den X.K w4 μ2.length (((jdO y' ks vss).map jgf).getD z) ((jgi ((ks.map (Sum.inr:Str→Key)).zip xs) (.inr y')).getD v4):=by
   rcases jjz (y:=y') (ks:=ks) dx4 with ⟨is,x,a1,a2,a3⟩ | ⟨a1,a2⟩
   ·rw[a1,a2];exact a3
   ·rw[a1,a2];exact d4
  exact⟨w4,μ2,_,fl,μ',R4,jcz.set hpl k (S2'.mono (x3.trans x4)),e,fun w5 H5 x5 R5=>q w5 H5 ((((x1.trans x2).trans x3).trans x4).trans x5) R5⟩
 |_=>cases e
end
noncomputable def jj2 (G:List FnE)(j i k:Nat)(n m:Str)(ks:List Str)(vss:List (List Int))(ek ez:E)(rest:List S)(c:Stt):List Stmt→Bool
 |.Assign [.Name n1 _] (.Dict keys vals _) _ :: .Assign [.Name m1 _] (.Call (.Attribute (.Name n2 _) g apos) [xk,xz] [] cpos) _ :: sts =>
  n1 == n && m1 == m && n2 == n && g == "get" && jeg c.N c.sc i n && jfh c.N c.sc i n && jeg c.N c.sc k m && !c.cmp && jda keys ks && jir vals vss && vals.length == ks.length && !ks.isEmpty && decide ks.Nodup && decide (ks.length≤15) &&
  chk G j ek c xk && chk G j ez c xz && jak [xk,xz] && (apos.endLine == cpos.line) && decide (i < c.N.length) && chkSs G j rest c sts
 |_=>false
noncomputable def jpk (G:List FnE)(np nl i k:Nat)(ks:List Str)(vss:List (List Int))(ek ez:E)(rest:List S):Fn:=fun ds μ=>if ds.length=np then match jh0 G i k ks vss ek ez rest (ds.map some++List.replicate nl none) μ with
  |.ok (.rt d) μ1=>.ok d μ1
  |.ok (.nx _) μ1=>.ok .non μ1
  |.ok _ _=>.bad
  |.exc x μ1=>.exc x μ1
  |.bad=>.bad
 else .bad
section
variable {P:Program} {w:World} {K:PySem.W.Frag} {mg:Str→Option Value} {base:Heap}
theorem jsW {G:List FnE}{j i k:Nat}{n m:Str}{ks:List Str}{vss:List (List Int)}{ek ez:E}{rest:List S}{c:Stt}{sts:List Stmt}{X:Cx}(o:OkS G j c X)(h:jj2 G j i k n m ks vss ek ez rest c sts=true) :
  PSs X sts (fun D σ H=>σ.length=c.N.length∧T3S X.K (jh0 G i k ks vss ek ez rest) D σ H):=by
 unfold jj2 at h
 split at h
 ·simp only[Bool.and_eq_true,beq_iff_eq,Bool.not_eq_true',decide_eq_true_eq,List.isEmpty_eq_false_iff]at h
  obtain⟨⟨⟨⟨⟨⟨⟨⟨⟨⟨⟨⟨⟨⟨⟨⟨⟨⟨⟨rfl,rfl⟩,rfl⟩,rfl⟩,h1⟩,h2⟩,h3⟩,h4⟩,h5⟩,h6⟩,h7⟩,h8⟩,h9⟩,h10⟩,h11⟩,h12⟩,h13⟩,h14⟩,h15⟩,h16⟩:=h
  exact jt7 o.toOk h1 h2 h3 h4 h5 h6 h7 h8 h9 h10 (snd ek o.toOk h11) (snd ez o.toOk h12) h13 (beq_iff_eq.mpr h14) h15 (sndSs rest o h16)
 ·cases h
theorem jvR {x qual:Str}{st:Stmt}{f:Addr}{fd:FuncData}{N ps:List Str}{j i k:Nat}{n m:Str}{ks:List Str}{vss:List (List Int)}{ek ez:E}{G:List FnE}{rest:List S}(F:Fun K x qual st f fd)(Sc:FnScope N ps (ja st))(T:Tab P w K mg base j G)
  (h:jj2 G j i k n m ks vss ek ez rest ⟨N,ja st,false⟩ (jae st)=true) :
  FnOk P w K mg base CX0 (j+1) f fd ps (jdL K ps.length (jpk G ps.length (N.length - ps.length) i k ks vss ek ez rest)):=by
 refine F.okQ Sc (fun vs H Q E h=>h.1) (fun cdv A outer s H vs Q E hr hsp=>?_)
 refine⟨_,⟨jsW (c:=⟨N,ja st,false⟩) ⟨⟨rfl,Sc.nd,rfl,rfl,hr,T.hm,T.hf,T.hd,fun _ _=>rfl⟩,PassesOwn.never,Sc.kind⟩ h⟩,?_⟩
 obtain⟨hl,w0,μ,ds,d,μ',R,hD,e,q⟩:=hsp
 have hpl:ps.length≤N.length:=by have:=congrArg List.length Sc.pre;rw[List.length_take]at this;omega
 refine⟨by unfold _L2.start;rw[List.length_append,List.length_map,List.length_replicate,hl];show _=N.length;omega,?_⟩
 unfold jpk at e
 split at e
 ·rename_i hn
  have hS:jcz K w0 μ.length (ds.map some++List.replicate (N.length - ps.length) none) (_L2.start N vs):=by
   unfold _L2.start
   rw[hl]
   exact jcz.start hD _
  split at e
  ·rename_i d1 μ1 e1
   cases e
   exact⟨w0,μ,_,_,_,R,hS,e1,fun w1 H1 x1 R1 v dv=>q w1 H1 v x1 R1 dv⟩
  ·rename_i ρ1 μ1 e1
   cases e
   exact⟨w0,μ,_,_,_,R,hS,e1,fun w1 H1 x1 R1 σ' S'=>q w1 H1 .non x1 R1 (by unfold Den;rfl)⟩
  ·cases e
  ·cases e
  ·cases e
 ·cases e
end
noncomputable def jwj (sc:Scope):List Expr→List Str→Bool
 |[],[]=>true
 |.Name x _ :: es,y :: ys=>x == y && jcj sc x && jwj sc es ys
 |_,_=>false
theorem jlr {mg:Str→Option Value}{sc:Scope}:∀{es:List Expr} {cs:List Str} {as:List Addr},jwj sc es cs=true→cs.map mg=as.map (fun a=>some (.ref a))→jmg mg sc es as
 |[],[],[],_,_=>trivial
 |[],[],_ :: _,_,h=>by cases h
 |[],_ :: _,_,h,_=>by cases h
 |.Name x _ :: es,[],_,h,_=>by simp[jwj]at h
 |.Name x _ :: es,y :: ys,[],_,h=>by cases h
 |.Name x _ :: es,y :: ys,a :: as,h,hm=>by
  have h':(x == y && jcj sc x && jwj sc es ys)=true:=h
  simp only[Bool.and_eq_true,beq_iff_eq]at h'
  obtain⟨⟨rfl,h1⟩,h2⟩:=h'
  rw[List.map_cons,List.map_cons]at hm
  injection hm with m1 m2
  exact⟨m1,h1,jlr h2 m2⟩
theorem excC_of {K:PySem.W.Frag} {C:Addr} (h:PySem.W.excIn K C jvL "ValueError.__new__" = true):ExcC K C:=by
 unfold PySem.W.excIn at h
 cases lk:K.lookup C with
 |none=>rw[lk]at h;cases h
 |some o =>
  rw[lk]at h
  split at h
  ·rename_i dd cd sl ho
   cases ho
   split at h
   ·rename_i C' bm k0 k1 k2 k3 nw k5 hm hs
    simp only[Bool.and_eq_true,beq_iff_eq,Bool.not_eq_true']at h
    have e1:C'=C:=h.1.1.1.1.1
    have e2:nw = "ValueError.__new__":=h.1.1.1.1.2
    have e3:cd.hasDel=false:=h.1.1.1.2
    subst e1 e2
    cases cd
    cases sl
    dsimp only at hm hs e3
    subst hm hs e3
    exact⟨bm,_,_,_,_,_,_,_,_,_,_,k0,k1,k2,k3,k5,lk,h.1.1.2,h.1.2,h.2⟩
   ·cases h
  ·cases h
end _L3
namespace _K08
open PySem PySem.Spec PyProof.Rows _L2 _L3
noncomputable def top (i:Nat):Stmt:=PySem.Challenge.pw_pointpurse_k08_deeds_that_are_none.main.body.getD i (.Pass ⟨0,0,0,0⟩)
noncomputable def jcs:FnE:=⟨"LONGEST_NAME",[],1000000,fun _ _=>.bad,some (.cst (.int 8))⟩
theorem jgj:jcs.dat=some (.cst (.int 8)):=rfl
noncomputable def jhg:FnE:=⟨"PARTS",[],1000000,fun _ _=>.bad,some (.dct [("buy",(.tup [(.str "ref"),(.str "day"),(.str "purse"),(.str "lines")])),("spend",(.tup [(.str "ref"),(.str "day"),(.str "purse"),(.str "points"),(.str "first")])),("give",(.tup [(.str "ref"),(.str "day"),(.str "purse"),(.str "other"),(.str "points")])),("change",(.tup [(.str "ref"),(.str "day"),(.str "purse"),(.str "other"),(.str "points")])),("lend",(.tup [(.str "ref"),(.str "day"),(.str "purse"),(.str "other"),(.str "points"),(.str "end")])),("back",(.tup [(.str "ref"),(.str "day"),(.str "of")])),("fix",(.tup [(.str "ref"),(.str "of"),(.str "lines")]))])⟩
noncomputable def jeE:FnE:=⟨"LEASTS",[],1000000,fun _ _=>.bad,some (.dct [("day",(.int 0)),("points",(.int 1)),("end",(.int 0))])⟩
theorem jeH:jeE.dat=some (.dct [("day",(.int 0)),("points",(.int 1)),("end",(.int 0))]):=rfl
noncomputable def jbK:FnE:=⟨"MOST_IN_A_LIST",[],1000000,fun _ _=>.bad,some (.cst (.int 8))⟩
theorem jbg:jbK.dat=some (.cst (.int 8)):=rfl
noncomputable abbrev jcb:Stmt:=top 1
noncomputable abbrev jf6:List Str:=["value","least"]
theorem jhP:FnScope jf6 ["value","least"] (ja jcb):=⟨rfl,rfl,rfl,by decide +kernel,rfl,by decide +kernel,by decide +kernel⟩
noncomputable def jdj:List S :=
  [.ret (.and_ (.bi (.isT "int") false [(.var 0)]) (.and_ (.not_ (.bi (.isT "bool") false [(.var 0)])) (.cmp .GtE (.var 0) (.var 1))))]
noncomputable abbrev jfy:List FnE:=[]
noncomputable def jcJ:Fn:=fnOf jfy 2 0 jdj
noncomputable def jaL:FnE:=⟨"is_number",["value","least"],1,jcJ,none⟩
theorem jiL:chkSs jfy 0 jdj ⟨jf6,ja jcb,false⟩ (jae jcb)=true:=by decide +kernel
noncomputable abbrev jbD:Stmt:=top 2
noncomputable abbrev jez:List Str:=["value","many"]
theorem jgv:FnScope jez ["value","many"] (ja jbD):=⟨rfl,rfl,rfl,by decide +kernel,rfl,by decide +kernel,by decide +kernel⟩
noncomputable def jch:List S :=
  [.ret (.and_ (.bi (.isT "tuple") false [(.var 0)]) (.cmp .Eq (.bi .len false [(.var 0)]) (.var 1)))]
noncomputable abbrev jeF:List FnE:=[]
noncomputable def jbE:Fn:=fnOf jeF 2 0 jch
noncomputable def ja8:FnE:=⟨"is_tuple_of",["value","many"],1,jbE,none⟩
theorem jg9:chkSs jeF 0 jch ⟨jez,ja jbD,false⟩ (jae jbD)=true:=by decide +kernel
noncomputable abbrev jbV:Stmt:=top 3
noncomputable abbrev jfb:List Str:=["values"]
theorem jgV:FnScope jfb ["values"] (ja jbV):=⟨rfl,rfl,rfl,by decide +kernel,rfl,by decide +kernel,by decide +kernel⟩
noncomputable def jcZ:List S :=
  [.ret (.cmp .Eq (.bi .lenSet false [(.var 0)]) (.bi .len false [(.var 0)]))]
noncomputable abbrev jfe:List FnE:=[]
noncomputable def jcx:Fn:=fnOf jfe 1 0 jcZ
noncomputable def jbi:FnE:=⟨"are_unlike",["values"],1,jcx,none⟩
theorem jim:chkSs jfe 0 jcZ ⟨jfb,ja jbV,false⟩ (jae jbV)=true:=by decide +kernel
noncomputable abbrev jcM:Stmt:=top 18
noncomputable abbrev jh3:List Str:=["text"]
theorem jkO:FnScope jh3 ["text"] (ja jcM):=⟨rfl,rfl,rfl,by decide +kernel,rfl,by decide +kernel,by decide +kernel⟩
noncomputable def jee:E:=(.comp false 1 (.nm 0) .str [(.var 0)] [] (.chain .LtE .LtE (.cst (.str "a")) (.var 0) (.cst (.str "z"))))
noncomputable def jeD:List S :=
  [.ite (.or_ (.not_ (.bi (.isT "str") false [(.var 0)])) (.not_ (.chain .LtE .LtE (.cst (.int 1)) (.bi .len false [(.var 0)]) (.gl 0))))
   [.ret (.cst (.bl false))]
   [],
  .ret (.bi .all false [jee])]
noncomputable abbrev jga:List FnE:=[jcs]
noncomputable def jdB:Fn:=fnOf jga 1 0 jeD
noncomputable def jaP:FnE:=⟨"is_name",["text"],1,jdB,none⟩
theorem jma:chkSs jga 0 jeD ⟨jh3,ja jcM,false⟩ (jae jcM)=true:=by decide +kernel
noncomputable abbrev jcn:Stmt:=top 23
noncomputable abbrev jgF:List Str:=["word"]
theorem ji5:FnScope jgF ["word"] (ja jcn):=⟨rfl,rfl,rfl,by decide +kernel,rfl,by decide +kernel,by decide +kernel⟩
noncomputable def jd3:List S :=
  [.ret (.gget 0 (.var 0) (.tup []))]
noncomputable abbrev jgB:List FnE:=[jhg]
noncomputable def jc8:Fn:=fnOf jgB 1 0 jd3
noncomputable def jb1:FnE:=⟨"parts_of",["word"],1,jc8,none⟩
theorem jkC:chkSs jgB 0 jd3 ⟨jgF,ja jcn,false⟩ (jae jcn)=true:=by decide +kernel
noncomputable abbrev ja4:Stmt:=top 24
noncomputable abbrev jdu:List Str:=["part"]
theorem jeR:FnScope jdu ["part"] (ja ja4):=⟨rfl,rfl,rfl,by decide +kernel,rfl,by decide +kernel,by decide +kernel⟩
noncomputable def jbI:List S :=
  [.ret (.gin false 0 (.var 0))]
noncomputable abbrev jdv:List FnE:=[jeE]
noncomputable def ja2:Fn:=fnOf jdv 1 0 jbI
noncomputable def jaF:FnE:=⟨"is_number_part",["part"],1,ja2,none⟩
theorem jfg:chkSs jdv 0 jbI ⟨jdu,ja ja4,false⟩ (jae ja4)=true:=by decide +kernel
noncomputable abbrev jcI:Stmt:=top 25
noncomputable abbrev jhD:List Str:=["line"]
theorem jko:FnScope jhD ["line"] (ja jcI):=⟨rfl,rfl,rfl,by decide +kernel,rfl,by decide +kernel,by decide +kernel⟩
noncomputable def jcR:List S :=
  [.ret (.and_ (.call 0 .frz [(.var 0),(.cst (.int 2))]) (.and_ (.call 1 .frz [(.ix (.var 0) (.cst (.int 0)))]) (.call 2 .frz [(.ix (.var 0) (.cst (.int 1))),(.cst (.int 0))])))]
noncomputable abbrev jhL:List FnE:=[ja8,jaP,jaL]
noncomputable def jbR:Fn:=fnOf jhL 1 0 jcR
noncomputable def jbj:FnE:=⟨"is_line",["line"],2,jbR,none⟩
theorem jnk:chkSs jhL 1 jcR ⟨jhD,ja jcI,false⟩ (jae jcI)=true:=by decide +kernel
noncomputable abbrev jb7:Stmt:=top 26
noncomputable abbrev jfU:List Str:=["lines"]
theorem jh8:FnScope jfU ["lines"] (ja jb7):=⟨rfl,rfl,rfl,by decide +kernel,rfl,by decide +kernel,by decide +kernel⟩
noncomputable def jcf:E:=(.comp false 1 (.nm 0) .seq [(.var 0)] [] (.call 1 .frz [(.var 0)]))
noncomputable def jcr:List S :=
  [.ite (.or_ (.not_ (.bi (.isT "tuple") false [(.var 0)])) (.not_ (.chain .LtE .LtE (.cst (.int 1)) (.bi .len false [(.var 0)]) (.gl 0))))
   [.ret (.cst (.bl false))]
   [],
  .ret (.bi .all false [jcf])]
noncomputable abbrev jdh:List FnE:=[jbK,jbj]
noncomputable def jbw:Fn:=fnOf jdh 1 0 jcr
noncomputable def jaQ:FnE:=⟨"are_lines",["lines"],3,jbw,none⟩
theorem jiP:chkSs jdh 2 jcr ⟨jfU,ja jb7,false⟩ (jae jb7)=true:=by decide +kernel
noncomputable abbrev jaO:Stmt:=top 27
noncomputable abbrev jcX:List Str:=["names"]
theorem jed:FnScope jcX ["names"] (ja jaO):=⟨rfl,rfl,rfl,by decide +kernel,rfl,by decide +kernel,by decide +kernel⟩
noncomputable def ja5:E:=(.comp false 1 (.nm 0) .seq [(.var 0)] [] (.call 1 .frz [(.var 0)]))
noncomputable def ja1:List S :=
  [.ite (.or_ (.not_ (.bi (.isT "tuple") false [(.var 0)])) (.cmp .Gt (.bi .len false [(.var 0)]) (.gl 0)))
   [.ret (.cst (.bl false))]
   [],
  .ret (.and_ (.bi .all false [ja5]) (.call 2 .frz [(.var 0)]))]
noncomputable abbrev jbP:List FnE:=[jbK,jaP,jbi]
noncomputable def jaz:Fn:=fnOf jbP 1 0 ja1
noncomputable def jao:FnE:=⟨"are_unlike_names",["names"],2,jaz,none⟩
theorem jeB:chkSs jbP 1 ja1 ⟨jcX,ja jaO,false⟩ (jae jaO)=true:=by decide +kernel
noncomputable abbrev jbA:Stmt:=top 28
noncomputable abbrev jey:List Str:=["part","value"]
theorem jgs:FnScope jey ["part","value"] (ja jbA):=⟨rfl,rfl,rfl,by decide +kernel,rfl,by decide +kernel,by decide +kernel⟩
noncomputable def ja7:List S :=
  [.ite (.cmp .Eq (.var 0) (.cst (.str "lines")))
   [.ret (.call 0 .frz [(.var 1)])]
   [],
  .ite (.cmp .Eq (.var 0) (.cst (.str "first")))
   [.ret (.call 1 .frz [(.var 1)])]
   [],
  .ite (.call 2 .frz [(.var 0)])
   [.ret (.call 3 .frz [(.var 1),(.gix 4 (.var 0))])]
   [],
  .ret (.call 5 .frz [(.var 1)])]
noncomputable abbrev jeG:List FnE:=[jaQ,jao,jaF,jaL,jeE,jaP]
noncomputable def jau:Fn:=fnOf jeG 2 0 ja7
noncomputable def jab:FnE:=⟨"is_value_of",["part","value"],4,jau,none⟩
theorem jhm:chkSs jeG 3 ja7 ⟨jey,ja jbA,false⟩ (jae jbA)=true:=by decide +kernel
noncomputable abbrev jbc:Stmt:=top 29
noncomputable abbrev jdD:List Str:=["deed","parts"]
theorem jff:FnScope jdD ["deed"] (ja jbc):=⟨rfl,rfl,rfl,by decide +kernel,rfl,by decide +kernel,by decide +kernel⟩
noncomputable def jbp:E:=(.comp false 2 (.tp [0,1]) .zip [(.var 1),(.sl false (.var 0) [(.cst (.int 1))] [])] [] (.call 1 .frz [(.var 0),(.var 1)]))
noncomputable def jbs:List S :=
  [.ite (.or_ (.not_ (.bi (.isT "tuple") false [(.var 0)])) (.cmp .Eq (.bi .len false [(.var 0)]) (.cst (.int 0))))
   [.ret (.cst (.bl false))]
   [],
  .asg (.nm 1) (.call 0 .frz [(.ix (.var 0) (.cst (.int 0)))]),
  .ite (.or_ (.cmp .Eq (.bi .len false [(.var 1)]) (.cst (.int 0))) (.cmp .NotEq (.bi .len false [(.var 0)]) (.bin .Add false (.bi .len false [(.var 1)]) (.cst (.int 1)))))
   [.ret (.cst (.bl false))]
   [],
  .ret (.bi .all false [jbp])]
noncomputable abbrev jce:List FnE:=[jb1,jab]
noncomputable def jaR:Fn:=fnOf jce 1 1 jbs
noncomputable def jaw:FnE:=⟨"has_its_parts",["deed"],5,jaR,none⟩
theorem jfW:chkSs jce 4 jbs ⟨jdD,ja jbc,false⟩ (jae jbc)=true:=by decide +kernel
noncomputable abbrev jbF:Stmt:=top 30
noncomputable abbrev jeO:List Str:=["deed"]
theorem jgr:FnScope jeO ["deed"] (ja jbF):=⟨rfl,rfl,rfl,by decide +kernel,rfl,by decide +kernel,by decide +kernel⟩
noncomputable def jdk:List S :=
  [.ret (.bi .dictZip false [(.call 0 .frz [(.ix (.var 0) (.cst (.int 0)))]),(.sl false (.var 0) [(.cst (.int 1))] [])])]
noncomputable abbrev jes:List FnE:=[jb1]
noncomputable def jdf:Fn:=fnOf jes 1 0 jdk
noncomputable def jbh:FnE:=⟨"named_parts",["deed"],2,jdf,none⟩
theorem jhb:chkSs jes 1 jdk ⟨jeO,ja jbF,false⟩ (jae jbF)=true:=by decide +kernel
noncomputable abbrev jbx:Stmt:=top 31
noncomputable abbrev jeM:List Str:=["parts"]
theorem jgl:FnScope jeM ["parts"] (ja jbx):=⟨rfl,rfl,rfl,by decide +kernel,rfl,by decide +kernel,by decide +kernel⟩
noncomputable def jbZ:List S :=
  [.ite (.and_ (.cmp .In (.cst (.str "other")) (.var 0)) (.cmp .Eq (.ix (.var 0) (.cst (.str "other"))) (.ix (.var 0) (.cst (.str "purse")))))
   [.ret (.cst (.bl false))]
   [],
  .ite (.and_ (.cmp .In (.cst (.str "of")) (.var 0)) (.cmp .Eq (.ix (.var 0) (.cst (.str "of"))) (.ix (.var 0) (.cst (.str "ref")))))
   [.ret (.cst (.bl false))]
   [],
  .ret (.or_ (.cmp .NotIn (.cst (.str "end")) (.var 0)) (.cmp .Gt (.ix (.var 0) (.cst (.str "end"))) (.ix (.var 0) (.cst (.str "day")))))]
noncomputable abbrev jav:List FnE:=[]
noncomputable def ja9:Fn:=fnOf jav 1 0 jbZ
noncomputable def jaE:FnE:=⟨"go_together",["parts"],1,ja9,none⟩
theorem jgW:chkSs jav 0 jbZ ⟨jeM,ja jbx,false⟩ (jae jbx)=true:=by decide +kernel
noncomputable abbrev jaW:Stmt:=top 32
noncomputable abbrev jc5:List Str:=["deed"]
theorem jdQ:FnScope jc5 ["deed"] (ja jaW):=⟨rfl,rfl,rfl,by decide +kernel,rfl,by decide +kernel,by decide +kernel⟩
noncomputable def jc4:List S :=
  [.ite (.not_ (.call 0 .frz [(.var 0)]))
   [.never]
   [],
  .ite (.not_ (.call 1 .frz [(.call 2 .frz [(.var 0)])]))
   [.never]
   [],
  .ret (.cst (.bl true))]
noncomputable abbrev jaB:List FnE:=[jaw,jaE,jbh]
noncomputable def jbq:List SX :=
  [.grd (.not_ (.call 0 .frz [(.var 0)])) "BadDeed" "this is no deed's word, or its parts are not as they must be",
  .grd (.not_ (.call 1 .frz [(.call 2 .frz [(.var 0)])])) "BadDeed" "two parts of the deed don't go together",
  .st (.ret (.cst (.bl true)))]
noncomputable def jbn:Fn:=fnX jaB 1 0 jbq
theorem jfA:jqu jaB 5 jbq ⟨jc5,ja jaW,false⟩ (jae jaW)=true:=by decide +kernel
noncomputable def jc3:Fn:=fnOf jaB 1 0 jc4
noncomputable def jb:FnE:=⟨"checked_deed",["deed"],6,jc3,none⟩
theorem jgo:chkSs jaB 5 jc4 ⟨jc5,ja jaW,false⟩ (jae jaW)=true:=by decide +kernel
noncomputable abbrev jdn:Stmt:=top 34
noncomputable abbrev jj0:List Str:=["_law_script","_law_k"]
theorem jlV:FnScope jj0 ["_law_script","_law_k"] (ja jdn):=⟨rfl,rfl,rfl,by decide +kernel,rfl,by decide +kernel,by decide +kernel⟩
noncomputable def jhd:List S :=
  [.ite (.cmp .Lt (.var 1) (.bi .len false [(.var 0)]))
   [.ret (.ix (.var 0) (.var 1))]
   [],
  .ret (.cst (.int 0))]
noncomputable abbrev jjA:List FnE:=[]
noncomputable def jhh:Fn:=fnOf jjA 2 0 jhd
noncomputable def jb6:FnE:=⟨"_law_at",["_law_script","_law_k"],1,jhh,none⟩
theorem jpm:chkSs jjA 0 jhd ⟨jj0,ja jdn,false⟩ (jae jdn)=true:=by decide +kernel
noncomputable abbrev jcV:Stmt:=top 35
noncomputable abbrev jhY:List Str:=["_law_cell","_law_k","_law_factor","_law_number_here"]
theorem jkS:FnScope jhY ["_law_cell","_law_k"] (ja jcV):=⟨rfl,rfl,rfl,by decide +kernel,rfl,by decide +kernel,by decide +kernel⟩
noncomputable def jgb:List S :=
  [.asg (.nm 2) (.ix (.lst false [(.cst (.int 48271)),(.cst (.int 69621)),(.cst (.int 16807)),(.cst (.int 40692)),(.cst (.int 30269)),(.cst (.int 62089)),(.cst (.int 45991))]) (.bin .Mod false (.var 1) (.cst (.int 7)))),
  .asg (.nm 3) (.bin .Mod false (.bin .Mult false (.bin .Add false (.bin .Add false (.bin .Mod false (.var 0) (.cst (.int 2147483647))) (.bin .Mult false (.bin .Mult false (.cst (.int 97)) (.var 1)) (.var 1))) (.cst (.int 11))) (.var 2)) (.cst (.int 2147483629))),
  .ret (.bin .Mod false (.bin .Mult false (.var 3) (.var 3)) (.cst (.int 1999999973)))]
noncomputable abbrev jhJ:List FnE:=[]
noncomputable def jgc:Fn:=fnOf jhJ 2 2 jgb
noncomputable def jb5:FnE:=⟨"_law_mix",["_law_cell","_law_k"],1,jgc,none⟩
theorem jlo:chkSs jhJ 0 jgb ⟨jhY,ja jcV,false⟩ (jae jcV)=true:=by decide +kernel
noncomputable abbrev jb8:Stmt:=top 36
noncomputable abbrev jfX:List Str:=["_law_cell","_law_many","_law_letters","_law_number_here","_law_tail","_law_size","_law_at_here","_law_signs"]
theorem jif:FnScope jfX ["_law_cell","_law_many"] (ja jb8):=⟨rfl,rfl,rfl,by decide +kernel,rfl,by decide +kernel,by decide +kernel⟩
noncomputable def jdc:E:=(.comp false 1 (.nm 0) .rng1 [(.cst (.int 8))] [] (.ix (.var 3) (.bin .Mod false (.bin .Add false (.bin .FloorDiv false (.var 4) (.bin .Add false (.var 0) (.cst (.int 1)))) (.bin .Mult false (.var 0) (.var 0))) (.cst (.int 26)))))
noncomputable def jeJ:E:=(.comp false 1 (.nm 0) .rng1 [(.var 1)] [] (.sl false (.var 5) [] [(.bin .Add false (.var 0) (.cst (.int 1)))]))
noncomputable def jeC:E:=(.comp false 1 (.nm 0) .rng1 [(.var 1)] [] (.bin .Add false (.ix (.var 3) (.bin .Mod false (.bin .Add false (.bin .FloorDiv false (.var 4) (.cst (.int 24))) (.var 0)) (.cst (.int 26)))) (.sl false (.var 5) [] [(.var 6)])))
noncomputable def jen:E:=(.comp false 1 (.nm 0) .rng1 [(.var 1)] [] (.ix (.var 3) (.bin .Mod false (.bin .Add false (.bin .FloorDiv false (.var 4) (.cst (.int 200))) (.var 0)) (.cst (.int 26)))))
noncomputable def jeI:E:=(.comp false 1 (.nm 0) .seq [(.var 7)] [] (.bin .Add false (.bin .Add false (.sl false (.var 5) [] [(.var 7)]) (.var 0)) (.sl false (.var 5) [(.var 7)] [(.var 6)])))
noncomputable def jd7:List S :=
  [.asg (.nm 2) (.cst (.str "abcdefghijklmnopqrstuvwxyz")),
  .asg (.nm 3) (.call 0 .frz [(.var 0),(.cst (.int 0))]),
  .asg (.nm 4) (.mt .join (.cst (.str "")) [jdc]),
  .ite (.and_ (.cmp .Eq (.bin .Mod false (.var 3) (.cst (.int 3))) (.cst (.int 0))) (.cmp .Lt (.var 1) (.cst (.int 9))))
   [.ret jeJ]
   [],
  .ite (.cmp .Eq (.bin .Mod false (.var 3) (.cst (.int 3))) (.cst (.int 1)))
   [.asg (.nm 5) (.bin .Mod false (.bin .FloorDiv false (.var 3) (.cst (.int 3))) (.cst (.int 8))),
   .ret jeC]
   [],
  .asg (.nm 5) (.bin .Mod false (.bin .FloorDiv false (.var 3) (.cst (.int 3))) (.cst (.int 8))),
  .asg (.nm 6) (.bin .Mod false (.bin .FloorDiv false (.var 3) (.cst (.int 24))) (.bin .Add false (.var 5) (.cst (.int 1)))),
  .asg (.nm 7) jen,
  .ret jeI]
noncomputable abbrev jdd:List FnE:=[jb5]
noncomputable def jdb:Fn:=fnOf jdd 2 6 jd7
noncomputable def jbz:FnE:=⟨"_law_names",["_law_cell","_law_many"],2,jdb,none⟩
theorem ji0:chkSs jdd 1 jd7 ⟨jfX,ja jb8,false⟩ (jae jb8)=true:=by decide +kernel
noncomputable abbrev jbU:Stmt:=top 37
noncomputable abbrev jfd:List Str:=["_law_m","_law_cell"]
theorem jg5:FnScope jfd ["_law_m","_law_cell"] (ja jbU):=⟨rfl,rfl,rfl,by decide +kernel,rfl,by decide +kernel,by decide +kernel⟩
noncomputable def jdA:List S :=
  [.ret (.ix (.lst false [(.bin .Mod false (.var 0) (.cst (.int 8))),(.bin .Mod false (.var 0) (.cst (.int 3000))),(.bin .Mod false (.var 1) (.bin .Pow false (.cst (.int 10)) (.cst (.int 12)))),(.bin .Sub false (.bin .Pow false (.cst (.int 10)) (.cst (.int 12))) (.cst (.int 1)))]) (.bin .Mod false (.bin .FloorDiv false (.var 0) (.cst (.int 3000))) (.cst (.int 4))))]
noncomputable abbrev je9:List FnE:=[]
noncomputable def jdC:Fn:=fnOf je9 2 0 jdA
noncomputable def jbv:FnE:=⟨"_law_number",["_law_m","_law_cell"],1,jdC,none⟩
theorem jhC:chkSs je9 0 jdA ⟨jfd,ja jbU,false⟩ (jae jbU)=true:=by decide +kernel
noncomputable abbrev ja3:Stmt:=top 38
noncomputable abbrev jds:List Str:=["_law_script","_law_at_here","_law_names_here","_law_m","_law_lines","_law_k","_law_n","_law_money"]
theorem jeY:FnScope jds ["_law_script","_law_at_here","_law_names_here"] (ja ja3):=⟨rfl,rfl,rfl,by decide +kernel,rfl,by decide +kernel,by decide +kernel⟩
noncomputable def jci:List S :=
  [.asg (.nm 6) (.call 0 .frz [(.call 1 .frz [(.var 0),(.bin .Add false (.var 1) (.var 5))]),(.bin .Add false (.cst (.int 5)) (.var 5))]),
  .asg (.nm 7) (.call 2 .frz [(.bin .FloorDiv false (.var 6) (.cst (.int 9))),(.call 1 .frz [(.var 0),(.bin .Add false (.var 1) (.var 5))])]),
  .ex (.mt .append (.var 4) [(.tup [(.ix (.var 2) (.bin .Mod false (.var 6) (.bi .len false [(.var 2)]))),(.var 7)])])]
noncomputable def jcD:List S :=
  [.asg (.nm 3) (.call 0 .frz [(.call 1 .frz [(.var 0),(.var 1)]),(.cst (.int 4))]),
  .asg (.nm 4) (.lst true []),
  .for_ (.nm 5) .rng1 [(.bin .Add false (.cst (.int 1)) (.bin .Mod false (.var 3) (.cst (.int 8))))] jci [5,6,7],
  .ret (.bi .tuple false [(.var 4)])]
noncomputable abbrev jcC:List FnE:=[jb5,jb6,jbv]
noncomputable def jcA:Fn:=fnOf jcC 3 5 jcD
noncomputable def jaT:FnE:=⟨"_law_some_lines",["_law_script","_law_at_here","_law_names_here"],2,jcA,none⟩
theorem jfi:chkSs jcC 1 jcD ⟨jds,ja ja3,false⟩ (jae ja3)=true:=by decide +kernel
noncomputable abbrev jcq:Stmt:=top 39
noncomputable abbrev jgJ:List Str:=["_law_script","_law_at_here","_law_cell","_law_m","_law_names_here","_law_ref","_law_purse","_law_other","_law_of","_law_day","_law_n","_law_points","_law_word","_law_unlike","_law_first","_law_end"]
theorem jiX:FnScope jgJ ["_law_script","_law_at_here"] (ja jcq):=⟨rfl,rfl,rfl,by decide +kernel,rfl,by decide +kernel,by decide +kernel⟩
noncomputable def jdR:E:=(.comp false 1 (.nm 0) .seq [(.var 4)] [(.cmp .NotEq (.var 0) (.var 7))] (.var 0))
noncomputable def jdM:E:=(.comp false 1 (.nm 0) .seq [(.var 4)] [(.cmp .NotEq (.var 0) (.var 6))] (.var 0))
noncomputable def jdz:E:=(.comp false 2 (.tp [0,1]) .enm [(.var 4)] [(.cmp .NotIn (.var 1) (.sl false (.var 6) [] [(.var 0)]))] (.var 1))
noncomputable def jai:List S :=
  [.asg (.nm 2) (.call 0 .frz [(.var 0),(.var 1)]),
  .asg (.nm 3) (.call 1 .frz [(.var 2),(.cst (.int 1))]),
  .asg (.nm 4) (.bin .Add false (.call 2 .frz [(.var 2),(.cst (.int 4))]) (.sl false (.call 2 .frz [(.call 0 .frz [(.var 0),(.bin .Add false (.var 1) (.cst (.int 1)))]),(.cst (.int 8))]) [(.cst (.int 1))] [])),
  .asg (.nm 5) (.ix (.var 4) (.bin .Mod false (.bin .FloorDiv false (.var 3) (.cst (.int 7))) (.bi .len false [(.var 4)]))),
  .asg (.nm 6) (.ix (.var 4) (.bin .Mod false (.bin .FloorDiv false (.var 3) (.cst (.int 80))) (.bi .len false [(.var 4)]))),
  .asg (.nm 7) (.ix (.var 4) (.bin .Mod false (.bin .FloorDiv false (.var 3) (.cst (.int 900))) (.bi .len false [(.var 4)]))),
  .ite (.cmp .Eq (.var 7) (.var 6))
   [.asg (.nm 7) (.ix jdR (.cst (.int 0)))]
   [],
  .asg (.nm 8) (.ix jdM (.bin .Mod false (.bin .FloorDiv false (.var 3) (.cst (.int 40))) (.cst (.int 2)))),
  .asg (.nm 9) (.bi .min2 false [(.bin .Sub false (.bin .Pow false (.cst (.int 10)) (.cst (.int 12))) (.cst (.int 2))),(.call 3 .frz [(.call 1 .frz [(.var 2),(.cst (.int 2))]),(.var 2)])]),
  .asg (.nm 10) (.call 1 .frz [(.call 0 .frz [(.var 0),(.bin .Add false (.var 1) (.cst (.int 1)))]),(.cst (.int 3))]),
  .asg (.nm 11) (.bi .max2 false [(.cst (.int 1)),(.call 3 .frz [(.var 10),(.call 0 .frz [(.var 0),(.bin .Add false (.var 1) (.cst (.int 1)))])])]),
  .asg (.nm 12) (.ix (.lst false [(.cst (.str "buy")),(.cst (.str "spend")),(.cst (.str "give")),(.cst (.str "change")),(.cst (.str "lend")),(.cst (.str "back")),(.cst (.str "fix"))]) (.bin .Mod false (.var 3) (.cst (.int 7)))),
  .ite (.cmp .Eq (.var 12) (.cst (.str "buy")))
   [.ret (.tup [(.var 12),(.var 5),(.var 9),(.var 6),(.call 4 .frz [(.var 0),(.bin .Add false (.var 1) (.cst (.int 2))),(.var 4)])])]
   [],
  .ite (.cmp .Eq (.var 12) (.cst (.str "spend")))
   [.asg (.nm 13) jdz,
   .asg (.nm 14) (.sl false (.sl false (.var 13) [(.bin .Mod false (.bin .FloorDiv false (.var 10) (.cst (.int 7))) (.cst (.int 3)))] []) [] [(.bin .Mod false (.bin .FloorDiv false (.var 10) (.cst (.int 21))) (.cst (.int 9)))]),
   .ret (.tup [(.var 12),(.var 5),(.var 9),(.var 6),(.var 11),(.bi .tuple false [(.var 14)])])]
   [],
  .ite (.cmp .Eq (.var 12) (.cst (.str "lend")))
   [.asg (.nm 15) (.bin .Add false (.bin .Add false (.var 9) (.cst (.int 1))) (.ix (.lst false [(.cst (.int 0)),(.bin .Mod false (.var 10) (.cst (.int 50))),(.var 10)]) (.bin .Mod false (.bin .FloorDiv false (.var 10) (.cst (.int 50))) (.cst (.int 3))))),
   .ret (.tup [(.var 12),(.var 5),(.var 9),(.var 6),(.var 7),(.var 11),(.bi .min2 false [(.bin .Sub false (.bin .Pow false (.cst (.int 10)) (.cst (.int 12))) (.cst (.int 1))),(.var 15)])])]
   [],
  .ite (.cmp .Eq (.var 12) (.cst (.str "back")))
   [.ret (.tup [(.var 12),(.var 5),(.var 9),(.var 8)])]
   [],
  .ite (.cmp .Eq (.var 12) (.cst (.str "fix")))
   [.ret (.tup [(.var 12),(.var 5),(.var 8),(.call 4 .frz [(.var 0),(.bin .Add false (.var 1) (.cst (.int 2))),(.var 4)])])]
   [],
  .ret (.tup [(.var 12),(.var 5),(.var 9),(.var 6),(.var 7),(.var 11)])]
noncomputable abbrev jan:List FnE:=[jb6,jb5,jbz,jbv,jaT]
noncomputable def je1:Fn:=fnOf jan 2 14 jai
noncomputable def jco:FnE:=⟨"_law_deed",["_law_script","_law_at_here"],3,je1,none⟩
theorem jk1:chkSs jan 2 jai ⟨jgJ,ja jcq,false⟩ (jae jcq)=true:=by decide +kernel
noncomputable abbrev jcN:Stmt:=top 40
noncomputable abbrev jhG:List Str:=["_law_deed_here","_law_at_here","_law_part"]
theorem jkY:FnScope jhG ["_law_deed_here","_law_at_here","_law_part"] (ja jcN):=⟨rfl,rfl,rfl,by decide +kernel,rfl,by decide +kernel,by decide +kernel⟩
noncomputable def jfQ:List S :=
  [.ret (.bin .Add false (.bin .Add false (.sl false (.var 0) [] [(.var 1)]) (.tup [(.var 2)])) (.sl false (.var 0) [(.bin .Add false (.var 1) (.cst (.int 1)))] []))]
noncomputable abbrev jih:List FnE:=[]
noncomputable def jfH:Fn:=fnOf jih 3 0 jfQ
noncomputable def jbr:FnE:=⟨"_law_put",["_law_deed_here","_law_at_here","_law_part"],1,jfH,none⟩
theorem jlU:chkSs jih 0 jfQ ⟨jhG,ja jcN,false⟩ (jae jcN)=true:=by decide +kernel
noncomputable abbrev jaJ:Stmt:=top 41
noncomputable abbrev jcT:List Str:=["_law_lines","_law_m","_law_at_here","_law_kind","_law_money","_law_bad"]
theorem jd4:FnScope jcT ["_law_lines","_law_m"] (ja jaJ):=⟨rfl,rfl,rfl,by decide +kernel,rfl,by decide +kernel,by decide +kernel⟩
noncomputable def jb9:List S :=
  [.asg (.nm 2) (.bin .Mod false (.bin .FloorDiv false (.var 1) (.cst (.int 10))) (.bi .len false [(.var 0)])),
  .asg (.tp [3,4]) (.ix (.var 0) (.var 2)),
  .asg (.nm 5) (.lst false [(.tup [(.var 3)]),(.tup [(.var 3),(.var 4),(.cst (.int 1))]),(.tup [(.var 3),(.bin .Sub false (.neg (.cst (.int 1))) (.bin .Mod false (.var 1) (.bin .Pow false (.cst (.int 10)) (.cst (.int 9)))))]),(.tup [(.var 3),(.cst (.str "5"))]),(.tup [(.cst (.str "Tea")),(.var 4)]),(.tup [(.cst (.str "")),(.var 4)]),(.var 3)]),
  .asg (.nm 5) (.bin .Add false (.var 5) (.lst false [(.tup [(.var 4),(.var 3)]),(.tup [(.var 3),(.cst .non)]),(.tup [(.cst .non),(.var 4)]),(.tup [(.tup [(.cst (.str "t")),(.cst (.str "e"))]),(.var 4)])])),
  .ite (.cmp .Eq (.bin .Mod false (.var 1) (.cst (.int 13))) (.cst (.int 11)))
   [.ret (.tup [])]
   [],
  .ite (.cmp .Eq (.bin .Mod false (.var 1) (.cst (.int 13))) (.cst (.int 12)))
   [.ret (.sl false (.bin .Mult false (.var 0) (.cst (.int 9))) [] [(.cst (.int 9))])]
   [],
  .ret (.bin .Add false (.bin .Add false (.sl false (.var 0) [] [(.var 2)]) (.tup [(.ix (.var 5) (.bin .Mod false (.var 1) (.cst (.int 13))))])) (.sl false (.var 0) [(.bin .Add false (.var 2) (.cst (.int 1)))] []))]
noncomputable abbrev jcQ:List FnE:=[]
noncomputable def jbC:Fn:=fnOf jcQ 2 4 jb9
noncomputable def jaK:FnE:=⟨"_law_lines_spoiled",["_law_lines","_law_m"],1,jbC,none⟩
theorem jea:chkSs jcQ 0 jb9 ⟨jcT,ja jaJ,false⟩ (jae jaJ)=true:=by decide +kernel
noncomputable abbrev jbb:Stmt:=top 43
noncomputable abbrev jdU:List Str:=["_law_deed_here","_law_m","_law_at_here","_law_first"]
theorem jfk:FnScope jdU ["_law_deed_here","_law_m"] (ja jbb):=⟨rfl,rfl,rfl,by decide +kernel,rfl,by decide +kernel,by decide +kernel⟩
noncomputable def jcl:E:=(.comp false 1 (.nm 0) .str [(.cst (.str "abcdefghi"))] [] (.var 0))
noncomputable def jbd:List S :=
  [.ite (.cmp .In (.ix (.var 0) (.cst (.int 0))) (.tup [(.cst (.str "buy")),(.cst (.str "fix"))]))
   [.asg (.nm 2) (.bin .Sub false (.bi .len false [(.var 0)]) (.cst (.int 1))),
   .ite (.cmp .Eq (.bin .Mod false (.var 1) (.cst (.int 3))) (.cst (.int 0)))
    [.ret (.call 0 .frz [(.var 0),(.var 2),(.cst (.str "tea"))])]
    [],
   .ret (.call 0 .frz [(.var 0),(.var 2),(.call 1 .frz [(.ix (.var 0) (.var 2)),(.bin .FloorDiv false (.var 1) (.cst (.int 3)))])])]
   [],
  .ite (.and_ (.cmp .Eq (.ix (.var 0) (.cst (.int 0))) (.cst (.str "spend"))) (.cmp .Eq (.bin .Mod false (.var 1) (.cst (.int 2))) (.cst (.int 0))))
   [.asg (.nm 3) (.lst false [(.tup [(.cst (.str "a")),(.cst (.str "b")),(.cst (.str "a"))]),(.bin .Add false (.bin .Add false (.tup [(.cst (.str "a"))]) (.sl false (.ix (.var 0) (.cst (.int 5))) [] [(.cst (.int 0))])) (.tup [(.cst (.str ""))])),(.tup [(.cst (.int 3))]),(.cst (.str "ab")),(.cst (.int 4)),(.cst .non)]),
   .asg (.nm 3) (.bin .Add false (.var 3) (.lst false [(.bi .tuple false [jcl])])),
   .ret (.call 0 .frz [(.var 0),(.cst (.int 5)),(.ix (.var 3) (.bin .Mod false (.bin .FloorDiv false (.var 1) (.cst (.int 2))) (.cst (.int 7))))])]
   [],
  .ite (.cmp .Eq (.ix (.var 0) (.cst (.int 0))) (.cst (.str "back")))
   [.ret (.call 0 .frz [(.var 0),(.cst (.int 3)),(.ix (.var 0) (.cst (.int 1)))])]
   [],
  .ite (.and_ (.cmp .NotEq (.ix (.var 0) (.cst (.int 0))) (.cst (.str "spend"))) (.cmp .Eq (.bin .Mod false (.var 1) (.cst (.int 3))) (.cst (.int 0))))
   [.ret (.call 0 .frz [(.var 0),(.cst (.int 4)),(.ix (.var 0) (.cst (.int 3)))])]
   [],
  .ite (.and_ (.cmp .Eq (.ix (.var 0) (.cst (.int 0))) (.cst (.str "lend"))) (.cmp .Eq (.bin .Mod false (.var 1) (.cst (.int 3))) (.cst (.int 1))))
   [.ret (.call 0 .frz [(.var 0),(.cst (.int 6)),(.ix (.lst false [(.ix (.var 0) (.cst (.int 2))),(.bi .max2 false [(.cst (.int 0)),(.bin .Sub false (.bin .Sub false (.ix (.var 0) (.cst (.int 2))) (.cst (.int 1))) (.bin .Mod false (.var 1) (.cst (.int 50))))]),(.cst (.str "9")),(.cst .non)]) (.bin .Mod false (.bin .FloorDiv false (.var 1) (.cst (.int 3))) (.cst (.int 4))))])]
   [],
  .ret (.call 0 .frz [(.var 0),(.bin .Add false (.cst (.int 4)) (.bi .int false [(.cmp .NotEq (.ix (.var 0) (.cst (.int 0))) (.cst (.str "spend")))])),(.ix (.lst false [(.cst (.int 0)),(.bin .Sub false (.neg (.cst (.int 1))) (.bin .Mod false (.var 1) (.bin .Pow false (.cst (.int 10)) (.cst (.int 9))))),(.cst (.str "5")),(.cst .non)]) (.bin .Mod false (.bin .FloorDiv false (.var 1) (.cst (.int 3))) (.cst (.int 4))))])]
noncomputable abbrev jcK:List FnE:=[jbr,jaK]
noncomputable def jar:Fn:=fnOf jcK 2 2 jbd
noncomputable def jaZ:FnE:=⟨"_law_own_fault",["_law_deed_here","_law_m"],2,jar,none⟩
theorem jfJ:chkSs jcK 1 jbd ⟨jdU,ja jbb,false⟩ (jae jbb)=true:=by decide +kernel
noncomputable abbrev jbB:Stmt:=top 42
noncomputable abbrev jeP:List Str:=["_law_deed_here","_law_m","_law_names_here","_law_places","_law_way","_law_bad"]
theorem jgg:FnScope jeP ["_law_deed_here","_law_m"] (ja jbB):=⟨rfl,rfl,rfl,by decide +kernel,rfl,by decide +kernel,by decide +kernel⟩
noncomputable def jbH:List S :=
  [.asg (.nm 4) (.bin .Mod false (.var 1) (.cst (.int 8))),
  .asg (.nm 1) (.bin .FloorDiv false (.var 1) (.cst (.int 8))),
  .ite (.cmp .Eq (.var 4) (.cst (.int 0)))
   [.ret (.call 0 .frz [(.var 0),(.cst (.int 0)),(.ix (.lst false [(.cst (.str "")),(.cst (.str "Buy")),(.cst (.str "sell")),(.cst (.str "lends")),(.bin .Add false (.ix (.var 0) (.cst (.int 0))) (.cst (.str "s"))),(.cst (.str "buys"))]) (.bin .Mod false (.var 1) (.cst (.int 6))))])]
   [],
  .ite (.cmp .Eq (.var 4) (.cst (.int 1)))
   [.ret (.sl false (.var 0) [] [(.bin .Add false (.cst (.int 1)) (.bin .Mod false (.var 1) (.bin .Sub false (.bi .len false [(.var 0)]) (.cst (.int 1)))))])]
   [],
  .ite (.cmp .Eq (.var 4) (.cst (.int 2)))
   [.ret (.bin .Add false (.var 0) (.tup [(.ix (.lst false [(.cst (.int 1)),(.cst (.str "a")),(.cst .non),(.tup [])]) (.bin .Mod false (.var 1) (.cst (.int 4))))]))]
   [],
  .ite (.cmp .Eq (.var 4) (.cst (.int 3)))
   [.asg (.nm 5) (.ix (.lst false [(.cst (.str "")),(.cst (.str "abcdefghi")),(.cst (.str "Ann")),(.cst (.str "an n")),(.cst (.int 7)),(.cst .non),(.tup [(.cst (.str "a"))]),(.cst (.str "an9"))]) (.bin .Mod false (.bin .FloorDiv false (.var 1) (.cst (.int 9))) (.cst (.int 8)))),
   .ret (.call 0 .frz [(.var 0),(.ix (.var 3) (.bin .Mod false (.var 1) (.bi .len false [(.var 3)]))),(.var 5)])]
   [],
  .ite (.and_ (.cmp .Eq (.var 4) (.cst (.int 4))) (.cmp .NotEq (.ix (.var 0) (.cst (.int 0))) (.cst (.str "fix"))))
   [.ret (.call 0 .frz [(.var 0),(.cst (.int 2)),(.ix (.lst false [(.bin .Sub false (.neg (.cst (.int 1))) (.bin .Mod false (.var 1) (.bin .Pow false (.cst (.int 10)) (.cst (.int 9))))),(.cst (.str "3")),(.cst .non),(.tup [])]) (.bin .Mod false (.bin .FloorDiv false (.var 1) (.cst (.int 4))) (.cst (.int 4))))])]
   [],
  .ret (.call 1 .frz [(.var 0),(.var 1)])]
noncomputable abbrev jaV:List FnE:=[jbr,jaZ]
noncomputable def jbY:E:=(.ix (.var 0) (.cst (.int 0)))
noncomputable def jb0:E:=(.tup [(.cst (.int 1)),(.bin .Add false (.cst (.int 2)) (.bi .int false [(.cmp .Eq (.ix (.var 0) (.cst (.int 0))) (.cst (.str "back")))]))])
noncomputable abbrev jap:List Str:=["buy","spend","give","change","lend"]
noncomputable abbrev jaq:List (List Int):=[[1,3],[1,3],[1,3,4],[1,3,4],[1,3,4]]
noncomputable def jaM:Fn:=jpk jaV 2 4 2 3 jap jaq jbY jb0 jbH
noncomputable def jbG:FnE:=⟨"_law_spoiled",["_law_deed_here","_law_m"],3,jaM,none⟩
theorem jg1:jj2 jaV 2 2 3 "_law_names_here" "_law_places" jap jaq jbY jb0 jbH ⟨jeP,ja jbB,false⟩ (jae jbB)=true:=by decide +kernel
noncomputable abbrev jbW:Stmt:=top 44
noncomputable abbrev jgZ:List Str:=["_law_deed_here","_law_flags","error"]
theorem jgp:FnScope jgZ ["_law_deed_here"] (ja jbW):=⟨rfl,rfl,rfl,by decide +kernel,rfl,by decide +kernel,by decide +kernel⟩
noncomputable def jcG:Fn:=jwk jbn "BadDeed"
noncomputable def jby:FnE:=⟨"_law_refused",["_law_deed_here"],7,jcG,none⟩
noncomputable abbrev jgh:Stmt:=top 45
noncomputable abbrev juR:List Str:=["_law_script","_law_at_here","_law_deed_here","_law_k"]
theorem juA:FnScope juR ["_law_script"] (ja jgh):=⟨rfl,rfl,rfl,by decide +kernel,rfl,by decide +kernel,by decide +kernel⟩
noncomputable def jiY:List S :=
  [.ite (.not_ (.call 2 .frz [(.call 3 .frz [(.var 2),(.call 4 .frz [(.call 5 .frz [(.var 0),(.bin .Add false (.cst (.int 52)) (.var 3))]),(.bin .Add false (.var 1) (.var 3))])])]))
   [.ret (.cst (.bl false))]
   []]
noncomputable def jiS:List S :=
  [.asg (.nm 2) (.call 0 .frz [(.var 0),(.var 1)]),
  .ite (.cmp .IsNot (.call 1 .frz [(.var 2)]) (.cst (.bl true)))
   [.ret (.cst (.bl false))]
   [],
  .for_ (.nm 3) .rng1 [(.cst (.int 4))] jiY [3],
  .ite (.cmp .IsNot (.call 1 .frz [(.var 2)]) (.cst (.bl true)))
   [.ret (.cst (.bl false))]
   []]
noncomputable def jsR:List S :=
  [.for_ (.nm 1) .seq [(.tup [(.cst (.int 0)),(.cst (.int 13)),(.cst (.int 26)),(.cst (.int 39))])] jiS [1,2,3],
  .ret (.cst (.bl true))]
noncomputable abbrev jpl:List FnE:=[jco,jb,jby,jbG,jb5,jb6]
noncomputable def jsN:Fn:=fnOf jpl 1 3 jsR
theorem jwU:chkSs jpl 7 jsR ⟨juR,ja jgh,false⟩ (jae jgh)=true:=by decide +kernel
end _K08
namespace _K08
open PySem PySem.Spec PyProof.Rows _L2 _L3
local macro_rules | `(tactic| walk_at"ev")=>`(tactic| try simp only[jeW,sz0,sz1,sz2,sz3,sz4,sz5,sz6,sz7,sz8,sz9,jyv,jyC,jyA,Nat.zero_add,List.length_cons,List.length_nil,Nat.reduceAdd,if_true,if_false,Bool.false_eq_true,List.map_cons,List.map_nil,List.replicate,List.cons_append,List.nil_append,jdg,jbJ,jsa,jvD,jdG,jiQ,jsb,jos,jqP,jvW,jui,juS,jvj,jwd,juc,jvI,jsC,jvU,jwY,jvc,jt9,ju3,jw8,jxJ,jt2,jrs,jwI,jwE,jni,jpc,jw4,jxr,jxb,jxn,jqQ,jns,jsy,jpg,jva,jrm,joM,jrq,jte,juZ,jc,jpF,jcB,jsA,jsE,jrU,jmi,jk0,jo2,jon,ju7,jto,jwB,jv4,jv0,jsr,jsD,jdp,jmf,jlR,jhp,Int.reduceLT,Int.reduceLE,Int.reduceNeg,Int.reduceToNat,Int.reducePow,Nat.reduceLT,ju1,jud,jv1,jt0,jrE,jrv,jqU,jss,jw5,jwT,jop,jtv,List.getElem?_cons_zero,List.getElem?_cons_succ,List.set_cons_zero,List.set_cons_succ,jtd,jr7,jxA,jq1,juu,jqO,jvp,jup,juN,juF,jpe,js,jvJ,jl4,jgM,Bool.not_true,Bool.not_false])
noncomputable def jeZ (ns:List Int):D:=.scr (ns.map D.int)
theorem jxs (ns:List Int)(k:Nat)(μ:M):jaf .frz jb6.F [jeZ ns,.int (k:Int)] μ=.ok (.int (ns.getD k 0)) μ:=by
 refine jac (F:=jhh) ?_ jaX
 unfold jhh jhd
 walk_at"ev"
 have hl:biD .len false [jeZ ns] μ=.ok (.int ns.length) μ:=by
  show Out.ok (D.int ((ns.map D.int).length:Int)) μ=_
  rw[List.length_map]
 rw[hl]
 walk_at"ev"
 by_cases h:k < ns.length
 ·have e:atI (ns.map D.int) (k:Int)=some (.int (ns.getD k 0)):=jdq (by simp[h])
  have hx:ixD (jeZ ns) (.int (k:Int)) μ=.ok (.int (ns.getD k 0)) μ:=by
   show (match atI (ns.map D.int) (k:Int) with | some d=>Out.ok d μ | none=>.bad)=_
   rw[e]
  rw[hx]
  simp only[show ((k:Int) < (ns.length:Int)) from by omega,decide_true,if_true]
  walk_at"ev"
 ·have:ns.getD k 0=0:=by simp[h]
  rw[this]
  simp only[show ¬ ((k:Int) < (ns.length:Int)) from by omega,decide_false,if_false,Bool.false_eq_true]
  walk_at"ev"
theorem jfz (c:Int)(k:Int)(h0:0≤k)(h1:k≤1000)(μ:M):∃m:Int,0≤m∧m < 1999999973∧jaf .frz jb5.F [.int c,.int k] μ=.ok (.int m) μ:=by
 obtain⟨d,hd,hx⟩:=jjd (ds:=[.int 48271,.int 69621,.int 16807,.int 40692,.int 30269,.int 62089,.int 45991]) (i:=k % 7) (by omega) (by show k % 7 < 7;omega) (a:=.lst [.int 48271,.int 69621,.int 16807,.int 40692,.int 30269,.int 62089,.int 45991]) (μ:=μ) rfl (by simp)
 obtain⟨n,rfl,hn⟩:∃n:Int,d=.int n∧0≤n∧n≤69621:=by
  simp only[List.mem_cons,List.not_mem_nil,or_false]at hd
  rcases hd with rfl | rfl | rfl | rfl | rfl | rfl | rfl <;> exact⟨_,rfl,by decide,by decide⟩
 refine⟨((c % 2147483647+97 * k * k+11) * n % 2147483629) * ((c % 2147483647+97 * k * k+11) * n % 2147483629) % 1999999973,by omega,by omega,jac (F:=jgc) ?_ jaX⟩
 unfold jgc jgb
 walk_at"ev"
 rw[hx]
 walk_at"ev"
 rw[jki (i:=97 * k) (by omega) (by omega)]
 walk_at"ev"
 rw[jki (j:=n) (by omega) (by omega)]
 walk_at"ev"
 rw[jhp (by omega) (by omega)]
 walk_at"ev"
noncomputable def lt (i:Int):Nat:=97+(i % 26).toNat
theorem jr3 (i:Int):97≤lt i∧lt i≤122:=by unfold lt;omega
theorem jrC (i:Int)(μ:M):ixD (.str "abcdefghijklmnopqrstuvwxyz") (.int (i % 26)) μ=.ok (.str (sTx [lt i])) μ:=jt5 (by omega) (by omega) μ
noncomputable abbrev nmS (c n m:Int) (o4 o5 o6 o7:Option D):S3:=[some (.int c),some (.int n),some (.str "abcdefghijklmnopqrstuvwxyz"),some (.int m),o4,o5,o6,o7]
noncomputable def jpP (m:Int):List Nat:=(List.range 8).map fun (k:Nat)=>lt (m / ((k:Int)+1)+(k:Int) * (k:Int))
theorem jnX (m:Int):(jpP m).length=8:=by simp[jpP]
theorem joB (m:Int):Ltr (jpP m):=fun x hx=>by
 obtain⟨k,_,rfl⟩:=List.mem_map.mp hx
 exact jr3 _
theorem jkx (c n m:Int)(μ:M):(ev jdd jdc).v (nmS c n m none none none none) μ=.ok (.lst (((jpP m).map fun c=>sTx [c]).map D.str)) μ:=by
 unfold jdc
 have h:=jbl (G:=jdd) (m:=false) (own:=1) (tg:=.nm 0) (ik:=.rng1) (es:=[.cst (.int 8)]) (ifs:=[]) (elt:=(.ix (.var 3) (.bin .Mod false (.bin .Add false (.bin .FloorDiv false (.var 4) (.bin .Add false (.var 0) (.cst (.int 1)))) (.bin .Mult false (.var 0) (.var 0))) (.cst (.int 26))))) (ρ:=nmS c n m none none none none) (μ:=μ) (ds:=[.int 8]) (xs:=List.range 8) (e:=fun (k:Nat)=>D.int (k:Int)) (fun _=>true) (fun (k:Nat)=>D.str (sTx [lt (m / ((k:Int)+1)+(k:Int) * (k:Int))])) (by walk_at"ev") (je6 (n:=8) (by decide)) (jat (by decide)) fun k hk=>⟨_,rfl,by walk_at"ev",fun _=>by
  have hk':k < 8:=by simpa using hk
  walk_at"ev"
  rw[jmf (by omega) (by omega)]
  walk_at"ev"
  rw[jhp (by omega) (by omega)]
  walk_at"ev"
  exact jrC _ μ⟩
 rw[h,List.filter_eq_self.mpr fun _ _=>rfl]
 unfold jpP
 rw[List.map_map,List.map_map]
 rfl
theorem jfY (t:List Nat)(a:Nat):(t.take a).length≤a:=by rw[List.length_take];exact Nat.min_le_left _ _
theorem jrK (t:List Nat)(x:Nat){a b:Nat}(h:a≤b)(hb:b≤7):(t.take a++x :: (t.drop a).take (b - a)).length≤8:=by
 have h1:=jfY t a
 have h2:=jfY (t.drop a) (b - a)
 rw[List.length_append,List.length_cons]
 omega
theorem jvA {u v:Int}(h0:0≤u)(h1:u < v+1)(h2:v < 8):u.toNat≤v.toNat∧v.toNat≤7:=by omega
theorem jj8 (c:Int)(n:Nat)(hn:n≤8)(μ:M):∃zs:List Str,(zs.length=n∧zs.Nodup∧∀z∈zs,jbT z=true)∧jaf .frz jbz.F [.int c,.int (n:Int)] μ=.ok (.lst (zs.map D.str)) μ:=by
 obtain⟨m,hm0,hm1,hm⟩:=jfz c 0 (by decide) (by decide) μ
 have tail:=jkx c n m μ
 have htl:=jnX m
 have hlt:=joB m
 have hjoin:mtD .join (.str "") [.lst (((jpP m).map fun c=>sTx [c]).map D.str)] μ=.ok (.str (sTx (jpP m))) μ:=by
  rw[jlJ,← jpu]
  ·rw[jjv (fun y hy=>by obtain⟨x,_,rfl⟩:=List.mem_map.mp hy;exact jc6 _)]
   have e0:(Str.ofString "").length=0:=by decide +kernel
   simp[htl,e0]
 generalize jpP m=t at *
 have hsz:(sTx t).length≤sizeLine:=jat (by rw[jc6];omega)
 have key:∃cs:List (List Nat),(cs.length=n∧cs.Nodup∧∀c∈cs,1≤c.length∧c.length≤8∧Ltr c)∧jdb [.int c,.int (n:Int)] μ=.ok (.lst ((cs.map sTx).map D.str)) μ:=by
  unfold jdb jd7
  walk_at"ev"
  rw[hm]
  walk_at"ev"
  rw[tail]
  walk_at"ev"
  rw[hjoin]
  walk_at"ev"
  by_cases c0:m % 3=0
  ·refine⟨(List.range n).map fun k=>t.take (k+1),⟨by simp,jei fun i j hi hj e=>?_,fun c hc=>?_⟩,?_⟩
   ·have:=congrArg List.length e
    rw[List.length_take,List.length_take]at this
    omega
   ·obtain⟨k,hk,rfl⟩:=List.mem_map.mp hc
    have hk':k < n:=by simpa using hk
    exact⟨by rw[List.length_take];omega,by rw[List.length_take];omega,fun x hx=>hlt x (List.mem_of_mem_take hx)⟩
   ·simp only[c0,decide_true,if_true]
    walk_at"ev"
    simp only[show ((n:Int) < 9) from by omega,decide_true,if_true]
    unfold jeJ
    rw[jbl (ds:=[.int (n:Int)]) (xs:=List.range n) (e:=fun (k:Nat)=>D.int (k:Int)) (fun _=>true) (fun k=>D.str (sTx (t.take (k+1)))) (by walk_at"ev") (je6 (by omega)) (jat (by simp;omega)) fun k hk=>⟨_,rfl,by walk_at"ev",fun _=>by
     have hk':k < n:=by simpa using hk
     walk_at"ev"
     rw[jhs hsz,jhc t (by omega) (by omega),show ((k:Int)+1).toNat=k+1 from by omega]⟩]
    rw[List.filter_eq_self.mpr fun _ _=>rfl]
    walk_at"ev"
    simp[List.map_map]
  ·by_cases c1:m % 3=1
   ·refine⟨(List.range n).map fun (k:Nat)=>lt (m / 24+(k:Int)) :: t.take (m / 3 % 8).toNat,⟨by simp,jei fun i j hi hj e=>?_,fun c hc=>?_⟩,?_⟩
    ·have e1:=(List.cons.inj e).1
     unfold lt at e1
     omega
    ·obtain⟨k,hk,rfl⟩:=List.mem_map.mp hc
     refine⟨by simp,by rw[List.length_cons,List.length_take];omega,fun x hx=>?_⟩
     rcases List.mem_cons.mp hx with z | z
     ·rw[z];exact jr3 _
     ·exact hlt x (List.mem_of_mem_take z)
    ·simp only[decide_eq_false c0,if_false,Bool.false_eq_true]
     walk_at"ev"
     simp only[decide_eq_true c1,if_true]
     walk_at"ev"
     unfold jeC
     rw[jbl (ds:=[.int (n:Int)]) (xs:=List.range n) (e:=fun (k:Nat)=>D.int (k:Int)) (fun _=>true) (fun (k:Nat)=>D.str (sTx (lt (m / 24+(k:Int)) :: t.take (m / 3 % 8).toNat))) (by walk_at"ev") (je6 (by omega)) (jat (by simp;omega)) fun k hk=>⟨_,rfl,by walk_at"ev",fun _=>by
      walk_at"ev"
      rw[jrC]
      walk_at"ev"
      rw[jhs hsz,jhc t (by omega) (by omega)]
      walk_at"ev"
      rw[jg4 (jat (by rw[jc6,jc6,List.length_take];simp;omega)),ji8]
      rfl⟩]
     rw[List.filter_eq_self.mpr fun _ _=>rfl]
     walk_at"ev"
     simp[List.map_map]
   ·have hv0:0≤m / 3 % 8:=Int.emod_nonneg _ (by decide)
    have hv1:m / 3 % 8 < 8:=Int.emod_lt_of_pos _ (by decide)
    have hu0:0≤m / 24 % (m / 3 % 8+1):=Int.emod_nonneg _ (Int.ne_of_gt (Int.lt_add_one_of_le hv0))
    have hu1:m / 24 % (m / 3 % 8+1) < m / 3 % 8+1:=Int.emod_lt_of_pos _ (Int.lt_add_one_of_le hv0)
    have huv:=jvA hu0 hu1 hv1
    refine⟨(List.range n).map fun (k:Nat)=>t.take (m / 24 % (m / 3 % 8+1)).toNat++lt (m / 200+(k:Int)) :: (t.drop (m / 24 % (m / 3 % 8+1)).toNat).take ((m / 3 % 8).toNat - (m / 24 % (m / 3 % 8+1)).toNat),⟨by simp,jei fun i j hi hj e=>?_,fun c hc=>?_⟩,?_⟩
    ·have e1:=(List.cons.inj (List.append_cancel_left e)).1
     unfold lt at e1
     omega
    ·obtain⟨k,hk,rfl⟩:=List.mem_map.mp hc
     refine⟨by rw[List.length_append,List.length_cons];exact Nat.le_add_left_of_le (Nat.le_add_left 1 _),jrK t _ huv.1 huv.2,fun x hx=>?_⟩
     rcases List.mem_append.mp hx with y | y
     ·exact hlt x (List.mem_of_mem_take y)
     ·rcases List.mem_cons.mp y with y | y
      ·rw[y];exact jr3 _
      ·exact hlt x (List.mem_of_mem_drop (List.mem_of_mem_take y))
    ·simp only[decide_eq_false c0,if_false,Bool.false_eq_true]
     walk_at"ev"
     simp only[decide_eq_false c1,if_false,Bool.false_eq_true]
     walk_at"ev"
     rw[jdp (j:=m / 3 % 8+1) (Int.lt_add_one_of_le hv0)]
     walk_at"ev"
     unfold jen
     rw[jbl (ds:=[.int (n:Int)]) (xs:=List.range n) (e:=fun (k:Nat)=>D.int (k:Int)) (fun _=>true) (fun (k:Nat)=>D.str (sTx [lt (m / 200+(k:Int))])) (by walk_at"ev") (je6 (by omega)) (jat (by simp;omega)) fun k hk=>⟨_,rfl,by walk_at"ev",fun _=>by
      walk_at"ev"
      rw[jrC]⟩]
     rw[List.filter_eq_self.mpr fun _ _=>rfl]
     walk_at"ev"
     unfold jeI
     rw[jbl (ds:=[.lst ((List.range n).map fun (k:Nat)=>D.str (sTx [lt (m / 200+(k:Int))]))]) (xs:=List.range n) (e:=fun (k:Nat)=>D.str (sTx [lt (m / 200+(k:Int))])) (fun _=>true) (fun (k:Nat)=>D.str (sTx (t.take (m / 24 % (m / 3 % 8+1)).toNat++lt (m / 200+(k:Int)) :: (t.drop (m / 24 % (m / 3 % 8+1)).toNat).take ((m / 3 % 8).toNat - (m / 24 % (m / 3 % 8+1)).toNat)))) (by walk_at"ev") rfl (jat (by simp;omega)) fun k hk=>⟨_,rfl,by walk_at"ev",fun _=>by
      walk_at"ev"
      rw[jhs hsz,jhc t hu0 (by omega)]
      walk_at"ev"
      rw[jg4 (jat (by rw[jc6,jc6];have:=jfY t (m / 24 % (m / 3 % 8+1)).toNat;have:=huv.1;have:=huv.2;simp only[List.length_singleton];omega)),ji8]
      walk_at"ev"
      rw[jhs hsz,jmU t hu0 (Int.lt_add_one_iff.mp hu1) (by omega)]
      walk_at"ev"
      rw[jg4 (jat (by
       rw[jc6,jc6,List.length_append]
       have:=jfY t (m / 24 % (m / 3 % 8+1)).toNat
       have:=jfY (t.drop (m / 24 % (m / 3 % 8+1)).toNat) ((m / 3 % 8).toNat - (m / 24 % (m / 3 % 8+1)).toNat)
       have:=huv.1
       have:=huv.2
       simp only[List.length_singleton]
       omega)),ji8]
      simp⟩]
     rw[List.filter_eq_self.mpr fun _ _=>rfl]
     walk_at"ev"
     simp[List.map_map]
 obtain⟨cs,⟨h1,h2,h3⟩,h4⟩:=key
 refine⟨cs.map sTx,⟨by simp[h1],?_,fun z hz=>?_⟩,jac (F:=jdb) h4 (jqF (jcv (fun _=>jad) _))⟩
 ·rw[List.Nodup,List.pairwise_map]
  exact h2.imp fun {a b} hab e=>hab (jqw e)
 ·obtain⟨x,hx,rfl⟩:=List.mem_map.mp hz
  obtain⟨a1,a2,a3⟩:=h3 x hx
  exact joF a1 a2 a3
noncomputable abbrev jbL (zs:List Str):D:=.lst (zs.map D.str)
theorem jqk {i j:Int}{μ:M}:biD .max2 false [.int i,.int j] μ=.ok (.int (if j > i then j else i)) μ:=nr rfl
theorem jpX {i j:Int}{μ:M}:biD .min2 false [.int i,.int j] μ=.ok (.int (if j < i then j else i)) μ:=nr rfl
theorem jfr {zs:List Str}{μ:M}:biD .len false [jbL zs] μ=.ok (.int zs.length) μ:=nr (by
 show Out.ok (D.int ((zs.map D.str).length:Int)) μ=_
 rw[List.length_map])
theorem jmM (ns:List Int)(i:Int)(h:0≤i):∃c:Int,∀μ:M,jaf .frz jb6.F [jeZ ns,.int i] μ=.ok (.int c) μ:=by
 obtain⟨n,rfl⟩:∃n:Nat,i=n:=⟨i.toNat,by omega⟩
 exact⟨_,jxs ns n⟩
theorem jlz {xs:List Int}{i:Int}(h0:0≤i)(h1:i < xs.length)(μ:M):∃n∈xs,ixD (.lst (xs.map D.int)) (.int i) μ=.ok (.int n) μ:=by
 obtain⟨d,hd,e⟩:=jjd (a:=.lst (xs.map D.int)) (ds:=xs.map D.int) (i:=i) h0 (by simpa using h1) (μ:=μ) rfl (by simp)
 obtain⟨n,hn,rfl⟩:=List.mem_map.mp hd
 exact⟨n,hn,e⟩
theorem je8 {xs:List Str}{i:Int}(h0:0≤i)(h1:i < xs.length)(μ:M):∃n∈xs,ixD (jbL xs) (.int i) μ=.ok (.str n) μ:=by
 obtain⟨d,hd,e⟩:=jjd (a:=jbL xs) (ds:=xs.map D.str) (i:=i) h0 (by simpa using h1) (μ:=μ) rfl (by simp)
 obtain⟨n,hn,rfl⟩:=List.mem_map.mp hd
 exact⟨n,hn,e⟩
theorem jfS (m c:Int)(h:0≤m)(μ:M):∃v:Int,(0≤v∧v≤999999999999)∧jaf .frz jbv.F [.int m,.int c] μ=.ok (.int v) μ:=by
 obtain⟨b,hb,eb⟩:=jlz (xs:=[m % 8,m % 3000,c % 1000000000000,1000000000000 - 1]) (i:=m / 3000 % 4) (by omega) (by show _ < (4:Int);omega) μ
 refine⟨b,?_,jac (F:=jdC) ?_ jaX⟩
 ·simp only[List.mem_cons,List.not_mem_nil,or_false]at hb
  rcases hb with rfl | rfl | rfl | rfl <;> omega
 ·simp only[List.map_cons,List.map_nil]at eb
  unfold jdC jdA
  walk_at"ev"
  rw[eb]
  walk_at"ev"
noncomputable abbrev Ln:=Str×Int
noncomputable def lnD (p:Ln):D:=.tup [.str p.1,.int p.2]
noncomputable def jec (ls:List Ln):D:=.tup (ls.map lnD)
noncomputable def juG (p:Ln):Prop:=jbT p.1=true∧0≤p.2∧p.2≤999999999999
theorem jm0 {h:Nat→Option D}(p:Ln):jb4 h (lnD p)=some (lnD p):=jas (jaa jad (jaa jaX jaN))
theorem jiR {h:Nat→Option D}(ls:List Ln):jb4 h (jec ls)=some (jec ls):=jas (jcv jm0 ls)
theorem jgO (ns:List Int)(a:Nat)(zs:List Str)(hz:0 < zs.length)(hn:∀z∈zs,jbT z=true)(o3:Option D)(μ:M)(ok:M→Bool)(hok:∀ν,ok ν=true):∀(n k:Nat) (ls:List Ln) (o5 o6 o7:Option D),k+n≤100→ls.length≤100 - n→(∀p∈ls,juG p) →
  ∃ls':List Ln,(ls'.length=ls.length+n∧∀p∈ls',juG p)∧jg7 ok (.nm 5) (runs jcC jci) [5,6,7] ((List.range' k n).map fun (j:Nat)=>D.int (j:Int)) [some (jeZ ns),some (.int (a:Int)),some (jbL zs),o3,some (.cel μ.length),o5,o6,o7] (μ++[some (.lst (ls.map lnD))])
   = .ok (.nx [some (jeZ ns),some (.int (a:Int)),some (jbL zs),o3,some (.cel μ.length),none,none,none]) (μ++[some (.lst (ls'.map lnD))])
 |0,k,ls,o5,o6,o7,_,_,h=>⟨ls,⟨rfl,h⟩,by
  rw[List.range'_zero,List.map_nil,jg8 (hok _)]
  rfl⟩
 |n+1,k,ls,o5,o6,o7,hk,hl,h=>by
  obtain⟨c,hc⟩:=jmM ns ((a:Int)+(k:Int)) (by omega)
  obtain⟨m,m0,m1,hm⟩:=jfz c (5+(k:Int)) (by omega) (by omega) (μ++[some (.lst (ls.map lnD))])
  obtain⟨v,hv,ev'⟩:=jfS (m / 9) c (by omega) (μ++[some (.lst (ls.map lnD))])
  have hlen:(0:Int) < (zs.length:Int):=by omega
  obtain⟨z,hzm,ez⟩:=je8 (xs:=zs) (i:=m % (zs.length:Int)) (Int.emod_nonneg _ (by omega)) (Int.emod_lt_of_pos _ hlen) (μ++[some (.lst (ls.map lnD))])
  obtain⟨ls',⟨i1,i2⟩,ih⟩:=jgO ns a zs hz hn o3 μ ok hok n (k+1) (ls++[(z,v)]) none none none (by omega) (by simp;omega) (fun p hp=>by
   rcases List.mem_append.mp hp with q | q
   ·exact h p q
   ·have:p=(z,v):=by simpa using q
    subst this
    exact⟨hn z hzm,hv.1,hv.2⟩)
  refine⟨ls',⟨by rw[i1,List.length_append,List.length_singleton];omega,i2⟩,?_⟩
  rw[List.range'_succ,List.map_cons]
  rw[jfB (ρ1:=[some (jeZ ns),some (.int (a:Int)),some (jbL zs),o3,some (.cel μ.length),some (.int (k:Int)),o6,o7]) (ρ2:=[some (jeZ ns),some (.int (a:Int)),some (jbL zs),o3,some (.cel μ.length),some (.int (k:Int)),some (.int m),some (.int v)]) (μ2:=μ++[some (.lst ((ls++[(z,v)]).map lnD))]) (hok _) rfl ?_]
  ·exact ih
  ·unfold jci
   walk_at"ev"
   rw[hc]
   walk_at"ev"
   rw[hm]
   walk_at"ev"
   rw[hc]
   walk_at"ev"
   rw[ev']
   walk_at"ev"
   rw[jfr]
   walk_at"ev"
   rw[jdp hlen]
   walk_at"ev"
   rw[ez]
   walk_at"ev"
   rw[joe (jiG (by simp;omega))]
   walk_at"ev"
   rw[List.map_append]
   rfl
theorem jo5 (ns:List Int)(a:Nat)(zs:List Str)(hz:0 < zs.length)(hn:∀z∈zs,jbT z=true)(μ:M):∃ls:List Ln,(1≤ls.length∧ls.length≤8∧∀p∈ls,juG p)∧jaf .frz jaT.F [jeZ ns,.int (a:Int),jbL zs] μ=.ok (jec ls) μ:=by
 obtain⟨c,hc⟩:=jmM ns (a:Int) (by omega)
 obtain⟨m,m0,m1,hm⟩:=jfz c 4 (by decide) (by decide) μ
 have hr:∀ν:M,itD .rng1 [.int (1+m % 8)] ν=some ((List.range' 0 (1+m % 8).toNat).map fun (j:Nat)=>D.int (j:Int)):=fun ν=>by
  rw[show (1+m % 8)=(((1+m % 8).toNat:Nat):Int) from by omega,je6 (by omega),List.range_eq_range',Int.toNat_natCast]
 obtain⟨ls,⟨h1,h2⟩,h3⟩:=jgO ns a zs hz hn (some (.int m)) μ (je5 .rng1 [.int (1+m % 8)] ((List.range' 0 (1+m % 8).toNat).map fun (j:Nat)=>D.int (j:Int))) (fun ν=>jfn (hr ν)) (1+m % 8).toNat 0 [] none none none (by omega) (by simp) (fun p hp=>by cases hp)
 refine⟨ls,⟨by rw[h1];simp;omega,by rw[h1];simp;omega,h2⟩,jjO (F:=jcA) (ν:=[some (.lst (ls.map lnD))]) (d:=jec ls) ?_ (jiR ls)⟩
 unfold jcA jcD
 walk_at"ev"
 rw[hc]
 walk_at"ev"
 rw[hm]
 walk_at"ev"
 rw[jiM (hr _)]
 have h3':=h3
 rw[List.map_nil]at h3'
 rw[h3']
 walk_at"ev"
 have ht:biD .tuple false [.cel μ.length] (μ++[some (.lst (ls.map lnD))])=.ok (jec ls) (μ++[some (.lst (ls.map lnD))]):=by
  simp only[biD,_L3.tupleD,jeu,jfl,jlA]
  rfl
 rw[ht]
 walk_at"ev"
inductive Deed where
 |buy (r:Str) (d:Int) (p:Str) (ls:List Ln)
 |spend (r:Str) (d:Int) (p:Str) (n:Int) (fs:List Str)
 |two (w r:Str) (d:Int) (p o:Str) (n:Int)
 |lend (r:Str) (d:Int) (p o:Str) (n e:Int)
 |back (r:Str) (d:Int) (f:Str)
 |fix (r f:Str) (ls:List Ln)
noncomputable def Deed.dat:Deed→D
 |.buy r d p ls=>.tup [.str "buy",.str r,.int d,.str p,jec ls]
 |.spend r d p n fs=>.tup [.str "spend",.str r,.int d,.str p,.int n,.tup (fs.map D.str)]
 |.two w r d p o n=>.tup [.str w,.str r,.int d,.str p,.str o,.int n]
 |.lend r d p o n e=>.tup [.str "lend",.str r,.int d,.str p,.str o,.int n,.int e]
 |.back r d f=>.tup [.str "back",.str r,.int d,.str f]
 |.fix r f ls=>.tup [.str "fix",.str r,.str f,jec ls]
noncomputable def jiT (ls:List Ln):Prop:=1≤ls.length∧ls.length≤8∧∀p∈ls,juG p
noncomputable def Nm (z:Str):Prop:=jbT z=true
noncomputable def Num (l n:Int):Prop:=l≤n∧n≤999999999999
noncomputable def Deed.Ok:Deed→Prop
 |.buy r d p ls=>Nm r∧Num 0 d∧Nm p∧jiT ls
 |.spend r d p n fs=>Nm r∧Num 0 d∧Nm p∧Num 1 n∧fs.length≤8∧fs.Nodup∧∀z∈fs,Nm z
 |.two w r d p o n=>(w = "give"∨w = "change")∧Nm r∧Num 0 d∧Nm p∧Nm o∧Num 1 n∧o≠p
 |.lend r d p o n e=>Nm r∧Num 0 d∧Nm p∧Nm o∧Num 1 n∧Num 0 e∧o≠p∧d < e
 |.back r d f=>Nm r∧Num 0 d∧Nm f∧f≠r
 |.fix r f ls=>Nm r∧Nm f∧jiT ls∧f≠r
theorem jgR {h:Nat→Option D}(x:Deed):jb4 h x.dat=some x.dat:=by
 cases x with
 |buy r d p ls=>exact jas (jaa jad (jaa jad (jaa jaX (jaa jad (jaa (jiR ls) jaN)))))
 |spend r d p n fs=>exact jas (jaa jad (jaa jad (jaa jaX (jaa jad (jaa jaX (jaa (jas (jcv (fun _=>jad) fs)) jaN))))))
 |two w r d p o n=>exact jas (jaa jad (jaa jad (jaa jaX (jaa jad (jaa jad (jaa jaX jaN))))))
 |lend r d p o n e=>exact jas (jaa jad (jaa jad (jaa jaX (jaa jad (jaa jad (jaa jaX (jaa jaX jaN)))))))
 |back r d f=>exact jas (jaa jad (jaa jad (jaa jaX (jaa jad jaN))))
 |fix r f ls=>exact jas (jaa jad (jaa jad (jaa jad (jaa (jiR ls) jaN))))
theorem jhr {ds:List D}(k:Nat):_L3.cutD ds (some (k:Int)) none=ds.drop k:=by
 unfold _L3.cutD
 rw[HT.sIx_none,HT.sIx_nat]
 rcases Nat.le_total k ds.length with h | h
 ·rw[Nat.min_eq_left h]
  exact List.take_of_length_le (by simp)
 ·rw[Nat.min_eq_right h,List.drop_of_length_le (Nat.le_refl _),List.drop_of_length_le h,List.take_nil]
theorem jpI {ds:List D}(k:Nat):_L3.cutD ds none (some (k:Int))=ds.take k:=by
 unfold _L3.cutD
 rw[HT.sIx_none,HT.sIx_nat]
 simp only[Nat.sub_zero,List.drop_zero]
 rcases Nat.le_total k ds.length with h | h
 ·rw[Nat.min_eq_left h]
 ·rw[Nat.min_eq_right h,List.take_of_length_le (Nat.le_refl _),List.take_of_length_le h]
theorem jnm {zs:List Str}(k:Nat)(μ:M):slD false (jbL zs) (some (k:Int)) none μ=.ok (jbL (zs.drop k)) μ:=by
 show mkL false (_L3.cutD (zs.map D.str) (some (k:Int)) none) μ=_
 rw[jhr,← List.map_drop]
 rfl
theorem jt8 {zs:List Str}(k:Nat)(μ:M):slD false (jbL zs) none (some (k:Int)) μ=.ok (jbL (zs.take k)) μ:=by
 show mkL false (_L3.cutD (zs.map D.str) none (some (k:Int))) μ=_
 rw[jpI,← List.map_take]
 rfl
theorem jfT (x:Str):∀zs:List Str,jsl (.str x) (zs.map D.str)=some (decide (x∈zs))
 |[]=>rfl
 |z :: zs=>by
  rw[List.map_cons]
  unfold jsl
  rw[jfT x zs]
  show some (eqV (.str z) (.str x) || decide (x∈zs))=_
  congr 1
  have:eqV (.str z) (.str x)=decide (x=z):=by
   show (z == x)=_
   by_cases e:x=z
   ·subst e;simp
   ·simp[e,Ne.symm e]
  rw[this]
  simp
theorem jl8 (x:Str)(zs:List Str)(μ:M):jeh .NotIn (.str x) (jbL zs) μ=.ok (.bl (!decide (x∈zs))) μ:=nr (by
 unfold jeh jnF
 have:inD μ (.str x) (jbL zs)=some (decide (x∈zs)):=by
  unfold inD
  have e:jeu μ (jbL zs)=some (zs.map D.str):=rfl
  simp only[e,jfF]
  exact jfT x zs
 simp only[this,Option.map_some])
theorem jjx:∀(zs:List Str) (k:Nat),ji4 k (zs.map D.str)=(zs.zipIdx k).map fun x=>D.tup [.int (x.2:Int),.str x.1]
 |[],k=>rfl
 |z :: zs,k=>by
  rw[List.map_cons,List.zipIdx_cons,List.map_cons]
  unfold ji4
  rw[jjx zs (k+1)]
theorem jis {α:Type}:∀(zs:List α) (k:Nat),(zs.zipIdx k).Pairwise (fun a b=>a.2 < b.2)
 |[],k=>by simp
 |z :: zs,k=>by
  rw[List.zipIdx_cons,List.pairwise_cons]
  refine⟨fun b hb=>?_,jis zs (k+1)⟩
  have:=List.le_snd_of_mem_zipIdx hb
  show k < b.2
  omega
noncomputable def jcP (zs:List Str):List Str:=((zs.zipIdx 0).filter fun x=>!decide (x.1∈zs.take x.2)).map (·.1)
theorem jh6 (zs:List Str):(jcP zs).Nodup:=by
 unfold jcP
 rw[List.Nodup,List.pairwise_map]
 refine List.Pairwise.imp_of_mem (R:=fun a b=>a.2 < b.2) (fun {a b} ha hb hab e=>?_) ((jis zs 0).filter _)
 have ha1:=(List.mem_filter.mp ha).1
 have hb2:=(List.mem_filter.mp hb).2
 have hg:zs[a.2]?=some a.1:=by
  have:(a.1,a.2)∈zs.zipIdx:=ha1
  rwa [List.mk_mem_zipIdx_iff_getElem?]at this
 have:b.1∈zs.take b.2:=by
  rw[← e]
  refine List.mem_of_getElem? (i:=a.2) ?_
  rw[List.getElem?_take_of_lt hab]
  exact hg
 simp[this]at hb2
theorem jkD (zs:List Str):∀z∈jcP zs,z∈zs:=fun z hz=>by
 obtain⟨x,hx,rfl⟩:=List.mem_map.mp hz
 exact List.fst_mem_of_mem_zipIdx (List.mem_filter.mp hx).1
noncomputable abbrev dS (ns:List Int) (a:Nat) (c m:Int) (zs:List Str) (o5 o6 o7 o8 o9 o10 o11 o12 o13 o14 o15:Option D):S3:=[some (jeZ ns),some (.int (a:Int)),some (.int c),some (.int m),some (jbL zs),o5,o6,o7,o8,o9,o10,o11,o12,o13,o14,o15]
theorem jxh (ns:List Int)(a:Nat)(c m:Int)(zs:List Str)(hz:zs.length≤100)(z:Str)(o5 o7 o8 o9 o10 o11 o12 o13 o14 o15:Option D)(μ:M):(ev jan jdR).v (dS ns a c m zs o5 (some (.str z)) o7 o8 o9 o10 o11 o12 o13 o14 o15) μ=.ok (jbL (zs.filter fun y=>!decide (y=z))) μ:=by
 unfold jdR
 rw[jbl (ds:=[jbL zs]) (xs:=zs) (e:=D.str) (fun y=>!decide (y=z)) D.str (by walk_at"ev") rfl (jat (by omega)) fun y hy=>⟨_,rfl,by walk_at"ev",fun _=>by walk_at"ev"⟩]
 rfl
theorem jxw (ns:List Int)(a:Nat)(c m:Int)(zs:List Str)(hz:zs.length≤100)(z:Str)(o6 o7 o8 o9 o10 o11 o12 o13 o14 o15:Option D)(μ:M):(ev jan jdM).v (dS ns a c m zs (some (.str z)) o6 o7 o8 o9 o10 o11 o12 o13 o14 o15) μ=.ok (jbL (zs.filter fun y=>!decide (y=z))) μ:=by
 unfold jdM
 rw[jbl (ds:=[jbL zs]) (xs:=zs) (e:=D.str) (fun y=>!decide (y=z)) D.str (by walk_at"ev") rfl (jat (by omega)) fun y hy=>⟨_,rfl,by walk_at"ev",fun _=>by walk_at"ev"⟩]
 rfl
theorem jxL (ns:List Int)(a:Nat)(c m:Int)(zs:List Str)(hz:zs.length≤100)(o5 o6 o7 o8 o9 o10 o11 o12 o13 o14 o15:Option D)(μ:M):(ev jan jdz).v (dS ns a c m zs o5 o6 o7 o8 o9 o10 o11 o12 o13 o14 o15) μ=.ok (jbL (jcP zs)) μ:=by
 unfold jdz
 have hi:itD .enm [jbL zs] μ=some ((zs.zipIdx 0).map fun x=>D.tup [.int (x.2:Int),.str x.1]):=by
  show some (ji4 0 (zs.map D.str))=_
  rw[jjx]
 rw[jbl (ds:=[jbL zs]) (xs:=zs.zipIdx 0) (e:=fun x=>D.tup [.int (x.2:Int),.str x.1]) (fun x=>!decide (x.1∈zs.take x.2)) (fun x=>D.str x.1) (by walk_at"ev") hi (by rw[List.length_zipIdx];exact jat (by omega)) fun x hx=>⟨_,rfl,by
  walk_at"ev"
  rw[jt8]
  walk_at"ev"
  rw[jl8]
  walk_at"ev",fun _=>by walk_at"ev"⟩]
 unfold jcP
 rw[jbL,List.map_map]
 rfl
theorem jyn {zs ws:List Str}(h:zs.Nodup)(hl:zs.length=4)(z:Str):3≤((zs++ws).filter fun y=>!decide (y=z)).length:=by
 have:=jmI z h
 rw[List.filter_append,List.length_append]
 omega
theorem jkP {zs:List Str}{μ:M}:biD .tuple false [jbL zs] μ=.ok (.tup (zs.map D.str)) μ:=nr rfl
theorem jtH (ns:List Int)(a:Nat)(ha:a≤1000)(μ:M):∃(c c1 m:Int) (zs:List Str) (r p o:Str),(0≤m∧m < 1999999973∧zs.length=11∧(∀z∈zs,Nm z)∧(∀z,3≤(zs.filter fun y=>!decide (y=z)).length)∧r∈zs∧p∈zs∧o∈zs)∧(∀ν:M,jaf .frz jb6.F [jeZ ns,.int ((a:Int)+1)] ν=.ok (.int c1) ν) ∧
  runs jan (jai.take 6) [some (jeZ ns),some (.int (a:Int)),none,none,none,none,none,none,none,none,none,none,none,none,none,none] μ=.ok (.nx (dS ns a c m zs (some (.str r)) (some (.str p)) (some (.str o)) none none none none none none none none)) μ:=by
 obtain⟨c,hc⟩:=jmM ns (a:Int) (by omega)
 obtain⟨c1,hc1⟩:=jmM ns ((a:Int)+1) (by omega)
 obtain⟨m,m0,m1,hm⟩:=jfz c 1 (by decide) (by decide) μ
 obtain⟨z4,⟨l4,n4,k4⟩,e4⟩:=jj8 c 4 (by decide) μ
 obtain⟨z8,⟨l8,n8,k8⟩,e8⟩:=jj8 c1 8 (by decide) μ
 have e4':jaf .frz jbz.F [.int c,.int 4] μ=.ok (jbL z4) μ:=e4
 have e8':jaf .frz jbz.F [.int c1,.int 8] μ=.ok (jbL z8) μ:=e8
 have hadd:jgQ .Add false (jbL z4) (jbL (z8.drop 1)) μ=.ok (jbL (z4++z8.drop 1)) μ:=by
  rw[jhn (by rw[List.length_map,List.length_map,List.length_drop];exact jat (by omega)),← List.map_append]
 have hlen:(z4++z8.drop 1).length=11:=by rw[List.length_append,List.length_drop];omega
 have hall:∀z∈z4++z8.drop 1,Nm z:=fun z hz=>by
  rcases List.mem_append.mp hz with q | q
  ·exact k4 z q
  ·exact k8 z (List.mem_of_mem_drop q)
 have h3:=fun z=>jyn (ws:=z8.drop 1) n4 l4 z
 generalize z4++z8.drop 1=zs at hadd hlen hall h3
 obtain⟨r,hr,er⟩:=je8 (xs:=zs) (i:=m / 7 % (zs.length:Int)) (by rw[hlen];omega) (by rw[hlen];omega) μ
 obtain⟨p,hp,ep⟩:=je8 (xs:=zs) (i:=m / 80 % (zs.length:Int)) (by rw[hlen];omega) (by rw[hlen];omega) μ
 obtain⟨o,ho,eo⟩:=je8 (xs:=zs) (i:=m / 900 % (zs.length:Int)) (by rw[hlen];omega) (by rw[hlen];omega) μ
 have hpos:(0:Int) < (zs.length:Int):=by omega
 refine⟨c,c1,m,zs,r,p,o,⟨m0,m1,hlen,hall,h3,hr,hp,ho⟩,hc1,?_⟩
 have hs:slD false (jbL z8) (some 1) none μ=.ok (jbL (z8.drop 1)) μ:=jnm 1 μ
 show runs jan [_,_,_,_,_,_] _ _=_
 walk_at"ev"
 rw[hc]
 walk_at"ev"
 rw[hm]
 walk_at"ev"
 rw[e4']
 walk_at"ev"
 rw[hc1]
 walk_at"ev"
 rw[e8']
 walk_at"ev"
 rw[hs]
 walk_at"ev"
 rw[hadd]
 walk_at"ev"
 rw[jfr]
 walk_at"ev"
 rw[jdp hpos]
 walk_at"ev"
 rw[er]
 walk_at"ev"
 rw[jfr]
 walk_at"ev"
 rw[jdp hpos]
 walk_at"ev"
 rw[ep]
 walk_at"ev"
 rw[jfr]
 walk_at"ev"
 rw[jdp hpos]
 walk_at"ev"
 rw[eo]
 walk_at"ev"
theorem juC (ns:List Int)(a:Nat)(c m:Int)(zs:List Str)(hz:zs.length≤100)(h3:∀z,3≤(zs.filter fun y=>!decide (y=z)).length)(r p o:Str)(ho:o∈zs)(μ:M):∃o':Str,(o'∈zs∧o'≠p) ∧
  runs jan ((jai.drop 6).take 1) (dS ns a c m zs (some (.str r)) (some (.str p)) (some (.str o)) none none none none none none none none) μ=.ok (.nx (dS ns a c m zs (some (.str r)) (some (.str p)) (some (.str o')) none none none none none none none none)) μ:=by
 by_cases e:o=p
 ·obtain⟨o',h1,h2⟩:=je8 (xs:=zs.filter fun y=>!decide (y=p)) (i:=0) (by decide) (by have:=h3 p;omega) μ
  have hm:=List.mem_filter.mp h1
  refine⟨o',⟨hm.1,by simpa using hm.2⟩,?_⟩
  have hq:=jxh ns a c m zs hz p (some (.str r)) (some (.str o)) none none none none none none none none μ
  show runs jan [_] _ _=_
  walk_at"ev"
  simp only[decide_eq_true e,if_true]
  walk_at"ev"
  rw[hq]
  walk_at"ev"
  rw[h2]
  walk_at"ev"
 ·refine⟨o,⟨ho,e⟩,?_⟩
  show runs jan [_] _ _=_
  walk_at"ev"
  simp only[decide_eq_false e,if_false,Bool.false_eq_true]
  walk_at"ev"
noncomputable def thn (l:List S):List S :=
 match l with
 |.ite _ a _ :: _=>a
 |_=>[]
theorem juE (ns:List Int)(a:Nat)(ha:a≤1000)(c c1 m:Int)(m0:0≤m)(zs:List Str)(hz:zs.length=11)(hn:∀z∈zs,Nm z)(h3:∀z,3≤(zs.filter fun y=>!decide (y=z)).length)(r p o:Str)(hr:r∈zs)(hp:p∈zs)(ho:o∈zs)(hop:o≠p)
  (hc1:∀ν:M,jaf .frz jb6.F [jeZ ns,.int ((a:Int)+1)] ν=.ok (.int c1) ν) (μ:M):∃x:Deed,x.Ok∧jgq (runs jan (jai.drop 7) (dS ns a c m zs (some (.str r)) (some (.str p)) (some (.str o)) none none none none none none none none) μ)=.ok x.dat μ:=by
 obtain⟨f,hf1,hf2⟩:=je8 (xs:=zs.filter fun y=>!decide (y=r)) (i:=m / 40 % 2) (by omega) (by have:=h3 r;omega) μ
 have hff:=List.mem_filter.mp hf1
 have hfr:f≠r:=by simpa using hff.2
 have hq:=jxw ns a c m zs (by omega) r (some (.str p)) (some (.str o)) none none none none none none none none μ
 obtain⟨k,k0,k1,hk⟩:=jfz c 2 (by decide) (by decide) μ
 obtain⟨d0,⟨d1,d2⟩,hd⟩:=jfS k c k0 μ
 obtain⟨n,n0,n1,hnn⟩:=jfz c1 3 (by decide) (by decide) μ
 obtain⟨q0,⟨q1,q2⟩,hqq⟩:=jfS n c1 n0 μ
 have hday:Num 0 (if d0 < 1000000000000 - 2 then d0 else 1000000000000 - 2):=by unfold Num;split <;> omega
 have hday2:(if d0 < 1000000000000 - 2 then d0 else 1000000000000 - 2)≤(999999999998:Int):=by split <;> omega
 have hpts:Num 1 (if q0 > 1 then q0 else 1):=by unfold Num;split <;> omega
 generalize hDay:(if d0 < 1000000000000 - 2 then d0 else 1000000000000 - 2)=day at hday hday2
 generalize hPts:(if q0 > 1 then q0 else 1)=pts at hpts
 obtain⟨ls,hls,els⟩:=jo5 ns (a+2) zs (by omega) hn μ
 have els':jaf .frz jaT.F [jeZ ns,.int ((a:Int)+2),jbL zs] μ=.ok (jec ls) μ:=els
 have h7:m % 7=0∨m % 7=1∨m % 7=2∨m % 7=3∨m % 7=4∨m % 7=5∨m % 7=6:=by omega
 have hw:∀(i:Nat) (w:Str),m % 7=(i:Int)→[Str.ofString "buy",Str.ofString "spend",Str.ofString "give",Str.ofString "change",Str.ofString "lend",Str.ofString "back",Str.ofString "fix"][i]?=some w→ixD (.lst [.str "buy",.str "spend",.str "give",.str "change",.str "lend",.str "back",.str "fix"]) (.int (m % 7)) μ=.ok (.str w) μ:=fun i w hi hiw=>by
  rw[hi]
  have e:atI ([Str.ofString "buy",Str.ofString "spend",Str.ofString "give",Str.ofString "change",Str.ofString "lend",Str.ofString "back",Str.ofString "fix"].map D.str) (i:Int)=some (.str w):=jdq (by rw[List.getElem?_map,hiw];rfl)
  show (match atI ([Str.ofString "buy",Str.ofString "spend",Str.ofString "give",Str.ofString "change",Str.ofString "lend",Str.ofString "back",Str.ofString "fix"].map D.str) (i:Int) with | some d=>Out.ok d μ | none=>.bad)=_
  rw[e]
 have pre:∀w:Str,ixD (.lst [.str "buy",.str "spend",.str "give",.str "change",.str "lend",.str "back",.str "fix"]) (.int (m % 7)) μ=.ok (.str w) μ→runs jan ((jai.drop 7).take 5) (dS ns a c m zs (some (.str r)) (some (.str p)) (some (.str o)) none none none none none none none none) μ=.ok (.nx (dS ns a c m zs (some (.str r)) (some (.str p)) (some (.str o)) (some (.str f)) (some (.int day)) (some (.int n)) (some (.int pts)) (some (.str w)) none none none)) μ:=fun w hw=>by
  show runs jan [_,_,_,_,_] _ _=_
  walk_at"ev"
  rw[hq]
  walk_at"ev"
  rw[hf2]
  walk_at"ev"
  rw[hk]
  walk_at"ev"
  rw[hd]
  walk_at"ev"
  rw[jpX,hDay]
  walk_at"ev"
  rw[hc1]
  walk_at"ev"
  rw[hnn]
  walk_at"ev"
  rw[hc1]
  walk_at"ev"
  rw[hqq]
  walk_at"ev"
  rw[jqk,hPts]
  walk_at"ev"
  rw[hw]
  walk_at"ev"
 have sp:∀w:Str,ixD (.lst [.str "buy",.str "spend",.str "give",.str "change",.str "lend",.str "back",.str "fix"]) (.int (m % 7)) μ=.ok (.str w) μ→runs jan (jai.drop 7) (dS ns a c m zs (some (.str r)) (some (.str p)) (some (.str o)) none none none none none none none none) μ=runs jan (jai.drop 12) (dS ns a c m zs (some (.str r)) (some (.str p)) (some (.str o)) (some (.str f)) (some (.int day)) (some (.int n)) (some (.int pts)) (some (.str w)) none none none) μ:=fun w hw=>by
  rw[show jai.drop 7=(jai.drop 7).take 5++jai.drop 12 from rfl,jfq,pre w hw,jcB]
 have rN:=hn r hr
 have pN:=hn p hp
 have oN:=hn o ho
 have fN:=hn f hff.1
 rcases h7 with h | h | h | h | h | h | h
 ·refine⟨.buy r day p ls,⟨rN,hday,pN,hls⟩,?_⟩
  rw[sp _ (hw 0 _ h rfl),show jgq (runs jan (jai.drop 12) (dS ns a c m zs (some (.str r)) (some (.str p)) (some (.str o)) (some (.str f)) (some (.int day)) (some (.int n)) (some (.int pts)) (some (.str "buy")) none none none) μ)=jgq (jp7 (runs jan (thn (jai.drop 12)) (dS ns a c m zs (some (.str r)) (some (.str p)) (some (.str o)) (some (.str f)) (some (.int day)) (some (.int n)) (some (.int pts)) (some (.str "buy")) none none none) μ) (runs jan (jai.drop 13))) from nr rfl]
  simp only[thn,jai,List.drop_succ_cons,List.drop_zero]
  walk_at"ev"
  rw[els']
  walk_at"ev"
  rfl
 ·have hu:=jxL ns a c m zs (by omega) (some (.str r)) (some (.str p)) (some (.str o)) (some (.str f)) (some (.int day)) (some (.int n)) (some (.int pts)) (some (.str "spend")) none none none μ
  have hs1:slD false (jbL (jcP zs)) (some (n / 7 % 3)) none μ=.ok (jbL ((jcP zs).drop (n / 7 % 3).toNat)) μ:=by
   have:=jnm (zs:=jcP zs) (n / 7 % 3).toNat μ
   rwa [Int.toNat_of_nonneg (by omega)]at this
  have hs2:slD false (jbL ((jcP zs).drop (n / 7 % 3).toNat)) none (some (n / 21 % 9)) μ=.ok (jbL (((jcP zs).drop (n / 7 % 3).toNat).take (n / 21 % 9).toNat)) μ:=by
   have:=jt8 (zs:=(jcP zs).drop (n / 7 % 3).toNat) (n / 21 % 9).toNat μ
   rwa [Int.toNat_of_nonneg (by omega)]at this
  have hsub:∀z∈((jcP zs).drop (n / 7 % 3).toNat).take (n / 21 % 9).toNat,Nm z:=fun z hz=>hn z (jkD zs z (List.mem_of_mem_drop (List.mem_of_mem_take hz)))
  have hnd:(((jcP zs).drop (n / 7 % 3).toNat).take (n / 21 % 9).toNat).Nodup:=((jh6 zs).sublist (List.drop_sublist _ _)).sublist (List.take_sublist _ _)
  have hle:(((jcP zs).drop (n / 7 % 3).toNat).take (n / 21 % 9).toNat).length≤8:=by
   rw[List.length_take]
   omega
  generalize ((jcP zs).drop (n / 7 % 3).toNat).take (n / 21 % 9).toNat=fs at hs2 hsub hnd hle
  refine⟨.spend r day p pts fs,⟨rN,hday,pN,hpts,hle,hnd,hsub⟩,?_⟩
  rw[sp _ (hw 1 _ h rfl),show jgq (runs jan (jai.drop 12) (dS ns a c m zs (some (.str r)) (some (.str p)) (some (.str o)) (some (.str f)) (some (.int day)) (some (.int n)) (some (.int pts)) (some (.str "spend")) none none none) μ)=jgq (jp7 (runs jan (thn (jai.drop 13)) (dS ns a c m zs (some (.str r)) (some (.str p)) (some (.str o)) (some (.str f)) (some (.int day)) (some (.int n)) (some (.int pts)) (some (.str "spend")) none none none) μ) (runs jan (jai.drop 14))) from nr rfl]
  simp only[thn,jai,List.drop_succ_cons,List.drop_zero]
  walk_at"ev"
  rw[hu]
  walk_at"ev"
  rw[hs1]
  walk_at"ev"
  rw[hs2]
  walk_at"ev"
  rw[jkP]
  walk_at"ev"
  rfl
 ·refine⟨.two "give" r day p o pts,⟨.inl rfl,rN,hday,pN,oN,hpts,hop⟩,?_⟩
  rw[sp _ (hw 2 _ h rfl)]
  exact nr rfl
 ·refine⟨.two "change" r day p o pts,⟨.inr rfl,rN,hday,pN,oN,hpts,hop⟩,?_⟩
  rw[sp _ (hw 3 _ h rfl)]
  exact nr rfl
 ·obtain⟨e,he,ee⟩:=jlz (xs:=[0,n % 50,n]) (i:=n / 50 % 3) (by omega) (by show _ < (3:Int);omega) μ
  have he0:0≤e:=by
   simp only[List.mem_cons,List.not_mem_nil,or_false]at he
   rcases he with rfl | rfl | rfl <;> omega
  simp only[List.map_cons,List.map_nil]at ee
  have hend:Num 0 (if day+1+e < 1000000000000 - 1 then day+1+e else 1000000000000 - 1)∧day < (if day+1+e < 1000000000000 - 1 then day+1+e else 1000000000000 - 1):=by
   unfold Num at hday ⊢
   split <;> omega
  refine⟨.lend r day p o pts (if day+1+e < 1000000000000 - 1 then day+1+e else 1000000000000 - 1),⟨rN,hday,pN,oN,hpts,hend.1,hop,hend.2⟩,?_⟩
  rw[sp _ (hw 4 _ h rfl),show jgq (runs jan (jai.drop 12) (dS ns a c m zs (some (.str r)) (some (.str p)) (some (.str o)) (some (.str f)) (some (.int day)) (some (.int n)) (some (.int pts)) (some (.str "lend")) none none none) μ)=jgq (jp7 (runs jan (thn (jai.drop 14)) (dS ns a c m zs (some (.str r)) (some (.str p)) (some (.str o)) (some (.str f)) (some (.int day)) (some (.int n)) (some (.int pts)) (some (.str "lend")) none none none) μ) (runs jan (jai.drop 15))) from nr rfl]
  simp only[thn,jai,List.drop_succ_cons,List.drop_zero]
  walk_at"ev"
  rw[ee]
  walk_at"ev"
  rw[jpX]
  walk_at"ev"
  rfl
 ·refine⟨.back r day f,⟨rN,hday,fN,hfr⟩,?_⟩
  rw[sp _ (hw 5 _ h rfl)]
  exact nr rfl
 ·refine⟨.fix r f ls,⟨rN,fN,hls,hfr⟩,?_⟩
  rw[sp _ (hw 6 _ h rfl),show jgq (runs jan (jai.drop 12) (dS ns a c m zs (some (.str r)) (some (.str p)) (some (.str o)) (some (.str f)) (some (.int day)) (some (.int n)) (some (.int pts)) (some (.str "fix")) none none none) μ)=jgq (jp7 (runs jan (thn (jai.drop 16)) (dS ns a c m zs (some (.str r)) (some (.str p)) (some (.str o)) (some (.str f)) (some (.int day)) (some (.int n)) (some (.int pts)) (some (.str "fix")) none none none) μ) (runs jan (jai.drop 17))) from nr rfl]
  simp only[thn,jai,List.drop_succ_cons,List.drop_zero]
  walk_at"ev"
  rw[els']
  walk_at"ev"
  rfl
theorem jr4 (ns:List Int)(a:Nat)(ha:a≤1000)(μ:M):∃x:Deed,x.Ok∧jaf .frz jco.F [jeZ ns,.int (a:Int)] μ=.ok x.dat μ:=by
 obtain⟨c,c1,m,zs,r,p,o,⟨m0,m1,hz,hn,h3,hr,hp,ho⟩,hc1,eA⟩:=jtH ns a ha μ
 obtain⟨o',⟨ho',hop⟩,eB⟩:=juC ns a c m zs (by omega) h3 r p o ho μ
 obtain⟨x,hx,eC⟩:=juE ns a ha c c1 m m0 zs hz hn h3 r p o' hr hp ho' hop hc1 μ
 refine⟨x,hx,jac (F:=je1) ?_ (jgR x)⟩
 unfold je1
 rw[jeW,if_pos (show [jeZ ns,D.int (a:Int)].length=2 from rfl),show jai=jai.take 6++((jai.drop 6).take 1++jai.drop 7) from rfl,jfq,show ([jeZ ns,D.int (a:Int)].map some++List.replicate 14 none)=[some (jeZ ns),some (.int (a:Int)),none,none,none,none,none,none,none,none,none,none,none,none,none,none] from rfl,eA,jcB,jfq,eB,jcB]
 exact eC
theorem jcE {ds:List D}{μ:M}:biD (.isT "tuple") false [.tup ds] μ=.ok (.bl true) μ:=nr rfl
theorem jrw {z:Str}{μ:M}:biD (.isT "str") false [.str z] μ=.ok (.bl true) μ:=nr rfl
theorem jsL {i:Int}{μ:M}:biD (.isT "int") false [.int i] μ=.ok (.bl true) μ:=nr rfl
theorem joX {i:Int}{μ:M}:biD (.isT "bool") false [.int i] μ=.ok (.bl false) μ:=nr rfl
theorem jaU {ds:List D}{μ:M}:biD .len false [.tup ds] μ=.ok (.int ds.length) μ:=nr rfl
theorem len_str {z:Str}{μ:M}(h:z.length≤sizeLine):biD .len false [.str z] μ=.ok (.int z.length) μ:=if_pos h
theorem jek {bs:List Bool}{μ:M}:biD .all false [.lst (bs.map D.bl)] μ=.ok (.bl (bs.all id)) μ:=nr (by
 have:jsH (bs.map D.bl)=some bs:=by
  induction bs with
  |nil=>rfl
  |cons b bs ih=>rw[List.map_cons];unfold jsH;rw[ih];rfl
 simp only[biD,jwv,jfl,this])
theorem le_str {x y:Str}{μ:M}:jeh .LtE (.str x) (.str y) μ=.ok (.bl (!decide (y.cps.toList < x.cps.toList))) μ:=nr rfl
theorem jmm (c:Nat):(!decide ([c] < (Str.ofString "a").cps.toList))=decide (97≤c)∧(!decide ((Str.ofString "z").cps.toList < [c]))=decide (c≤122):=by
 have ea:(Str.ofString "a").cps.toList=[97]:=by decide +kernel
 have ez:(Str.ofString "z").cps.toList=[122]:=by decide +kernel
 rw[ea,ez]
 have e1:([c] < [97]) ↔ c < 97:=by simp[List.cons_lt_cons_iff]
 have e2:([122] < [c]) ↔ 122 < c:=by simp[List.cons_lt_cons_iff]
 constructor
 ·rw[Bool.eq_iff_iff]
  simp[e1]
 ·rw[Bool.eq_iff_iff]
  simp[e2]
theorem jdZ (z:Str)(h:z.length≤1000)(μ:M):jaf .frz jaP.F [.str z] μ=.ok (.bl (jbT z)) μ:=by
 refine jac (F:=jdB) ?_ jaG
 have hq:(ev jga jee).v [some (.str z)] μ=.ok (.lst ((z.cps.toList.map fun c=>decide (97≤c) && decide (c≤122)).map D.bl)) μ:=by
  unfold jee
  rw[jbl (ds:=[.str z]) (xs:=z.cps.toList) (e:=fun c=>D.str ⟨#[c]⟩) (fun _=>true) (fun c=>D.bl (decide (97≤c) && decide (c≤122))) (by walk_at"ev") rfl (by
   have:z.cps.toList.length=z.length:=by simp[Str.length]
   rw[this]
   exact jat h) fun c hc=>⟨_,rfl,by walk_at"ev",fun _=>by
   walk_at"ev"
   rw[le_str]
   walk_at"ev"
   rw[(jmm c).1]
   by_cases e:97≤c
   ·simp only[decide_eq_true e,if_true]
    rw[le_str,(jmm c).2,Bool.true_and]
   ·simp only[decide_eq_false e,if_false,Bool.false_eq_true,Bool.false_and]⟩]
  rw[List.filter_eq_self.mpr fun _ _=>rfl,List.map_map]
  rfl
 unfold jdB jeD
 walk_at"ev"
 rw[jrw]
 walk_at"ev"
 rw[len_str (jat h),jgj]
 walk_at"ev"
 by_cases h1:1≤z.length
 ·simp only[show ((1:Int)≤(z.length:Int)) from by omega,decide_true,if_true]
  walk_at"ev"
  by_cases h2:z.length≤8
  ·simp only[show ((z.length:Int)≤8) from by omega,decide_true,if_true]
   walk_at"ev"
   rw[hq]
   walk_at"ev"
   rw[jek]
   walk_at"ev"
   unfold jbT
   rw[decide_eq_true h1,decide_eq_true h2,Bool.true_and,Bool.true_and,List.all_map]
   rfl
  ·simp only[show ¬ ((z.length:Int)≤8) from by omega,decide_false,if_false,Bool.false_eq_true]
   walk_at"ev"
   unfold jbT
   rw[decide_eq_false h2,Bool.false_and,Bool.and_false]
 ·simp only[show ¬ ((1:Int)≤(z.length:Int)) from by omega,decide_false,if_false,Bool.false_eq_true]
  walk_at"ev"
  unfold jbT
  rw[decide_eq_false h1,Bool.false_and]
theorem jv6 {z:Str}(h:Nm z):z.length≤1000:=by
 unfold Nm jbT at h
 simp only[Bool.and_eq_true,decide_eq_true_eq]at h
 omega
theorem jaS {z:Str}(h:Nm z)(μ:M):jaf .frz jaP.F [.str z] μ=.ok (.bl true) μ:=by
 rw[jdZ z (jv6 h),h]
theorem jc2 (i l:Int)(μ:M):jaf .frz jaL.F [.int i,.int l] μ=.ok (.bl (decide (l≤i))) μ:=by
 refine jac (F:=jcJ) ?_ jaG
 unfold jcJ jdj
 walk_at"ev"
 rw[jsL]
 walk_at"ev"
 rw[joX]
 walk_at"ev"
theorem jfa {p:Ln}(h:juG p)(μ:M):jaf .frz jbj.F [lnD p] μ=.ok (.bl true) μ:=by
 refine jac (F:=jbR) ?_ jaG
 have h1:jaf .frz ja8.F [lnD p,.int 2] μ=.ok (.bl true) μ:=by
  refine jac (F:=jbE) ?_ jaG
  unfold jbE jch lnD
  walk_at"ev"
  rw[jcE]
  walk_at"ev"
  rw[jaU]
  walk_at"ev"
  rfl
 have i0:ixD (lnD p) (.int 0) μ=.ok (.str p.1) μ:=nr rfl
 have i1:ixD (lnD p) (.int 1) μ=.ok (.int p.2) μ:=nr rfl
 unfold jbR jcR
 walk_at"ev"
 rw[h1]
 walk_at"ev"
 rw[i0]
 walk_at"ev"
 rw[jaS h.1]
 walk_at"ev"
 rw[i1]
 walk_at"ev"
 rw[jc2]
 walk_at"ev"
 rw[decide_eq_true h.2.1]
theorem jeL {n:Nat}:(List.replicate n true).all id=true:=by simp
theorem jgk {ls:List Ln}(h:jiT ls)(μ:M):jaf .frz jaQ.F [jec ls] μ=.ok (.bl true) μ:=by
 refine jac (F:=jbw) ?_ jaG
 obtain⟨h1,h2,h3⟩:=h
 have hq:(ev jdh jcf).v [some (jec ls)] μ=.ok (.lst ((ls.map fun _=>true).map D.bl)) μ:=by
  unfold jcf
  rw[jbl (ds:=[jec ls]) (xs:=ls) (e:=lnD) (fun _=>true) (fun _=>D.bl true) (by walk_at"ev") rfl (jat (by omega)) fun p hp=>⟨_,rfl,by walk_at"ev",fun _=>by
   walk_at"ev"
   rw[jfa (h3 p hp)]⟩]
  rw[List.filter_eq_self.mpr fun _ _=>rfl,List.map_map]
  rfl
 have hl:biD .len false [jec ls] μ=.ok (.int ls.length) μ:=by
  unfold jec
  rw[jaU,List.length_map]
 have ht:biD (.isT "tuple") false [jec ls] μ=.ok (.bl true) μ:=jcE
 unfold jbw jcr
 walk_at"ev"
 rw[ht]
 walk_at"ev"
 rw[hl,jbg]
 walk_at"ev"
 simp only[show ((1:Int)≤(ls.length:Int)) from by omega,show ((ls.length:Int)≤8) from by omega,decide_true,if_true]
 walk_at"ev"
 try simp only[show ((1:Int)≤(ls.length:Int)) from by omega,show ((ls.length:Int)≤8) from by omega,decide_true,if_true]
 walk_at"ev"
 rw[hq]
 walk_at"ev"
 rw[jek]
 walk_at"ev"
 rw[List.all_map]
 congr 2
 simp
theorem jiU {fs:List Str}(h:fs.length≤8)(hn:fs.Nodup)(hN:∀z∈fs,Nm z)(μ:M):jaf .frz jao.F [.tup (fs.map D.str)] μ=.ok (.bl true) μ:=by
 refine jac (F:=jaz) ?_ jaG
 have hq:(ev jbP ja5).v [some (.tup (fs.map D.str))] μ=.ok (.lst ((fs.map fun _=>true).map D.bl)) μ:=by
  unfold ja5
  rw[jbl (ds:=[.tup (fs.map D.str)]) (xs:=fs) (e:=D.str) (fun _=>true) (fun _=>D.bl true) (by walk_at"ev") rfl (jat (by omega)) fun p hp=>⟨_,rfl,by walk_at"ev",fun _=>by
   walk_at"ev"
   rw[jaS (hN p hp)]⟩]
  rw[List.filter_eq_self.mpr fun _ _=>rfl,List.map_map]
  rfl
 have hs:biD .lenSet false [.tup (fs.map D.str)] μ=.ok (.int fs.length) μ:=by
  simp only[biD,jfR,jeu,jdS,show fs.length≤1000 from by omega,if_true,jlL hn]
 have hu:jaf .frz jbi.F [.tup (fs.map D.str)] μ=.ok (.bl true) μ:=by
  refine jac (F:=jcx) ?_ jaG
  unfold jcx jcZ
  walk_at"ev"
  rw[hs]
  walk_at"ev"
  rw[jaU]
  walk_at"ev"
  simp
 unfold jaz ja1
 walk_at"ev"
 rw[jcE]
 walk_at"ev"
 rw[jaU,jbg]
 walk_at"ev"
 simp only[List.length_map,show ¬ ((8:Int) < (fs.length:Int)) from by omega,decide_false,if_false,Bool.false_eq_true]
 walk_at"ev"
 rw[hq]
 walk_at"ev"
 rw[jek]
 walk_at"ev"
 have:(fs.map fun _=>true).all id=true:=by simp
 simp only[this,if_true]
 rw[hu]
 walk_at"ev"
theorem jqd (p:Str) (h1:decide (p=Str.ofString "lines")=false) (h2:decide (p=Str.ofString "first")=false) (v:D) (μ:M) (b:Bool) (hp:(jbt p [("day",.int 0),("points",.int 1),("end",.int 0)]).isSome=false) (hv:jaf .frz jaP.F [v] μ=.ok (.bl b) μ):jaf .frz jab.F [.str p,v] μ=.ok (.bl b) μ:=by
 refine jac (F:=jau) ?_ jaG
 have hn:jaf .frz jaF.F [.str p] μ=.ok (.bl false) μ:=by
  refine jac (F:=ja2) ?_ jaG
  unfold ja2 jbI
  walk_at"ev"
  rw[jeH]
  walk_at"ev"
  rw[hp]
 unfold jau ja7
 walk_at"ev"
 simp only[h1,h2,if_false,Bool.false_eq_true]
 walk_at"ev"
 simp only[h1,h2,if_false,Bool.false_eq_true]
 walk_at"ev"
 rw[hn]
 walk_at"ev"
 rw[hv]
 walk_at"ev"
theorem jxq (p:Str) (h1:decide (p=Str.ofString "lines")=false) (h2:decide (p=Str.ofString "first")=false) (v l:Int) (μ:M) (hp:jbt p [("day",.int 0),("points",.int 1),("end",.int 0)]=some (.int l)):jaf .frz jab.F [.str p,.int v] μ=.ok (.bl (decide (l≤v))) μ:=by
 refine jac (F:=jau) ?_ jaG
 have hn:jaf .frz jaF.F [.str p] μ=.ok (.bl true) μ:=by
  refine jac (F:=ja2) ?_ jaG
  unfold ja2 jbI
  walk_at"ev"
  rw[jeH]
  walk_at"ev"
  rw[hp]
  rfl
 unfold jau ja7
 walk_at"ev"
 simp only[h1,h2,if_false,Bool.false_eq_true]
 walk_at"ev"
 simp only[h1,h2,if_false,Bool.false_eq_true]
 walk_at"ev"
 rw[hn]
 walk_at"ev"
 rw[jeH,jlk hp]
 walk_at"ev"
 rw[jc2]
 walk_at"ev"
theorem jeN {ls:List Ln}(h:jiT ls)(μ:M):jaf .frz jab.F [.str "lines",jec ls] μ=.ok (.bl true) μ:=by
 refine jac (F:=jau) ?_ jaG
 unfold jau ja7
 walk_at"ev"
 simp only[decide_true,if_true]
 walk_at"ev"
 rw[jgk h]
 walk_at"ev"
theorem jhR {fs:List Str}(h:fs.length≤8)(hn:fs.Nodup)(hN:∀z∈fs,Nm z)(μ:M):jaf .frz jab.F [.str "first",.tup (fs.map D.str)] μ=.ok (.bl true) μ:=by
 refine jac (F:=jau) ?_ jaG
 unfold jau ja7
 walk_at"ev"
 simp only[show decide (Str.ofString "first" = Str.ofString "lines")=false from by decide +kernel,if_false,Bool.false_eq_true]
 walk_at"ev"
 simp only[decide_true,if_true]
 walk_at"ev"
 rw[jiU h hn hN]
 walk_at"ev"
theorem jb2 {z:Str}(h:Nm z)(μ:M):jaf .frz jab.F [.str "ref",.str z] μ=.ok (.bl true) μ:=jqd _ (by decide +kernel) (by decide +kernel) _ μ _ (by decide +kernel) (jaS h μ)
theorem jbQ {z:Str}(h:Nm z)(μ:M):jaf .frz jab.F [.str "purse",.str z] μ=.ok (.bl true) μ:=jqd _ (by decide +kernel) (by decide +kernel) _ μ _ (by decide +kernel) (jaS h μ)
theorem jcS {z:Str}(h:Nm z)(μ:M):jaf .frz jab.F [.str "other",.str z] μ=.ok (.bl true) μ:=jqd _ (by decide +kernel) (by decide +kernel) _ μ _ (by decide +kernel) (jaS h μ)
theorem jh9 {z:Str}(h:Nm z)(μ:M):jaf .frz jab.F [.str "of",.str z] μ=.ok (.bl true) μ:=jqd _ (by decide +kernel) (by decide +kernel) _ μ _ (by decide +kernel) (jaS h μ)
theorem jcg {n:Int}(h:Num 0 n)(μ:M):jaf .frz jab.F [.str "day",.int n] μ=.ok (.bl true) μ:=by rw[jxq _ (by decide +kernel) (by decide +kernel) n 0 μ rfl,decide_eq_true h.1]
theorem jbX {n:Int}(h:Num 1 n)(μ:M):jaf .frz jab.F [.str "points",.int n] μ=.ok (.bl true) μ:=by rw[jxq _ (by decide +kernel) (by decide +kernel) n 1 μ rfl,decide_eq_true h.1]
theorem jhf {n:Int}(h:Num 0 n)(μ:M):jaf .frz jab.F [.str "end",.int n] μ=.ok (.bl true) μ:=by rw[jxq _ (by decide +kernel) (by decide +kernel) n 0 μ rfl,decide_eq_true h.1]
noncomputable def jcy:List (Str×D):=[("buy",(.tup [(.str "ref"),(.str "day"),(.str "purse"),(.str "lines")])),("spend",(.tup [(.str "ref"),(.str "day"),(.str "purse"),(.str "points"),(.str "first")])),("give",(.tup [(.str "ref"),(.str "day"),(.str "purse"),(.str "other"),(.str "points")])),("change",(.tup [(.str "ref"),(.str "day"),(.str "purse"),(.str "other"),(.str "points")])),("lend",(.tup [(.str "ref"),(.str "day"),(.str "purse"),(.str "other"),(.str "points"),(.str "end")])),("back",(.tup [(.str "ref"),(.str "day"),(.str "of")])),("fix",(.tup [(.str "ref"),(.str "of"),(.str "lines")]))]
theorem jmA:jhg.dat=some (.dct jcy):=rfl
theorem jfG:∀(qs:List Str) (vs:List D),jgz (qs.map D.str) vs=(qs.zip vs).map fun p=>D.tup [.str p.1,p.2]
 |[],vs=>by unfold jgz;rfl
 |q :: qs,[]=>by unfold jgz;rfl
 |q :: qs,v :: vs=>by
  rw[List.map_cons,List.zip_cons_cons,List.map_cons]
  unfold jgz
  rw[jfG qs vs]
theorem jfp {w:Str}{qs:List Str}(h:jbt w jcy=some (.tup (qs.map D.str)))(μ:M):jaf .frz jb1.F [.str w] μ=.ok (.tup (qs.map D.str)) μ:=by
 refine jac (F:=jc8) ?_ (jas (jcv (fun _=>jad) _))
 unfold jc8 jd3
 walk_at"ev"
 rw[jmA]
 walk_at"ev"
 rw[h]
 rfl
theorem ji6 {w:D}{vs:List D}(μ:M):slD false (.tup (w :: vs)) (some 1) none μ=.ok (.tup vs) μ:=by
 have hc:_L3.cutD (w :: vs) (some 1) none=vs:=jhr (ds:=w :: vs) 1
 show Out.ok (D.tup (_L3.cutD (w :: vs) (some 1) none)) μ=_
 rw[hc]
theorem jaI {w:D}{vs:List D}(μ:M):ixD (.tup (w :: vs)) (.int 0) μ=.ok w μ:=by
 have e:atI (w :: vs) ((0:Nat):Int)=some w:=jdq rfl
 show (match atI (w :: vs) (0:Int) with | some d=>Out.ok d μ | none=>.bad)=_
 rw[show ((0:Int))=((0:Nat):Int) from rfl,e]
theorem jiq {w:Str}{qs:List Str}{vs:List D}(h:jbt w jcy=some (.tup (qs.map D.str)))(h0:0 < qs.length)(hl:qs.length≤100)(hv:vs.length=qs.length)(μ:M)(ha:∀p∈qs.zip vs,jaf .frz jab.F [.str p.1,p.2] μ=.ok (.bl true) μ):jaf .frz jaw.F [.tup (.str w :: vs)] μ=.ok (.bl true) μ:=by
 refine jac (F:=jaR) ?_ jaG
 have hi:itD .zip [.tup (qs.map D.str),.tup vs] μ=some ((qs.zip vs).map fun p=>D.tup [.str p.1,p.2]):=by
  show some (jgz (qs.map D.str) vs)=_
  rw[jfG]
 have hq:(ev jce jbp).v [some (.tup (.str w :: vs)),some (.tup (qs.map D.str))] μ=.ok (.lst (((qs.zip vs).map fun _=>true).map D.bl)) μ:=by
  unfold jbp
  rw[jbl (ds:=[.tup (qs.map D.str),.tup vs]) (xs:=qs.zip vs) (e:=fun p=>D.tup [.str p.1,p.2]) (fun _=>true) (fun _=>D.bl true) (by
   walk_at"ev"
   rw[ji6]
   walk_at"ev") hi (by rw[List.length_zip];exact jat (by omega)) fun p hp=>⟨_,rfl,by walk_at"ev",fun _=>by
   walk_at"ev"
   rw[ha p hp]⟩]
  rw[List.filter_eq_self.mpr fun _ _=>rfl,List.map_map]
  rfl
 unfold jaR jbs
 walk_at"ev"
 rw[jcE]
 walk_at"ev"
 rw[jaU]
 walk_at"ev"
 simp only[show ¬ (((vs.length+1:Nat):Int)=0) from by omega,decide_false,if_false,Bool.false_eq_true]
 walk_at"ev"
 rw[jaI]
 walk_at"ev"
 rw[jfp h]
 walk_at"ev"
 rw[jaU]
 walk_at"ev"
 simp only[List.length_map,show ¬ ((qs.length:Int)=0) from by omega,decide_false,if_false,Bool.false_eq_true]
 walk_at"ev"
 rw[jaU]
 walk_at"ev"
 rw[jaU]
 walk_at"ev"
 simp only[List.length_map,List.length_cons,show (((vs.length+1:Nat):Int)=(qs.length:Int)+1) from by omega,decide_true,Bool.not_true,if_false,Bool.false_eq_true]
 walk_at"ev"
 rw[hq]
 walk_at"ev"
 rw[jek]
 walk_at"ev"
 congr 2
 simp
theorem jju {w:Str}{qs:List Str}{vs:List D}(h:jbt w jcy=some (.tup (qs.map D.str)))(hl:qs.length≤100)(hn:qs.Nodup)(hv:vs.length=qs.length)(hf:∀g,frzGs g vs=some vs)(μ:M):jaf .frz jbh.F [.tup (.str w :: vs)] μ=.ok (.dF (qs.map Sum.inr) vs) μ:=by
 refine jac (F:=jdf) ?_ (by show jb4 _ (.dF _ _)=_;unfold jb4;rw[hf];rfl)
 have hz:biD .dictZip false [.tup (qs.map D.str),.tup vs] μ=.ok (.dF (qs.map Sum.inr) vs) μ:=by
  simp only[biD,jfm,jeu,jdS,if_pos (show qs.length=vs.length∧qs.length≤1000∧qs.Nodup from ⟨hv.symm,by omega,hn⟩),Bool.false_eq_true,if_false]
 unfold jdf jdk
 walk_at"ev"
 rw[jaI]
 walk_at"ev"
 rw[jfp h]
 walk_at"ev"
 rw[ji6]
 walk_at"ev"
 rw[hz]
 walk_at"ev"
theorem jiB {k:Str}{ks:List Key}{vs:List D}{μ:M}:jeh .In (.str k) (.dF ks vs) μ=.ok (.bl (jc7 (.inr k) ks vs).isSome) μ:=nr rfl
theorem jj3 {k:Str}{ks:List Key}{vs:List D}{μ:M}:jeh .NotIn (.str k) (.dF ks vs) μ=.ok (.bl (!(jc7 (.inr k) ks vs).isSome)) μ:=nr rfl
theorem jel {k:Str}{ks:List Key}{vs:List D}{d:D}{μ:M}(h:jc7 (.inr k) ks vs=some d):ixD (.dF ks vs) (.str k) μ=.ok d μ:=by
 show jtm (.dF ks vs) (.inr k) μ=_
 unfold jtm
 simp only[jiC,h]
theorem jqN {ks:List Key} {vs:List D} (hO:jc7 (.inr "other") ks vs=none∨∃x y:Str,jc7 (.inr "other") ks vs=some (.str x)∧jc7 (.inr "purse") ks vs=some (.str y)∧x≠y)
  (hF:jc7 (.inr "of") ks vs=none∨∃x y:Str,jc7 (.inr "of") ks vs=some (.str x)∧jc7 (.inr "ref") ks vs=some (.str y)∧x≠y)
  (hE:jc7 (.inr "end") ks vs=none∨∃x y:Int,jc7 (.inr "end") ks vs=some (.int x)∧jc7 (.inr "day") ks vs=some (.int y)∧y < x) (μ:M):jaf .frz jaE.F [.dF ks vs] μ=.ok (.bl true) μ:=by
 refine jac (F:=ja9) ?_ jaG
 have c1:(ev jav (.and_ (.cmp .In (.cst (.str "other")) (.var 0)) (.cmp .Eq (.ix (.var 0) (.cst (.str "other"))) (.ix (.var 0) (.cst (.str "purse")))))).t [some (.dF ks vs)] μ=.ok false μ:=by
  walk_at"ev"
  rw[jiB]
  walk_at"ev"
  rcases hO with h | ⟨x,y,h1,h2,h3⟩
  ·rw[h]
   rfl
  ·rw[h1,jel h1]
   walk_at"ev"
   rw[jel h2]
   walk_at"ev"
   simp only[Option.isSome_some,if_true,decide_eq_false h3]
 have c2:(ev jav (.and_ (.cmp .In (.cst (.str "of")) (.var 0)) (.cmp .Eq (.ix (.var 0) (.cst (.str "of"))) (.ix (.var 0) (.cst (.str "ref")))))).t [some (.dF ks vs)] μ=.ok false μ:=by
  walk_at"ev"
  rw[jiB]
  walk_at"ev"
  rcases hF with h | ⟨x,y,h1,h2,h3⟩
  ·rw[h]
   rfl
  ·rw[h1,jel h1]
   walk_at"ev"
   rw[jel h2]
   walk_at"ev"
   simp only[Option.isSome_some,if_true,decide_eq_false h3]
 have c3:(ev jav (.or_ (.cmp .NotIn (.cst (.str "end")) (.var 0)) (.cmp .Gt (.ix (.var 0) (.cst (.str "end"))) (.ix (.var 0) (.cst (.str "day")))))).v [some (.dF ks vs)] μ=.ok (.bl true) μ:=by
  walk_at"ev"
  rw[jj3]
  walk_at"ev"
  rcases hE with h | ⟨x,y,h1,h2,h3⟩
  ·rw[h]
   rfl
  ·rw[h1,jel h1]
   walk_at"ev"
   rw[jel h2]
   walk_at"ev"
   simp only[Option.isSome_some,Bool.not_true,if_true,decide_eq_true h3]
 unfold ja9 jbZ
 rw[jeW,if_pos (show [D.dF ks vs].length=1 from rfl)]
 show jgq (runs jav _ [some (.dF ks vs)] μ)=_
 rw[jbJ,jdG,c1,jc,if_neg Bool.false_ne_true,jdg,jcB,jbJ,jdG,c2,jc,if_neg Bool.false_ne_true,jdg,jcB,jbJ,jiQ,c3]
 rfl
theorem jcH {w:Str}{qs:List Str}{vs:List D}(h:jbt w jcy=some (.tup (qs.map D.str)))(h0:0 < qs.length)(hl:qs.length≤100)(hn:qs.Nodup)(hv:vs.length=qs.length)(hf:∀g,frzGs g vs=some vs)(μ:M)
  (ha:∀p∈qs.zip vs,jaf .frz jab.F [.str p.1,p.2] μ=.ok (.bl true) μ)
  (hO:jc7 (.inr "other") (qs.map Sum.inr) vs=none∨∃x y:Str,jc7 (.inr "other") (qs.map Sum.inr) vs=some (.str x)∧jc7 (.inr "purse") (qs.map Sum.inr) vs=some (.str y)∧x≠y)
  (hF:jc7 (.inr "of") (qs.map Sum.inr) vs=none∨∃x y:Str,jc7 (.inr "of") (qs.map Sum.inr) vs=some (.str x)∧jc7 (.inr "ref") (qs.map Sum.inr) vs=some (.str y)∧x≠y)
  (hE:jc7 (.inr "end") (qs.map Sum.inr) vs=none∨∃x y:Int,jc7 (.inr "end") (qs.map Sum.inr) vs=some (.int x)∧jc7 (.inr "day") (qs.map Sum.inr) vs=some (.int y)∧y < x):jaf .frz jb.F [.tup (.str w :: vs)] μ=.ok (.bl true) μ:=by
 refine jac (F:=jc3) ?_ jaG
 unfold jc3 jc4
 walk_at"ev"
 rw[jiq h h0 hl hv μ ha]
 walk_at"ev"
 rw[jju h hl hn hv hf]
 walk_at"ev"
 rw[jqN hO hF hE]
 walk_at"ev"
theorem jd9 {P:Str×D→Prop}{qs:List Str}{vs:List D}(h:Paired (fun q v=>P (q,v)) qs vs):∀p∈qs.zip vs,P p:=by
 induction h with
 |nil=>intro p hp;cases hp
 |cons h t ih =>
  intro p hp
  rw[List.zip_cons_cons]at hp
  rcases List.mem_cons.mp hp with e | e
  ·rw[e];exact h
  ·exact ih p e
theorem jhF (x:Deed)(h:x.Ok)(μ:M):jaf .frz jb.F [x.dat] μ=.ok (.bl true) μ:=by
 have fr:∀{w:Str} {vs:List D},x.dat=.tup (.str w :: vs)→∀g,frzGs g vs=some vs:=fun {w vs} e g=>by
  have:=jgR (h:=g) x
  rw[e]at this
  unfold jb4 at this
  obtain⟨es,h1,h2⟩:=jb3 this
  unfold frzGs at h1
  split at h1
  ·rename_i a b ha hb
   cases h1
   cases h2
   exact hb
  ·cases h1
 cases x with
 |buy r d p ls =>
  obtain⟨h1,h2,h3,h4⟩:=h
  exact jcH (qs:=["ref","day","purse","lines"]) rfl (by decide) (by decide) (by decide +kernel) rfl (fr rfl) μ (jd9 (.cons (jb2 h1 μ) (.cons (jcg h2 μ) (.cons (jbQ h3 μ) (.cons (jeN h4 μ) .nil))))) (.inl rfl) (.inl rfl) (.inl rfl)
 |spend r d p n fs =>
  obtain⟨h1,h2,h3,h4,h5,h6,h7⟩:=h
  exact jcH (qs:=["ref","day","purse","points","first"]) rfl (by decide) (by decide) (by decide +kernel) rfl (fr rfl) μ (jd9 (.cons (jb2 h1 μ) (.cons (jcg h2 μ) (.cons (jbQ h3 μ) (.cons (jbX h4 μ) (.cons (jhR h5 h6 h7 μ) .nil)))))) (.inl rfl) (.inl rfl) (.inl rfl)
 |two w r d p o n =>
  obtain⟨h0,h1,h2,h3,h4,h5,h6⟩:=h
  have hl:jbt w jcy=some (.tup ([Str.ofString "ref",Str.ofString "day",Str.ofString "purse",Str.ofString "other",Str.ofString "points"].map D.str)):=by
   rcases h0 with rfl | rfl <;> rfl
  exact jcH hl (by decide) (by decide) (by decide +kernel) rfl (fr rfl) μ (jd9 (.cons (jb2 h1 μ) (.cons (jcg h2 μ) (.cons (jbQ h3 μ) (.cons (jcS h4 μ) (.cons (jbX h5 μ) .nil)))))) (.inr ⟨o,p,rfl,rfl,h6⟩) (.inl rfl) (.inl rfl)
 |lend r d p o n e =>
  obtain⟨h1,h2,h3,h4,h5,h6,h7,h8⟩:=h
  exact jcH (qs:=["ref","day","purse","other","points","end"]) rfl (by decide) (by decide) (by decide +kernel) rfl (fr rfl) μ (jd9 (.cons (jb2 h1 μ) (.cons (jcg h2 μ) (.cons (jbQ h3 μ) (.cons (jcS h4 μ) (.cons (jbX h5 μ) (.cons (jhf h6 μ) .nil))))))) (.inr ⟨o,p,rfl,rfl,h7⟩) (.inl rfl) (.inr ⟨e,d,rfl,rfl,h8⟩)
 |back r d f =>
  obtain⟨h1,h2,h3,h4⟩:=h
  exact jcH (qs:=["ref","day","of"]) rfl (by decide) (by decide) (by decide +kernel) rfl (fr rfl) μ (jd9 (.cons (jb2 h1 μ) (.cons (jcg h2 μ) (.cons (jh9 h3 μ) .nil)))) (.inl rfl) (.inr ⟨f,r,rfl,rfl,h4⟩) (.inl rfl)
 |fix r f ls =>
  obtain⟨h1,h2,h3,h4⟩:=h
  exact jcH (qs:=["ref","of","lines"]) rfl (by decide) (by decide) (by decide +kernel) rfl (fr rfl) μ (jd9 (.cons (jb2 h1 μ) (.cons (jh9 h2 μ) (.cons (jeN h3 μ) .nil)))) (.inl rfl) (.inr ⟨f,r,rfl,rfl,h4⟩) (.inl rfl)
noncomputable def Bad (d:D):Prop:=∀μ:M,jbn [d] μ=.exc (.str "BadDeed") μ
theorem jqn {d:D}{μ μ':M}{c:Str}(h:jiW jaB jbq [some d] μ=.exc (.str c) μ'):jbn [d] μ=.exc (.str c) μ':=by
 unfold jbn fnX
 rw[if_pos (show [d].length=1 from rfl)]
 show (match jiW jaB jbq [some d] μ with
  |.ok (.rt d) μ1=>Out.ok d μ1
  |.ok (.nx _) μ1=>.ok .non μ1
  |.ok _ _=>.bad
  |.exc x μ1=>.exc x μ1
  |.bad=>.bad)=_
 rw[h]
theorem jf1 {d:D}(h:∀μ,jaf .frz jaw.F [d] μ=.ok (.bl false) μ):Bad d:=fun μ=>by
 have c1:(ev jaB (.not_ (.call 0 .frz [(.var 0)]))).t [some d] μ=.ok true μ:=by
  walk_at"ev"
  rw[h]
  walk_at"ev"
 refine jqn ?_
 unfold jbq
 show (match (ev jaB (.not_ (.call 0 .frz [(.var 0)]))).t [some d] μ with
  |.ok true μ1=>_
  |.ok false μ1=>_
  |_=>_)=_
 rw[c1]
theorem ju9 {d q:D}(h:∀μ,jaf .frz jaw.F [d] μ=.ok (.bl true) μ)(h2:∀μ,jaf .frz jbh.F [d] μ=.ok q μ)(h3:∀μ,jaf .frz jaE.F [q] μ=.ok (.bl false) μ):Bad d:=fun μ=>by
 have c1:(ev jaB (.not_ (.call 0 .frz [(.var 0)]))).t [some d] μ=.ok false μ:=by
  walk_at"ev"
  rw[h]
  walk_at"ev"
 have c2:(ev jaB (.not_ (.call 1 .frz [(.call 2 .frz [(.var 0)])]))).t [some d] μ=.ok true μ:=by
  walk_at"ev"
  rw[h2]
  walk_at"ev"
  rw[h3]
  walk_at"ev"
 refine jqn ?_
 unfold jbq
 show (match (ev jaB (.not_ (.call 0 .frz [(.var 0)]))).t [some d] μ with
  |.ok true μ1=>_
  |.ok false μ1=>(match (ev jaB (.not_ (.call 1 .frz [(.call 2 .frz [(.var 0)])]))).t [some d] μ1 with
   |.ok true μ2=>_
   |.ok false μ2=>_
   |_=>_)
  |_=>_)=_
 rw[c1]
 dsimp only
 rw[c2]
theorem jl {w:Str}(h:jbt w jcy=none)(μ:M):jaf .frz jb1.F [.str w] μ=.ok (.tup []) μ:=by
 refine jac (F:=jc8) ?_ (jas jaN)
 unfold jc8 jd3
 walk_at"ev"
 rw[jmA]
 walk_at"ev"
 rw[h]
 rfl
theorem jkt {w:Str}{vs:List D}(h:jbt w jcy=none)(μ:M):jaf .frz jaw.F [.tup (.str w :: vs)] μ=.ok (.bl false) μ:=by
 refine jac (F:=jaR) ?_ jaG
 unfold jaR jbs
 walk_at"ev"
 rw[jcE]
 walk_at"ev"
 rw[jaU]
 walk_at"ev"
 simp only[List.length_cons,show ¬ (((vs.length+1:Nat):Int)=0) from by omega,decide_false,if_false,Bool.false_eq_true]
 walk_at"ev"
 rw[jaI]
 walk_at"ev"
 rw[jl h]
 walk_at"ev"
 rw[jaU]
 walk_at"ev"
 simp only[List.length_nil,show ((0:Nat):Int)=0 from rfl,decide_true,if_true]
 walk_at"ev"
theorem jq2 {w:Str}{qs:List Str}{vs:List D}(h:jbt w jcy=some (.tup (qs.map D.str)))(hv:vs.length≠qs.length)(μ:M):jaf .frz jaw.F [.tup (.str w :: vs)] μ=.ok (.bl false) μ:=by
 refine jac (F:=jaR) ?_ jaG
 unfold jaR jbs
 walk_at"ev"
 rw[jcE]
 walk_at"ev"
 rw[jaU]
 walk_at"ev"
 simp only[List.length_cons,show ¬ (((vs.length+1:Nat):Int)=0) from by omega,decide_false,if_false,Bool.false_eq_true]
 walk_at"ev"
 rw[jaI]
 walk_at"ev"
 rw[jfp h]
 walk_at"ev"
 rw[jaU]
 walk_at"ev"
 by_cases h0:(qs.length:Int)=0
 ·simp only[List.length_map,h0,decide_true,if_true]
  walk_at"ev"
 ·simp only[List.length_map,h0,decide_false,if_false,Bool.false_eq_true]
  walk_at"ev"
  rw[jaU]
  walk_at"ev"
  rw[jaU]
  walk_at"ev"
  simp only[List.length_map,List.length_cons,show ¬ (((vs.length+1:Nat):Int)=(qs.length:Int)+1) from by omega,decide_false,Bool.not_false,if_true]
  walk_at"ev"
theorem jqv {w:Str}{qs:List Str}{vs:List D}(b:Str×D→Bool)(h:jbt w jcy=some (.tup (qs.map D.str)))(h0:0 < qs.length)(hl:qs.length≤100)(hv:vs.length=qs.length)(μ:M)(ha:∀p∈qs.zip vs,jaf .frz jab.F [.str p.1,p.2] μ=.ok (.bl (b p)) μ) :
  jaf .frz jaw.F [.tup (.str w :: vs)] μ=.ok (.bl ((qs.zip vs).all b)) μ:=by
 refine jac (F:=jaR) ?_ jaG
 have hi:itD .zip [.tup (qs.map D.str),.tup vs] μ=some ((qs.zip vs).map fun p=>D.tup [.str p.1,p.2]):=by
  show some (jgz (qs.map D.str) vs)=_
  rw[jfG]
 have hq:(ev jce jbp).v [some (.tup (.str w :: vs)),some (.tup (qs.map D.str))] μ=.ok (.lst (((qs.zip vs).map b).map D.bl)) μ:=by
  unfold jbp
  rw[jbl (ds:=[.tup (qs.map D.str),.tup vs]) (xs:=qs.zip vs) (e:=fun p=>D.tup [.str p.1,p.2]) (fun _=>true) (fun p=>D.bl (b p)) (by
   walk_at"ev"
   rw[ji6]
   walk_at"ev") hi (by rw[List.length_zip];exact jat (by omega)) fun p hp=>⟨_,rfl,by walk_at"ev",fun _=>by
   walk_at"ev"
   rw[ha p hp]⟩]
  rw[List.filter_eq_self.mpr fun _ _=>rfl,List.map_map]
  rfl
 unfold jaR jbs
 walk_at"ev"
 rw[jcE]
 walk_at"ev"
 rw[jaU]
 walk_at"ev"
 simp only[List.length_cons,show ¬ (((vs.length+1:Nat):Int)=0) from by omega,decide_false,if_false,Bool.false_eq_true]
 walk_at"ev"
 rw[jaI]
 walk_at"ev"
 rw[jfp h]
 walk_at"ev"
 rw[jaU]
 walk_at"ev"
 simp only[List.length_map,show ¬ ((qs.length:Int)=0) from by omega,decide_false,if_false,Bool.false_eq_true]
 walk_at"ev"
 rw[jaU]
 walk_at"ev"
 rw[jaU]
 walk_at"ev"
 simp only[List.length_map,List.length_cons,show (((vs.length+1:Nat):Int)=(qs.length:Int)+1) from by omega,decide_true,Bool.not_true,if_false,Bool.false_eq_true]
 walk_at"ev"
 rw[hq]
 walk_at"ev"
 rw[jek]
 walk_at"ev"
 congr 2
 rw[List.all_map]
 rfl
theorem jmB {i:Int}{μ:M}:biD (.isT "str") false [.int i] μ=.ok (.bl false) μ:=nr rfl
theorem jp0 {μ:M}:biD (.isT "str") false [.non] μ=.ok (.bl false) μ:=nr rfl
theorem jqp {ds:List D}{μ:M}:biD (.isT "str") false [.tup ds] μ=.ok (.bl false) μ:=nr rfl
theorem jlS {z:Str}{μ:M}:biD (.isT "tuple") false [.str z] μ=.ok (.bl false) μ:=nr rfl
theorem jtP {i:Int}{μ:M}:biD (.isT "tuple") false [.int i] μ=.ok (.bl false) μ:=nr rfl
theorem jvk {μ:M}:biD (.isT "tuple") false [.non] μ=.ok (.bl false) μ:=nr rfl
theorem jqc {z:Str}{μ:M}:biD (.isT "int") false [.str z] μ=.ok (.bl false) μ:=nr rfl
theorem jpL {μ:M}:biD (.isT "int") false [.non] μ=.ok (.bl false) μ:=nr rfl
theorem jt1 {ds:List D}{μ:M}:biD (.isT "int") false [.tup ds] μ=.ok (.bl false) μ:=nr rfl
noncomputable def NoS (v:D):Prop:=∀μ:M,biD (.isT "str") false [v] μ=.ok (.bl false) μ
noncomputable def NoT (v:D):Prop:=∀μ:M,biD (.isT "tuple") false [v] μ=.ok (.bl false) μ
noncomputable def NoI (v:D):Prop:=∀μ:M,biD (.isT "int") false [v] μ=.ok (.bl false) μ
theorem jcp {v:D}(h:NoS v)(μ:M):jaf .frz jaP.F [v] μ=.ok (.bl false) μ:=by
 refine jac (F:=jdB) ?_ jaG
 unfold jdB jeD
 walk_at"ev"
 rw[h]
 walk_at"ev"
theorem jcw {v:D}{l:Int}(h:NoI v)(μ:M):jaf .frz jaL.F [v,.int l] μ=.ok (.bl false) μ:=by
 refine jac (F:=jcJ) ?_ jaG
 unfold jcJ jdj
 walk_at"ev"
 rw[h]
 walk_at"ev"
theorem jyE (p:Str) (h1:decide (p=Str.ofString "lines")=false) (h2:decide (p=Str.ofString "first")=false) (v:D) (l:Int) (b:Bool) (μ:M) (hp:jbt p [("day",.int 0),("points",.int 1),("end",.int 0)]=some (.int l)) (hv:jaf .frz jaL.F [v,.int l] μ=.ok (.bl b) μ):jaf .frz jab.F [.str p,v] μ=.ok (.bl b) μ:=by
 refine jac (F:=jau) ?_ jaG
 have hn:jaf .frz jaF.F [.str p] μ=.ok (.bl true) μ:=by
  refine jac (F:=ja2) ?_ jaG
  unfold ja2 jbI
  walk_at"ev"
  rw[jeH]
  walk_at"ev"
  rw[hp]
  rfl
 unfold jau ja7
 walk_at"ev"
 simp only[h1,h2,if_false,Bool.false_eq_true]
 walk_at"ev"
 simp only[h1,h2,if_false,Bool.false_eq_true]
 walk_at"ev"
 rw[hn]
 walk_at"ev"
 rw[jeH,jlk hp]
 walk_at"ev"
 rw[hv]
 walk_at"ev"
theorem jjS {v:D}{b:Bool}(μ:M)(hv:jaf .frz jaQ.F [v] μ=.ok (.bl b) μ):jaf .frz jab.F [.str "lines",v] μ=.ok (.bl b) μ:=by
 refine jac (F:=jau) ?_ jaG
 unfold jau ja7
 walk_at"ev"
 simp only[decide_true,if_true]
 walk_at"ev"
 rw[hv]
 walk_at"ev"
theorem jdm {v:D}{b:Bool}(μ:M)(hv:jaf .frz jao.F [v] μ=.ok (.bl b) μ):jaf .frz jab.F [.str "first",v] μ=.ok (.bl b) μ:=by
 refine jac (F:=jau) ?_ jaG
 unfold jau ja7
 walk_at"ev"
 simp only[show decide (Str.ofString "first" = Str.ofString "lines")=false from by decide +kernel,if_false,Bool.false_eq_true]
 walk_at"ev"
 simp only[decide_true,if_true]
 walk_at"ev"
 rw[hv]
 walk_at"ev"
theorem jnL {v:D}(h:NoT v)(μ:M):jaf .frz jaQ.F [v] μ=.ok (.bl false) μ:=by
 refine jac (F:=jbw) ?_ jaG
 unfold jbw jcr
 walk_at"ev"
 rw[h]
 walk_at"ev"
theorem jiw {ds:List D}(h:ds.length=0∨8 < ds.length)(μ:M):jaf .frz jaQ.F [.tup ds] μ=.ok (.bl false) μ:=by
 refine jac (F:=jbw) ?_ jaG
 unfold jbw jcr
 walk_at"ev"
 rw[jcE]
 walk_at"ev"
 rw[jaU,jbg]
 walk_at"ev"
 rcases h with h | h
 ·simp only[show ¬ ((1:Int)≤(ds.length:Int)) from by omega,decide_false,if_false,Bool.false_eq_true]
  walk_at"ev"
 ·simp only[show ((1:Int)≤(ds.length:Int)) from by omega,show ¬ ((ds.length:Int)≤8) from by omega,decide_true,decide_false,if_true]
  walk_at"ev"
theorem jmD {ds:List D}(b:D→Bool)(h1:1≤ds.length)(h2:ds.length≤8)(μ:M)(hb:∀d∈ds,jaf .frz jbj.F [d] μ=.ok (.bl (b d)) μ):jaf .frz jaQ.F [.tup ds] μ=.ok (.bl (ds.all b)) μ:=by
 refine jac (F:=jbw) ?_ jaG
 have hq:(ev jdh jcf).v [some (.tup ds)] μ=.ok (.lst ((ds.map b).map D.bl)) μ:=by
  unfold jcf
  rw[jbl (ds:=[.tup ds]) (xs:=ds) (e:=id) (fun _=>true) (fun d=>D.bl (b d)) (by walk_at"ev") (by show some ds=_;rw[List.map_id]) (jat (by omega)) fun p hp=>⟨_,rfl,by walk_at"ev",fun _=>by
   walk_at"ev"
   rw[show id p=p from rfl,hb p hp]⟩]
  rw[List.filter_eq_self.mpr fun _ _=>rfl,List.map_map]
  rfl
 unfold jbw jcr
 walk_at"ev"
 rw[jcE]
 walk_at"ev"
 rw[jaU,jbg]
 walk_at"ev"
 simp only[show ((1:Int)≤(ds.length:Int)) from by omega,show ((ds.length:Int)≤8) from by omega,decide_true,if_true]
 walk_at"ev"
 try simp only[show ((1:Int)≤(ds.length:Int)) from by omega,show ((ds.length:Int)≤8) from by omega,decide_true,if_true]
 walk_at"ev"
 rw[hq]
 walk_at"ev"
 rw[jek]
 walk_at"ev"
 rw[List.all_map]
 rfl
theorem juW {v:D}(h:NoT v)(μ:M):jaf .frz ja8.F [v,.int 2] μ=.ok (.bl false) μ:=by
 refine jac (F:=jbE) ?_ jaG
 unfold jbE jch
 walk_at"ev"
 rw[h]
 walk_at"ev"
theorem jmF {ds:List D}(μ:M):jaf .frz ja8.F [.tup ds,.int 2] μ=.ok (.bl (decide ((ds.length:Int)=2))) μ:=by
 refine jac (F:=jbE) ?_ jaG
 unfold jbE jch
 walk_at"ev"
 rw[jcE]
 walk_at"ev"
 rw[jaU]
 walk_at"ev"
theorem jso {v:D}(h:NoT v)(μ:M):jaf .frz jbj.F [v] μ=.ok (.bl false) μ:=by
 refine jac (F:=jbR) ?_ jaG
 unfold jbR jcR
 walk_at"ev"
 rw[juW h]
 walk_at"ev"
theorem jjI {ds:List D}(h:ds.length≠2)(μ:M):jaf .frz jbj.F [.tup ds] μ=.ok (.bl false) μ:=by
 refine jac (F:=jbR) ?_ jaG
 unfold jbR jcR
 walk_at"ev"
 rw[jmF,decide_eq_false (by omega)]
 walk_at"ev"
theorem jdH {x y:D}(h:∀μ,jaf .frz jaP.F [x] μ=.ok (.bl false) μ)(μ:M):jaf .frz jbj.F [.tup [x,y]] μ=.ok (.bl false) μ:=by
 refine jac (F:=jbR) ?_ jaG
 have i0:ixD (.tup [x,y]) (.int 0) μ=.ok x μ:=nr rfl
 unfold jbR jcR
 walk_at"ev"
 rw[jmF,decide_eq_true (by rfl)]
 walk_at"ev"
 rw[i0]
 walk_at"ev"
 rw[h]
 walk_at"ev"
theorem jgT {x y:D}(h:∀μ,jaf .frz jaP.F [x] μ=.ok (.bl true) μ)(h2:∀μ,jaf .frz jaL.F [y,.int 0] μ=.ok (.bl false) μ)(μ:M):jaf .frz jbj.F [.tup [x,y]] μ=.ok (.bl false) μ:=by
 refine jac (F:=jbR) ?_ jaG
 have i0:ixD (.tup [x,y]) (.int 0) μ=.ok x μ:=nr rfl
 have i1:ixD (.tup [x,y]) (.int 1) μ=.ok y μ:=nr rfl
 unfold jbR jcR
 walk_at"ev"
 rw[jmF,decide_eq_true (by rfl)]
 walk_at"ev"
 rw[i0]
 walk_at"ev"
 rw[h]
 walk_at"ev"
 rw[i1]
 walk_at"ev"
 rw[h2]
 walk_at"ev"
theorem jnA {v:D}(h:NoT v)(μ:M):jaf .frz jao.F [v] μ=.ok (.bl false) μ:=by
 refine jac (F:=jaz) ?_ jaG
 unfold jaz ja1
 walk_at"ev"
 rw[h]
 walk_at"ev"
theorem jrL {ds:List D}(h:8 < ds.length)(μ:M):jaf .frz jao.F [.tup ds] μ=.ok (.bl false) μ:=by
 refine jac (F:=jaz) ?_ jaG
 unfold jaz ja1
 walk_at"ev"
 rw[jcE]
 walk_at"ev"
 rw[jaU,jbg]
 walk_at"ev"
 simp only[show ((8:Int) < (ds.length:Int)) from by omega,decide_true,if_true]
 walk_at"ev"
theorem jjg {ds:List D}(b:D→Bool)(h:ds.length≤8)(μ:M)(hb:∀d∈ds,jaf .frz jaP.F [d] μ=.ok (.bl (b d)) μ)(u:Bool)(hu:ds.all b=true→jaf .frz jbi.F [.tup ds] μ=.ok (.bl u) μ) :
  jaf .frz jao.F [.tup ds] μ=.ok (.bl (if ds.all b then u else false)) μ:=by
 refine jac (F:=jaz) ?_ jaG
 have hq:(ev jbP ja5).v [some (.tup ds)] μ=.ok (.lst ((ds.map b).map D.bl)) μ:=by
  unfold ja5
  rw[jbl (ds:=[.tup ds]) (xs:=ds) (e:=id) (fun _=>true) (fun d=>D.bl (b d)) (by walk_at"ev") (by show some ds=_;rw[List.map_id]) (jat (by omega)) fun p hp=>⟨_,rfl,by walk_at"ev",fun _=>by
   walk_at"ev"
   rw[show id p=p from rfl,hb p hp]⟩]
  rw[List.filter_eq_self.mpr fun _ _=>rfl,List.map_map]
  rfl
 unfold jaz ja1
 walk_at"ev"
 rw[jcE]
 walk_at"ev"
 rw[jaU,jbg]
 walk_at"ev"
 simp only[show ¬ ((8:Int) < (ds.length:Int)) from by omega,decide_false,if_false,Bool.false_eq_true]
 walk_at"ev"
 rw[hq]
 walk_at"ev"
 rw[jek]
 walk_at"ev"
 have e:(ds.map b).all id=ds.all b:=by rw[List.all_map];rfl
 rw[e]
 cases hd:ds.all b with
 |false =>
  simp only[Bool.false_eq_true,if_false]
  walk_at"ev"
 |true =>
  simp only[if_true]
  rw[hu hd]
  walk_at"ev"
theorem jdK {xs:List D}{i:Int}(h0:0≤i)(h1:i < xs.length)(μ:M):∃d∈xs,ixD (.lst xs) (.int i) μ=.ok d μ:=by
 have hi:i.toNat < xs.length:=by omega
 refine⟨xs[i.toNat],List.getElem_mem hi,?_⟩
 have e:atI xs i=some xs[i.toNat]:=by
  have:=jdq (xs:=xs) (j:=i.toNat) (List.getElem?_eq_getElem hi)
  rwa [show ((i.toNat:Nat):Int)=i from by omega]at this
 show (match atI xs i with | some d=>Out.ok d μ | none=>.bad)=_
 rw[e]
theorem jqJ {xs:List D}{i:Int}(h0:0≤i)(h1:i < xs.length)(μ:M):∃d∈xs,ixD (.tup xs) (.int i) μ=.ok d μ:=by
 have hi:i.toNat < xs.length:=by omega
 refine⟨xs[i.toNat],List.getElem_mem hi,?_⟩
 have e:atI xs i=some xs[i.toNat]:=by
  have:=jdq (xs:=xs) (j:=i.toNat) (List.getElem?_eq_getElem hi)
  rwa [show ((i.toNat:Nat):Int)=i from by omega]at this
 show (match atI xs i with | some d=>Out.ok d μ | none=>.bad)=_
 rw[e]
structure DV (w:Str) (qs:List Str) (vs:List D):Prop where
 lk:jbt w jcy=some (.tup (qs.map D.str))
 h0:0 < qs.length
 hl:qs.length≤100
 nd:qs.Nodup
 len:vs.length=qs.length
 fr:∀g,frzGs g vs=some vs
 val:∀p∈qs.zip vs,∀μ,jaf .frz jab.F [.str p.1,p.2] μ=.ok (.bl true) μ
theorem jvv {w q:Str}{qs:List Str}{vs:List D}{k:Nat}{v:D}(V:DV w qs vs)(hq:qs[k]?=some q)(hv:∀μ,jaf .frz jab.F [.str q,v] μ=.ok (.bl false) μ):Bad (.tup (.str w :: vs.set k v)):=by
 have hk:k < qs.length:=(List.getElem?_eq_some_iff.mp hq).1
 have hkv:k < vs.length:=by rw[V.len];exact hk
 have key:∀(p:Str×D),p∈qs.zip (vs.set k v)→(p.1=q∧p.2=v)∨(p.1≠q∧p∈qs.zip vs):=fun p hp=>by
  obtain⟨i,hi⟩:=List.mem_iff_getElem?.mp hp
  obtain⟨h1,h2⟩:=List.getElem?_zip_eq_some.mp hi
  by_cases e:i=k
  ·subst e
   rw[hq]at h1
   rw[List.getElem?_set_self hkv]at h2
   exact .inl ⟨(Option.some.inj h1).symm,(Option.some.inj h2).symm⟩
  ·rw[List.getElem?_set_ne (Ne.symm e)]at h2
   refine .inr ⟨fun z=>e ?_,List.mem_iff_getElem?.mpr ⟨i,List.getElem?_zip_eq_some.mpr ⟨h1,h2⟩⟩⟩
   rw[z]at h1
   exact jfv V.nd h1 hq
 refine jf1 fun μ=>?_
 have hall:(qs.zip (vs.set k v)).all (fun p=>decide (p.1≠q))=false:=by
  rw[List.all_eq_false]
  refine⟨(q,v),List.mem_iff_getElem?.mpr ⟨k,List.getElem?_zip_eq_some.mpr ⟨hq,List.getElem?_set_self hkv⟩⟩,?_⟩
  simp
 rw[jqv (fun p=>decide (p.1≠q)) V.lk V.h0 V.hl (by rw[List.length_set];exact V.len) μ fun p hp=>?_,hall]
 rcases key p hp with ⟨h1,h2⟩ | ⟨h1,h2⟩
 ·rw[h1,h2,hv μ,decide_eq_false (fun z=>z rfl)]
 ·rw[V.val p h2 μ,decide_eq_true h1]
theorem jo9 {w:Str}{vs:List D}(h:jbt w jcy=none):Bad (.tup (.str w :: vs)):=jf1 fun μ=>jkt h μ
theorem jlI {w:Str}{qs:List Str}{vs us:List D}(V:DV w qs vs)(h:us.length≠vs.length):Bad (.tup (.str w :: us)):=jf1 fun μ=>jq2 V.lk (by rw[← V.len];exact h) μ
theorem jge {ds:List D}(k:Nat)(μ:M):slD false (.tup ds) none (some (k:Int)) μ=.ok (.tup (ds.take k)) μ:=by
 show Out.ok (D.tup (_L3.cutD ds none (some (k:Int)))) μ=_
 rw[jpI]
theorem jlx {ds:List D}(k:Nat)(μ:M):slD false (.tup ds) (some (k:Int)) none μ=.ok (.tup (ds.drop k)) μ:=by
 show Out.ok (D.tup (_L3.cutD ds (some (k:Int)) none)) μ=_
 rw[jhr]
theorem jef {xs ys:List D}(h:xs.length+ys.length≤1000)(μ:M):jgQ .Add false (.tup xs) (.tup ys) μ=.ok (.tup (xs++ys)) μ:=by
 refine if_pos ?_
 rw[sizeLine_eq];omega
theorem jgI {ds:List D}{k:Nat}{v:D}(hk:k < ds.length)(hl:ds.length≤200)(hf:∀g,frzGs g (ds.set k v)=some (ds.set k v))(μ:M):jaf .frz jbr.F [.tup ds,.int (k:Int),v] μ=.ok (.tup (ds.set k v)) μ:=by
 refine jac (F:=jfH) ?_ (jas (hf _))
 unfold jfH jfQ
 walk_at"ev"
 rw[jge]
 walk_at"ev"
 rw[jef (by rw[List.length_take];simp only[List.length_cons,List.length_nil];omega)]
 walk_at"ev"
 rw[show ((k:Int)+1)=((k+1:Nat):Int) from by omega,jlx]
 walk_at"ev"
 rw[jef (by rw[List.length_append,List.length_take,List.length_drop];simp only[List.length_cons,List.length_nil];omega)]
 walk_at"ev"
 congr 2
 rw[List.append_assoc,List.set_eq_take_append_cons_drop,if_pos hk]
 rfl
theorem jjc {g:Nat→Option D}{v:D}(hv:jb4 g v=some v):∀{ds:List D} (k:Nat),frzGs g ds=some ds→frzGs g (ds.set k v)=some (ds.set k v)
 |[],_,h=>h
 |d :: ds,0,h=>by
  unfold frzGs at h
  split at h
  ·rename_i a b h1 h2
   cases h
   exact jaa hv h2
  ·cases h
 |d :: ds,k+1,h=>by
  unfold frzGs at h
  split at h
  ·rename_i a b h1 h2
   cases h
   exact jaa h1 (jjc hv k h2)
  ·cases h
noncomputable def jwm (k:Str)(n m:Int):List D:=[.tup [.str k],.tup [.str k,.int n,.int 1],.tup [.str k,.int (-1 - m % 1000000000)],.tup [.str k,.str "5"],.tup [.str "Tea",.int n],.tup [.str "",.int n],.str k,.tup [.int n,.str k],.tup [.str k,.non],.tup [.non,.int n],.tup [.tup [.str "t",.str "e"],.int n]]
theorem jtE {ls:List Ln}{μ:M}:biD .len false [jec ls] μ=.ok (.int ls.length) μ:=by
 unfold jec
 rw[jaU,List.length_map]
theorem jwG {ls:List Ln}{a:Nat}(h:a < ls.length)(μ:M):ixD (jec ls) (.int (a:Int)) μ=.ok (lnD ls[a]) μ:=by
 have e:atI (ls.map lnD) (a:Int)=some (lnD ls[a]):=jdq (by rw[List.getElem?_map,List.getElem?_eq_getElem h];rfl)
 show (match atI (ls.map lnD) (a:Int) with | some d=>Out.ok d μ | none=>.bad)=_
 rw[e]
theorem jhn {xs ys:List D}(h:xs.length+ys.length≤1000)(μ:M):jgQ .Add false (.lst xs) (.lst ys) μ=.ok (.lst (xs++ys)) μ:=by
 refine if_pos ?_
 rw[sizeLine_eq];omega
theorem joV {ds:List D}{n:Int}(h1:1 < n)(h2:n < 1000)(h3:ds≠[])(h4:ds.length≤1000)(μ:M):jgQ .Mult false (.tup ds) (.int n) μ=.ok (.tup (List.replicate n.toNat ds).flatten) μ:=if_pos ⟨h1,h2,h3,h4⟩
theorem jf4 {z:Str}(h:z.length≤1000)(hb:jbT z=false)(μ:M):jaf .frz jaP.F [.str z] μ=.ok (.bl false) μ:=by
 rw[jdZ z h,hb]
theorem jrP {k:Str}{n m:Int}(hk:Nm k)(hm:0≤m){d:D}(h:d∈jwm k n m):(∀μ,jaf .frz jbj.F [d] μ=.ok (.bl false) μ)∧∀g,jb4 g d=some d:=by
 unfold jwm at h
 rcases List.mem_cons.mp h with rfl | h
 ·exact⟨jjI (by show 1≠2;decide),fun g=>jas (jaa jad jaN)⟩
 rcases List.mem_cons.mp h with rfl | h
 ·exact⟨jjI (by show 3≠2;decide),fun g=>jas (jaa jad (jaa jaX (jaa jaX jaN)))⟩
 rcases List.mem_cons.mp h with rfl | h
 ·refine⟨jgT (jaS hk) fun μ=>?_,fun g=>jas (jaa jad (jaa jaX jaN))⟩
  rw[jc2,decide_eq_false (by omega)]
 rcases List.mem_cons.mp h with rfl | h
 ·exact⟨jgT (jaS hk) (jcw fun _=>jqc),fun g=>jas (jaa jad (jaa jad jaN))⟩
 rcases List.mem_cons.mp h with rfl | h
 ·exact⟨jdH (jf4 (by decide +kernel) (by decide +kernel)),fun g=>jas (jaa jad (jaa jaX jaN))⟩
 rcases List.mem_cons.mp h with rfl | h
 ·exact⟨jdH (jf4 (by decide +kernel) (by decide +kernel)),fun g=>jas (jaa jad (jaa jaX jaN))⟩
 rcases List.mem_cons.mp h with rfl | h
 ·exact⟨jso fun _=>jlS,fun g=>jad⟩
 rcases List.mem_cons.mp h with rfl | h
 ·exact⟨jdH (jcp fun _=>jmB),fun g=>jas (jaa jaX (jaa jad jaN))⟩
 rcases List.mem_cons.mp h with rfl | h
 ·exact⟨jgT (jaS hk) (jcw fun _=>jpL),fun g=>jas (jaa jad (jaa jeQ jaN))⟩
 rcases List.mem_cons.mp h with rfl | h
 ·exact⟨jdH (jcp fun _=>jp0),fun g=>jas (jaa jeQ (jaa jaX jaN))⟩
 rcases List.mem_cons.mp h with rfl | h
 ·exact⟨jdH (jcp fun _=>jqp),fun g=>jas (jaa (jas (jaa jad (jaa jad jaN))) (jaa jaX jaN))⟩
 cases h
theorem jmL {ls:List Ln}(h:jiT ls){a:Nat}(ha:a < ls.length){d:D}(hd:∀μ,jaf .frz jbj.F [d] μ=.ok (.bl false) μ)(μ:M):jaf .frz jaQ.F [.tup ((ls.map lnD).set a d)] μ=.ok (.bl false) μ:=by
 classical
 obtain⟨h1,h2,h3⟩:=h
 have hl:((ls.map lnD).set a d).length=ls.length:=by rw[List.length_set,List.length_map]
 rw[jmD (fun x=>decide (x≠d)) (by omega) (by omega) μ fun x hx=>?_]
 ·have:((ls.map lnD).set a d).all (fun x=>decide (x≠d))=false:=by
   rw[List.all_eq_false]
   exact⟨d,List.mem_iff_getElem?.mpr ⟨a,List.getElem?_set_self (by rw[List.length_map];exact ha)⟩,by simp⟩
  rw[this]
 ·by_cases e:x=d
  ·rw[e,hd μ,decide_eq_false (fun z=>z rfl)]
  ·rw[decide_eq_true e]
   rcases List.mem_or_eq_of_mem_set hx with hx | hx
   ·obtain⟨p,hp,rfl⟩:=List.mem_map.mp hx
    exact jfa (h3 p hp) μ
   ·exact absurd hx e
theorem jiI (ls:List Ln)(h:jiT ls)(m:Int)(h0:0≤m)(μ:M):∃d,jaf .frz jaK.F [jec ls,.int m] μ=.ok d μ∧(∀g,jb4 g d=some d)∧(∀μ,jaf .frz jaQ.F [d] μ=.ok (.bl false) μ):=by
 obtain⟨h1,h2,h3⟩:=h
 have ha:((m / 10) % (ls.length:Int)).toNat < ls.length:=by
  have:=Int.emod_nonneg (m / 10) (b:=(ls.length:Int)) (by omega)
  have:=Int.emod_lt_of_pos (m / 10) (b:=(ls.length:Int)) (by omega)
  omega
 have hz:((m / 10) % (ls.length:Int))=(((m / 10) % (ls.length:Int)).toNat:Int):=by
  have:=Int.emod_nonneg (m / 10) (b:=(ls.length:Int)) (by omega)
  omega
 generalize hA:((m / 10) % (ls.length:Int)).toNat=a at ha hz
 have key:∃d,jbC [jec ls,.int m] μ=.ok d μ∧(∀g,jb4 g d=some d)∧(∀μ,jaf .frz jaQ.F [d] μ=.ok (.bl false) μ):=by
  unfold jbC jb9
  walk_at"ev"
  rw[jtE]
  walk_at"ev"
  rw[jdp (by omega),hz]
  walk_at"ev"
  rw[jwG ha]
  walk_at"ev"
  rw[show jxG (.tp [3,4]) [some (jec ls),some (.int m),some (.int (a:Int)),none,none,none] (lnD ls[a]) μ=.ok (.nx [some (jec ls),some (.int m),some (.int (a:Int)),some (.str ls[a].1),some (.int ls[a].2),none]) μ from nr rfl]
  walk_at"ev"
  rw[jhn (by simp only[List.length_cons,List.length_nil];omega)]
  walk_at"ev"
  by_cases h11:m % 13=11
  ·simp only[h11,decide_true,if_true]
   walk_at"ev"
   exact⟨.tup [],rfl,fun g=>jas jaN,jiw (.inl rfl)⟩
  ·simp only[decide_eq_false h11,if_false,Bool.false_eq_true]
   walk_at"ev"
   by_cases h12:m % 13=12
   ·simp only[h12,decide_true,if_true]
    walk_at"ev"
    obtain⟨rs,hr,hrl⟩:∃rs:List Ln,jgQ .Mult false (jec ls) (.int 9) μ=.ok (.tup (rs.map lnD)) μ∧rs.length=9 * ls.length:=by
     refine⟨(List.replicate 9 ls).flatten,?_,len_rep ls 9⟩
     unfold jec
     rw[joV (by omega) (by omega) (fun z=>by have:=congrArg List.length z;rw[List.length_map]at this;simp only[List.length_nil]at this;omega) (by rw[List.length_map];omega)]
     rw[List.map_flatten,List.map_replicate]
     rfl
    rw[hr]
    walk_at"ev"
    rw[show (9:Int)=((9:Nat):Int) from rfl,jge]
    walk_at"ev"
    refine⟨_,rfl,fun g=>jas ?_,jiw (.inr ?_)⟩
    ·rw[← List.map_take]
     exact jcv jm0 _
    ·rw[List.length_take,List.length_map,hrl]
     omega
   ·simp only[decide_eq_false h12,if_false,Bool.false_eq_true]
    walk_at"ev"
    obtain⟨d,hd,e⟩:=jdK (xs:=jwm ls[a].1 ls[a].2 m) (i:=m % 13) (by omega) (by show m % 13 < 11;omega) μ
    obtain⟨hb,hf⟩:=jrP (h3 _ (List.getElem_mem ha)).1 h0 hd
    unfold jwm at e
    rw[show slD false (jec ls) none (some (a:Int)) μ=.ok (.tup ((ls.map lnD).take a)) μ from jge a μ]
    walk_at"ev"
    rw[e]
    walk_at"ev"
    rw[jef (by rw[List.length_take,List.length_map];simp only[List.length_cons,List.length_nil];omega)]
    walk_at"ev"
    rw[show slD false (jec ls) (some ((a:Int)+1)) none μ=.ok (.tup ((ls.map lnD).drop (a+1))) μ from jlx (a+1) μ]
    walk_at"ev"
    rw[jef (by rw[List.length_append,List.length_take,List.length_drop,List.length_map];simp only[List.length_cons,List.length_nil];omega)]
    walk_at"ev"
    have es:(ls.map lnD).take a++[d]++(ls.map lnD).drop (a+1)=(ls.map lnD).set a d:=by
     rw[List.append_assoc,List.set_eq_take_append_cons_drop,if_pos (by rw[List.length_map];exact ha)]
     rfl
    refine⟨_,rfl,fun g=>?_,?_⟩
    ·rw[es]
     exact jas (jjc (hf g) a (jcv jm0 ls))
    ·rw[es]
     exact jmL ⟨h1,h2,h3⟩ ha hb
 obtain⟨d,e,f,g⟩:=key
 exact⟨d,jac (F:=jbC) e (f _),f,g⟩
theorem js9 (x:Str)(zs:List Str)(μ:M):jeh .In (.str x) (.tup (zs.map D.str)) μ=.ok (.bl (decide (x∈zs))) μ:=nr (by
 show (match inD μ (.str x) (.tup (zs.map D.str)) with | some b=>Out.ok (D.bl b) μ | none=>.bad)=_
 have e:inD μ (.str x) (.tup (zs.map D.str))=jsl (.str x) (zs.map D.str):=rfl
 rw[e,jfT])
theorem jjG {ks:List Key} {vs:List D} {x:Str} (h1:jc7 (.inr "other") ks vs=some (.str x)) (h2:jc7 (.inr "purse") ks vs=some (.str x)) (μ:M):jaf .frz jaE.F [.dF ks vs] μ=.ok (.bl false) μ:=by
 refine jac (F:=ja9) ?_ jaG
 have c1:(ev jav (.and_ (.cmp .In (.cst (.str "other")) (.var 0)) (.cmp .Eq (.ix (.var 0) (.cst (.str "other"))) (.ix (.var 0) (.cst (.str "purse")))))).t [some (.dF ks vs)] μ=.ok true μ:=by
  walk_at"ev"
  rw[jiB]
  walk_at"ev"
  rw[h1,jel h1]
  walk_at"ev"
  rw[jel h2]
  walk_at"ev"
  simp
 unfold ja9 jbZ
 rw[jeW,if_pos (show [D.dF ks vs].length=1 from rfl)]
 show jgq (runs jav _ [some (.dF ks vs)] μ)=_
 rw[jbJ,jdG,c1,jc,if_pos rfl]
 rfl
theorem jkZ {ks:List Key} {vs:List D} {x:Str} (h0:jc7 (.inr "other") ks vs=none) (h1:jc7 (.inr "of") ks vs=some (.str x)) (h2:jc7 (.inr "ref") ks vs=some (.str x)) (μ:M):jaf .frz jaE.F [.dF ks vs] μ=.ok (.bl false) μ:=by
 refine jac (F:=ja9) ?_ jaG
 have c1:(ev jav (.and_ (.cmp .In (.cst (.str "other")) (.var 0)) (.cmp .Eq (.ix (.var 0) (.cst (.str "other"))) (.ix (.var 0) (.cst (.str "purse")))))).t [some (.dF ks vs)] μ=.ok false μ:=by
  walk_at"ev"
  rw[jiB]
  walk_at"ev"
  rw[h0]
  rfl
 have c2:(ev jav (.and_ (.cmp .In (.cst (.str "of")) (.var 0)) (.cmp .Eq (.ix (.var 0) (.cst (.str "of"))) (.ix (.var 0) (.cst (.str "ref")))))).t [some (.dF ks vs)] μ=.ok true μ:=by
  walk_at"ev"
  rw[jiB]
  walk_at"ev"
  rw[h1,jel h1]
  walk_at"ev"
  rw[jel h2]
  walk_at"ev"
  simp
 unfold ja9 jbZ
 rw[jeW,if_pos (show [D.dF ks vs].length=1 from rfl)]
 show jgq (runs jav _ [some (.dF ks vs)] μ)=_
 rw[jbJ,jdG,c1,jc,if_neg Bool.false_ne_true,jdg,jcB,jbJ,jdG,c2,jc,if_pos rfl]
 rfl
theorem jvF {ks:List Key} {vs:List D} {x y:Str} {e d:Int} (h1:jc7 (.inr "other") ks vs=some (.str x)) (h2:jc7 (.inr "purse") ks vs=some (.str y)) (h3:x≠y) (h4:jc7 (.inr "of") ks vs=none) (h5:jc7 (.inr "end") ks vs=some (.int e)) (h6:jc7 (.inr "day") ks vs=some (.int d)) (h7:e≤d) (μ:M) :
  jaf .frz jaE.F [.dF ks vs] μ=.ok (.bl false) μ:=by
 refine jac (F:=ja9) ?_ jaG
 have c1:(ev jav (.and_ (.cmp .In (.cst (.str "other")) (.var 0)) (.cmp .Eq (.ix (.var 0) (.cst (.str "other"))) (.ix (.var 0) (.cst (.str "purse")))))).t [some (.dF ks vs)] μ=.ok false μ:=by
  walk_at"ev"
  rw[jiB]
  walk_at"ev"
  rw[h1,jel h1]
  walk_at"ev"
  rw[jel h2]
  walk_at"ev"
  simp only[Option.isSome_some,if_true,decide_eq_false h3]
 have c2:(ev jav (.and_ (.cmp .In (.cst (.str "of")) (.var 0)) (.cmp .Eq (.ix (.var 0) (.cst (.str "of"))) (.ix (.var 0) (.cst (.str "ref")))))).t [some (.dF ks vs)] μ=.ok false μ:=by
  walk_at"ev"
  rw[jiB]
  walk_at"ev"
  rw[h4]
  rfl
 have c3:(ev jav (.or_ (.cmp .NotIn (.cst (.str "end")) (.var 0)) (.cmp .Gt (.ix (.var 0) (.cst (.str "end"))) (.ix (.var 0) (.cst (.str "day")))))).v [some (.dF ks vs)] μ=.ok (.bl false) μ:=by
  walk_at"ev"
  rw[jj3]
  walk_at"ev"
  rw[h5,jel h5]
  walk_at"ev"
  rw[jel h6]
  walk_at"ev"
  simp only[Option.isSome_some,Bool.not_true,if_false,Bool.false_eq_true,decide_eq_false (show ¬ d < e from by omega)]
  simp
 unfold ja9 jbZ
 rw[jeW,if_pos (show [D.dF ks vs].length=1 from rfl)]
 show jgq (runs jav _ [some (.dF ks vs)] μ)=_
 rw[jbJ,jdG,c1,jc,if_neg Bool.false_ne_true,jdg,jcB,jbJ,jdG,c2,jc,if_neg Bool.false_ne_true,jdg,jcB,jbJ,jiQ,c3]
 rfl
theorem jjL {w:Str}{qs:List Str}{vs:List D}(V:DV w qs vs)(h:∀μ,jaf .frz jaE.F [.dF (qs.map Sum.inr) vs] μ=.ok (.bl false) μ):Bad (.tup (.str w :: vs)) :=
 ju9 (fun μ=>jiq V.lk V.h0 V.hl V.len μ fun p hp=>V.val p hp μ) (fun μ=>jju V.lk V.hl V.nd V.len V.fr μ) h
theorem jgm {x:Deed}{w:Str}{qs:List Str}{vs:List D}(e:x.dat=.tup (.str w :: vs))(lk:jbt w jcy=some (.tup (qs.map D.str)))(h0:0 < qs.length)(hl:qs.length≤100)(nd:qs.Nodup)(hp:Paired (fun q v=>∀μ,jaf .frz jab.F [.str q,v] μ=.ok (.bl true) μ) qs vs):DV w qs vs :=
 ⟨lk,h0,hl,nd,hp.length.symm,(fun g=>by
  have:=jgR (h:=g) x
  rw[e]at this
  unfold jb4 at this
  obtain⟨es,h1,h2⟩:=jb3 this
  unfold frzGs at h1
  split at h1
  ·rename_i a b ha hb
   cases h1
   cases h2
   exact hb
  ·cases h1),fun p hm μ=>jd9 (P:=fun p=>∀μ,jaf .frz jab.F [.str p.1,p.2] μ=.ok (.bl true) μ) hp p hm μ⟩
theorem jpT {r p:Str}{d:Int}{ls:List Ln}(h:(Deed.buy r d p ls).Ok):DV "buy" ["ref","day","purse","lines"] [.str r,.int d,.str p,jec ls]:=by
 obtain⟨h1,h2,h3,h4⟩:=h
 exact jgm (x:=.buy r d p ls) rfl rfl (by decide) (by decide) (by decide +kernel) (.cons (jb2 h1) (.cons (jcg h2) (.cons (jbQ h3) (.cons (jeN h4) .nil))))
theorem jjC {r p:Str}{d n:Int}{fs:List Str}(h:(Deed.spend r d p n fs).Ok):DV "spend" ["ref","day","purse","points","first"] [.str r,.int d,.str p,.int n,.tup (fs.map D.str)]:=by
 obtain⟨h1,h2,h3,h4,h5,h6,h7⟩:=h
 exact jgm (x:=.spend r d p n fs) rfl rfl (by decide) (by decide) (by decide +kernel) (.cons (jb2 h1) (.cons (jcg h2) (.cons (jbQ h3) (.cons (jbX h4) (.cons (jhR h5 h6 h7) .nil)))))
theorem jpK {w r p o:Str}{d n:Int}(h:(Deed.two w r d p o n).Ok):DV w ["ref","day","purse","other","points"] [.str r,.int d,.str p,.str o,.int n]:=by
 obtain⟨h0,h1,h2,h3,h4,h5,h6⟩:=h
 have hl:jbt w jcy=some (.tup ([Str.ofString "ref",Str.ofString "day",Str.ofString "purse",Str.ofString "other",Str.ofString "points"].map D.str)):=by
  rcases h0 with rfl | rfl <;> rfl
 exact jgm (x:=.two w r d p o n) rfl hl (by decide) (by decide) (by decide +kernel) (.cons (jb2 h1) (.cons (jcg h2) (.cons (jbQ h3) (.cons (jcS h4) (.cons (jbX h5) .nil)))))
theorem jl3 {r p o:Str}{d n e:Int}(h:(Deed.lend r d p o n e).Ok):DV "lend" ["ref","day","purse","other","points","end"] [.str r,.int d,.str p,.str o,.int n,.int e]:=by
 obtain⟨h1,h2,h3,h4,h5,h6,h7,h8⟩:=h
 exact jgm (x:=.lend r d p o n e) rfl rfl (by decide) (by decide) (by decide +kernel) (.cons (jb2 h1) (.cons (jcg h2) (.cons (jbQ h3) (.cons (jcS h4) (.cons (jbX h5) (.cons (jhf h6) .nil))))))
theorem jlE {r f:Str}{d:Int}(h:(Deed.back r d f).Ok):DV "back" ["ref","day","of"] [.str r,.int d,.str f]:=by
 obtain⟨h1,h2,h3,h4⟩:=h
 exact jgm (x:=.back r d f) rfl rfl (by decide) (by decide) (by decide +kernel) (.cons (jb2 h1) (.cons (jcg h2) (.cons (jh9 h3) .nil)))
theorem jp9 {r f:Str}{ls:List Ln}(h:(Deed.fix r f ls).Ok):DV "fix" ["ref","of","lines"] [.str r,.str f,jec ls]:=by
 obtain⟨h1,h2,h3,h4⟩:=h
 exact jgm (x:=.fix r f ls) rfl rfl (by decide) (by decide) (by decide +kernel) (.cons (jb2 h1) (.cons (jh9 h2) (.cons (jeN h3) .nil)))
theorem jdi {w q:Str}{qs:List Str}{vs:List D}{k:Nat}{v:D}(V:DV w qs vs)(hq:qs[k]?=some q)(hv:∀μ,jaf .frz jab.F [.str q,v] μ=.ok (.bl false) μ)(hf:∀g,jb4 g v=some v)(μ:M) :
  ∃d,jaf .frz jbr.F [.tup (.str w :: vs),.int ((k+1:Nat):Int),v] μ=.ok d μ∧(∀g,jb4 g d=some d)∧Bad d:=by
 have hk:k < qs.length:=(List.getElem?_eq_some_iff.mp hq).1
 have fr:∀g,frzGs g ((.str w :: vs).set (k+1) v)=some ((.str w :: vs).set (k+1) v):=fun g=>jjc (hf g) (k+1) (jaa jad (V.fr g))
 exact⟨_,jgI (by rw[List.length_cons,V.len];omega) (by rw[List.length_cons,V.len];have:=V.hl;omega) fr μ,fun g=>jas (fr g),jvv V hq hv⟩
theorem jhy:decide ((Str.ofString "spend")=Str.ofString "lend")=false:=by decide +kernel
theorem jhO:decide ((Str.ofString "spend")=Str.ofString "back")=false:=by decide +kernel
theorem jdI:decide ((Str.ofString "lend")=Str.ofString "spend")=false:=by decide +kernel
theorem jiZ:decide ((Str.ofString "lend")=Str.ofString "back")=false:=by decide +kernel
theorem jhx:decide ((Str.ofString "back")=Str.ofString "spend")=false:=by decide +kernel
theorem jev (w:Str)(μ:M):jeh .In (.str w) (.tup [.str "buy",.str "fix"]) μ=.ok (.bl (decide (w∈[Str.ofString "buy",Str.ofString "fix"]))) μ:=js9 w [Str.ofString "buy",Str.ofString "fix"] μ
theorem jwA {ds:List D}{k:Nat}{d:D}(h:ds[k]?=some d)(μ:M):ixD (.tup ds) (.int (k:Int)) μ=.ok d μ:=by
 have e:atI ds (k:Int)=some d:=jdq h
 show (match atI ds (k:Int) with | some d=>Out.ok d μ | none=>.bad)=_
 rw[e]
theorem jh7 {w:Str} {qs:List Str} {vs:List D} {ls:List Ln} {k:Nat} (V:DV w qs vs) (hw:decide (w∈[Str.ofString "buy",Str.ofString "fix"])=true) (hq:qs[k]?=some "lines") (hv:vs[k]?=some (jec ls)) (hl:vs.length=k+1) (L:jiT ls) (m:Int) (h0:0≤m) (μ:M) :
  ∃d,jar [.tup (.str w :: vs),.int m] μ=.ok d μ∧(∀g,jb4 g d=some d)∧Bad d:=by
 unfold jar jbd
 walk_at"ev"
 rw[jaI]
 walk_at"ev"
 rw[jev,hw]
 walk_at"ev"
 rw[jaU]
 walk_at"ev"
 have e1:((vs.length+1:Nat):Int) - 1=((k+1:Nat):Int):=by rw[hl];omega
 try rw[List.length_cons]
 rw[e1]
 by_cases h3:m % 3=0
 ·simp only[h3,decide_true,if_true]
  walk_at"ev"
  obtain⟨d,e,f,b⟩:=jdi V hq (fun μ=>jjS μ (jnL (v:=.str "tea") (fun _=>jlS) μ)) (fun g=>jad) μ
  rw[e]
  walk_at"ev"
  exact⟨d,rfl,f,b⟩
 ·simp only[decide_eq_false h3,if_false,Bool.false_eq_true]
  walk_at"ev"
  rw[jwA (ds:=.str w :: vs) (k:=k+1) (by rw[List.getElem?_cons_succ];exact hv)]
  walk_at"ev"
  obtain⟨u,e,f,b⟩:=jiI ls L (m / 3) (by omega) μ
  rw[e]
  walk_at"ev"
  obtain⟨d,e,f,b⟩:=jdi V hq (fun μ=>jjS μ (b μ)) f μ
  rw[e]
  walk_at"ev"
  exact⟨d,rfl,f,b⟩
theorem jeU {q:Str} {l:Int} {v:D} (h1:decide (q=Str.ofString "lines")=false) (h2:decide (q=Str.ofString "first")=false) (hp:jbt q [("day",.int 0),("points",.int 1),("end",.int 0)]=some (.int l)) (hv:∀μ,jaf .frz jaL.F [v,.int l] μ=.ok (.bl false) μ) (μ:M):jaf .frz jab.F [.str q,v] μ=.ok (.bl false) μ :=
 jyE q h1 h2 v l false μ hp (hv μ)
theorem jde {l i:Int}{z:Str}(hi:i < l){v:D}(h:v=.int i∨v=.str z∨v=.non∨v=.tup []):(∀μ,jaf .frz jaL.F [v,.int l] μ=.ok (.bl false) μ)∧∀g,jb4 g v=some v:=by
 rcases h with rfl | rfl | rfl | rfl
 ·exact⟨fun μ=>by rw[jc2,decide_eq_false (by omega)],fun g=>jaX⟩
 ·exact⟨jcw fun _=>jqc,fun g=>jad⟩
 ·exact⟨jcw fun _=>jpL,fun g=>jeQ⟩
 ·exact⟨jcw fun _=>jt1,fun g=>jas jaN⟩
theorem je7 (m:Int)(h0:0≤m)(μ:M):∃v,ixD (.lst [.int 0,.int (-1 - m % 1000000000),.str "5",.non]) (.int (m / 3 % 4)) μ=.ok v μ∧(∀μ,jaf .frz jab.F [.str "points",v] μ=.ok (.bl false) μ)∧∀g,jb4 g v=some v:=by
 obtain⟨v,hv,e⟩:=jdK (xs:=[.int 0,.int (-1 - m % 1000000000),.str "5",.non]) (i:=m / 3 % 4) (by omega) (by show m / 3 % 4 < 4;omega) μ
 refine⟨v,e,?_⟩
 rcases List.mem_cons.mp hv with rfl | hv
 ·obtain⟨a,b⟩:=jde (l:=1) (i:=0) (z:="") (by omega) (.inl rfl)
  exact⟨jeU (by decide +kernel) (by decide +kernel) rfl a,b⟩
 rcases List.mem_cons.mp hv with rfl | hv
 ·obtain⟨a,b⟩:=jde (l:=1) (i:=-1 - m % 1000000000) (z:="") (by omega) (.inl rfl)
  exact⟨jeU (by decide +kernel) (by decide +kernel) rfl a,b⟩
 rcases List.mem_cons.mp hv with rfl | hv
 ·obtain⟨a,b⟩:=jde (l:=1) (i:=0) (z:="5") (by omega) (.inr (.inl rfl))
  exact⟨jeU (by decide +kernel) (by decide +kernel) rfl a,b⟩
 rcases List.mem_cons.mp hv with rfl | hv
 ·obtain⟨a,b⟩:=jde (l:=1) (i:=0) (z:="") (by omega) (.inr (.inr (.inl rfl)))
  exact⟨jeU (by decide +kernel) (by decide +kernel) rfl a,b⟩
 cases hv
theorem jjm {b:Bool}{μ:M}:biD .int false [.bl b] μ=.ok (.int (if b then 1 else 0)) μ:=nr (by cases b <;> rfl)
theorem jpC {r f:Str}{d:Int}(h:(Deed.back r d f).Ok)(m:Int)(h0:0≤m)(μ:M):∃x,jar [(Deed.back r d f).dat,.int m] μ=.ok x μ∧(∀g,jb4 g x=some x)∧Bad x:=by
 have V:=jlE h
 obtain⟨h1,h2,h3,h4⟩:=h
 have V':DV "back" ["ref","day","of"] [.str r,.int d,.str r]:=jgm (x:=.back r d r) rfl rfl (by decide) (by decide) (by decide +kernel) (.cons (jb2 h1) (.cons (jcg h2) (.cons (jh9 h1) .nil)))
 unfold Deed.dat
 unfold jar jbd
 walk_at"ev"
 rw[jaI]
 walk_at"ev"
 rw[jev,show decide (Str.ofString "back"∈[Str.ofString "buy",Str.ofString "fix"])=false from by decide +kernel]
 walk_at"ev"
 rw[jaI]
 walk_at"ev"
 simp only[jhx,if_false,Bool.false_eq_true]
 walk_at"ev"
 rw[jaI]
 walk_at"ev"
 simp only[decide_true,if_true]
 walk_at"ev"
 rw[show ixD (.tup [.str "back",.str r,.int d,.str f]) (.int 1) μ=.ok (.str r) μ from nr rfl]
 walk_at"ev"
 have e:=jgI (ds:=[.str "back",.str r,.int d,.str f]) (k:=3) (v:=.str r) (by show 3 < 4;decide) (by show 4≤200;decide) (fun g=>jaa jad (V'.fr g)) μ
 rw[show (3:Int)=((3:Nat):Int) from rfl,e]
 walk_at"ev"
 exact⟨_,rfl,fun g=>jas (jaa jad (V'.fr g)),jjL V' (jkZ rfl rfl rfl)⟩
theorem jq3 {w r p o:Str}{d n:Int}(h:(Deed.two w r d p o n).Ok)(m:Int)(h0:0≤m)(μ:M):∃x,jar [(Deed.two w r d p o n).dat,.int m] μ=.ok x μ∧(∀g,jb4 g x=some x)∧Bad x:=by
 have V:=jpK h
 obtain⟨hw,h1,h2,h3,h4,h5,h6⟩:=h
 have V':DV w ["ref","day","purse","other","points"] [.str r,.int d,.str p,.str p,.int n] :=
  jgm (x:=.two w r d p p n) rfl V.lk (by decide) (by decide) (by decide +kernel) (.cons (jb2 h1) (.cons (jcg h2) (.cons (jbQ h3) (.cons (jcS h3) (.cons (jbX h5) .nil)))))
 have n1:decide (w∈[Str.ofString "buy",Str.ofString "fix"])=false:=by rcases hw with rfl | rfl <;> decide +kernel
 have n2:decide (w=Str.ofString "spend")=false:=by rcases hw with rfl | rfl <;> decide +kernel
 have n3:decide (w=Str.ofString "back")=false:=by rcases hw with rfl | rfl <;> decide +kernel
 have n4:decide (w=Str.ofString "lend")=false:=by rcases hw with rfl | rfl <;> decide +kernel
 unfold Deed.dat
 unfold jar jbd
 walk_at"ev"
 rw[jaI]
 walk_at"ev"
 rw[jev,n1]
 walk_at"ev"
 rw[jaI]
 walk_at"ev"
 simp only[n2,if_false,Bool.false_eq_true]
 walk_at"ev"
 rw[jaI]
 walk_at"ev"
 simp only[n3,if_false,Bool.false_eq_true]
 walk_at"ev"
 rw[jaI]
 walk_at"ev"
 simp only[n2,Bool.not_false,if_true]
 walk_at"ev"
 by_cases h3':m % 3=0
 ·simp only[h3',decide_true,if_true]
  walk_at"ev"
  rw[show ixD (.tup [.str w,.str r,.int d,.str p,.str o,.int n]) (.int 3) μ=.ok (.str p) μ from nr rfl]
  walk_at"ev"
  have e:=jgI (ds:=[.str w,.str r,.int d,.str p,.str o,.int n]) (k:=4) (v:=.str p) (by show 4 < 6;decide) (by show 6≤200;decide) (fun g=>jaa jad (V'.fr g)) μ
  rw[show (4:Int)=((4:Nat):Int) from rfl,e]
  walk_at"ev"
  exact⟨_,rfl,fun g=>jas (jaa jad (V'.fr g)),jjL V' (jjG rfl rfl)⟩
 ·simp only[decide_eq_false h3',if_false,Bool.false_eq_true]
  walk_at"ev"
  rw[jaI]
  walk_at"ev"
  simp only[n4,if_false,Bool.false_eq_true]
  walk_at"ev"
  rw[jaI]
  walk_at"ev"
  simp only[n2,Bool.not_false]
  rw[jjm]
  walk_at"ev"
  obtain⟨v,e,hv,hf⟩:=je7 m h0 μ
  rw[e]
  walk_at"ev"
  obtain⟨x,e,f,b⟩:=jdi V (k:=4) (q:="points") rfl hv hf μ
  rw[show ((4:Int)+1)=((4+1:Nat):Int) from rfl,e]
  walk_at"ev"
  exact⟨x,rfl,f,b⟩
theorem jph {r p o:Str}{d n e:Int}(h:(Deed.lend r d p o n e).Ok)(m:Int)(h0:0≤m)(μ:M):∃x,jar [(Deed.lend r d p o n e).dat,.int m] μ=.ok x μ∧(∀g,jb4 g x=some x)∧Bad x:=by
 have V:=jl3 h
 obtain⟨h1,h2,h3,h4,h5,h6,h7,h8⟩:=h
 have V':DV "lend" ["ref","day","purse","other","points","end"] [.str r,.int d,.str p,.str p,.int n,.int e] :=
  jgm (x:=.lend r d p p n e) rfl rfl (by decide) (by decide) (by decide +kernel) (.cons (jb2 h1) (.cons (jcg h2) (.cons (jbQ h3) (.cons (jcS h3) (.cons (jbX h5) (.cons (jhf h6) .nil))))))
 unfold Deed.dat
 unfold jar jbd
 walk_at"ev"
 rw[jaI]
 walk_at"ev"
 rw[jev,show decide (Str.ofString "lend"∈[Str.ofString "buy",Str.ofString "fix"])=false from by decide +kernel]
 walk_at"ev"
 rw[jaI]
 walk_at"ev"
 simp only[jdI,if_false,Bool.false_eq_true]
 walk_at"ev"
 rw[jaI]
 walk_at"ev"
 simp only[jiZ,if_false,Bool.false_eq_true]
 walk_at"ev"
 rw[jaI]
 walk_at"ev"
 simp only[jdI,Bool.not_false,if_true]
 walk_at"ev"
 by_cases h3':m % 3=0
 ·simp only[h3',decide_true,if_true]
  walk_at"ev"
  rw[show ixD (.tup [.str "lend",.str r,.int d,.str p,.str o,.int n,.int e]) (.int 3) μ=.ok (.str p) μ from nr rfl]
  walk_at"ev"
  have q:=jgI (ds:=[.str "lend",.str r,.int d,.str p,.str o,.int n,.int e]) (k:=4) (v:=.str p) (by show 4 < 7;decide) (by show 7≤200;decide) (fun g=>jaa jad (V'.fr g)) μ
  rw[show (4:Int)=((4:Nat):Int) from rfl,q]
  walk_at"ev"
  exact⟨_,rfl,fun g=>jas (jaa jad (V'.fr g)),jjL V' (jjG rfl rfl)⟩
 ·simp only[decide_eq_false h3',if_false,Bool.false_eq_true]
  walk_at"ev"
  rw[jaI]
  walk_at"ev"
  simp only[decide_true,if_true]
  walk_at"ev"
  by_cases h31:m % 3=1
  ·simp only[h31,decide_true,if_true]
   walk_at"ev"
   rw[show ixD (.tup [.str "lend",.str r,.int d,.str p,.str o,.int n,.int e]) (.int 2) μ=.ok (.int d) μ from nr rfl]
   walk_at"ev"
   rw[show ixD (.tup [.str "lend",.str r,.int d,.str p,.str o,.int n,.int e]) (.int 2) μ=.ok (.int d) μ from nr rfl]
   walk_at"ev"
   rw[jqk]
   walk_at"ev"
   obtain⟨v,hv,q⟩:=jdK (xs:=[.int d,.int (if d - 1 - m % 50 > 0 then d - 1 - m % 50 else 0),.str "9",.non]) (i:=m / 3 % 4) (by omega) (by show m / 3 % 4 < 4;omega) μ
   rw[q]
   walk_at"ev"
   have fin:∀t:Int,0≤t→t≤d→∃x,jaf .frz jbr.F [.tup [.str "lend",.str r,.int d,.str p,.str o,.int n,.int e],.int 6,.int t] μ=.ok x μ∧(∀g,jb4 g x=some x)∧Bad x:=fun t t0 t1=>by
    have Vt:DV "lend" ["ref","day","purse","other","points","end"] [.str r,.int d,.str p,.str o,.int n,.int t] :=
     jgm (x:=.lend r d p o n t) rfl rfl (by decide) (by decide) (by decide +kernel) (.cons (jb2 h1) (.cons (jcg h2) (.cons (jbQ h3) (.cons (jcS h4) (.cons (jbX h5) (.cons (jhf ⟨t0,by have:=h2.2;omega⟩) .nil))))))
    have q:=jgI (ds:=[.str "lend",.str r,.int d,.str p,.str o,.int n,.int e]) (k:=6) (v:=.int t) (by show 6 < 7;decide) (by show 7≤200;decide) (fun g=>jaa jad (Vt.fr g)) μ
    exact⟨_,q,fun g=>jas (jaa jad (Vt.fr g)),jjL Vt (jvF rfl rfl h7 rfl rfl rfl t1)⟩
   have fin2:(∀μ,jaf .frz jaL.F [v,.int 0] μ=.ok (.bl false) μ)→(∀g,jb4 g v=some v)→∃x,jaf .frz jbr.F [.tup [.str "lend",.str r,.int d,.str p,.str o,.int n,.int e],.int 6,v] μ=.ok x μ∧(∀g,jb4 g x=some x)∧Bad x:=fun a b =>
    jdi V (k:=5) (q:="end") rfl (jeU (by decide +kernel) (by decide +kernel) rfl a) b μ
   have all:∃x,jaf .frz jbr.F [.tup [.str "lend",.str r,.int d,.str p,.str o,.int n,.int e],.int 6,v] μ=.ok x μ∧(∀g,jb4 g x=some x)∧Bad x:=by
    rcases List.mem_cons.mp hv with rfl | hv
    ·exact fin d h2.1 (Int.le_refl _)
    rcases List.mem_cons.mp hv with rfl | hv
    ·have:=h2.1
     exact fin _ (by split <;> omega) (by split <;> omega)
    rcases List.mem_cons.mp hv with rfl | hv
    ·obtain⟨a,b⟩:=jde (l:=0) (i:=-1) (z:="9") (by omega) (.inr (.inl rfl))
     exact fin2 a b
    rcases List.mem_cons.mp hv with rfl | hv
    ·obtain⟨a,b⟩:=jde (l:=0) (i:=-1) (z:="") (by omega) (.inr (.inr (.inl rfl)))
     exact fin2 a b
    cases hv
   obtain⟨x,q,f,b⟩:=all
   rw[q]
   walk_at"ev"
   exact⟨x,rfl,f,b⟩
  ·simp only[decide_eq_false h31,if_false,Bool.false_eq_true]
   walk_at"ev"
   rw[jaI]
   walk_at"ev"
   simp only[jdI,Bool.not_false]
   rw[jjm]
   walk_at"ev"
   obtain⟨v,q,hv,hf⟩:=je7 m h0 μ
   rw[q]
   walk_at"ev"
   obtain⟨x,q,f,b⟩:=jdi V (k:=4) (q:="points") rfl hv hf μ
   rw[show ((4:Int)+1)=((4+1:Nat):Int) from rfl,q]
   walk_at"ev"
   exact⟨x,rfl,f,b⟩
theorem jqW (μ:M):jaf .frz jao.F [.tup [.str "a",.str "b",.str "a"]] μ=.ok (.bl false) μ:=by
 have hb:∀d∈[D.str "a",.str "b",.str "a"],jaf .frz jaP.F [d] μ=.ok (.bl true) μ:=fun d hd=>by
  rcases List.mem_cons.mp hd with rfl | hd
  ·exact jaS (by unfold Nm;decide +kernel) μ
  rcases List.mem_cons.mp hd with rfl | hd
  ·exact jaS (by unfold Nm;decide +kernel) μ
  rcases List.mem_cons.mp hd with rfl | hd
  ·exact jaS (by unfold Nm;decide +kernel) μ
  cases hd
 have hs:biD .lenSet false [.tup ([Str.ofString "a",Str.ofString "b",Str.ofString "a"].map D.str)] μ=.ok (.int 2) μ:=by
  simp only[biD,jfR,jeu,jdS]
  rw[if_pos (by decide)]
  congr 2
 have hu:jaf .frz jbi.F [.tup [.str "a",.str "b",.str "a"]] μ=.ok (.bl false) μ:=by
  refine jac (F:=jcx) ?_ jaG
  unfold jcx jcZ
  walk_at"ev"
  rw[show (D.tup [.str "a",.str "b",.str "a"])=.tup ([Str.ofString "a",Str.ofString "b",Str.ofString "a"].map D.str) from rfl,hs]
  walk_at"ev"
  rw[jaU]
  walk_at"ev"
  simp
 rw[jjg (fun _=>true) (by decide) μ hb false fun _=>hu]
 rfl
noncomputable def jtl:List D:=(Str.ofString "abcdefghi").cps.toList.map fun c=>D.str ⟨#[c]⟩
theorem jjE:jtl.length=9:=by
 unfold jtl
 rw[List.length_map]
 decide +kernel
theorem jmH {v:D} (fs:List Str) (h:v=.tup [.str "a",.str "b",.str "a"]∨v=.tup [.str "a",.str ""]∨v=.tup [.int 3]∨v=.str "ab"∨v=.int 4∨v=.non∨v=.tup jtl) :
  (∀μ,jaf .frz jab.F [.str "first",v] μ=.ok (.bl false) μ)∧∀g,jb4 g v=some v:=by
 rcases h with rfl | rfl | rfl | rfl | rfl | rfl | rfl
 ·exact⟨fun μ=>jdm μ (jqW μ),fun g=>jas (jaa jad (jaa jad (jaa jad jaN)))⟩
 ·refine⟨fun μ=>jdm μ ?_,fun g=>jas (jaa jad (jaa jad jaN))⟩
  rw[jjg (fun d=>match d with | .str z=>jbT z | _=>false) (by show 2≤8;decide) μ (fun d hd=>by
   rcases List.mem_cons.mp hd with rfl | hd
   ·exact jdZ _ (by decide +kernel) μ
   rcases List.mem_cons.mp hd with rfl | hd
   ·exact jdZ _ (by decide +kernel) μ
   cases hd) false (fun z=>by
   have:([D.str "a",.str ""].all fun d=>match d with | .str z=>jbT z | _=>false)=false:=by
    show (jbT "a" && (jbT "" && true))=false
    decide +kernel
   rw[this]at z
   cases z)]
  split <;> rfl
 ·refine⟨fun μ=>jdm μ ?_,fun g=>jas (jaa jaX jaN)⟩
  rw[jjg (fun d=>false) (by show 1≤8;decide) μ (fun d hd=>by
   rcases List.mem_cons.mp hd with rfl | hd
   ·exact jcp (fun _=>jmB) μ
   cases hd) false (fun z=>by cases z)]
  rfl
 ·exact⟨fun μ=>jdm μ (jnA (fun _=>jlS) μ),fun g=>jad⟩
 ·exact⟨fun μ=>jdm μ (jnA (fun _=>jtP) μ),fun g=>jaX⟩
 ·exact⟨fun μ=>jdm μ (jnA (fun _=>jvk) μ),fun g=>jeQ⟩
 ·exact⟨fun μ=>jdm μ (jrL (by rw[jjE];decide) μ),fun g=>jas (jcv (fun _=>jad) _)⟩
theorem jnq {ρ:S3}{μ:M}:(ev jcK jcl).v ρ μ=.ok (.lst jtl) μ:=by
 unfold jcl
 rw[jbl (ds:=[.str "abcdefghi"]) (xs:=(Str.ofString "abcdefghi").cps.toList) (e:=fun c=>D.str ⟨#[c]⟩) (fun _=>true) (fun c=>D.str ⟨#[c]⟩) (by walk_at"ev") rfl (by
  have:=jjE
  unfold jtl at this
  rw[List.length_map]at this
  rw[this]
  exact jat (by decide)) fun p hp=>⟨_,rfl,by walk_at"ev",fun _=>by walk_at"ev"⟩]
 rw[List.filter_eq_self.mpr fun _ _=>rfl]
 rfl
theorem jlv {ds:List D}{μ:M}:biD .tuple false [.lst ds] μ=.ok (.tup ds) μ:=nr rfl
theorem jl1 {r p:Str}{d n:Int}{fs:List Str}(h:(Deed.spend r d p n fs).Ok)(m:Int)(h0:0≤m)(μ:M):∃x,jar [(Deed.spend r d p n fs).dat,.int m] μ=.ok x μ∧(∀g,jb4 g x=some x)∧Bad x:=by
 have V:=jjC h
 unfold Deed.dat
 unfold jar jbd
 walk_at"ev"
 rw[jaI]
 walk_at"ev"
 rw[jev,show decide (Str.ofString "spend"∈[Str.ofString "buy",Str.ofString "fix"])=false from by decide +kernel]
 walk_at"ev"
 rw[jaI]
 walk_at"ev"
 simp only[decide_true,if_true]
 walk_at"ev"
 by_cases h2:m % 2=0
 ·simp only[h2,decide_true,if_true]
  walk_at"ev"
  rw[show ixD (.tup [.str "spend",.str r,.int d,.str p,.int n,.tup (fs.map D.str)]) (.int 5) μ=.ok (.tup (fs.map D.str)) μ from nr rfl]
  walk_at"ev"
  rw[show slD false (.tup (fs.map D.str)) none (some (0:Int)) μ=.ok (.tup []) μ from jge 0 μ]
  walk_at"ev"
  rw[jef (by simp only[List.length_cons,List.length_nil];omega)]
  walk_at"ev"
  rw[jef (by simp only[List.length_cons,List.length_append,List.length_nil];omega)]
  walk_at"ev"
  rw[jnq]
  walk_at"ev"
  rw[jlv]
  walk_at"ev"
  rw[jhn (by simp only[List.length_cons,List.length_nil];omega)]
  walk_at"ev"
  obtain⟨v,hv,q⟩:=jdK (xs:=[.tup [.str "a",.str "b",.str "a"],.tup [.str "a",.str ""],.tup [.int 3],.str "ab",.int 4,.non,.tup jtl]) (i:=m / 2 % 7) (by omega) (by show m / 2 % 7 < 7;omega) μ
  rw[q]
  walk_at"ev"
  have hb:=jmH (v:=v) fs (by
   rcases List.mem_cons.mp hv with h | hv
   ·exact .inl h
   rcases List.mem_cons.mp hv with h | hv
   ·exact .inr (.inl h)
   rcases List.mem_cons.mp hv with h | hv
   ·exact .inr (.inr (.inl h))
   rcases List.mem_cons.mp hv with h | hv
   ·exact .inr (.inr (.inr (.inl h)))
   rcases List.mem_cons.mp hv with h | hv
   ·exact .inr (.inr (.inr (.inr (.inl h))))
   rcases List.mem_cons.mp hv with h | hv
   ·exact .inr (.inr (.inr (.inr (.inr (.inl h)))))
   rcases List.mem_cons.mp hv with h | hv
   ·exact .inr (.inr (.inr (.inr (.inr (.inr h)))))
   cases hv)
  obtain⟨x,q,f,b⟩:=jdi V (k:=4) (q:="first") rfl hb.1 hb.2 μ
  rw[show (5:Int)=((4+1:Nat):Int) from rfl,q]
  walk_at"ev"
  exact⟨x,rfl,f,b⟩
 ·simp only[decide_eq_false h2,if_false,Bool.false_eq_true]
  walk_at"ev"
  rw[jaI]
  walk_at"ev"
  simp only[jhO,if_false,Bool.false_eq_true]
  walk_at"ev"
  rw[jaI]
  walk_at"ev"
  simp only[decide_true,Bool.not_true,if_false,Bool.false_eq_true]
  walk_at"ev"
  rw[jaI]
  walk_at"ev"
  simp only[jhy,if_false,Bool.false_eq_true]
  walk_at"ev"
  rw[jaI]
  walk_at"ev"
  simp only[decide_true,Bool.not_true]
  rw[jjm]
  walk_at"ev"
  obtain⟨v,q,hv,hf⟩:=je7 m h0 μ
  rw[q]
  walk_at"ev"
  obtain⟨x,q,f,b⟩:=jdi V (k:=3) (q:="points") rfl hv hf μ
  rw[show ((4:Int)+0)=((3+1:Nat):Int) from rfl,q]
  walk_at"ev"
  exact⟨x,rfl,f,b⟩
theorem jre (x:Deed)(h:x.Ok)(m:Int)(h0:0≤m)(μ:M):∃d,jaf .frz jaZ.F [x.dat,.int m] μ=.ok d μ∧(∀g,jb4 g d=some d)∧Bad d:=by
 have key:∃d,jar [x.dat,.int m] μ=.ok d μ∧(∀g,jb4 g d=some d)∧Bad d:=by
  cases x with
  |buy r d p ls=>exact jh7 (k:=3) (jpT h) (by decide +kernel) rfl rfl rfl h.2.2.2 m h0 μ
  |spend r d p n fs=>exact jl1 h m h0 μ
  |two w r d p o n=>exact jq3 h m h0 μ
  |lend r d p o n e=>exact jph h m h0 μ
  |back r d f=>exact jpC h m h0 μ
  |fix r f ls=>exact jh7 (k:=2) (jp9 h) (by decide +kernel) rfl rfl rfl h.2.2.1 m h0 μ
 obtain⟨d,e,f,g⟩:=key
 exact⟨d,jac (F:=jar) e (f _),f,g⟩
noncomputable def NmP (q:Str):Prop:=q = "ref"∨q = "purse"∨q = "other"∨q = "of"
theorem jvh {q:Str}(h:NmP q){v:D}(hv:∀μ,jaf .frz jaP.F [v] μ=.ok (.bl false) μ)(μ:M):jaf .frz jab.F [.str q,v] μ=.ok (.bl false) μ:=by
 rcases h with rfl | rfl | rfl | rfl
 ·exact jqd _ (by decide +kernel) (by decide +kernel) v μ false (by decide +kernel) (hv μ)
 ·exact jqd _ (by decide +kernel) (by decide +kernel) v μ false (by decide +kernel) (hv μ)
 ·exact jqd _ (by decide +kernel) (by decide +kernel) v μ false (by decide +kernel) (hv μ)
 ·exact jqd _ (by decide +kernel) (by decide +kernel) v μ false (by decide +kernel) (hv μ)
noncomputable def nms:List D:=[.str "",.str "abcdefghi",.str "Ann",.str "an n",.int 7,.non,.tup [.str "a"],.str "an9"]
theorem jtb {v:D}(h:v∈nms):(∀μ,jaf .frz jaP.F [v] μ=.ok (.bl false) μ)∧∀g,jb4 g v=some v:=by
 unfold nms at h
 rcases List.mem_cons.mp h with rfl | h
 ·exact⟨jf4 (by decide +kernel) (by decide +kernel),fun g=>jad⟩
 rcases List.mem_cons.mp h with rfl | h
 ·exact⟨jf4 (by decide +kernel) (by decide +kernel),fun g=>jad⟩
 rcases List.mem_cons.mp h with rfl | h
 ·exact⟨jf4 (by decide +kernel) (by decide +kernel),fun g=>jad⟩
 rcases List.mem_cons.mp h with rfl | h
 ·exact⟨jf4 (by decide +kernel) (by decide +kernel),fun g=>jad⟩
 rcases List.mem_cons.mp h with rfl | h
 ·exact⟨jcp fun _=>jmB,fun g=>jaX⟩
 rcases List.mem_cons.mp h with rfl | h
 ·exact⟨jcp fun _=>jp0,fun g=>jeQ⟩
 rcases List.mem_cons.mp h with rfl | h
 ·exact⟨jcp fun _=>jqp,fun g=>jas (jaa jad jaN)⟩
 rcases List.mem_cons.mp h with rfl | h
 ·exact⟨jf4 (by decide +kernel) (by decide +kernel),fun g=>jad⟩
 cases h
theorem joc {w z:Str}{vs:List D}{qs:List Str}(V:DV w qs vs)(hz:jbt z jcy=none)(μ:M):∃d,jaf .frz jbr.F [.tup (.str w :: vs),.int 0,.str z] μ=.ok d μ∧(∀g,jb4 g d=some d)∧Bad d:=by
 have e:=jgI (ds:=.str w :: vs) (k:=0) (v:=.str z) (by rw[List.length_cons];omega) (by rw[List.length_cons,V.len];have:=V.hl;omega) (fun g=>jaa jad (V.fr g)) μ
 exact⟨_,e,fun g=>jas (jaa jad (V.fr g)),jo9 hz⟩
theorem add_str {x y:Str}(h:x.length+y.length≤sizeLine){μ:M}:jgQ .Add false (.str x) (.str y) μ=.ok (.str (x++y)) μ:=if_pos h
theorem jjw {g:Nat→Option D}:∀{ds:List D} (k:Nat),frzGs g ds=some ds→frzGs g (ds.take k)=some (ds.take k)
 |_,0,_=>jaN
 |[],_+1,_=>jaN
 |d :: ds,k+1,h=>by
  unfold frzGs at h
  split at h
  ·rename_i a b h1 h2
   cases h
   exact jaa h1 (jjw k h2)
  ·cases h
theorem jlm {g:Nat→Option D}{v:D}:∀{ds:List D},frzGs g ds=some ds→jb4 g v=some v→frzGs g (ds++[v])=some (ds++[v])
 |[],_,hv=>jaa hv jaN
 |d :: ds,h,hv=>by
  unfold frzGs at h
  split at h
  ·rename_i a b h1 h2
   cases h
   exact jaa h1 (jlm h2 hv)
  ·cases h
theorem jgD {w:Str} {qs:List Str} {vs:List D} {pl:List Int} {dd:D} (V:DV w qs vs) (hs:jbt (w ++ "s") jcy=none) (hw:w.length≤100) (h0p:0 < pl.length) (hlp:pl.length≤100)
  (hp:∀i∈pl,∃(k:Nat) (q:Str),i=((k+1:Nat):Int)∧qs[k]?=some q∧NmP q) (hday:decide (w=Str.ofString "fix")=false→qs[1]?=some (Str.ofString "day"))
  (own:∀(m:Int) (μ:M),0≤m→∃d,jaf .frz jaZ.F [.tup (.str w :: vs),.int m] μ=.ok d μ∧(∀g,jb4 g d=some d)∧Bad d) (m:Int) (h0:0≤m) (μ:M) :
  ∃d,jgq (runs jaV jbH [some (.tup (.str w :: vs)),some (.int m),some dd,some (.tup (pl.map D.int)),none,none] μ)=.ok d μ∧(∀g,jb4 g d=some d)∧Bad d:=by
 unfold jbH
 walk_at"ev"
 by_cases w0:m % 8=0
 ·simp only[w0,decide_true,if_true]
  walk_at"ev"
  rw[jaI]
  walk_at"ev"
  rw[add_str (by rw[sizeLine_eq];have:(Str.ofString "s").length=1:=(by decide +kernel);omega)]
  walk_at"ev"
  obtain⟨v,hv,q⟩:=jdK (xs:=[.str "",.str "Buy",.str "sell",.str "lends",.str (w ++ "s"),.str "buys"]) (i:=m / 8 % 6) (by omega) (by show m / 8 % 6 < 6;omega) μ
  rw[q]
  walk_at"ev"
  have hz:∃z,v=.str z∧jbt z jcy=none:=by
   rcases List.mem_cons.mp hv with rfl | hv
   ·exact⟨_,rfl,rfl⟩
   rcases List.mem_cons.mp hv with rfl | hv
   ·exact⟨_,rfl,rfl⟩
   rcases List.mem_cons.mp hv with rfl | hv
   ·exact⟨_,rfl,rfl⟩
   rcases List.mem_cons.mp hv with rfl | hv
   ·exact⟨_,rfl,rfl⟩
   rcases List.mem_cons.mp hv with rfl | hv
   ·exact⟨_,rfl,hs⟩
   rcases List.mem_cons.mp hv with rfl | hv
   ·exact⟨_,rfl,rfl⟩
   cases hv
  obtain⟨z,rfl,hz⟩:=hz
  obtain⟨x,q,f,b⟩:=joc V hz μ
  rw[q]
  walk_at"ev"
  exact⟨x,rfl,f,b⟩
 simp only[decide_eq_false w0,if_false,Bool.false_eq_true]
 walk_at"ev"
 by_cases w1:m % 8=1
 ·simp only[w1,decide_true,if_true]
  walk_at"ev"
  rw[jaU]
  walk_at"ev"
  have hvl:0 < vs.length:=by rw[V.len];exact V.h0
  rw[jdp (by omega)]
  walk_at"ev"
  obtain⟨k,hk,hk2⟩:∃k:Nat,1+m / 8 % (((vs.length+1:Nat):Int) - 1)=((k+1:Nat):Int)∧k < vs.length:=by
   have h1:=Int.emod_nonneg (m / 8) (b:=((vs.length+1:Nat):Int) - 1) (by omega)
   have h2:=Int.emod_lt_of_pos (m / 8) (b:=((vs.length+1:Nat):Int) - 1) (by omega)
   exact⟨(m / 8 % (((vs.length+1:Nat):Int) - 1)).toNat,by omega,by omega⟩
  rw[hk]
  walk_at"ev"
  rw[jge]
  walk_at"ev"
  exact⟨_,rfl,fun g=>jas (jaa jad (jjw k (V.fr g))),jlI V (by rw[List.length_take];omega)⟩
 simp only[decide_eq_false w1,if_false,Bool.false_eq_true]
 walk_at"ev"
 by_cases w2:m % 8=2
 ·simp only[w2,decide_true,if_true]
  walk_at"ev"
  obtain⟨v,hv,q⟩:=jdK (xs:=[.int 1,.str "a",.non,.tup []]) (i:=m / 8 % 4) (by omega) (by show m / 8 % 4 < 4;omega) μ
  rw[q]
  walk_at"ev"
  have hf:∀g,jb4 g v=some v:=by
   rcases List.mem_cons.mp hv with rfl | hv
   ·exact fun g=>jaX
   rcases List.mem_cons.mp hv with rfl | hv
   ·exact fun g=>jad
   rcases List.mem_cons.mp hv with rfl | hv
   ·exact fun g=>jeQ
   rcases List.mem_cons.mp hv with rfl | hv
   ·exact fun g=>jas jaN
   cases hv
  rw[jef (by rw[List.length_cons,V.len];simp only[List.length_cons,List.length_nil];have:=V.hl;omega)]
  walk_at"ev"
  exact⟨_,rfl,fun g=>jas (jaa jad (jlm (V.fr g) (hf g))),jlI V (by rw[List.length_append];simp only[List.length_cons,List.length_nil];omega)⟩
 simp only[decide_eq_false w2,if_false,Bool.false_eq_true]
 walk_at"ev"
 by_cases w3:m % 8=3
 ·simp only[w3,decide_true,if_true]
  walk_at"ev"
  obtain⟨v,hv,q⟩:=jdK (xs:=nms) (i:=m / 8 / 9 % 8) (by omega) (by show m / 8 / 9 % 8 < 8;omega) μ
  unfold nms at q
  rw[q]
  walk_at"ev"
  rw[jaU]
  walk_at"ev"
  simp only[List.length_map]
  rw[jdp (by omega)]
  walk_at"ev"
  obtain⟨t,ht,q2⟩:=jqJ (xs:=pl.map D.int) (i:=m / 8 % (pl.length:Int)) (Int.emod_nonneg _ (by omega)) (by rw[List.length_map];exact Int.emod_lt_of_pos _ (by omega)) μ
  rw[q2]
  walk_at"ev"
  obtain⟨i,hi,rfl⟩:=List.mem_map.mp ht
  obtain⟨k,n,rfl,hq,hn⟩:=hp i hi
  obtain⟨b1,b2⟩:=jtb hv
  obtain⟨x,q,f,b⟩:=jdi V hq (jvh hn b1) b2 μ
  rw[q]
  walk_at"ev"
  exact⟨x,rfl,f,b⟩
 simp only[decide_eq_false w3,if_false,Bool.false_eq_true]
 walk_at"ev"
 by_cases w4:m % 8=4
 ·simp only[w4,decide_true,if_true]
  walk_at"ev"
  rw[jaI]
  walk_at"ev"
  cases hx:decide (w=Str.ofString "fix") with
  |false =>
   simp only[Bool.not_false,if_true]
   walk_at"ev"
   obtain⟨v,hv,q⟩:=jdK (xs:=[.int (-1 - m / 8 % 1000000000),.str "3",.non,.tup []]) (i:=m / 8 / 4 % 4) (by omega) (by show m / 8 / 4 % 4 < 4;omega) μ
   rw[q]
   walk_at"ev"
   obtain⟨a,b⟩:=jde (l:=0) (i:=-1 - m / 8 % 1000000000) (z:="3") (by omega) (v:=v) (by
    rcases List.mem_cons.mp hv with h | hv
    ·exact .inl h
    rcases List.mem_cons.mp hv with h | hv
    ·exact .inr (.inl h)
    rcases List.mem_cons.mp hv with h | hv
    ·exact .inr (.inr (.inl h))
    rcases List.mem_cons.mp hv with h | hv
    ·exact .inr (.inr (.inr h))
    cases hv)
   obtain⟨x,q,f,b⟩:=jdi V (hday hx) (jeU (by decide +kernel) (by decide +kernel) rfl a) b μ
   rw[show (2:Int)=((1+1:Nat):Int) from rfl,q]
   walk_at"ev"
   exact⟨x,rfl,f,b⟩
  |true =>
   simp only[Bool.not_true,if_false,Bool.false_eq_true]
   walk_at"ev"
   obtain⟨x,q,f,b⟩:=own (m / 8) μ (by omega)
   rw[q]
   walk_at"ev"
   exact⟨x,rfl,f,b⟩
 simp only[decide_eq_false w4,if_false,Bool.false_eq_true]
 walk_at"ev"
 obtain⟨x,q,f,b⟩:=own (m / 8) μ (by omega)
 rw[q]
 walk_at"ev"
 exact⟨x,rfl,f,b⟩
theorem jkR {w:Str} {vs:List D} {m:Int} {pl:List Int} (hl:(((jdO w jap jaq).map jgf).getD (.tup [.int 1,.int (2+(if decide (w=Str.ofString "back") then 1 else 0))]))=.tup (pl.map D.int)) (μ:M) :
  jaM [.tup (.str w :: vs),.int m] μ=jgq (runs jaV jbH [some (.tup (.str w :: vs)),some (.int m),some (.dK (jap.map Sum.inr) (jaq.map jgf)),some (.tup (pl.map D.int)),none,none] μ):=by
 have e1:(ev jaV jbY).v [some (.tup (.str w :: vs)),some (.int m),some (.dK (jap.map Sum.inr) (jaq.map jgf)),none,none,none] μ=.ok (.str w) μ:=by
  unfold jbY
  walk_at"ev"
  rw[jaI]
 have e2:(ev jaV jb0).v [some (.tup (.str w :: vs)),some (.int m),some (.dK (jap.map Sum.inr) (jaq.map jgf)),none,none,none] μ=.ok (.tup [.int 1,.int (2+(if decide (w=Str.ofString "back") then 1 else 0))]) μ:=by
  unfold jb0
  walk_at"ev"
  rw[jaI]
  walk_at"ev"
  rw[jjm]
  walk_at"ev"
 unfold jaM jpk
 rw[if_pos (show [D.tup (.str w :: vs),D.int m].length=2 from rfl)]
 show jgq (jh0 jaV 2 3 jap jaq jbY jb0 jbH [some (.tup (.str w :: vs)),some (.int m),none,none,none,none] μ)=_
 unfold jh0
 show jgq (((ev jaV jbY).v [some (.tup (.str w :: vs)),some (.int m),some (.dK (jap.map Sum.inr) (jaq.map jgf)),none,none,none] μ).bind fun y μ1 =>
  ((ev jaV jb0).v [some (.tup (.str w :: vs)),some (.int m),some (.dK (jap.map Sum.inr) (jaq.map jgf)),none,none,none] μ1).bind fun z μ2=>_)=_
 rw[e1,jc,e2,jc]
 show jgq (runs jaV jbH [some (.tup (.str w :: vs)),some (.int m),some (.dK (jap.map Sum.inr) (jaq.map jgf)),some (((jdO w jap jaq).map jgf).getD (.tup [.int 1,.int (2+(if decide (w=Str.ofString "back") then 1 else 0))])),none,none] μ)=_
 rw[hl]
theorem jhe {w:Str}{is:List Int}{z:D}(h:jdO w jap jaq=some is):(((jdO w jap jaq).map jgf).getD z)=.tup (is.map D.int):=by rw[h];rfl
theorem jnd {w:Str} {b:Int} (h:jdO w jap jaq=none) (hb:(2+(if decide (w=Str.ofString "back") then 1 else 0):Int)=b):(((jdO w jap jaq).map jgf).getD (.tup [.int 1,.int (2+(if decide (w=Str.ofString "back") then 1 else 0))]))=.tup ([1,b].map D.int):=by rw[h,hb];rfl
theorem jiA (x:Deed)(h:x.Ok)(m:Int)(h0:0≤m)(μ:M):∃d,jaf .frz jbG.F [x.dat,.int m] μ=.ok d μ∧(∀g,jb4 g d=some d)∧Bad d:=by
 have key:∃d,jaM [x.dat,.int m] μ=.ok d μ∧(∀g,jb4 g d=some d)∧Bad d:=by
  have own:=fun (m:Int) (μ:M) (h0:0≤m)=>jre x h m h0 μ
  cases x with
  |buy r d p ls =>
   show ∃d',jaM [.tup (.str "buy" :: [.str r,.int d,.str p,jec ls]),.int m] μ=.ok d' μ∧_
   rw[jkR (pl:=[1,3]) (jhe (by decide +kernel))]
   exact jgD (jpT h) (by decide +kernel) (by decide +kernel) (by decide) (by decide) (fun i hi=>by
    rcases List.mem_cons.mp hi with rfl | hi
    ·exact⟨0,_,rfl,rfl,.inl rfl⟩
    rcases List.mem_cons.mp hi with rfl | hi
    ·exact⟨2,_,rfl,rfl,.inr (.inl rfl)⟩
    cases hi) (fun _=>rfl) own m h0 μ
  |spend r d p n fs =>
   show ∃d',jaM [.tup (.str "spend" :: [.str r,.int d,.str p,.int n,.tup (fs.map D.str)]),.int m] μ=.ok d' μ∧_
   rw[jkR (pl:=[1,3]) (jhe (by decide +kernel))]
   exact jgD (jjC h) (by decide +kernel) (by decide +kernel) (by decide) (by decide) (fun i hi=>by
    rcases List.mem_cons.mp hi with rfl | hi
    ·exact⟨0,_,rfl,rfl,.inl rfl⟩
    rcases List.mem_cons.mp hi with rfl | hi
    ·exact⟨2,_,rfl,rfl,.inr (.inl rfl)⟩
    cases hi) (fun _=>rfl) own m h0 μ
  |two w r d p o n =>
   have hw:w = "give"∨w = "change":=h.1
   show ∃d',jaM [.tup (.str w :: [.str r,.int d,.str p,.str o,.int n]),.int m] μ=.ok d' μ∧_
   rw[jkR (pl:=[1,3,4]) (jhe (by rcases hw with rfl | rfl <;> decide +kernel))]
   exact jgD (jpK h) (by rcases hw with rfl | rfl <;> decide +kernel) (by rcases hw with rfl | rfl <;> decide +kernel) (by decide) (by decide) (fun i hi=>by
    rcases List.mem_cons.mp hi with rfl | hi
    ·exact⟨0,_,rfl,rfl,.inl rfl⟩
    rcases List.mem_cons.mp hi with rfl | hi
    ·exact⟨2,_,rfl,rfl,.inr (.inl rfl)⟩
    rcases List.mem_cons.mp hi with rfl | hi
    ·exact⟨3,_,rfl,rfl,.inr (.inr (.inl rfl))⟩
    cases hi) (fun _=>rfl) own m h0 μ
  |lend r d p o n e =>
   show ∃d',jaM [.tup (.str "lend" :: [.str r,.int d,.str p,.str o,.int n,.int e]),.int m] μ=.ok d' μ∧_
   rw[jkR (pl:=[1,3,4]) (jhe (by decide +kernel))]
   exact jgD (jl3 h) (by decide +kernel) (by decide +kernel) (by decide) (by decide) (fun i hi=>by
    rcases List.mem_cons.mp hi with rfl | hi
    ·exact⟨0,_,rfl,rfl,.inl rfl⟩
    rcases List.mem_cons.mp hi with rfl | hi
    ·exact⟨2,_,rfl,rfl,.inr (.inl rfl)⟩
    rcases List.mem_cons.mp hi with rfl | hi
    ·exact⟨3,_,rfl,rfl,.inr (.inr (.inl rfl))⟩
    cases hi) (fun _=>rfl) own m h0 μ
  |back r d f =>
   show ∃d',jaM [.tup (.str "back" :: [.str r,.int d,.str f]),.int m] μ=.ok d' μ∧_
   rw[jkR (pl:=[1,3]) (jnd (by decide +kernel) (by decide +kernel))]
   exact jgD (jlE h) (by decide +kernel) (by decide +kernel) (by decide) (by decide) (fun i hi=>by
    rcases List.mem_cons.mp hi with rfl | hi
    ·exact⟨0,_,rfl,rfl,.inl rfl⟩
    rcases List.mem_cons.mp hi with rfl | hi
    ·exact⟨2,_,rfl,rfl,.inr (.inr (.inr rfl))⟩
    cases hi) (fun _=>rfl) own m h0 μ
  |fix r f ls =>
   show ∃d',jaM [.tup (.str "fix" :: [.str r,.str f,jec ls]),.int m] μ=.ok d' μ∧_
   rw[jkR (pl:=[1,2]) (jnd (by decide +kernel) (by decide +kernel))]
   exact jgD (jp9 h) (by decide +kernel) (by decide +kernel) (by decide) (by decide) (fun i hi=>by
    rcases List.mem_cons.mp hi with rfl | hi
    ·exact⟨0,_,rfl,rfl,.inl rfl⟩
    rcases List.mem_cons.mp hi with rfl | hi
    ·exact⟨1,_,rfl,rfl,.inr (.inr (.inr rfl))⟩
    cases hi) (fun z=>by rw[decide_eq_true rfl]at z;cases z) own m h0 μ
 obtain⟨d,e,f,g⟩:=key
 exact⟨d,jac (F:=jaM) e (f _),f,g⟩
theorem jic {d:D}(h:Bad d)(μ:M):jaf .frz jby.F [d] μ=.ok (.bl true) μ:=by
 refine jac (F:=jcG) ?_ jaG
 unfold jcG jwk
 rw[h μ]
 exact if_pos rfl
theorem jlT (ns:List Int)(a:Nat)(ha:a≤900)(x:Deed)(hx:x.Ok)(ok:M→Bool)(hok:ok []=true):∀(ks:List Nat) (o3:Option D),(∀k∈ks,k≤4) →
  jg7 ok (.nm 3) (runs jpl jiY) [3] (ks.map fun (k:Nat)=>D.int (k:Int)) [some (jeZ ns),some (.int (a:Int)),some x.dat,o3] []=.ok (.nx [some (jeZ ns),some (.int (a:Int)),some x.dat,none]) []
 |[],o3,_=>by
  rw[List.map_nil,jg8 hok]
  rfl
 |k :: ks,o3,h=>by
  have hk:k≤4:=h k (by simp)
  obtain⟨c,hc⟩:=jmM ns (52+(k:Int)) (by omega)
  obtain⟨m,m0,m1,hm⟩:=jfz c ((a:Int)+(k:Int)) (by omega) (by omega) []
  obtain⟨d,ed,fd,bd⟩:=jiA x hx m m0 []
  rw[List.map_cons,jfB (ρ1:=[some (jeZ ns),some (.int (a:Int)),some x.dat,some (.int (k:Int))]) (ρ2:=[some (jeZ ns),some (.int (a:Int)),some x.dat,some (.int (k:Int))]) (μ2:=[]) hok rfl ?_]
  ·exact jlT ns a ha x hx ok hok ks none fun b hb=>h b (by simp[hb])
  ·unfold jiY
   walk_at"ev"
   rw[hc]
   walk_at"ev"
   rw[hm]
   walk_at"ev"
   rw[ed]
   walk_at"ev"
   rw[jic bd]
   walk_at"ev"
theorem jkb (ns:List Int)(ok:M→Bool)(hok:ok []=true):∀(as:List Nat) (o1 o2 o3:Option D),(∀a∈as,a≤900)→jg7 ok (.nm 1) (runs jpl jiS) [1,2,3] (as.map fun (a:Nat)=>D.int (a:Int)) [some (jeZ ns),o1,o2,o3] []=.ok (.nx [some (jeZ ns),none,none,none]) []
 |[],o1,o2,o3,_=>by
  rw[List.map_nil,jg8 hok]
  rfl
 |a :: as,o1,o2,o3,h=>by
  have ha:a≤900:=h a (by simp)
  obtain⟨x,hx,ex⟩:=jr4 ns a (by omega) []
  have ec:=jhF x hx []
  have hi:∀μ:M,itD .rng1 [.int 4] μ=some (([0,1,2,3]:List Nat).map fun (a:Nat)=>D.int (a:Int)):=fun μ=>je6 (n:=4) (by decide)
  have hl:=jlT ns a ha x hx (je5 .rng1 [.int 4] (([0,1,2,3]:List Nat).map fun (a:Nat)=>D.int (a:Int))) (jfn (hi _)) [0,1,2,3] o3 (by decide)
  rw[List.map_cons,jfB (ρ1:=[some (jeZ ns),some (.int (a:Int)),o2,o3]) (ρ2:=[some (jeZ ns),some (.int (a:Int)),some x.dat,none]) (μ2:=[]) hok rfl ?_]
  ·exact jkb ns ok hok as none none none fun b hb=>h b (by simp[hb])
  ·unfold jiS
   walk_at"ev"
   rw[ex]
   walk_at"ev"
   rw[ec]
   walk_at"ev"
   simp only[bne_self_eq_false,if_false,Bool.false_eq_true]
   walk_at"ev"
   rw[jiM (hi _),hl]
   walk_at"ev"
   rw[ec]
   walk_at"ev"
   try simp only[bne_self_eq_false,if_false,Bool.false_eq_true]
   walk_at"ev"
theorem jps (ns:List Int)(hn:ns.length≤63):∃μ,jsN [.scr (ns.map D.int)] []=.ok (.bl true) μ:=by
 refine⟨[],?_⟩
 show jsN [jeZ ns] []=_
 have hi:∀μ:M,itD .seq [.tup [.int 0,.int 13,.int 26,.int 39]] μ=some (([0,13,26,39]:List Nat).map fun (a:Nat)=>D.int (a:Int)):=fun μ=>rfl
 have hl:=jkb ns (je5 .seq [.tup [.int 0,.int 13,.int 26,.int 39]] (([0,13,26,39]:List Nat).map fun (a:Nat)=>D.int (a:Int))) (jfn (hi _)) [0,13,26,39] none none none (by decide)
 unfold jsN jsR
 walk_at"ev"
 rw[jiM (hi _),hl]
 walk_at"ev"
end _K08
namespace _K08
open PySem PySem.Spec PyProof.Rows _L2 _L3
theorem jlh {α:Type}{us:List α}(h:us.length=1):∃a0,us=[a0]:=by
 obtain⟨a0,us,rfl⟩:=List.exists_cons_of_length_pos (l:=us) (by rw[h];decide)
 replace h:us.length=0:=Nat.succ.inj h
 cases List.length_eq_zero_iff.mp h
 exact⟨_,rfl⟩
theorem jlH {α:Type}{us:List α}(h:us.length=2):∃a0 a1,us=[a0,a1]:=by
 obtain⟨a0,us,rfl⟩:=List.exists_cons_of_length_pos (l:=us) (by rw[h];decide)
 replace h:us.length=1:=Nat.succ.inj h
 obtain⟨a1,us,rfl⟩:=List.exists_cons_of_length_pos (l:=us) (by rw[h];decide)
 replace h:us.length=0:=Nat.succ.inj h
 cases List.length_eq_zero_iff.mp h
 exact⟨_,_,rfl⟩
theorem jyg {α:Type}{us:List α}(h:us.length=3):∃a0 a1 a2,us=[a0,a1,a2]:=by
 obtain⟨a0,us,rfl⟩:=List.exists_cons_of_length_pos (l:=us) (by rw[h];decide)
 replace h:us.length=2:=Nat.succ.inj h
 obtain⟨a1,us,rfl⟩:=List.exists_cons_of_length_pos (l:=us) (by rw[h];decide)
 replace h:us.length=1:=Nat.succ.inj h
 obtain⟨a2,us,rfl⟩:=List.exists_cons_of_length_pos (l:=us) (by rw[h];decide)
 replace h:us.length=0:=Nat.succ.inj h
 cases List.length_eq_zero_iff.mp h
 exact⟨_,_,_,rfl⟩
theorem ja0 {P:Program}{w:World}{K:PySem.W.Frag}{mg:Str→Option Value}{base:Heap}{j:Nat}(hm:∀x∈jdX,mg x=none):Tab P w K mg base j []:=⟨hm,fun i g h=>by simp at h,fun i g d h=>by simp at h⟩
theorem jam {P:Program}{w:World}{K:PySem.W.Frag}{mg:Str→Option Value}{base:Heap}{j:Nat}{g:FnE}{G:List FnE}(hn:g.dat=none)(c:_L2.Callee P w K mg base g.lv g.name g.ps (jdL K g.ps.length g.F))(T:Tab P w K mg base j G):Tab P w K mg base j (g :: G):=⟨T.hm,fun i g' h hl=>by
 cases i with
 |zero =>
  simp at h
  subst h
  exact c
 |succ i=>exact T.hf i g' (by simpa using h) hl,fun i g' d h hd=>by
 cases i with
 |zero =>
  simp at h
  subst h
  rw[hn]at hd
  cases hd
 |succ i=>exact T.hd i g' d (by simpa using h) hd⟩
theorem je0 {P:Program}{w:World}{K:PySem.W.Frag}{mg:Str→Option Value}{base:Heap}{j:Nat}{g:FnE}{G:List FnE}{hs:g.dat.isSome=true}(hl:¬ 1000000≤j)(c:jja K w mg g.name (g.dat.get hs))(T:Tab P w K mg base j G)(h0:g.lv=1000000:=by rfl):Tab P w K mg base j (g :: G):=⟨T.hm,fun i g' h hlv=>by
 cases i with
 |zero =>
  simp at h
  subst h
  exact absurd (h0 ▸ hlv) hl
 |succ i=>exact T.hf i g' (by simpa using h) hlv,fun i g' d h hd=>by
 cases i with
 |zero =>
  simp at h
  subst h
  have e:g.dat.get hs=d:=by simp[hd]
  rw[← e]
  exact c
 |succ i=>exact T.hd i g' d (by simpa using h) hd⟩
set_option maxHeartbeats 0 in
theorem jgw {P:Program} {w:World} {K:PySem.W.Frag} {mg:Str→Option Value} {base:Heap} {f:Addr} {fd:FuncData} {x0 x1 x2 x3 x4 x5 x6 x7 x8 x9 x10:Addr} (F:Fun K "_law_refused" "_law_refused" jbW f fd) (cg:CalleeX P w K mg base 6 "checked_deed" ["deed"] (spX K mg 1 jbn)) (R:RefOk K x1 x0 [x2,x3,x4,x5,x6,x7,x8,x9,x10]) (mP:mg "PurseError" = some (.ref x0)) (hiN:mg "isinstance" = none) (m1:mg "BadDeed" = some (.ref x1)) (mve:mg "ValueError" = none) (hcs:[("BadBook" : Str),("BadHouse" : Str),("BadText" : Str),("NoDeed" : Str),("NoRate" : Str),("NotOver" : Str),("TooFew" : Str),("Twice" : Str),("WrongDay" : Str)].map mg=[x2,x3,x4,x5,x6,x7,x8,x9,x10].map (fun a=>some (Value.ref a))) :
  FnOk P w K mg base CX0 7 f fd ["_law_deed_here"] (jdL K 1 jcG) :=
 jkJ F jgp cg R rfl (by decide +kernel) (by decide +kernel) (by decide +kernel) (by decide +kernel) (by decide +kernel) (by decide +kernel) (by decide +kernel) mP (by decide +kernel) hiN (by decide +kernel) m1 (by decide +kernel) mve (jlr (cs:=["BadBook","BadHouse","BadText","NoDeed","NoRate","NotOver","TooFew","Twice","WrongDay"]) (by decide +kernel) hcs) (by decide +kernel) (by decide)
set_option maxHeartbeats 0 in
theorem all_mk {l:PySem.W.OpenLaw}{w:World}{K:PySem.W.Frag}{h:Heap}{mg:Str→Option Value}
  {fa:Addr}
  {f1:Addr} {od1 an1:Option Addr} {sl1:Array (Option Value)} {oc1 kV1 dc1 pm1 cd1 ct1:Value}
  {f2:Addr} {od2 an2:Option Addr} {sl2:Array (Option Value)} {oc2 kV2 dc2 pm2 cd2 ct2:Value}
  {f3:Addr} {od3 an3:Option Addr} {sl3:Array (Option Value)} {oc3 kV3 dc3 pm3 cd3 ct3:Value}
  {f4:Addr} {od4 an4:Option Addr} {sl4:Array (Option Value)} {oc4 kV4 dc4 pm4 cd4 ct4:Value}
  {f5:Addr} {od5 an5:Option Addr} {sl5:Array (Option Value)} {oc5 kV5 dc5 pm5 cd5 ct5:Value}
  {f6:Addr} {od6 an6:Option Addr} {sl6:Array (Option Value)} {oc6 kV6 dc6 pm6 cd6 ct6:Value}
  {f7:Addr} {od7 an7:Option Addr} {sl7:Array (Option Value)} {oc7 kV7 dc7 pm7 cd7 ct7:Value}
  {f8:Addr} {od8 an8:Option Addr} {sl8:Array (Option Value)} {oc8 kV8 dc8 pm8 cd8 ct8:Value}
  {f9:Addr} {od9 an9:Option Addr} {sl9:Array (Option Value)} {oc9 kV9 dc9 pm9 cd9 ct9:Value}
  {f10:Addr} {od10 an10:Option Addr} {sl10:Array (Option Value)} {oc10 kV10 dc10 pm10 cd10 ct10:Value}
  {f11:Addr} {od11 an11:Option Addr} {sl11:Array (Option Value)} {oc11 kV11 dc11 pm11 cd11 ct11:Value}
  {f12:Addr} {od12 an12:Option Addr} {sl12:Array (Option Value)} {oc12 kV12 dc12 pm12 cd12 ct12:Value}
  {f13:Addr} {od13 an13:Option Addr} {sl13:Array (Option Value)} {oc13 kV13 dc13 pm13 cd13 ct13:Value}
  {f14:Addr} {od14 an14:Option Addr} {sl14:Array (Option Value)} {oc14 kV14 dc14 pm14 cd14 ct14:Value}
  {f15:Addr} {od15 an15:Option Addr} {sl15:Array (Option Value)} {oc15 kV15 dc15 pm15 cd15 ct15:Value}
  {f16:Addr} {od16 an16:Option Addr} {sl16:Array (Option Value)} {oc16 kV16 dc16 pm16 cd16 ct16:Value}
  {f17:Addr} {od17 an17:Option Addr} {sl17:Array (Option Value)} {oc17 kV17 dc17 pm17 cd17 ct17:Value}
  {f18:Addr} {od18 an18:Option Addr} {sl18:Array (Option Value)} {oc18 kV18 dc18 pm18 cd18 ct18:Value}
  {f19:Addr} {od19 an19:Option Addr} {sl19:Array (Option Value)} {oc19 kV19 dc19 pm19 cd19 ct19:Value}
  {f20:Addr} {od20 an20:Option Addr} {sl20:Array (Option Value)} {oc20 kV20 dc20 pm20 cd20 ct20:Value}
  {f21:Addr} {od21 an21:Option Addr} {sl21:Array (Option Value)} {oc21 kV21 dc21 pm21 cd21 ct21:Value}
  {f22:Addr} {od22 an22:Option Addr} {sl22:Array (Option Value)} {oc22 kV22 dc22 pm22 cd22 ct22:Value}
  {f23:Addr} {od23 an23:Option Addr} {sl23:Array (Option Value)} {oc23 kV23 dc23 pm23 cd23 ct23:Value}
  {f24:Addr} {od24 an24:Option Addr} {sl24:Array (Option Value)} {oc24 kV24 dc24 pm24 cd24 ct24:Value}
  {f25:Addr} {od25 an25:Option Addr} {sl25:Array (Option Value)} {oc25 kV25 dc25 pm25 cd25 ct25:Value}
  {x0:Addr} {x1:Addr} {x2:Addr} {x3:Addr} {x4:Addr} {x5:Addr} {x6:Addr} {x7:Addr} {x8:Addr} {x9:Addr} {x10:Addr}
  {f26:Addr} {od26 an26:Option Addr} {sl26:Array (Option Value)} {oc26 kV26 dc26 pm26 cd26 ct26:Value}
  {tD1:Tok}
  {pD2:Addr} {mD2:Nat}
  {hD2_0:Int} {kD2_0:Tok}
  {pD2_0:Addr} {ddD2_0:Option Addr} {nD2_0:Nat} {slD2_0:Array (Option Value)}
  {tD2_0_0:Tok}
  {tD2_0_1:Tok}
  {tD2_0_2:Tok}
  {tD2_0_3:Tok}
  {hD2_1:Int} {kD2_1:Tok}
  {pD2_1:Addr} {ddD2_1:Option Addr} {nD2_1:Nat} {slD2_1:Array (Option Value)}
  {tD2_1_0:Tok}
  {tD2_1_1:Tok}
  {tD2_1_2:Tok}
  {tD2_1_3:Tok}
  {tD2_1_4:Tok}
  {hD2_2:Int} {kD2_2:Tok}
  {pD2_2:Addr} {ddD2_2:Option Addr} {nD2_2:Nat} {slD2_2:Array (Option Value)}
  {tD2_2_0:Tok}
  {tD2_2_1:Tok}
  {tD2_2_2:Tok}
  {tD2_2_3:Tok}
  {tD2_2_4:Tok}
  {hD2_3:Int} {kD2_3:Tok}
  {pD2_3:Addr} {ddD2_3:Option Addr} {nD2_3:Nat} {slD2_3:Array (Option Value)}
  {tD2_3_0:Tok}
  {tD2_3_1:Tok}
  {tD2_3_2:Tok}
  {tD2_3_3:Tok}
  {tD2_3_4:Tok}
  {hD2_4:Int} {kD2_4:Tok}
  {pD2_4:Addr} {ddD2_4:Option Addr} {nD2_4:Nat} {slD2_4:Array (Option Value)}
  {tD2_4_0:Tok}
  {tD2_4_1:Tok}
  {tD2_4_2:Tok}
  {tD2_4_3:Tok}
  {tD2_4_4:Tok}
  {tD2_4_5:Tok}
  {hD2_5:Int} {kD2_5:Tok}
  {pD2_5:Addr} {ddD2_5:Option Addr} {nD2_5:Nat} {slD2_5:Array (Option Value)}
  {tD2_5_0:Tok}
  {tD2_5_1:Tok}
  {tD2_5_2:Tok}
  {hD2_6:Int} {kD2_6:Tok}
  {pD2_6:Addr} {ddD2_6:Option Addr} {nD2_6:Nat} {slD2_6:Array (Option Value)}
  {tD2_6_0:Tok}
  {tD2_6_1:Tok}
  {tD2_6_2:Tok}
  {pD3:Addr} {mD3:Nat}
  {hD3_0:Int} {kD3_0:Tok}
  {tD3_0:Tok}
  {hD3_1:Int} {kD3_1:Tok}
  {tD3_1:Tok}
  {hD3_2:Int} {kD3_2:Tok}
  {tD3_2:Tok}
  {tD4:Tok}
  (X:K.In h) (G:h.Ns mainGlobals mg) (hfa:mg "law" = some (.ref fa))
  (a1:PySem.W.nsIn K mainGlobals "is_number" = some (some (.ref f1)))
  (l1:K.lookup f1=some ⟨oc1,od1,.func (PySem.W.fnOf "is_number" "is_number" (jaH jcb) (jae jcb) (ja jcb) .none kV1 dc1 pm1 an1 cd1 ct1),sl1⟩) (c1:PySem.W.codeIn K cd1 "is_number" = true) (k1:PySem.W.keepIn K (.ref f1)=true)
  (a2:PySem.W.nsIn K mainGlobals "is_tuple_of" = some (some (.ref f2)))
  (l2:K.lookup f2=some ⟨oc2,od2,.func (PySem.W.fnOf "is_tuple_of" "is_tuple_of" (jaH jbD) (jae jbD) (ja jbD) .none kV2 dc2 pm2 an2 cd2 ct2),sl2⟩) (c2:PySem.W.codeIn K cd2 "is_tuple_of" = true) (k2:PySem.W.keepIn K (.ref f2)=true)
  (a3:PySem.W.nsIn K mainGlobals "are_unlike" = some (some (.ref f3)))
  (l3:K.lookup f3=some ⟨oc3,od3,.func (PySem.W.fnOf "are_unlike" "are_unlike" (jaH jbV) (jae jbV) (ja jbV) .none kV3 dc3 pm3 an3 cd3 ct3),sl3⟩) (c3:PySem.W.codeIn K cd3 "are_unlike" = true) (k3:PySem.W.keepIn K (.ref f3)=true)
  (a4:PySem.W.nsIn K mainGlobals "is_name" = some (some (.ref f4)))
  (l4:K.lookup f4=some ⟨oc4,od4,.func (PySem.W.fnOf "is_name" "is_name" (jaH jcM) (jae jcM) (ja jcM) .none kV4 dc4 pm4 an4 cd4 ct4),sl4⟩) (c4:PySem.W.codeIn K cd4 "is_name" = true) (k4:PySem.W.keepIn K (.ref f4)=true)
  (a5:PySem.W.nsIn K mainGlobals "parts_of" = some (some (.ref f5)))
  (l5:K.lookup f5=some ⟨oc5,od5,.func (PySem.W.fnOf "parts_of" "parts_of" (jaH jcn) (jae jcn) (ja jcn) .none kV5 dc5 pm5 an5 cd5 ct5),sl5⟩) (c5:PySem.W.codeIn K cd5 "parts_of" = true) (k5:PySem.W.keepIn K (.ref f5)=true)
  (a6:PySem.W.nsIn K mainGlobals "is_number_part" = some (some (.ref f6)))
  (l6:K.lookup f6=some ⟨oc6,od6,.func (PySem.W.fnOf "is_number_part" "is_number_part" (jaH ja4) (jae ja4) (ja ja4) .none kV6 dc6 pm6 an6 cd6 ct6),sl6⟩) (c6:PySem.W.codeIn K cd6 "is_number_part" = true) (k6:PySem.W.keepIn K (.ref f6)=true)
  (a7:PySem.W.nsIn K mainGlobals "is_line" = some (some (.ref f7)))
  (l7:K.lookup f7=some ⟨oc7,od7,.func (PySem.W.fnOf "is_line" "is_line" (jaH jcI) (jae jcI) (ja jcI) .none kV7 dc7 pm7 an7 cd7 ct7),sl7⟩) (c7:PySem.W.codeIn K cd7 "is_line" = true) (k7:PySem.W.keepIn K (.ref f7)=true)
  (a8:PySem.W.nsIn K mainGlobals "are_lines" = some (some (.ref f8)))
  (l8:K.lookup f8=some ⟨oc8,od8,.func (PySem.W.fnOf "are_lines" "are_lines" (jaH jb7) (jae jb7) (ja jb7) .none kV8 dc8 pm8 an8 cd8 ct8),sl8⟩) (c8:PySem.W.codeIn K cd8 "are_lines" = true) (k8:PySem.W.keepIn K (.ref f8)=true)
  (a9:PySem.W.nsIn K mainGlobals "are_unlike_names" = some (some (.ref f9)))
  (l9:K.lookup f9=some ⟨oc9,od9,.func (PySem.W.fnOf "are_unlike_names" "are_unlike_names" (jaH jaO) (jae jaO) (ja jaO) .none kV9 dc9 pm9 an9 cd9 ct9),sl9⟩) (c9:PySem.W.codeIn K cd9 "are_unlike_names" = true) (k9:PySem.W.keepIn K (.ref f9)=true)
  (a10:PySem.W.nsIn K mainGlobals "is_value_of" = some (some (.ref f10)))
  (l10:K.lookup f10=some ⟨oc10,od10,.func (PySem.W.fnOf "is_value_of" "is_value_of" (jaH jbA) (jae jbA) (ja jbA) .none kV10 dc10 pm10 an10 cd10 ct10),sl10⟩) (c10:PySem.W.codeIn K cd10 "is_value_of" = true) (k10:PySem.W.keepIn K (.ref f10)=true)
  (a11:PySem.W.nsIn K mainGlobals "has_its_parts" = some (some (.ref f11)))
  (l11:K.lookup f11=some ⟨oc11,od11,.func (PySem.W.fnOf "has_its_parts" "has_its_parts" (jaH jbc) (jae jbc) (ja jbc) .none kV11 dc11 pm11 an11 cd11 ct11),sl11⟩) (c11:PySem.W.codeIn K cd11 "has_its_parts" = true) (k11:PySem.W.keepIn K (.ref f11)=true)
  (a12:PySem.W.nsIn K mainGlobals "named_parts" = some (some (.ref f12)))
  (l12:K.lookup f12=some ⟨oc12,od12,.func (PySem.W.fnOf "named_parts" "named_parts" (jaH jbF) (jae jbF) (ja jbF) .none kV12 dc12 pm12 an12 cd12 ct12),sl12⟩) (c12:PySem.W.codeIn K cd12 "named_parts" = true) (k12:PySem.W.keepIn K (.ref f12)=true)
  (a13:PySem.W.nsIn K mainGlobals "go_together" = some (some (.ref f13)))
  (l13:K.lookup f13=some ⟨oc13,od13,.func (PySem.W.fnOf "go_together" "go_together" (jaH jbx) (jae jbx) (ja jbx) .none kV13 dc13 pm13 an13 cd13 ct13),sl13⟩) (c13:PySem.W.codeIn K cd13 "go_together" = true) (k13:PySem.W.keepIn K (.ref f13)=true)
  (a14:PySem.W.nsIn K mainGlobals "checked_deed" = some (some (.ref f14)))
  (l14:K.lookup f14=some ⟨oc14,od14,.func (PySem.W.fnOf "checked_deed" "checked_deed" (jaH jaW) (jae jaW) (ja jaW) .none kV14 dc14 pm14 an14 cd14 ct14),sl14⟩) (c14:PySem.W.codeIn K cd14 "checked_deed" = true) (k14:PySem.W.keepIn K (.ref f14)=true)
  (a15:PySem.W.nsIn K mainGlobals "_law_at" = some (some (.ref f15)))
  (l15:K.lookup f15=some ⟨oc15,od15,.func (PySem.W.fnOf "_law_at" "_law_at" (jaH jdn) (jae jdn) (ja jdn) .none kV15 dc15 pm15 an15 cd15 ct15),sl15⟩) (c15:PySem.W.codeIn K cd15 "_law_at" = true) (k15:PySem.W.keepIn K (.ref f15)=true)
  (a16:PySem.W.nsIn K mainGlobals "_law_mix" = some (some (.ref f16)))
  (l16:K.lookup f16=some ⟨oc16,od16,.func (PySem.W.fnOf "_law_mix" "_law_mix" (jaH jcV) (jae jcV) (ja jcV) .none kV16 dc16 pm16 an16 cd16 ct16),sl16⟩) (c16:PySem.W.codeIn K cd16 "_law_mix" = true) (k16:PySem.W.keepIn K (.ref f16)=true)
  (a17:PySem.W.nsIn K mainGlobals "_law_names" = some (some (.ref f17)))
  (l17:K.lookup f17=some ⟨oc17,od17,.func (PySem.W.fnOf "_law_names" "_law_names" (jaH jb8) (jae jb8) (ja jb8) .none kV17 dc17 pm17 an17 cd17 ct17),sl17⟩) (c17:PySem.W.codeIn K cd17 "_law_names" = true) (k17:PySem.W.keepIn K (.ref f17)=true)
  (a18:PySem.W.nsIn K mainGlobals "_law_number" = some (some (.ref f18)))
  (l18:K.lookup f18=some ⟨oc18,od18,.func (PySem.W.fnOf "_law_number" "_law_number" (jaH jbU) (jae jbU) (ja jbU) .none kV18 dc18 pm18 an18 cd18 ct18),sl18⟩) (c18:PySem.W.codeIn K cd18 "_law_number" = true) (k18:PySem.W.keepIn K (.ref f18)=true)
  (a19:PySem.W.nsIn K mainGlobals "_law_some_lines" = some (some (.ref f19)))
  (l19:K.lookup f19=some ⟨oc19,od19,.func (PySem.W.fnOf "_law_some_lines" "_law_some_lines" (jaH ja3) (jae ja3) (ja ja3) .none kV19 dc19 pm19 an19 cd19 ct19),sl19⟩) (c19:PySem.W.codeIn K cd19 "_law_some_lines" = true) (k19:PySem.W.keepIn K (.ref f19)=true)
  (a20:PySem.W.nsIn K mainGlobals "_law_deed" = some (some (.ref f20)))
  (l20:K.lookup f20=some ⟨oc20,od20,.func (PySem.W.fnOf "_law_deed" "_law_deed" (jaH jcq) (jae jcq) (ja jcq) .none kV20 dc20 pm20 an20 cd20 ct20),sl20⟩) (c20:PySem.W.codeIn K cd20 "_law_deed" = true) (k20:PySem.W.keepIn K (.ref f20)=true)
  (a21:PySem.W.nsIn K mainGlobals "_law_put" = some (some (.ref f21)))
  (l21:K.lookup f21=some ⟨oc21,od21,.func (PySem.W.fnOf "_law_put" "_law_put" (jaH jcN) (jae jcN) (ja jcN) .none kV21 dc21 pm21 an21 cd21 ct21),sl21⟩) (c21:PySem.W.codeIn K cd21 "_law_put" = true) (k21:PySem.W.keepIn K (.ref f21)=true)
  (a22:PySem.W.nsIn K mainGlobals "_law_lines_spoiled" = some (some (.ref f22)))
  (l22:K.lookup f22=some ⟨oc22,od22,.func (PySem.W.fnOf "_law_lines_spoiled" "_law_lines_spoiled" (jaH jaJ) (jae jaJ) (ja jaJ) .none kV22 dc22 pm22 an22 cd22 ct22),sl22⟩) (c22:PySem.W.codeIn K cd22 "_law_lines_spoiled" = true) (k22:PySem.W.keepIn K (.ref f22)=true)
  (a23:PySem.W.nsIn K mainGlobals "_law_own_fault" = some (some (.ref f23)))
  (l23:K.lookup f23=some ⟨oc23,od23,.func (PySem.W.fnOf "_law_own_fault" "_law_own_fault" (jaH jbb) (jae jbb) (ja jbb) .none kV23 dc23 pm23 an23 cd23 ct23),sl23⟩) (c23:PySem.W.codeIn K cd23 "_law_own_fault" = true) (k23:PySem.W.keepIn K (.ref f23)=true)
  (a24:PySem.W.nsIn K mainGlobals "_law_spoiled" = some (some (.ref f24)))
  (l24:K.lookup f24=some ⟨oc24,od24,.func (PySem.W.fnOf "_law_spoiled" "_law_spoiled" (jaH jbB) (jae jbB) (ja jbB) .none kV24 dc24 pm24 an24 cd24 ct24),sl24⟩) (c24:PySem.W.codeIn K cd24 "_law_spoiled" = true) (k24:PySem.W.keepIn K (.ref f24)=true)
  (a25:PySem.W.nsIn K mainGlobals "_law_refused" = some (some (.ref f25)))
  (l25:K.lookup f25=some ⟨oc25,od25,.func (PySem.W.fnOf "_law_refused" "_law_refused" (jaH jbW) (jae jbW) (ja jbW) .none kV25 dc25 pm25 an25 cd25 ct25),sl25⟩) (c25:PySem.W.codeIn K cd25 "_law_refused" = true) (k25:PySem.W.keepIn K (.ref f25)=true)
  (aX0:PySem.W.nsIn K mainGlobals "PurseError" = some (some (.ref x0)))
  (aX1:PySem.W.nsIn K mainGlobals "BadDeed" = some (some (.ref x1)))
  (aX2:PySem.W.nsIn K mainGlobals "BadBook" = some (some (.ref x2)))
  (aX3:PySem.W.nsIn K mainGlobals "BadHouse" = some (some (.ref x3)))
  (aX4:PySem.W.nsIn K mainGlobals "BadText" = some (some (.ref x4)))
  (aX5:PySem.W.nsIn K mainGlobals "NoDeed" = some (some (.ref x5)))
  (aX6:PySem.W.nsIn K mainGlobals "NoRate" = some (some (.ref x6)))
  (aX7:PySem.W.nsIn K mainGlobals "NotOver" = some (some (.ref x7)))
  (aX8:PySem.W.nsIn K mainGlobals "TooFew" = some (some (.ref x8)))
  (aX9:PySem.W.nsIn K mainGlobals "Twice" = some (some (.ref x9)))
  (aX10:PySem.W.nsIn K mainGlobals "WrongDay" = some (some (.ref x10)))
  (aV:PySem.W.nsIn K mainGlobals "ValueError" = some none)
  (aR:RefOk K x1 x0 [x2,x3,x4,x5,x6,x7,x8,x9,x10])
  (a26:PySem.W.nsIn K mainGlobals "law" = some (some (.ref f26)))
  (l26:K.lookup f26=some ⟨oc26,od26,.func (PySem.W.fnOf "law" "law" (jaH jgh) (jae jgh) (ja jgh) .none kV26 dc26 pm26 an26 cd26 ct26),sl26⟩) (c26:PySem.W.codeIn K cd26 "law" = true) (k26:PySem.W.keepIn K (.ref f26)=true)
  (aD1:PySem.W.nsIn K mainGlobals "LONGEST_NAME" = some (some (.int 8 tD1)))
  (aD2:PySem.W.nsIn K mainGlobals "PARTS" = some (some (.ref pD2)))
  (lD2:K.lookup pD2=some ⟨.type "dict",none,.dict #[⟨hD2_0,.str "buy" kD2_0,.ref pD2_0⟩,⟨hD2_1,.str "spend" kD2_1,.ref pD2_1⟩,⟨hD2_2,.str "give" kD2_2,.ref pD2_2⟩,⟨hD2_3,.str "change" kD2_3,.ref pD2_3⟩,⟨hD2_4,.str "lend" kD2_4,.ref pD2_4⟩,⟨hD2_5,.str "back" kD2_5,.ref pD2_5⟩,⟨hD2_6,.str "fix" kD2_6,.ref pD2_6⟩] mD2,#[]⟩) (yD2:PySem.W.KeysLit w.params [⟨hD2_0,.str "buy" kD2_0,.ref pD2_0⟩,⟨hD2_1,.str "spend" kD2_1,.ref pD2_1⟩,⟨hD2_2,.str "give" kD2_2,.ref pD2_2⟩,⟨hD2_3,.str "change" kD2_3,.ref pD2_3⟩,⟨hD2_4,.str "lend" kD2_4,.ref pD2_4⟩,⟨hD2_5,.str "back" kD2_5,.ref pD2_5⟩,⟨hD2_6,.str "fix" kD2_6,.ref pD2_6⟩]) (sD2:(pD2 == sysModules)=false)
  (lD2_0:K.lookup pD2_0=some ⟨.type "tuple",ddD2_0,.seq #[.str "ref" tD2_0_0,.str "day" tD2_0_1,.str "purse" tD2_0_2,.str "lines" tD2_0_3] nD2_0,slD2_0⟩)
  (lD2_1:K.lookup pD2_1=some ⟨.type "tuple",ddD2_1,.seq #[.str "ref" tD2_1_0,.str "day" tD2_1_1,.str "purse" tD2_1_2,.str "points" tD2_1_3,.str "first" tD2_1_4] nD2_1,slD2_1⟩)
  (lD2_2:K.lookup pD2_2=some ⟨.type "tuple",ddD2_2,.seq #[.str "ref" tD2_2_0,.str "day" tD2_2_1,.str "purse" tD2_2_2,.str "other" tD2_2_3,.str "points" tD2_2_4] nD2_2,slD2_2⟩)
  (lD2_3:K.lookup pD2_3=some ⟨.type "tuple",ddD2_3,.seq #[.str "ref" tD2_3_0,.str "day" tD2_3_1,.str "purse" tD2_3_2,.str "other" tD2_3_3,.str "points" tD2_3_4] nD2_3,slD2_3⟩)
  (lD2_4:K.lookup pD2_4=some ⟨.type "tuple",ddD2_4,.seq #[.str "ref" tD2_4_0,.str "day" tD2_4_1,.str "purse" tD2_4_2,.str "other" tD2_4_3,.str "points" tD2_4_4,.str "end" tD2_4_5] nD2_4,slD2_4⟩)
  (lD2_5:K.lookup pD2_5=some ⟨.type "tuple",ddD2_5,.seq #[.str "ref" tD2_5_0,.str "day" tD2_5_1,.str "of" tD2_5_2] nD2_5,slD2_5⟩)
  (lD2_6:K.lookup pD2_6=some ⟨.type "tuple",ddD2_6,.seq #[.str "ref" tD2_6_0,.str "of" tD2_6_1,.str "lines" tD2_6_2] nD2_6,slD2_6⟩)
  (aD3:PySem.W.nsIn K mainGlobals "LEASTS" = some (some (.ref pD3)))
  (lD3:K.lookup pD3=some ⟨.type "dict",none,.dict #[⟨hD3_0,.str "day" kD3_0,.int 0 tD3_0⟩,⟨hD3_1,.str "points" kD3_1,.int 1 tD3_1⟩,⟨hD3_2,.str "end" kD3_2,.int 0 tD3_2⟩] mD3,#[]⟩) (yD3:PySem.W.KeysLit w.params [⟨hD3_0,.str "day" kD3_0,.int 0 tD3_0⟩,⟨hD3_1,.str "points" kD3_1,.int 1 tD3_1⟩,⟨hD3_2,.str "end" kD3_2,.int 0 tD3_2⟩]) (sD3:(pD3 == sysModules)=false)
  (aD4:PySem.W.nsIn K mainGlobals "MOST_IN_A_LIST" = some (some (.int 8 tD4)))
  (z1:PySem.W.nsIn K mainGlobals "len" = some none)
  (z2:PySem.W.nsIn K mainGlobals "sum" = some none)
  (z3:PySem.W.nsIn K mainGlobals "min" = some none)
  (z4:PySem.W.nsIn K mainGlobals "max" = some none)
  (z5:PySem.W.nsIn K mainGlobals "list" = some none)
  (z6:PySem.W.nsIn K mainGlobals "tuple" = some none)
  (z7:PySem.W.nsIn K mainGlobals "int" = some none)
  (z8:PySem.W.nsIn K mainGlobals "all" = some none)
  (z9:PySem.W.nsIn K mainGlobals "isinstance" = some none)
  (z10:PySem.W.nsIn K mainGlobals "range" = some none)
  (z11:PySem.W.nsIn K mainGlobals "str" = some none)
  (z12:PySem.W.nsIn K mainGlobals "enumerate" = some none)
  (z13:PySem.W.nsIn K mainGlobals "zip" = some none)
  (z14:PySem.W.nsIn K mainGlobals "bool" = some none)
  (z15:PySem.W.nsIn K mainGlobals "dict" = some none)
  (z16:PySem.W.nsIn K mainGlobals "set" = some none) :
  ∃fd:FuncData,(∀(s:Shared) (v:Value),BindsTo s fd ⟨[v],[]⟩ [("_law_script",v)])∧∀base:Heap,K.In base→base.Ns mainGlobals mg→FnOk l.prog w K mg base CX0 8 fa fd ["_law_script"] (spLaw K):=by
 have e:=hfa.symm.trans (PySem.W.mg_of X G a26)
 cases e
 have hm:∀x∈jdX,mg x=none:=by
  intro x hx
  rcases List.mem_cons.mp hx with e | hx
  ·rw[e];exact PySem.W.mg_none_of X G z1
  rcases List.mem_cons.mp hx with e | hx
  ·rw[e];exact PySem.W.mg_none_of X G z2
  rcases List.mem_cons.mp hx with e | hx
  ·rw[e];exact PySem.W.mg_none_of X G z3
  rcases List.mem_cons.mp hx with e | hx
  ·rw[e];exact PySem.W.mg_none_of X G z4
  rcases List.mem_cons.mp hx with e | hx
  ·rw[e];exact PySem.W.mg_none_of X G z5
  rcases List.mem_cons.mp hx with e | hx
  ·rw[e];exact PySem.W.mg_none_of X G z6
  rcases List.mem_cons.mp hx with e | hx
  ·rw[e];exact PySem.W.mg_none_of X G z7
  rcases List.mem_cons.mp hx with e | hx
  ·rw[e];exact PySem.W.mg_none_of X G z8
  rcases List.mem_cons.mp hx with e | hx
  ·rw[e];exact PySem.W.mg_none_of X G z9
  rcases List.mem_cons.mp hx with e | hx
  ·rw[e];exact PySem.W.mg_none_of X G z10
  rcases List.mem_cons.mp hx with e | hx
  ·rw[e];exact PySem.W.mg_none_of X G z11
  rcases List.mem_cons.mp hx with e | hx
  ·rw[e];exact PySem.W.mg_none_of X G z12
  rcases List.mem_cons.mp hx with e | hx
  ·rw[e];exact PySem.W.mg_none_of X G z13
  rcases List.mem_cons.mp hx with e | hx
  ·rw[e];exact PySem.W.mg_none_of X G z14
  rcases List.mem_cons.mp hx with e | hx
  ·rw[e];exact PySem.W.mg_none_of X G z15
  rcases List.mem_cons.mp hx with e | hx
  ·rw[e];exact PySem.W.mg_none_of X G z16
  cases hx
 have C_LONGEST_NAME:jja K w mg jcs.name (Option.get jcs.dat rfl):=⟨_,.int 8,PySem.W.mg_of X G aD1,⟨_,rfl⟩,fun _ _=>by unfold Den;rfl⟩
 have C_PARTS:jja K w mg jhg.name (Option.get jhg.dat rfl):=⟨_,[.ref pD2_0,.ref pD2_1,.ref pD2_2,.ref pD2_3,.ref pD2_4,.ref pD2_5,.ref pD2_6],PySem.W.mg_of X G aD2,⟨⟨_,_,lD2,yD2,.cons ⟨⟨_,rfl⟩,rfl⟩ (.cons ⟨⟨_,rfl⟩,rfl⟩ (.cons ⟨⟨_,rfl⟩,rfl⟩ (.cons ⟨⟨_,rfl⟩,rfl⟩ (.cons ⟨⟨_,rfl⟩,rfl⟩ (.cons ⟨⟨_,rfl⟩,rfl⟩ (.cons ⟨⟨_,rfl⟩,rfl⟩ (.nil)))))))⟩,sD2⟩,fun _ _=>by unfold DenL;exact⟨_,_,rfl,by unfold Den;exact⟨pD2_0,[.str "ref",.str "day",.str "purse",.str "lines"],rfl,.inr ⟨_,_,_,lD2_0,rfl,rfl,(by show 4≤sizeLine;decide),.cons ⟨_,rfl⟩ (.cons ⟨_,rfl⟩ (.cons ⟨_,rfl⟩ (.cons ⟨_,rfl⟩ (.nil))))⟩,by unfold DenL;exact⟨_,_,rfl,by unfold Den;rfl,by unfold DenL;exact⟨_,_,rfl,by unfold Den;rfl,by unfold DenL;exact⟨_,_,rfl,by unfold Den;rfl,by unfold DenL;exact⟨_,_,rfl,by unfold Den;rfl,by unfold DenL;rfl⟩⟩⟩⟩⟩,by unfold DenL;exact⟨_,_,rfl,by unfold Den;exact⟨pD2_1,[.str "ref",.str "day",.str "purse",.str "points",.str "first"],rfl,.inr ⟨_,_,_,lD2_1,rfl,rfl,(by show 5≤sizeLine;decide),.cons ⟨_,rfl⟩ (.cons ⟨_,rfl⟩ (.cons ⟨_,rfl⟩ (.cons ⟨_,rfl⟩ (.cons ⟨_,rfl⟩ (.nil)))))⟩,by unfold DenL;exact⟨_,_,rfl,by unfold Den;rfl,by unfold DenL;exact⟨_,_,rfl,by unfold Den;rfl,by unfold DenL;exact⟨_,_,rfl,by unfold Den;rfl,by unfold DenL;exact⟨_,_,rfl,by unfold Den;rfl,by unfold DenL;exact⟨_,_,rfl,by unfold Den;rfl,by unfold DenL;rfl⟩⟩⟩⟩⟩⟩,by unfold DenL;exact⟨_,_,rfl,by unfold Den;exact⟨pD2_2,[.str "ref",.str "day",.str "purse",.str "other",.str "points"],rfl,.inr ⟨_,_,_,lD2_2,rfl,rfl,(by show 5≤sizeLine;decide),.cons ⟨_,rfl⟩ (.cons ⟨_,rfl⟩ (.cons ⟨_,rfl⟩ (.cons ⟨_,rfl⟩ (.cons ⟨_,rfl⟩ (.nil)))))⟩,by unfold DenL;exact⟨_,_,rfl,by unfold Den;rfl,by unfold DenL;exact⟨_,_,rfl,by unfold Den;rfl,by unfold DenL;exact⟨_,_,rfl,by unfold Den;rfl,by unfold DenL;exact⟨_,_,rfl,by unfold Den;rfl,by unfold DenL;exact⟨_,_,rfl,by unfold Den;rfl,by unfold DenL;rfl⟩⟩⟩⟩⟩⟩,by unfold DenL;exact⟨_,_,rfl,by unfold Den;exact⟨pD2_3,[.str "ref",.str "day",.str "purse",.str "other",.str "points"],rfl,.inr ⟨_,_,_,lD2_3,rfl,rfl,(by show 5≤sizeLine;decide),.cons ⟨_,rfl⟩ (.cons ⟨_,rfl⟩ (.cons ⟨_,rfl⟩ (.cons ⟨_,rfl⟩ (.cons ⟨_,rfl⟩ (.nil)))))⟩,by unfold DenL;exact⟨_,_,rfl,by unfold Den;rfl,by unfold DenL;exact⟨_,_,rfl,by unfold Den;rfl,by unfold DenL;exact⟨_,_,rfl,by unfold Den;rfl,by unfold DenL;exact⟨_,_,rfl,by unfold Den;rfl,by unfold DenL;exact⟨_,_,rfl,by unfold Den;rfl,by unfold DenL;rfl⟩⟩⟩⟩⟩⟩,by unfold DenL;exact⟨_,_,rfl,by unfold Den;exact⟨pD2_4,[.str "ref",.str "day",.str "purse",.str "other",.str "points",.str "end"],rfl,.inr ⟨_,_,_,lD2_4,rfl,rfl,(by show 6≤sizeLine;decide),.cons ⟨_,rfl⟩ (.cons ⟨_,rfl⟩ (.cons ⟨_,rfl⟩ (.cons ⟨_,rfl⟩ (.cons ⟨_,rfl⟩ (.cons ⟨_,rfl⟩ (.nil))))))⟩,by unfold DenL;exact⟨_,_,rfl,by unfold Den;rfl,by unfold DenL;exact⟨_,_,rfl,by unfold Den;rfl,by unfold DenL;exact⟨_,_,rfl,by unfold Den;rfl,by unfold DenL;exact⟨_,_,rfl,by unfold Den;rfl,by unfold DenL;exact⟨_,_,rfl,by unfold Den;rfl,by unfold DenL;exact⟨_,_,rfl,by unfold Den;rfl,by unfold DenL;rfl⟩⟩⟩⟩⟩⟩⟩,by unfold DenL;exact⟨_,_,rfl,by unfold Den;exact⟨pD2_5,[.str "ref",.str "day",.str "of"],rfl,.inr ⟨_,_,_,lD2_5,rfl,rfl,(by show 3≤sizeLine;decide),.cons ⟨_,rfl⟩ (.cons ⟨_,rfl⟩ (.cons ⟨_,rfl⟩ (.nil)))⟩,by unfold DenL;exact⟨_,_,rfl,by unfold Den;rfl,by unfold DenL;exact⟨_,_,rfl,by unfold Den;rfl,by unfold DenL;exact⟨_,_,rfl,by unfold Den;rfl,by unfold DenL;rfl⟩⟩⟩⟩,by unfold DenL;exact⟨_,_,rfl,by unfold Den;exact⟨pD2_6,[.str "ref",.str "of",.str "lines"],rfl,.inr ⟨_,_,_,lD2_6,rfl,rfl,(by show 3≤sizeLine;decide),.cons ⟨_,rfl⟩ (.cons ⟨_,rfl⟩ (.cons ⟨_,rfl⟩ (.nil)))⟩,by unfold DenL;exact⟨_,_,rfl,by unfold Den;rfl,by unfold DenL;exact⟨_,_,rfl,by unfold Den;rfl,by unfold DenL;exact⟨_,_,rfl,by unfold Den;rfl,by unfold DenL;rfl⟩⟩⟩⟩,by unfold DenL;rfl⟩⟩⟩⟩⟩⟩⟩⟩
 have C_LEASTS:jja K w mg jeE.name (Option.get jeE.dat rfl):=⟨_,[.int 0,.int 1,.int 0],PySem.W.mg_of X G aD3,⟨⟨_,_,lD3,yD3,.cons ⟨⟨_,rfl⟩,⟨_,rfl⟩⟩ (.cons ⟨⟨_,rfl⟩,⟨_,rfl⟩⟩ (.cons ⟨⟨_,rfl⟩,⟨_,rfl⟩⟩ (.nil)))⟩,sD3⟩,fun _ _=>by unfold DenL;exact⟨_,_,rfl,by unfold Den;rfl,by unfold DenL;exact⟨_,_,rfl,by unfold Den;rfl,by unfold DenL;exact⟨_,_,rfl,by unfold Den;rfl,by unfold DenL;rfl⟩⟩⟩⟩
 have C_MOST_IN_A_LIST:jja K w mg jbK.name (Option.get jbK.dat rfl):=⟨_,.int 8,PySem.W.mg_of X G aD4,⟨_,rfl⟩,fun _ _=>by unfold Den;rfl⟩
 have F1:=jbu (st:=jcb) l1 c1 k1
 have b1:=F1.binds (ps:=["value","least"]) fun _ _ _ _ _ _ us hl=>by obtain⟨_,_,rfl⟩:=jlH hl;rfl
 have F2:=jbu (st:=jbD) l2 c2 k2
 have b2:=F2.binds (ps:=["value","many"]) fun _ _ _ _ _ _ us hl=>by obtain⟨_,_,rfl⟩:=jlH hl;rfl
 have F3:=jbu (st:=jbV) l3 c3 k3
 have b3:=F3.binds (ps:=["values"]) fun _ _ _ _ _ _ us hl=>by obtain⟨_,rfl⟩:=jlh hl;rfl
 have F4:=jbu (st:=jcM) l4 c4 k4
 have b4:=F4.binds (ps:=["text"]) fun _ _ _ _ _ _ us hl=>by obtain⟨_,rfl⟩:=jlh hl;rfl
 have F5:=jbu (st:=jcn) l5 c5 k5
 have b5:=F5.binds (ps:=["word"]) fun _ _ _ _ _ _ us hl=>by obtain⟨_,rfl⟩:=jlh hl;rfl
 have F6:=jbu (st:=ja4) l6 c6 k6
 have b6:=F6.binds (ps:=["part"]) fun _ _ _ _ _ _ us hl=>by obtain⟨_,rfl⟩:=jlh hl;rfl
 have F7:=jbu (st:=jcI) l7 c7 k7
 have b7:=F7.binds (ps:=["line"]) fun _ _ _ _ _ _ us hl=>by obtain⟨_,rfl⟩:=jlh hl;rfl
 have F8:=jbu (st:=jb7) l8 c8 k8
 have b8:=F8.binds (ps:=["lines"]) fun _ _ _ _ _ _ us hl=>by obtain⟨_,rfl⟩:=jlh hl;rfl
 have F9:=jbu (st:=jaO) l9 c9 k9
 have b9:=F9.binds (ps:=["names"]) fun _ _ _ _ _ _ us hl=>by obtain⟨_,rfl⟩:=jlh hl;rfl
 have F10:=jbu (st:=jbA) l10 c10 k10
 have b10:=F10.binds (ps:=["part","value"]) fun _ _ _ _ _ _ us hl=>by obtain⟨_,_,rfl⟩:=jlH hl;rfl
 have F11:=jbu (st:=jbc) l11 c11 k11
 have b11:=F11.binds (ps:=["deed"]) fun _ _ _ _ _ _ us hl=>by obtain⟨_,rfl⟩:=jlh hl;rfl
 have F12:=jbu (st:=jbF) l12 c12 k12
 have b12:=F12.binds (ps:=["deed"]) fun _ _ _ _ _ _ us hl=>by obtain⟨_,rfl⟩:=jlh hl;rfl
 have F13:=jbu (st:=jbx) l13 c13 k13
 have b13:=F13.binds (ps:=["parts"]) fun _ _ _ _ _ _ us hl=>by obtain⟨_,rfl⟩:=jlh hl;rfl
 have F14:=jbu (st:=jaW) l14 c14 k14
 have b14:=F14.binds (ps:=["deed"]) fun _ _ _ _ _ _ us hl=>by obtain⟨_,rfl⟩:=jlh hl;rfl
 have F15:=jbu (st:=jdn) l15 c15 k15
 have b15:=F15.binds (ps:=["_law_script","_law_k"]) fun _ _ _ _ _ _ us hl=>by obtain⟨_,_,rfl⟩:=jlH hl;rfl
 have F16:=jbu (st:=jcV) l16 c16 k16
 have b16:=F16.binds (ps:=["_law_cell","_law_k"]) fun _ _ _ _ _ _ us hl=>by obtain⟨_,_,rfl⟩:=jlH hl;rfl
 have F17:=jbu (st:=jb8) l17 c17 k17
 have b17:=F17.binds (ps:=["_law_cell","_law_many"]) fun _ _ _ _ _ _ us hl=>by obtain⟨_,_,rfl⟩:=jlH hl;rfl
 have F18:=jbu (st:=jbU) l18 c18 k18
 have b18:=F18.binds (ps:=["_law_m","_law_cell"]) fun _ _ _ _ _ _ us hl=>by obtain⟨_,_,rfl⟩:=jlH hl;rfl
 have F19:=jbu (st:=ja3) l19 c19 k19
 have b19:=F19.binds (ps:=["_law_script","_law_at_here","_law_names_here"]) fun _ _ _ _ _ _ us hl=>by obtain⟨_,_,_,rfl⟩:=jyg hl;rfl
 have F20:=jbu (st:=jcq) l20 c20 k20
 have b20:=F20.binds (ps:=["_law_script","_law_at_here"]) fun _ _ _ _ _ _ us hl=>by obtain⟨_,_,rfl⟩:=jlH hl;rfl
 have F21:=jbu (st:=jcN) l21 c21 k21
 have b21:=F21.binds (ps:=["_law_deed_here","_law_at_here","_law_part"]) fun _ _ _ _ _ _ us hl=>by obtain⟨_,_,_,rfl⟩:=jyg hl;rfl
 have F22:=jbu (st:=jaJ) l22 c22 k22
 have b22:=F22.binds (ps:=["_law_lines","_law_m"]) fun _ _ _ _ _ _ us hl=>by obtain⟨_,_,rfl⟩:=jlH hl;rfl
 have F23:=jbu (st:=jbb) l23 c23 k23
 have b23:=F23.binds (ps:=["_law_deed_here","_law_m"]) fun _ _ _ _ _ _ us hl=>by obtain⟨_,_,rfl⟩:=jlH hl;rfl
 have F24:=jbu (st:=jbB) l24 c24 k24
 have b24:=F24.binds (ps:=["_law_deed_here","_law_m"]) fun _ _ _ _ _ _ us hl=>by obtain⟨_,_,rfl⟩:=jlH hl;rfl
 have F25:=jbu (st:=jbW) l25 c25 k25
 have b25:=F25.binds (ps:=["_law_deed_here"]) fun _ _ _ _ _ _ us hl=>by obtain⟨_,rfl⟩:=jlh hl;rfl
 have hcs:[("BadBook" : Str),("BadHouse" : Str),("BadText" : Str),("NoDeed" : Str),("NoRate" : Str),("NotOver" : Str),("TooFew" : Str),("Twice" : Str),("WrongDay" : Str)].map mg=[x2,x3,x4,x5,x6,x7,x8,x9,x10].map (fun a=>some (Value.ref a)):=by simp only[List.map_cons,List.map_nil,PySem.W.mg_of X G aX2,PySem.W.mg_of X G aX3,PySem.W.mg_of X G aX4,PySem.W.mg_of X G aX5,PySem.W.mg_of X G aX6,PySem.W.mg_of X G aX7,PySem.W.mg_of X G aX8,PySem.W.mg_of X G aX9,PySem.W.mg_of X G aX10]
 have F26:=jbu (st:=jgh) l26 c26 k26
 refine⟨PySem.W.fnOf "law" "law" (jaH jgh) (jae jgh) (ja jgh) .none kV26 dc26 pm26 an26 cd26 ct26,fun s v=>.of_eq rfl,fun base _ _=>?_⟩
 have C_is_number:Callee l.prog w K mg base jaL.lv jaL.name jaL.ps (jdL K jaL.ps.length jaL.F):=⟨f1,_,jbO F1 jhP (ja0 hm) jiL,PySem.W.mg_of X G a1,k1,b1⟩
 have C_is_tuple_of:Callee l.prog w K mg base ja8.lv ja8.name ja8.ps (jdL K ja8.ps.length ja8.F):=⟨f2,_,jbO F2 jgv (ja0 hm) jg9,PySem.W.mg_of X G a2,k2,b2⟩
 have C_are_unlike:Callee l.prog w K mg base jbi.lv jbi.name jbi.ps (jdL K jbi.ps.length jbi.F):=⟨f3,_,jbO F3 jgV (ja0 hm) jim,PySem.W.mg_of X G a3,k3,b3⟩
 have C_is_name:Callee l.prog w K mg base jaP.lv jaP.name jaP.ps (jdL K jaP.ps.length jaP.F):=⟨f4,_,jbO F4 jkO (je0 (by decide) C_LONGEST_NAME (ja0 hm)) jma,PySem.W.mg_of X G a4,k4,b4⟩
 have C_parts_of:Callee l.prog w K mg base jb1.lv jb1.name jb1.ps (jdL K jb1.ps.length jb1.F):=⟨f5,_,jbO F5 ji5 (je0 (by decide) C_PARTS (ja0 hm)) jkC,PySem.W.mg_of X G a5,k5,b5⟩
 have C_is_number_part:Callee l.prog w K mg base jaF.lv jaF.name jaF.ps (jdL K jaF.ps.length jaF.F):=⟨f6,_,jbO F6 jeR (je0 (by decide) C_LEASTS (ja0 hm)) jfg,PySem.W.mg_of X G a6,k6,b6⟩
 have C_is_line:Callee l.prog w K mg base jbj.lv jbj.name jbj.ps (jdL K jbj.ps.length jbj.F):=⟨f7,_,jbO F7 jko (jam rfl C_is_tuple_of (jam rfl C_is_name (jam rfl C_is_number (ja0 hm)))) jnk,PySem.W.mg_of X G a7,k7,b7⟩
 have C_are_lines:Callee l.prog w K mg base jaQ.lv jaQ.name jaQ.ps (jdL K jaQ.ps.length jaQ.F):=⟨f8,_,jbO F8 jh8 (je0 (by decide) C_MOST_IN_A_LIST (jam rfl C_is_line (ja0 hm))) jiP,PySem.W.mg_of X G a8,k8,b8⟩
 have C_are_unlike_names:Callee l.prog w K mg base jao.lv jao.name jao.ps (jdL K jao.ps.length jao.F):=⟨f9,_,jbO F9 jed (je0 (by decide) C_MOST_IN_A_LIST (jam rfl C_is_name (jam rfl C_are_unlike (ja0 hm)))) jeB,PySem.W.mg_of X G a9,k9,b9⟩
 have C_is_value_of:Callee l.prog w K mg base jab.lv jab.name jab.ps (jdL K jab.ps.length jab.F):=⟨f10,_,jbO F10 jgs (jam rfl C_are_lines (jam rfl C_are_unlike_names (jam rfl C_is_number_part (jam rfl C_is_number (je0 (by decide) C_LEASTS (jam rfl C_is_name (ja0 hm))))))) jhm,PySem.W.mg_of X G a10,k10,b10⟩
 have C_has_its_parts:Callee l.prog w K mg base jaw.lv jaw.name jaw.ps (jdL K jaw.ps.length jaw.F):=⟨f11,_,jbO F11 jff (jam rfl C_parts_of (jam rfl C_is_value_of (ja0 hm))) jfW,PySem.W.mg_of X G a11,k11,b11⟩
 have C_named_parts:Callee l.prog w K mg base jbh.lv jbh.name jbh.ps (jdL K jbh.ps.length jbh.F):=⟨f12,_,jbO F12 jgr (jam rfl C_parts_of (ja0 hm)) jhb,PySem.W.mg_of X G a12,k12,b12⟩
 have C_go_together:Callee l.prog w K mg base jaE.lv jaE.name jaE.ps (jdL K jaE.ps.length jaE.F):=⟨f13,_,jbO F13 jgl (ja0 hm) jgW,PySem.W.mg_of X G a13,k13,b13⟩
 have C_checked_deed:Callee l.prog w K mg base jb.lv jb.name jb.ps (jdL K jb.ps.length jb.F):=⟨f14,_,jbO F14 jdQ (jam rfl C_has_its_parts (jam rfl C_go_together (jam rfl C_named_parts (ja0 hm)))) jgo,PySem.W.mg_of X G a14,k14,b14⟩
 have C_law_at:Callee l.prog w K mg base jb6.lv jb6.name jb6.ps (jdL K jb6.ps.length jb6.F):=⟨f15,_,jbO F15 jlV (ja0 hm) jpm,PySem.W.mg_of X G a15,k15,b15⟩
 have C_law_mix:Callee l.prog w K mg base jb5.lv jb5.name jb5.ps (jdL K jb5.ps.length jb5.F):=⟨f16,_,jbO F16 jkS (ja0 hm) jlo,PySem.W.mg_of X G a16,k16,b16⟩
 have C_law_names:Callee l.prog w K mg base jbz.lv jbz.name jbz.ps (jdL K jbz.ps.length jbz.F):=⟨f17,_,jbO F17 jif (jam rfl C_law_mix (ja0 hm)) ji0,PySem.W.mg_of X G a17,k17,b17⟩
 have C_law_number:Callee l.prog w K mg base jbv.lv jbv.name jbv.ps (jdL K jbv.ps.length jbv.F):=⟨f18,_,jbO F18 jg5 (ja0 hm) jhC,PySem.W.mg_of X G a18,k18,b18⟩
 have C_law_some_lines:Callee l.prog w K mg base jaT.lv jaT.name jaT.ps (jdL K jaT.ps.length jaT.F):=⟨f19,_,jbO F19 jeY (jam rfl C_law_mix (jam rfl C_law_at (jam rfl C_law_number (ja0 hm)))) jfi,PySem.W.mg_of X G a19,k19,b19⟩
 have C_law_deed:Callee l.prog w K mg base jco.lv jco.name jco.ps (jdL K jco.ps.length jco.F):=⟨f20,_,jbO F20 jiX (jam rfl C_law_at (jam rfl C_law_mix (jam rfl C_law_names (jam rfl C_law_number (jam rfl C_law_some_lines (ja0 hm)))))) jk1,PySem.W.mg_of X G a20,k20,b20⟩
 have C_law_put:Callee l.prog w K mg base jbr.lv jbr.name jbr.ps (jdL K jbr.ps.length jbr.F):=⟨f21,_,jbO F21 jkY (ja0 hm) jlU,PySem.W.mg_of X G a21,k21,b21⟩
 have C_law_lines_spoiled:Callee l.prog w K mg base jaK.lv jaK.name jaK.ps (jdL K jaK.ps.length jaK.F):=⟨f22,_,jbO F22 jd4 (ja0 hm) jea,PySem.W.mg_of X G a22,k22,b22⟩
 have C_law_own_fault:Callee l.prog w K mg base jaZ.lv jaZ.name jaZ.ps (jdL K jaZ.ps.length jaZ.F):=⟨f23,_,jbO F23 jfk (jam rfl C_law_put (jam rfl C_law_lines_spoiled (ja0 hm))) jfJ,PySem.W.mg_of X G a23,k23,b23⟩
 have C_law_spoiled:Callee l.prog w K mg base jbG.lv jbG.name jbG.ps (jdL K jbG.ps.length jbG.F):=⟨f24,_,jvR F24 jgg (jam rfl C_law_put (jam rfl C_law_own_fault (ja0 hm))) jg1,PySem.W.mg_of X G a24,k24,b24⟩
 have CX_checked_deed:CalleeX l.prog w K mg base 6 "checked_deed" ["deed"] (spX K mg 1 jbn):=⟨f14,_,jtF F14 jdQ (jam rfl C_has_its_parts (jam rfl C_go_together (jam rfl C_named_parts (ja0 hm)))) ⟨⟨x1,PySem.W.mg_of X G aX1,aR.c⟩,⟨⟨x1,PySem.W.mg_of X G aX1,aR.c⟩,trivial⟩⟩ jfA,PySem.W.mg_of X G a14,k14,b14⟩
 have C_law_refused:Callee l.prog w K mg base jby.lv jby.name jby.ps (jdL K jby.ps.length jby.F):=⟨f25,_,jgw F25 CX_checked_deed aR (PySem.W.mg_of X G aX0) (hm "isinstance" (by decide)) (PySem.W.mg_of X G aX1) (PySem.W.mg_none_of X G aV) hcs,PySem.W.mg_of X G a25,k25,b25⟩
 exact jqX (jbO F26 juA (jam rfl C_law_deed (jam rfl C_checked_deed (jam rfl C_law_refused (jam rfl C_law_spoiled (jam rfl C_law_mix (jam rfl C_law_at (ja0 hm))))))) jwU) jps
end _K08
open PySem PySem.W PyProof.Rows
 def PySem.W.Fast.tw6926621696756785720:Unit:=()
 def PySem.W.Fast.tw14014435662037022243:Unit:=()
 def PySem.W.Fast.tw10364133618466741126:Unit:=()
 def PySem.W.Fast.tw3648844501877606784:Unit:=()
 def PySem.W.Fast.tw7490149837104983314:Unit:=()
 def PySem.W.Fast.tw5686336736292540108:Unit:=()
 def PySem.W.Fast.tw740599941919230911:Unit:=()
 def PySem.W.Fast.tw12951907779641836263:Unit:=()
 def PySem.W.Fast.tw7212251149086498769:Unit:=()
 def PySem.W.Fast.tw13284778655074511854:Unit:=()
 def PySem.W.Fast.tw10092932873549375683:Unit:=()
 def PySem.W.Fast.tw14423038567033359745:Unit:=()
 def PySem.W.Fast.tw15862550365994955141:Unit:=()
 def PySem.W.Fast.tw2209517684073962382:Unit:=()
 def PySem.W.Fast.tw1761967011441297459:Unit:=()
 def PySem.W.Fast.tw17689285738845698754:Unit:=()
 def PySem.W.Fast.tw2351306124328269802:Unit:=()
 def PySem.W.Fast.tw6761062668599909802:Unit:=()
 def PySem.W.Fast.tw14019407171469159165:Unit:=()
 def PySem.W.Fast.tw3367134959354120873:Unit:=()
 def PySem.W.Fast.tw6989881522571712616:Unit:=()
 def PySem.W.Fast.tw14003727004622184308:Unit:=()
 def PySem.W.Fast.tw12909190915859893074:Unit:=()
 def PySem.W.Fast.tw12472212739744826298:Unit:=()
 def PySem.W.Fast.tw970356566961610617:Unit:=()
 def PySem.W.Fast.tw7806636344909106594:Unit:=()
 def PySem.W.Fast.tw16813446954015363727:Unit:=()
 def PySem.W.Fast.tw18094027846958323453:Unit:=()
 def PySem.W.Fast.tw7778743621098070810:Unit:=()
 def PySem.W.Fast.tw12216284452805018499:Unit:=()
 def PySem.W.Fast.tw11373378863957406419:Unit:=()
 def PySem.W.Fast.tw6031479833229923016:Unit:=()
 def PySem.W.Fast.tw10424469387407981216:Unit:=()
 def PySem.W.Fast.tw17778405948959430026:Unit:=()
 def PySem.W.Fast.tw1638740309793309577:Unit:=()
 def PySem.W.Fast.tw9598142122530825188:Unit:=()
 def PySem.W.Fast.tw16664152253551675844:Unit:=()
 def PySem.W.Fast.tw1326774265746644541:Unit:=()
 def PySem.W.Fast.tw10213485891702084381:Unit:=()
 def PySem.W.Fast.tw7945029599772884505:Unit:=()
 def PySem.W.Fast.tw18073671480192789415:Unit:=()
 def PySem.W.Fast.tw387907116367729505:Unit:=()
 def PySem.W.Fast.tw6381768395681712614:Unit:=()
 def PySem.W.Fast.tw13259660574450828080:Unit:=()
 def PySem.W.Fast.tw10300845126709402047:Unit:=()
 def PySem.W.Fast.tw4777458203532834475:Unit:=()
set_option compiler.extract_closed true
 def _K08.zb:List PySem.Stmt:=PySem.Challenge.pw_pointpurse_k08_deeds_that_are_none.main.body
 def _K08.zN:PySem.Stmt:=.Pass ⟨0,0,0,0⟩
 def _K08.zs0:PySem.Stmt:=_K08.zb.getD 0 _K08.zN
 def _K08.zs1:PySem.Stmt:=_K08.zb.getD 1 _K08.zN
 def _K08.zs2:PySem.Stmt:=_K08.zb.getD 2 _K08.zN
 def _K08.zs3:PySem.Stmt:=_K08.zb.getD 3 _K08.zN
 def _K08.zs4:PySem.Stmt:=_K08.zb.getD 4 _K08.zN
 def _K08.zs5:PySem.Stmt:=_K08.zb.getD 5 _K08.zN
 def _K08.zs6:PySem.Stmt:=_K08.zb.getD 6 _K08.zN
 def _K08.zs7:PySem.Stmt:=_K08.zb.getD 7 _K08.zN
 def _K08.zs8:PySem.Stmt:=_K08.zb.getD 8 _K08.zN
 def _K08.zs9:PySem.Stmt:=_K08.zb.getD 9 _K08.zN
 def _K08.zs10:PySem.Stmt:=_K08.zb.getD 10 _K08.zN
 def _K08.zs11:PySem.Stmt:=_K08.zb.getD 11 _K08.zN
 def _K08.zs12:PySem.Stmt:=_K08.zb.getD 12 _K08.zN
 def _K08.zs13:PySem.Stmt:=_K08.zb.getD 13 _K08.zN
 def _K08.zs14:PySem.Stmt:=_K08.zb.getD 14 _K08.zN
 def _K08.zs15:PySem.Stmt:=_K08.zb.getD 15 _K08.zN
 def _K08.zs16:PySem.Stmt:=_K08.zb.getD 16 _K08.zN
 def _K08.zs17:PySem.Stmt:=_K08.zb.getD 17 _K08.zN
 def _K08.zs18:PySem.Stmt:=_K08.zb.getD 18 _K08.zN
 def _K08.zs19:PySem.Stmt:=_K08.zb.getD 19 _K08.zN
 def _K08.zs20:PySem.Stmt:=_K08.zb.getD 20 _K08.zN
 def _K08.zs21:PySem.Stmt:=_K08.zb.getD 21 _K08.zN
 def _K08.zs22:PySem.Stmt:=_K08.zb.getD 22 _K08.zN
 def _K08.zs23:PySem.Stmt:=_K08.zb.getD 23 _K08.zN
 def _K08.zs24:PySem.Stmt:=_K08.zb.getD 24 _K08.zN
 def _K08.zs25:PySem.Stmt:=_K08.zb.getD 25 _K08.zN
 def _K08.zs26:PySem.Stmt:=_K08.zb.getD 26 _K08.zN
 def _K08.zs27:PySem.Stmt:=_K08.zb.getD 27 _K08.zN
 def _K08.zs28:PySem.Stmt:=_K08.zb.getD 28 _K08.zN
 def _K08.zs29:PySem.Stmt:=_K08.zb.getD 29 _K08.zN
 def _K08.zs30:PySem.Stmt:=_K08.zb.getD 30 _K08.zN
 def _K08.zs31:PySem.Stmt:=_K08.zb.getD 31 _K08.zN
 def _K08.zs32:PySem.Stmt:=_K08.zb.getD 32 _K08.zN
 def _K08.zs33:PySem.Stmt:=_K08.zb.getD 33 _K08.zN
 def _K08.zs34:PySem.Stmt:=_K08.zb.getD 34 _K08.zN
 def _K08.zs35:PySem.Stmt:=_K08.zb.getD 35 _K08.zN
 def _K08.zs36:PySem.Stmt:=_K08.zb.getD 36 _K08.zN
 def _K08.zs37:PySem.Stmt:=_K08.zb.getD 37 _K08.zN
 def _K08.zs38:PySem.Stmt:=_K08.zb.getD 38 _K08.zN
 def _K08.zs39:PySem.Stmt:=_K08.zb.getD 39 _K08.zN
 def _K08.zs40:PySem.Stmt:=_K08.zb.getD 40 _K08.zN
 def _K08.zs41:PySem.Stmt:=_K08.zb.getD 41 _K08.zN
 def _K08.zs42:PySem.Stmt:=_K08.zb.getD 42 _K08.zN
 def _K08.zs43:PySem.Stmt:=_K08.zb.getD 43 _K08.zN
 def _K08.zs44:PySem.Stmt:=_K08.zb.getD 44 _K08.zN
 def _K08.zs45:PySem.Stmt:=_K08.zb.getD 45 _K08.zN
 def _K08.zp:PySem.Program:={PySem.Challenge.pw_pointpurse_k08_deeds_that_are_none with main:={PySem.Challenge.pw_pointpurse_k08_deeds_that_are_none.main with body:=[_K08.zs0,_K08.zs1,_K08.zs2,_K08.zs3,_K08.zs4,_K08.zs5,_K08.zs6,_K08.zs7,_K08.zs8,_K08.zs9,_K08.zs10,_K08.zs11,_K08.zs12,_K08.zs13,_K08.zs14,_K08.zs15,_K08.zs16,_K08.zs17,_K08.zs18,_K08.zs19,_K08.zs20,_K08.zs21,_K08.zs22,_K08.zs23,_K08.zs24,_K08.zs25,_K08.zs26,_K08.zs27,_K08.zs28,_K08.zs29,_K08.zs30,_K08.zs31,_K08.zs32,_K08.zs33,_K08.zs34,_K08.zs35,_K08.zs36,_K08.zs37,_K08.zs38,_K08.zs39,_K08.zs40,_K08.zs41,_K08.zs42,_K08.zs43,_K08.zs44,_K08.zs45]}}
 def _K08.zl:PySem.W.OpenLaw:={PySem.Challenge.rw_pointpurse_k08_deeds_that_are_none with prog:=_K08.zp}
set_option maxRecDepth 100000 in
theorem _K08.zl_eq:PySem.Challenge.rw_pointpurse_k08_deeds_that_are_none=_K08.zl:=rfl
set_option maxRecDepth 100000 in
set_option maxHeartbeats 0 in
theorem PySem.Challenge.cw_pointpurse_k08_deeds_that_are_none_holds : PySem.Challenge.rw_pointpurse_k08_deeds_that_are_none.Holds := by
 rw[_K08.zl_eq]
 w_on;o_law;k_head;(case hw=>w_witness2)
 k_fill
 refine _L2.walk_ofK (l:=_K08.zl) (n:=63) (k:=8) (x:="_law_script") (CX:=_L2.CX0) (sp:=_L2.spLaw) rfl (by decide) rfl ⟨rfl,by decide,by decide⟩ (fun w h Y=>PySem.W.kIn_of Y) ?F ?S ?C
 case F =>
  intro w mg fa h KX G hmg
  refine' _K08.all_mk KX G hmg ?a1 ?l1 ?c1 ?k1 ?a2 ?l2 ?c2 ?k2 ?a3 ?l3 ?c3 ?k3 ?a4 ?l4 ?c4 ?k4 ?a5 ?l5 ?c5 ?k5 ?a6 ?l6 ?c6 ?k6 ?a7 ?l7 ?c7 ?k7 ?a8 ?l8 ?c8 ?k8 ?a9 ?l9 ?c9 ?k9 ?a10 ?l10 ?c10 ?k10 ?a11 ?l11 ?c11 ?k11 ?a12 ?l12 ?c12 ?k12 ?a13 ?l13 ?c13 ?k13 ?a14 ?l14 ?c14 ?k14 ?a15 ?l15 ?c15 ?k15 ?a16 ?l16 ?c16 ?k16 ?a17 ?l17 ?c17 ?k17 ?a18 ?l18 ?c18 ?k18 ?a19 ?l19 ?c19 ?k19 ?a20 ?l20 ?c20 ?k20 ?a21 ?l21 ?c21 ?k21 ?a22 ?l22 ?c22 ?k22 ?a23 ?l23 ?c23 ?k23 ?a24 ?l24 ?c24 ?k24 ?a25 ?l25 ?c25 ?k25 ?aX0 ?aX1 ?aX2 ?aX3 ?aX4 ?aX5 ?aX6 ?aX7 ?aX8 ?aX9 ?aX10 ?aV ?aR ?a26 ?l26 ?c26 ?k26 ?aD1 ?aD2 ?lD2 ?yD2 ?sD2 ?lD2_0 ?lD2_1 ?lD2_2 ?lD2_3 ?lD2_4 ?lD2_5 ?lD2_6 ?aD3 ?lD3 ?yD3 ?sD3 ?aD4 ?z1 ?z2 ?z3 ?z4 ?z5 ?z6 ?z7 ?z8 ?z9 ?z10 ?z11 ?z12 ?z13 ?z14 ?z15 ?z16
  (case a1=>k_is)
  (case l1=>k_is)
  (case c1=>k_is)
  (case k1=>k_is)
  (case a2=>k_is)
  (case l2=>k_is)
  (case c2=>k_is)
  (case k2=>k_is)
  (case a3=>k_is)
  (case l3=>k_is)
  (case c3=>k_is)
  (case k3=>k_is)
  (case a4=>k_is)
  (case l4=>k_is)
  (case c4=>k_is)
  (case k4=>k_is)
  (case a5=>k_is)
  (case l5=>k_is)
  (case c5=>k_is)
  (case k5=>k_is)
  (case a6=>k_is)
  (case l6=>k_is)
  (case c6=>k_is)
  (case k6=>k_is)
  (case a7=>k_is)
  (case l7=>k_is)
  (case c7=>k_is)
  (case k7=>k_is)
  (case a8=>k_is)
  (case l8=>k_is)
  (case c8=>k_is)
  (case k8=>k_is)
  (case a9=>k_is)
  (case l9=>k_is)
  (case c9=>k_is)
  (case k9=>k_is)
  (case a10=>k_is)
  (case l10=>k_is)
  (case c10=>k_is)
  (case k10=>k_is)
  (case a11=>k_is)
  (case l11=>k_is)
  (case c11=>k_is)
  (case k11=>k_is)
  (case a12=>k_is)
  (case l12=>k_is)
  (case c12=>k_is)
  (case k12=>k_is)
  (case a13=>k_is)
  (case l13=>k_is)
  (case c13=>k_is)
  (case k13=>k_is)
  (case a14=>k_is)
  (case l14=>k_is)
  (case c14=>k_is)
  (case k14=>k_is)
  (case a15=>k_is)
  (case l15=>k_is)
  (case c15=>k_is)
  (case k15=>k_is)
  (case a16=>k_is)
  (case l16=>k_is)
  (case c16=>k_is)
  (case k16=>k_is)
  (case a17=>k_is)
  (case l17=>k_is)
  (case c17=>k_is)
  (case k17=>k_is)
  (case a18=>k_is)
  (case l18=>k_is)
  (case c18=>k_is)
  (case k18=>k_is)
  (case a19=>k_is)
  (case l19=>k_is)
  (case c19=>k_is)
  (case k19=>k_is)
  (case a20=>k_is)
  (case l20=>k_is)
  (case c20=>k_is)
  (case k20=>k_is)
  (case a21=>k_is)
  (case l21=>k_is)
  (case c21=>k_is)
  (case k21=>k_is)
  (case a22=>k_is)
  (case l22=>k_is)
  (case c22=>k_is)
  (case k22=>k_is)
  (case a23=>k_is)
  (case l23=>k_is)
  (case c23=>k_is)
  (case k23=>k_is)
  (case a24=>k_is)
  (case l24=>k_is)
  (case c24=>k_is)
  (case k24=>k_is)
  (case a25=>k_is)
  (case l25=>k_is)
  (case c25=>k_is)
  (case k25=>k_is)
  (case aX0=>k_is)
  (case aX1=>k_is)
  (case aX2=>k_is)
  (case aX3=>k_is)
  (case aX4=>k_is)
  (case aX5=>k_is)
  (case aX6=>k_is)
  (case aX7=>k_is)
  (case aX8=>k_is)
  (case aX9=>k_is)
  (case aX10=>k_is)
  (case aV=>k_is)
  (case aR=>exact⟨_L3.excC_of (by kernel_rfl),⟨by kernel_rfl,by kernel_rfl,by kernel_rfl,by kernel_rfl,by kernel_rfl,by kernel_rfl,by kernel_rfl⟩,by kernel_rfl,by kernel_rfl,by kernel_rfl,by kernel_rfl,by kernel_rfl,by decide⟩)
  (case a26=>k_is)
  (case l26=>k_is)
  (case c26=>k_is)
  (case k26=>k_is)
  (case aD1=>k_is)
  (case aD2=>k_is)
  (case lD2=>k_is)
  (case yD2=>k_keys)
  (case sD2=>decide)
  (case lD2_0=>k_is)
  (case lD2_1=>k_is)
  (case lD2_2=>k_is)
  (case lD2_3=>k_is)
  (case lD2_4=>k_is)
  (case lD2_5=>k_is)
  (case lD2_6=>k_is)
  (case aD3=>k_is)
  (case lD3=>k_is)
  (case yD3=>k_keys)
  (case sD3=>decide)
  (case aD4=>k_is)
  (case z1=>k_is)
  (case z2=>k_is)
  (case z3=>k_is)
  (case z4=>k_is)
  (case z5=>k_is)
  (case z6=>k_is)
  (case z7=>k_is)
  (case z8=>k_is)
  (case z9=>k_is)
  (case z10=>k_is)
  (case z11=>k_is)
  (case z12=>k_is)
  (case z13=>k_is)
  (case z14=>k_is)
  (case z15=>k_is)
  (case z16=>k_is)
 case S=>exact fun K H a ns hl hO hS=>⟨a,ns,rfl,hS,hl,fun _=>rfl⟩
 case C=>exact fun _ _ _ _ z=>z
#print axioms PySem.Challenge.cw_pointpurse_k08_deeds_that_are_none_holds
