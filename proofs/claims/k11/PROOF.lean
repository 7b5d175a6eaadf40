import PyProof.Rows.All
import Wide.All
import OpenK.AllK
import Wide.FinOn
import Lean
import PyProof.EqAt
import PyProof.EqKinds
import PyProof.TupleCall
import PySem.Challenge.RW_pointpurse_k11_deed_texts_refused
set_option Elab.async false
set_option linter.all false
set_option maxRecDepth 100000
set_option maxHeartbeats 4000000
set_option bootstrap.genMatcherCode false
set_option genSizeOf false
set_option genInjectivity false
set_option compiler.extract_closed false
abbrev j0a:=@Bool.and_eq_true
abbrev j0b:=@List.length_cons
abbrev j0c:=@PySem.Heap.get?_push_of_some
abbrev j0d:=@List.mem_cons
abbrev j0e:=@Bool.false_eq_true
abbrev j0f:=@List.length_map
abbrev j0g:=@Bool.false_ne_true
abbrev j0h:=@PySem.Heap.lt_size
abbrev j0i:=@List.map_cons
abbrev j0j:=@List.size_toArray
abbrev j0k:=@Nat.ne_of_lt
abbrev j0l:=@List.append_nil
abbrev j0m:=@Nat.lt_of_lt_of_le
abbrev j0n:=@List.length_take
abbrev j0o:=@PySem.Heap.get?_push_size
abbrev j0p:=@List.length_append
abbrev j0q:=@Nat.le_refl
abbrev j0r:=@List.getElem?_eq_some_iff
abbrev j0s:=@List.mem_map
abbrev j0t:=@PySem.W.mg_none_of
abbrev j0u:=@List.mem_append_right
abbrev j0v:=@Option.some.injEq
abbrev j0w:=@Option.some.inj
abbrev j0x:=@List.length_nil
abbrev j0y:=@PySem.W.mg_of
abbrev j0z:=@List.map_nil
abbrev j0A:=@List.not_mem_nil
abbrev j0B:=@Bool.not_eq_true'
abbrev j0C:=@List.mem_of_getElem?
abbrev j0D:=@List.all_eq_true
abbrev j0E:=@List.flatMap_cons
abbrev j0F:=@List.getElem?_cons_zero
abbrev j0G:=@List.filterMap_cons
abbrev j0H:=@Nat.le_trans
abbrev j0I:=@List.map_map
abbrev j0J:=@List.append_assoc
abbrev j0K:=@List.filter_eq_self
abbrev j0L:=@Bool.true_and
abbrev j0M:=@Bool.not_false
abbrev j0N:=@List.exists_cons_of_length_pos
abbrev j0O:=@List.getElem?_cons_succ
abbrev j0P:=@PySem.W.kia_one
abbrev j0Q:=@List.map_append
abbrev j0R:=@List.mem_of_mem_take
abbrev j0S:=@List.all_cons
abbrev j0T:=@Int.emod_lt_of_pos
abbrev j0U:=@PyProof.Rows.callWith_type1
abbrev j0V:=@Bool.eq_iff_iff
abbrev j0W:=@List.replicate_succ
abbrev j0X:=@List.find?_cons
abbrev j0Y:=@List.mem_filter
abbrev j0Z:=@List.getElem?_append_left
abbrev j00:=@Int.emod_nonneg
abbrev j01:=@Array.length_toList
abbrev j02:=@List.mem_cons_self
abbrev j03:=@List.mem_append
abbrev j04:=@List.mem_singleton
abbrev j05:=@Nat.le_add_right
abbrev j06:=@List.length_eq_one_iff
abbrev j07:=@PySem.mem_of_lookup
abbrev j08:=@PyProof.Rows.slot_tuple_getitem
abbrev j09:=@List.mem_cons_of_mem
abbrev j1a:=@List.mem_append_left
abbrev j1b:=@List.getElem?_set_ne
abbrev j1c:=@List.length_eq_zero_iff
abbrev j1d:=@List.mem_range
abbrev j1e:=@PyProof.Rows.F.plain_set_update_loop
abbrev j1f:=@List.drop_zero
abbrev j1g:=@List.getElem?_map
abbrev j1h:=@PySem.F.slot_zip_next
abbrev j1i:=@List.cons.injEq
abbrev j1j:=@List.getElem?_set_self
abbrev j1k:=@List.take_of_length_le
abbrev j1l:=@List.getElem?_append_right
abbrev j1m:=@PySem.F.slot_tuple_iterator_next
abbrev j1n:=@Array.getElem?_eq_some_iff
abbrev j1o:=@List.length_drop
abbrev j1p:=@PySem.Around.in1_units
abbrev j1q:=@Nat.le_of_eq
abbrev j1r:=@List.nodup_cons
abbrev j1s:=@Int.toNat_natCast
abbrev j1t:=@List.flatten_cons
abbrev j1u:=@List.all_map
abbrev j1v:=@PySem.W.hideAll_get
abbrev j1w:=@List.mem_filterMap
abbrev j1x:=@Bool.or_eq_true
abbrev j1y:=@List.nil_append
abbrev j1z:=@Bool.not_true
namespace _L2
open PySem PySem.Spec PyProof.Rows
noncomputable abbrev Key:=Sum Int Str
noncomputable def jmE:Key->Value->Bool
 |.inl k,v=>Value.isInt k v
 |.inr x,v=>Value.isStrOf x v
noncomputable def jAV (w:World):Key->Int
 |.inl k=>hashInt k
 |.inr x=>hashStr w x
theorem jb:∀{k:Key} {v:Value},jmE k v=true->(∃i t,k=Sum.inl i/\v=Value.int i t)∨(∃x t,k=Sum.inr x/\v=Value.str x t)
 |.inl i,v,h=>by
  obtain⟨t,e⟩:=Value.isInt_shape (k:=i) (v:=v) h
  exact .inl ⟨i,t,rfl,e⟩
 |.inr x,v,h=>by
  obtain⟨t,e⟩:=Value.isStrOf_shape (x:=x) (v:=v) h
  exact .inr ⟨x,t,rfl,e⟩
theorem jnY (i:Int)(t:Tok):jmE (.inl i) (.int i t)=true:=by simp[jmE,Value.isInt]
theorem jo8 (x:Str)(t:Tok):jmE (.inr x) (.str x t)=true:=by simp[jmE,Value.isStrOf]
theorem jv0 (a b:Int):decide ((Sum.inl a:Key)=Sum.inl b)=(a==b):=by
 by_cases e:a=b
 ·subst e;simp
 ·have h:¬ (Sum.inl a:Key)=Sum.inl b:=fun q=>e (Sum.inl.inj q)
  rw[decide_eq_false h]
  exact(beq_eq_false_iff_ne.mpr e).symm
theorem jwq (a b:Str):decide ((Sum.inr a:Key)=Sum.inr b)=decide (a=b):=by
 by_cases e:a=b
 ·subst e;simp
 ·have h:¬ (Sum.inr a:Key)=Sum.inr b:=fun q=>e (Sum.inr.inj q)
  rw[decide_eq_false h,decide_eq_false e]
theorem jwc (a:Int)(b:Str):decide ((Sum.inl a:Key)=Sum.inr b)=false:=decide_eq_false (fun q=>nomatch q)
theorem jyn (a:Str)(b:Int):decide ((Sum.inr a:Key)=Sum.inl b)=false:=decide_eq_false (fun q=>nomatch q)
noncomputable def ja6 (prog:Program)(w:World):PySem.KeyKind prog w Key where
 is:=jmE
 hash:=jAV w
 inj:=fun v a b ha hb=>by
  rcases jb ha with⟨i,t,rfl,rfl⟩|⟨x,t,rfl,rfl⟩
  ·rcases jb hb with⟨j,u,rfl,e⟩|⟨y,u,rfl,e⟩
   ·injection e with e1 _;rw[e1]
   ·exact nomatch e
  ·rcases jb hb with⟨j,u,rfl,e⟩|⟨y,u,rfl,e⟩
   ·exact nomatch e
   ·injection e with e1 _;rw[e1]
 byValue:=fun k v h=>by
  rcases jb h with⟨i,t,rfl,rfl⟩|⟨x,t,rfl,rfl⟩<;>rfl
 pyHash:=fun hv h=>by
  rcases jb hv with⟨i,t,rfl,rfl⟩|⟨x,t,rfl,rfl⟩
  ·exact wpAny_pyHash_int h
  ·exact wpAny_pyHash_str h
 eqBool:=fun hu hv h=>by
  rcases jb hu with⟨i,t,rfl,rfl⟩|⟨x,t,rfl,rfl⟩
  ·rcases jb hv with⟨j,u,rfl,rfl⟩|⟨y,u,rfl,rfl⟩
   ·rw[jv0]at h;exact wpAny_eqBool_int h
   ·rw[jwc]at h;exact SeqAt.EqAt.int_str i t y u _ _ _ _ h
  ·rcases jb hv with⟨j,u,rfl,rfl⟩|⟨y,u,rfl,rfl⟩
   ·rw[jyn]at h;exact SeqAt.EqAt.str_int x t j u _ _ _ _ h
   ·rw[jwq]at h;exact wpAny_eqBool_str h
 «strs»:=fun k x t v h=>by
  rcases jb h with⟨i,u,rfl,e⟩|⟨y,u,rfl,e⟩
  ·exact nomatch e
  ·injection e with e1 _
   subst e1
   cases v<;>rfl
theorem jkk (prog:Program)(w:World)(i:Int)(t:Tok):(ja6 prog w).is (.inl i) (.int i t)=true:=jnY i t
theorem jgv (prog:Program)(w:World)(x:Str)(t:Tok):(ja6 prog w).is (.inr x) (.str x t)=true:=jo8 x t
set_option genInjectivity true in
inductive V where
 |non|bl (b:Bool)|int (i:Int)|str (x:Str)|byt (b:Array UInt8)|flt (b:UInt64)|ref (a:Addr)|ty (n:String)
 deriving DecidableEq
noncomputable def ja3:V->Value->Prop
 |.non,u=>u=Value.none
 |.bl b,u=>u=Value.bool b
 |.int i,u=>∃t,u=Value.int i t
 |.str x,u=>∃t,u=Value.str x t
 |.byt b,u=>∃t,u=Value.bytes b t
 |.flt b,u=>∃t,u=Value.float b t
 |.ref a,u=>u=Value.ref a
 |.ty n,u=>u=Value.type n
noncomputable abbrev jaR:List V->List Value->Prop:=Paired ja3
theorem jaR.length {xs:List V}{us:List Value}(r:jaR xs us):xs.length=us.length:=Paired.length r
theorem jaR.get:∀{xs:List V} {us:List Value} {i:Nat} {x:V},jaR xs us->xs[i]?=some x->∃u,us[i]?=some u/\ja3 x u
 |_,_,_,_,.nil,e=>by simp at e
 |_,_,0,_,.cons r _,e=>by simp at e;subst e;exact⟨_,rfl,r⟩
 |_,_,i+1,x,.cons _ t,e=>by
  obtain⟨u,h1,h2⟩:=jaR.get (i:=i) (x:=x) t (by simpa using e)
  exact⟨u,by simpa using h1,h2⟩
theorem jaR.set {x:V}{u:Value}(r:ja3 x u):∀{xs:List V} {us:List Value} (i:Nat),jaR xs us->jaR (xs.set i x) (us.set i u)
 |_,_,_,.nil=>.nil
 |_,_,0,.cons _ t=>.cons r t
 |_,_,i+1,.cons q t=>.cons q (jaR.set r i t)
theorem jaR.append:∀{xs ys:List V} {us ws:List Value},jaR xs us->jaR ys ws->jaR (xs++ys) (us++ws)
 |_,_,_,_,.nil,s=>s
 |_,_,_,_,.cons r t,s=>.cons r (jaR.append t s)
theorem jaR.take:∀{xs:List V} {us:List Value} (n:Nat),jaR xs us->jaR (xs.take n) (us.take n)
 |_,_,0,_=>.nil
 |_,_,_+1,.nil=>.nil
 |_,_,n+1,.cons r t=>.cons r (jaR.take n t)
theorem jaR.drop:∀{xs:List V} {us:List Value} (n:Nat),jaR xs us->jaR (xs.drop n) (us.drop n)
 |_,_,0,r=>r
 |_,_,_+1,.nil=>.nil
 |_,_,n+1,.cons _ t=>jaR.drop n t
theorem jaR.none_of:∀{xs:List V} {us:List Value} {i:Nat},jaR xs us->xs[i]?=none->us[i]?=none:=fun {xs us i} r e=>by
 have h1:=r.length
 have h2:xs.length<=i:=List.getElem?_eq_none_iff.mp e
 exact List.getElem?_eq_none_iff.mpr (by omega)
noncomputable def jj3:Option V->Option Value->Prop
 |some v,some u=>ja3 v u
 |none,none=>True
 |_,_=>False
noncomputable def KV {κ:Type}:List (κ×V)->List (κ×Value)->Prop:=Paired fun(p:κ×V) (q:κ×Value)=>p.1=q.1/\ja3 p.2 q.2
noncomputable def kV:Key->V
 |.inl i=>.int i
 |.inr x=>.str x
set_option genInjectivity true in
inductive HO where
 |lst (xs:List V)
 |tup (xs:List V)
 |dK (kvs:List (Key×V))|dT (kvs:List (List Key×V))
 |set (S:Int->Bool) (n:Nat)
 |ins (C dx:Addr) (fs:List (Str×V))
 |own (x:Addr)
 |xd (fs:List (Str×V))
 |met (f x:Addr)
 |rng (lo hi:Int)
 |frz (o:Obj) (u:HO)
 |tbl (ps:Array Value)
 |ext (φ:Heap->Prop)
noncomputable abbrev Hp:=Addr->Option HO
noncomputable def upd (H:Hp)(a:Addr)(o:HO):Hp:=fun b=>if b=a then some o else H b
theorem jaF {H:Hp}{a:Addr}{o:HO}:upd H a o a=some o:=by unfold upd;rw[if_pos rfl]
theorem jar {H:Hp}{a b:Addr}{o:HO}(h:b≠a):upd H a o b=H b:=by unfold upd;rw[if_neg h]
theorem jaq {H:Hp}{a b:Addr}{o:HO}(h:H a=some o)(h':H b=none):a≠b:=by
 intro e;subst e;rw[h]at h';cases h'
section
variable (P:Program) (w:World)
noncomputable def jb1 (H:Hp)(h:Heap)(a:Addr):HO->Prop
 |.lst xs=>xs.length<=sizeLine/\∃(its:List Value) (n:Nat),jaR xs its/\h.get? a=some {cls:=.type "list",data:=.seq its.toArray n}
 |.tup xs=>xs.length<=sizeLine/\∃its:List Value,jaR xs its/\IsTup h a its.toArray
 |.dK kvs=>kvs.length<=sizeLine/\(a==sysModules)=false/\∃vs,KV kvs vs/\h.DictOf (ja6 P w) a vs
 |.dT kvs=>kvs.length<=sizeLine/\(a==sysModules)=false/\∃xs:List (List Key×Addr×Value),
   Paired (fun(p:List Key×V) (q:List Key×Addr×Value)=>p.1=q.1/\H q.2.1=some (.tup (p.1.map kV))/\ja3 p.2 q.2.2) kvs xs /\
   ∃o es ep,h.get? a=some o/\o.ExactDict/\o.data=.dict es ep/\es.toList=xs.map (entryOfKey (tupleKind (ja6 P w)))/\(xs.map (·.1)).Nodup
 |.set S n=>h.SetOf (intKind P w) a S n
 |.ins C dx fs=>H dx=some (.own a)/\fs.length<=1000/\dx≠a/\h.get? a=some (PySem.W.instObj C dx) /\
   ∃mA,h.Ns1 dx mA/\(∀f,jj3 (fs.lookup f) (mA f))/\PySem.Within mA (fs.map (·.1))
 |.own _=>∃o,h.get? a=some o
 |.xd fs=>∃mA,h.Ns1 a mA/\∀f,jj3 (fs.lookup f) (mA f)
 |.rng lo hi=>∃t u v,h.get? a=some {cls:=.type "range",data:=.fields #[.int lo t,.int hi u,.int 1 v]}
 |.frz o u=>h.get? a=some o/\jb1 H h a u
 |.tbl ps=>h.get? a=some {cls:=.none,data:=.fields ps}
 |.met f x=>h.get? a=some (PySem.W.methodObj (.ref f) (.ref x))
 |.ext φ=>φ h/\(∃o,h.get? a=some o)/\∀h1 h2:Heap,φ h1->(∀o,h1.get? a=some o->h2.get? a=some o)->φ h2
def HOk (H:Hp)(h:Heap):Prop:=∀a o,H a=some o->jb1 P w H h a o
end
section
variable {P:Program} {w:World} {H H':Hp} {h h':Heap} {a:Addr} {o:HO}
theorem jb1.lt (x:jb1 P w H h a o):a<h.objs.size:=by
 cases o with
 |lst xs=>obtain⟨_,_,_,_,e⟩:=x;exact j0h e
 |tup xs=>obtain⟨_,_,_,p⟩:=x;exact p.lt
 |dK kvs=>obtain⟨_,_,_,_,o,_,_,e,_⟩:=x;exact j0h e
 |dT kvs=>obtain⟨_,_,_,_,o,_,_,e,_⟩:=x;exact j0h e
 |set S n=>obtain⟨o,_,_,_,e,_⟩:=x;exact j0h e
 |ins C dx fs=>obtain⟨_,_,_,e,_⟩:=x;exact j0h e
 |own y=>obtain⟨_,e⟩:=x;exact j0h e
 |xd fs=>obtain⟨_,⟨_,_,_,e,_⟩,_⟩:=x;exact j0h e
 |rng lo hi=>obtain⟨_,_,_,e⟩:=x;exact j0h e
 |frz ob u=>obtain⟨e,_⟩:=x;exact j0h e
 |tbl ps=>exact j0h (show h.get? a=some _ from x)
 |met f y=>exact j0h (show h.get? a=some _ from x)
 |ext φ=>obtain⟨_,⟨_,e⟩,_⟩:=x;exact j0h e
theorem Paired.mapP {α β:Type}{F G:α->β->Prop}:∀{l₁:List α} {l₂:List β},Paired F l₁ l₂->(∀a b,F a b->G a b)->Paired G l₁ l₂
 |_,_,.nil,_=>.nil
 |_,_,.cons r t,f=>.cons (f _ _ r) (Paired.mapP t f)
theorem jb1.stay (x:jb1 P w H h a o)(k:∀b u,(b=a∨H b=some (.own a))->h.get? b=some u->h'.get? b=some u)
  (ho:∀b,H b=some (.own a)->H' b=some (.own a)) (ht:∀b xs,H b=some (.tup xs)->H' b=some (.tup xs)):jb1 P w H' h' a o:=by
 induction o with
 |lst xs=>obtain⟨z,its,n,r,e⟩:=x;exact⟨z,its,n,r,k _ _ (.inl rfl) e⟩
 |tup xs=>obtain⟨z,its,r,ob,e,c⟩:=x;exact⟨z,its,r,ob,k _ _ (.inl rfl) e,c⟩
 |dK kvs=>obtain⟨z,y,vs,r,ob,es,ep,e,c⟩:=x;exact⟨z,y,vs,r,ob,es,ep,k _ _ (.inl rfl) e,c⟩
 |dT kvs=>
  obtain⟨z,y,xs,r,ob,es,ep,e,c⟩:=x
  exact⟨z,y,xs,Paired.mapP r fun p q z=>⟨z.1,ht _ _ z.2.1,z.2.2⟩,ob,es,ep,k _ _ (.inl rfl) e,c⟩
 |set S n=>obtain⟨ob,es,ep,t,e,c⟩:=x;exact⟨ob,es,ep,t,k _ _ (.inl rfl) e,c⟩
 |ins C dx fs=>
  obtain⟨d,z,ne,e,mA,⟨od,es,ep,e2,c⟩,r⟩:=x
  exact⟨ho _ d,z,ne,k _ _ (.inl rfl) e,mA,⟨od,es,ep,k _ _ (.inr d) e2,c⟩,r⟩
 |own y=>obtain⟨ob,e⟩:=x;exact⟨ob,k _ _ (.inl rfl) e⟩
 |xd fs=>obtain⟨mA,⟨od,es,ep,e,c⟩,r⟩:=x;exact⟨mA,⟨od,es,ep,k _ _ (.inl rfl) e,c⟩,r⟩
 |rng lo hi=>obtain⟨t,u,v,e⟩:=x;exact⟨t,u,v,k _ _ (.inl rfl) e⟩
 |frz ob u ih=>obtain⟨e,q⟩:=x;exact⟨k _ _ (.inl rfl) e,ih q⟩
 |tbl ps=>
  have e:h.get? a=some {cls:=.none,data:=.fields ps}:=x
  show h'.get? a=some {cls:=.none,data:=.fields ps}
  exact k a _ (.inl rfl) e
 |met f y=>
  have e:h.get? a=some (PySem.W.methodObj (.ref f) (.ref y)):=x
  show h'.get? a=some (PySem.W.methodObj (.ref f) (.ref y))
  exact k a _ (.inl rfl) e
 |ext φ=>obtain⟨p,⟨o,e⟩,st⟩:=x;exact⟨st _ _ p fun o q=>k _ _ (.inl rfl) q,⟨o,k _ _ (.inl rfl) e⟩,st⟩
theorem HOk.lt (x:HOk P w H h)(e:H a=some o):a<h.objs.size:=(x a o e).lt
theorem HOk.fresh (x:HOk P w H h)(e:h.objs.size<=a):H a=none:=by
 cases q:H a with
 |none=>rfl
 |some u=>exact absurd (j0m (x.lt q) e) (Nat.lt_irrefl _)
theorem HOk.kept (x:HOk P w H h)(k:∀b u,h.get? b=some u->h'.get? b=some u):HOk P w H h':=fun a o e=>
 (x a o e).stay (fun b u _ q=>k b u q) (fun _ q=>q) fun _ _ q=>q
theorem HOk.laid (x:HOk P w H h)(k:∀b u,h.get? b=some u->h'.get? b=some u)(hp:h.objs.size<=a)(new:jb1 P w (upd H a o) h' a o):HOk P w (upd H a o) h':=fun b u e=>by
 have hn:=x.fresh hp
 by_cases hb:b=a
 ·subst hb;rw[jaF]at e;cases e;exact new
 ·rw[jar hb]at e
  exact(x b u e).stay (fun c v _ q=>k c v q) (fun c q=>by rw[jar (jaq q hn)];exact q) fun c xs q=>by rw[jar (jaq q hn)];exact q
end
def Rd (H:Hp)(a:Addr)(u:HO):Prop:=H a=some u∨∃o,H a=some (.frz o u)
theorem Rd.of {H:Hp}{a:Addr}{u:HO}(h:H a=some u):Rd H a u:=.inl h
theorem Rd.ok {P:Program}{w:World}{H:Hp}{h:Heap}{a:Addr}{u:HO}(r:Rd H a u)(x:HOk P w H h):jb1 P w H h a u:=by
 rcases r with r|⟨o,r⟩
 ·exact x a u r
 ·obtain⟨_,q⟩:=x a _ r
  exact q
noncomputable def Mut:Option HO->Prop
 |some (.lst _)=>True
 |some (.dK _)=>True
 |some (.dT _)=>True
 |some (.set _ _)=>True
 |some (.ins _ _ _)=>True
 |some (.ext _)=>True
 |_=>False
section
variable {P:Program} {w:World} {H:Hp} {h h':Heap} {x e:Addr} {o':HO}
theorem HOk.write (ok:HOk P w H h)(mu:Mut (H x))(he:e=x∨H e=some (.own x))(k:∀b u,b≠e->h.get? b=some u->h'.get? b=some u)(heo:∃u,h'.get? e=some u)
  (new:jb1 P w (upd H x o') h' x o'):HOk P w (upd H x o') h':=fun b u q=>by
 have nown:∀c y,H c=some (.own y)->c≠x:=fun c y r z=>by subst z;rw[r]at mu;exact mu
 have ntup:∀c xs,H c=some (.tup xs)->c≠x:=fun c xs r z=>by subst z;rw[r]at mu;exact mu
 by_cases hb:b=x
 ·subst hb;rw[jaF]at q;cases q;exact new
 ·rw[jar hb]at q
  by_cases hbe:b=e
  ·have q':H b=some (.own x):=by
    rcases he with z|z
    ·exact absurd (hbe.trans z) hb
    ·rw[hbe];exact z
   rw[q]at q';cases q'
   obtain⟨v,hv⟩:=heo
   exact⟨v,by rw[hbe];exact hv⟩
  ·refine(ok b u q).stay (fun c v hc r=>k c v ?_ r) (fun c r=>by rw[jar (nown c b r)];exact r) fun c xs r=>by rw[jar (ntup c xs r)];exact r
   rcases hc with rfl|hc
   ·exact hbe
   ·rintro rfl
    rcases he with z|z
    ·exact nown c b hc z
    ·rw[hc]at z;cases z;exact hb rfl
end
structure Un (fs ex:List Addr) (H H':Hp) (h h':Heap):Prop where
 keep:∀b o,h.get? b=some o->H b=none->b∉fs->b∉ex->h'.get? b=some o
 slot:∀b o,h.get? b=some o->H b=none->b∈fs->b∉ex->∃sl,h'.get? b=some {o with slots:=sl}
 free:∀b o,h.get? b=some o->H b=none->b∉ex->H' b=none
 there:∀b o,h.get? b=some o->b∉ex->∃o',h'.get? b=some o'
 tups:∀b xs,H b=some (.tup xs)->H' b=some (.tup xs)
 frzs:∀b o u,H b=some (.frz o u)->H' b=some (.frz o u)
 tbls:∀b ps,H b=some (.tbl ps)->∃more,H' b=some (.tbl (ps++more))
section
variable {fs fs' ex ex':List Addr} {H H1 H2:Hp} {h h1 h2 h':Heap} {a x e:Addr} {o:HO}
theorem Un.any (u:Un fs ex H H1 h h1){b:Addr}{ob:Obj}(q:h.get? b=some ob)(n:H b=none)(hx:b∉ex):∃sl,h1.get? b=some {ob with slots:=sl}:=by
 by_cases hb:b∈fs
 ·exact u.slot b ob q n hb hx
 ·exact⟨ob.slots,u.keep b ob q n hb hx⟩
theorem Un.trans (a:Un fs ex H H1 h h1)(b:Un fs ex H1 H2 h1 h2):Un fs ex H H2 h h2 where
 keep:=fun c ob q n hc hx=>b.keep c ob (a.keep c ob q n hc hx) (a.free c ob q n hx) hc hx
 slot:=fun c ob q n hc hx=>by
  obtain⟨sl,e1⟩:=a.slot c ob q n hc hx
  obtain⟨sl',e2⟩:=b.slot c _ e1 (a.free c ob q n hx) hc hx
  exact⟨sl',e2⟩
 free:=fun c ob q n hx=>by
  obtain⟨o',e1⟩:=a.there c ob q hx
  exact b.free c o' e1 (a.free c ob q n hx) hx
 there:=fun c ob q hx=>by
  obtain⟨o',e1⟩:=a.there c ob q hx
  exact b.there c o' e1 hx
 tups:=fun c xs q=>b.tups c xs (a.tups c xs q)
 frzs:=fun c ob xs q=>b.frzs c ob xs (a.frzs c ob xs q)
 tbls:=fun c ps q=>by
  obtain⟨m1,e1⟩:=a.tbls c ps q
  obtain⟨m2,e2⟩:=b.tbls c _ e1
  exact⟨m1++m2,by rw[e2,Array.append_assoc]⟩
theorem Un.kept (k:∀b u,h.get? b=some u->h'.get? b=some u):Un fs ex H H h h':=
 ⟨fun b ob q _ _ _=>k b ob q,fun b ob q _ _ _=>⟨ob.slots,k b ob q⟩,fun _ _ _ n _=>n,fun b ob q _=>⟨ob,k b ob q⟩,fun _ _ q=>q,fun _ _ _ q=>q,fun _ ps q=>⟨#[],by rw[q];simp⟩⟩
theorem Un.refl:Un fs ex H H h h:=Un.kept fun _ _ q=>q
theorem Un.laid (k:∀b u,h.get? b=some u->h'.get? b=some u)(hp:h.objs.size<=a)(hn:H a=none):Un fs ex H (upd H a o) h h' where
 keep:=fun b u q _ _ _=>k b u q
 slot:=fun b u q _ _ _=>⟨u.slots,k b u q⟩
 free:=fun b u q n _=>by rw[jar (j0k (j0m (j0h q) hp))];exact n
 there:=fun b u q _=>⟨u,k b u q⟩
 tups:=fun b xs q=>by rw[jar (jaq q hn)];exact q
 frzs:=fun b u xs q=>by rw[jar (jaq q hn)];exact q
 tbls:=fun b ps q=>⟨#[],by rw[jar (jaq q hn),q];simp⟩
theorem Un.write (mu:Mut (H x))(he:e=x∨H e=some (.own x))(k:∀b u,b≠e->h.get? b=some u->h'.get? b=some u)(heo:∃u,h'.get? e=some u):Un fs ex H (upd H x o) h h':=by
 have hx:∀b,H b=none->b≠x:=fun b n z=>by subst z;rw[n]at mu;exact mu
 have hb:∀b,H b=none->b≠e:=fun b n z=>by
  subst z
  rcases he with r|r
  ·exact hx b n r
  ·rw[n]at r;cases r
 have hm:∀b u,H b=some u->¬ Mut (some u)->b≠x:=fun b u q nm z=>by subst z;rw[q]at mu;exact nm mu
 refine⟨fun b u q n _ _=>k b u (hb b n) q,fun b u q n _ _=>⟨u.slots,k b u (hb b n) q⟩,fun b u q n _=>by rw[jar (hx b n)];exact n,fun b u q _=>?_,
  fun b xs q=>by rw[jar (hm b _ q fun z=>z)];exact q,fun b u xs q=>by rw[jar (hm b _ q fun z=>z)];exact q,fun b ps q=>⟨#[],by rw[jar (hm b _ q fun z=>z),q];simp⟩⟩
 by_cases hbe:b=e
 ·subst hbe;exact heo
 ·exact⟨u,k b u hbe q⟩
end
noncomputable def trk (h:Heap)(H:Hp):List Addr:=(List.range h.objs.size).filter fun a=>(H a).isSome
noncomputable def jqk (h:Heap)(H:Hp):Heap:=PySem.W.hideAll h (trk h H)
theorem jpj (h:Heap)(H:Hp):(jqk h H).objs.size=h.objs.size:=PySem.W.hideAll_size _ _
theorem jq7 {h:Heap}{H:Hp}{b:Addr}{o:Obj}(e:h.get? b=some o)(n:H b=none):(jqk h H).get? b=some o:=
 j1v _ e fun hm=>by
  have q:(H b).isSome=true:=(j0Y.mp hm).2
  rw[n]at q;simp at q
theorem jtK {h:Heap}{H:Hp}{b:Addr}{o:Obj}(e:(jqk h H).get? b=some o):h.get? b=some o/\H b=none:=by
 have e':h.get? b=some o:=PySem.W.of_hideAll (trk h H) e
 refine⟨e',?_⟩
 cases q:H b with
 |none=>rfl
 |some x=>
  have hm:b∈trk h H:=j0Y.mpr ⟨j1d.mpr (j0h e'),by simp[q]⟩
  have z:(jqk h H).get? b=none:=PySem.W.hideAll_none (trk h H) hm
  rw[z]at e;cases e
noncomputable def jty (g h:Heap)(L:Addr):List (Addr×Obj):=(List.range h.objs.size).filterMap fun a=>if a=L∨(g.get? a).isSome=true then none else(h.get? a).map fun o=>(a,o)
noncomputable def rest (g h:Heap)(L d:Addr):List (Addr×Obj):=(jty g h L).filter fun p=>decide (p.1≠d)
structure Mod (K:PySem.W.Frag) (mg:Str->Option Value) (base:Heap):Prop where
 kin:K.In base
 glob:base.Ns mainGlobals mg
 blt:∃mb,base.Ns builtinsNs mb/\∀x:Str,x≠"__name__"->mb x=bootBuiltins x
 nolimit:base.NoLimit
structure Cx where
 prog:Program
 w:World
 K:PySem.W.Frag
 mg:Str->Option Value
 base:Heap
 A:Around
 N:List Str
 s₀:Shared
 H₀:Hp
 env:Env
 outer:List Env
 stack:List Env
 ex:List Addr
 fn:Str->Bool
 calm:Bool
 pn:List (Addr×Obj)
 xe:Value->Shared->Prop
noncomputable def frs (l:List Env):List Addr:=l.filterMap (·.frame)
noncomputable abbrev Cx.fs (X:Cx):List Addr:=frs X.outer
def Vis (sc:Scope)(x:Str):Prop:=sc.names.lookup x=some .local∨sc.names.lookup x=some .cell∨sc.names.lookup x=some .free
def Loc (sc:Scope)(x:Str):Prop:=sc.names.lookup x=some .local∨sc.names.lookup x=some .cell
def jAi (env:Env)(h:Heap)(m:Str->Option Value)(x:Str)(u:Value):Prop:=
 (env.kindOf x=some .local/\m x=some u)∨((env.kindOf x=some .cell∨env.kindOf x=some .free)/\∃c,env.cells.lookup x=some c/\h.IsCell c (some u))
structure Cx.Ok (X:Cx):Prop where
 mod:Mod X.K X.mg X.base
 kind:X.env.scope.kind=.function
 glob:X.env.globals=mainGlobals
 blt:X.env.builtins=builtinsNs
 above:X.s₀.heap.objs.size<=X.env.locals
 inj:∀x y c,X.env.cells.lookup x=some c->X.env.cells.lookup y=some c->x=y
 has:∀x,(X.env.kindOf x=some .cell∨X.env.kindOf x=some .free)->∃c,X.env.cells.lookup x=some c
 cab:∀x c,X.fn x=true->X.env.cells.lookup x=some c->X.s₀.heap.objs.size<=c
 hd:X.calm=true->X.A.handled=none
 frames:X.A.frames=some X.stack
 stk:X.stack=X.outer∨(X.stack=X.env::X.outer/\X.env.frame=some X.env.locals)
 exf:∀b∈X.ex,b≠X.env.locals/\∀x c,X.env.cells.lookup x=some c->c≠b
 bs:∀b o,X.base.get? b=some o->X.s₀.heap.get? b=some o/\X.H₀ b=none
 bsz:X.base.objs.size<=X.s₀.heap.objs.size
 noex:∀b o,X.base.get? b=some o->b∉X.ex
 exfs:∀b∈X.ex,b∉X.fs
 funs:X.s₀.heap.FunFrames X.base X.outer
 frf:∀b∈X.fs,X.H₀ b=none
structure Inv (X:Cx) (pins:List (Addr×Obj)) (σ:List (Option V)) (H:Hp) (s:Shared):Prop where
 ok:X.Ok
 os:s.os=X.s₀.os
 bare:AllBare s.gens
 base:Un X.fs X.ex X.H₀ H X.s₀.heap s.heap
 loc:∃m,s.heap.Ns X.env.locals m/\∀(i:Nat) (x:Str) (v:V),X.N[i]?=some x->σ[i]?=some (some v)->Vis X.env.scope x->∃u,ja3 v u/\jAi X.env s.heap m x u
 cell:∀x c,X.env.cells.lookup x=some c->∃v,s.heap.IsCell c v
 free:H X.env.locals=none
 freeC:∀x c,X.env.cells.lookup x=some c->H c=none
 pin:∀p∈X.pn++pins,s.heap.get? p.1=some p.2/\H p.1=none/\p.1≠X.env.locals/\p.1∉X.fs/\∀v,p.2.data≠.cell v
 hok:HOk X.prog X.w H s.heap
 len:σ.length=X.N.length
section
variable {X:Cx} {pins:List (Addr×Obj)} {σ:List (Option V)} {H H':Hp} {s:Shared} {h':Heap}
theorem Cx.Ok.nofr (ok:X.Ok){b:Addr}{o:Obj}(e:X.base.get? b=some o):b∉X.fs:=fun hb=>by
 have:=(ok.funs.mem hb).1
 rw[e]at this;cases this
theorem Inv.bs (I:Inv X pins σ H s):∀b o,X.base.get? b=some o->s.heap.get? b=some o/\H b=none:=fun b o e=>
 ⟨I.base.keep b o (I.ok.bs b o e).1 (I.ok.bs b o e).2 (I.ok.nofr e) (I.ok.noex b o e),I.base.free b o (I.ok.bs b o e).1 (I.ok.bs b o e).2 (I.ok.noex b o e)⟩
theorem Inv.bk (I:Inv X pins σ H s):∀b o,X.base.get? b=some o->s.heap.get? b=some o:=fun b o e=>(I.bs b o e).1
theorem Inv.mod (I:Inv X pins σ H s):Mod X.K X.mg X.base:=I.ok.mod
theorem Inv.kIn (I:Inv X pins σ H s):X.K.In s.heap:=I.ok.mod.kin.keeps I.bk
theorem Inv.nolimit (I:Inv X pins σ H s):s.heap.NoLimit:=I.ok.mod.nolimit.keeps I.bk
theorem Inv.lt (I:Inv X pins σ H s):X.env.locals<s.heap.objs.size:=let⟨_,hn,_⟩:=I.loc;hn.lt
theorem Inv.sz (I:Inv X pins σ H s):X.s₀.heap.objs.size<=s.heap.objs.size:=j0H I.ok.above (Nat.le_of_lt I.lt)
theorem Inv.nofs (I:Inv X pins σ H s){a:Addr}(h:s.heap.objs.size<=a):a∉X.fs:=fun hb=>by
 obtain⟨_,o,ho,_⟩:=I.ok.funs.mem hb
 exact absurd (j0m (j0h ho) (j0H I.sz h)) (Nat.lt_irrefl _)
theorem Inv.cne (I:Inv X pins σ H s):∀x c,X.env.cells.lookup x=some c->c≠X.env.locals:=fun x c e z=>by
 obtain⟨v,o,ho,hd⟩:=I.cell x c e
 obtain⟨m,⟨o',es,ep,ho',hd',_⟩,_⟩:=I.loc
 rw[z,ho']at ho;cases ho;rw[hd']at hd;cases hd
theorem Inv.funs (I:Inv X pins σ H s):s.heap.FunFrames X.base X.outer:=by
 have all:∀(l:List Env),(∀b∈frs l,b∈X.fs)->X.s₀.heap.FunFrames X.base l->s.heap.FunFrames X.base l:=by
  intro l
  induction l with
  |nil=>intro _ _;trivial
  |cons env r ih=>
   intro hs hl
   obtain⟨hk,⟨L,o,hf,hn,ho,hd⟩,hr⟩:=hl
   have hL:L∈X.fs:=hs L (by unfold frs;rw[j0G,hf];exact j02)
   obtain⟨sl,e⟩:=I.base.slot L o ho (I.ok.frf L hL) hL fun z=>I.ok.exfs L z hL
   exact⟨hk,⟨L,_,hf,hn,e,hd⟩,ih (fun b hb=>hs b (by unfold frs;rw[j0G,hf];exact j09 _ hb)) hr⟩
 exact all X.outer (fun _ hb=>hb) I.ok.funs
theorem Inv.stack (I:Inv X pins σ H s):s.heap.FunFrames X.base X.stack:=by
 rcases I.ok.stk with e|⟨e,hf⟩
 ·rw[e];exact I.funs
 ·rw[e]
  obtain⟨m,hn,_⟩:=I.loc
  refine .cons (by rw[I.ok.kind];decide) hf hn ?_ I.funs
  exact Heap.get?_none_of_le (j0H I.ok.bsz I.ok.above)
theorem Inv.stkSub (I:Inv X pins σ H s):∀b∈frs X.stack,b∈X.env.locals::X.fs:=fun b hb=>by
 rcases I.ok.stk with e|⟨e,hf⟩
 ·rw[e]at hb;exact j09 _ hb
 ·rw[e]at hb
  unfold frs at hb
  rw[j0G,hf]at hb
  exact hb
theorem Inv.stkFree (I:Inv X pins σ H s):∀b∈frs X.stack,H b=none:=fun b hb=>by
 rcases j0d.mp (I.stkSub b hb)with e|hb
 ·rw[e];exact I.free
 ·obtain⟨_,o,ho,_⟩:=I.ok.funs.mem hb
  exact I.base.free b o ho (I.ok.frf b hb) fun z=>I.ok.exfs b z hb
theorem Inv.step {g':Array GenState}{t':Nat}{d':Drawn}{ch:List Addr}(I:Inv X pins σ H s)
  (hch:∀b∈ch,(b∈X.ex∨X.s₀.heap.objs.size<=b)/\b≠X.env.locals/\(∀x c,X.env.cells.lookup x=some c->c≠b)/\∀p∈X.pn++pins,p.1≠b)
  (keep:∀b o,b≠X.env.locals->b∉X.fs->b∉ch->s.heap.get? b=some o->H b=none->h'.get? b=some o)
  (slot:∀b o,b≠X.env.locals->b∈X.fs->b∉ch->s.heap.get? b=some o->H b=none->∃sl,h'.get? b=some {o with slots:=sl}) (free:∀b o,b∉ch->s.heap.get? b=some o->H b=none->H' b=none)
  (there:∀b o,b∉ch->s.heap.get? b=some o->∃o',h'.get? b=some o')
  (tups:∀b xs,H b=some (.tup xs)->H' b=some (.tup xs)) (frzs:∀b o u,H b=some (.frz o u)->H' b=some (.frz o u)) (tbls:∀b ps,H b=some (.tbl ps)->∃more,H' b=some (.tbl (ps++more)))
  (ns:∀m,s.heap.Ns X.env.locals m->h'.Ns X.env.locals m) (hok:HOk X.prog X.w H' h') (hg:AllBare g') :
  Inv X pins σ H' {s with heap:=h',gens:=g',drawn:=d',toks:=t'}:=by
 have neL:∀b o,X.s₀.heap.get? b=some o->b≠X.env.locals:=fun b o e=>j0k (j0m (j0h e) I.ok.above)
 have neC:∀b o,X.s₀.heap.get? b=some o->b∉X.ex->b∉ch:=fun b o e hx hb=>by
  rcases(hch b hb).1 with z|z
  ·exact hx z
  ·exact absurd (j0m (j0h e) z) (Nat.lt_irrefl _)
 have cellK:∀x c,X.env.cells.lookup x=some c->∀v,s.heap.IsCell c v->h'.IsCell c v:=fun x c e v ⟨o,ho,hd⟩=>by
  have nch:c∉ch:=fun z=>(hch c z).2.2.1 x c e rfl
  by_cases hc:c∈X.fs
  ·obtain⟨sl,q⟩:=slot c o (I.cne x c e) hc nch ho (I.freeC x c e)
   exact⟨_,q,hd⟩
  ·exact⟨o,keep c o (I.cne x c e) hc nch ho (I.freeC x c e),hd⟩
 refine⟨I.ok,I.os,hg,⟨fun b o e n hb hx=>?_,fun b o e n hb hx=>?_,fun b o e n hx=>?_,fun b o e hx=>?_,fun b xs e=>tups b xs (I.base.tups b xs e),fun b o xs e=>frzs b o xs (I.base.frzs b o xs e),fun b ps e=>?_⟩,?_,fun x c e=>?_,?_,fun x c e=>?_,fun p hp=>?_,hok,I.len⟩
 ·exact keep b o (neL b o e) hb (neC b o e hx) (I.base.keep b o e n hb hx) (I.base.free b o e n hx)
 ·obtain⟨sl,e1⟩:=I.base.slot b o e n hb hx
  obtain⟨sl',e2⟩:=slot b _ (neL b o e) hb (neC b o e hx) e1 (I.base.free b o e n hx)
  exact⟨sl',e2⟩
 ·obtain⟨o',e1⟩:=I.base.there b o e hx
  exact free b o' (neC b o e hx) e1 (I.base.free b o e n hx)
 ·obtain⟨o',e1⟩:=I.base.there b o e hx
  exact there b o' (neC b o e hx) e1
 ·obtain⟨m1,e1⟩:=I.base.tbls b ps e
  obtain⟨m2,e2⟩:=tbls b _ e1
  exact⟨m1++m2,by rw[e2,Array.append_assoc]⟩
 ·obtain⟨m,hn,hl⟩:=I.loc
  refine⟨m,ns m hn,fun i x v e1 e2 e3=>?_⟩
  obtain⟨u,r,l⟩:=hl i x v e1 e2 e3
  refine⟨u,r,?_⟩
  rcases l with l|⟨k,c,e,z⟩
  ·exact .inl l
  ·exact .inr ⟨k,c,e,cellK x c e _ z⟩
 ·obtain⟨v,z⟩:=I.cell x c e
  exact⟨v,cellK x c e v z⟩
 ·obtain⟨m,⟨o,_,_,ho,_⟩,_⟩:=I.loc
  exact free _ o (fun z=>(hch _ z).2.1 rfl) ho I.free
 ·obtain⟨v,o,ho,hd⟩:=I.cell x c e
  exact free c o (fun z=>(hch c z).2.2.1 x c e rfl) ho (I.freeC x c e)
 ·obtain⟨e,n,ne,nf,d⟩:=I.pin p hp
  have nch:p.1∉ch:=fun z=>(hch p.1 z).2.2.2 p hp rfl
  exact⟨keep p.1 p.2 ne nf nch e n,free p.1 p.2 nch e n,ne,nf,d⟩
theorem Inv.un {t':Nat}(I:Inv X pins σ H s)(u:Un X.fs [] H H' s.heap h')(hok:HOk X.prog X.w H' h'):Inv X pins σ H' {s with heap:=h',toks:=t'}:=by
 obtain⟨m,⟨o,es,ep,ho,r⟩,_⟩:=id I.loc
 obtain⟨sl,hL⟩:=u.any ho I.free (by simp)
 exact I.step (g':=s.gens) (d':=s.drawn) (ch:=[]) (fun _ z=>nomatch z) (fun b o _ hb _ e n=>u.keep b o e n hb (by simp)) (fun b o _ hb _ e n=>u.slot b o e n hb (by simp)) (fun b o _ e n=>u.free b o e n (by simp)) (fun b o _ e=>u.there b o e (by simp)) u.tups u.frzs u.tbls (fun m' hm=>by
  obtain⟨o',es',ep',ho',r'⟩:=hm
  rw[ho]at ho';cases ho'
  exact⟨_,es',ep',hL,r'⟩) hok I.bare
theorem Inv.call {g':Array GenState}{t':Nat}{d':Drawn}{ch:List Addr}(I:Inv X pins σ H s)(u:Un (frs X.stack) ch H H' s.heap h')(hok:HOk X.prog X.w H' h')(hg:AllBare g')
  (hch:∀b∈ch,(b∈X.ex∨X.s₀.heap.objs.size<=b)/\b≠X.env.locals/\(∀x c,X.env.cells.lookup x=some c->c≠b)/\∀p∈X.pn++pins,p.1≠b) :
  Inv X pins σ H' {s with heap:=h',gens:=g',drawn:=d',toks:=t'}:=by
 obtain⟨m,⟨o,es,ep,ho,r⟩,_⟩:=id I.loc
 obtain⟨sl,hL⟩:=u.any ho I.free fun z=>(hch _ z).2.1 rfl
 exact I.step (ch:=ch) hch (fun b o hL hb hc e n=>u.keep b o e n (fun z=>(j0d.mp (I.stkSub b z)).elim hL hb) hc) (fun b o _ _ hc e n=>u.any e n hc) (fun b o hc e n=>u.free b o e n hc) (fun b o hc e=>u.there b o e hc) u.tups u.frzs u.tbls (fun m' hm=>by
  obtain⟨o',es',ep',ho',r'⟩:=hm
  rw[ho]at ho';cases ho'
  exact⟨_,es',ep',hL,r'⟩) hok hg
theorem Inv.turned {t':Nat}{it:Addr}(I:Inv X pins σ H s)(k:∀b o,b≠it->s.heap.get? b=some o->h'.get? b=some o)(hn:H it=none)(hL:it≠X.env.locals)
  (h1:it∈X.ex∨X.s₀.heap.objs.size<=it) (h2:∀x c,X.env.cells.lookup x=some c->c≠it) (h3:∀p∈X.pn++pins,p.1≠it):Inv X pins σ H {s with heap:=h',toks:=t'}:=by
 have nit:∀b u,H b=some u->b≠it:=fun b u e z=>by rw[z,hn]at e;cases e
 refine I.step (g':=s.gens) (d':=s.drawn) (ch:=[it]) (fun b hb=>?_) (fun b o _ _ hc e _=>k b o (fun z=>hc (by simp[z])) e) (fun b o _ _ hc e _=>⟨o.slots,k b o (fun z=>hc (by simp[z])) e⟩) (fun _ _ _ _ n=>n)
  (fun b o hc e=>⟨o,k b o (fun z=>hc (by simp[z])) e⟩) (fun _ _ e=>e) (fun _ _ _ e=>e) (fun b ps e=>⟨#[],by rw[e];simp⟩) (fun m hm=>?_) (fun b u e=>?_) I.bare
 ·have e:b=it:=by simpa using hb
  subst e
  exact⟨h1,hL,h2,h3⟩
 ·obtain⟨o,es,ep,ho,r⟩:=hm
  exact⟨o,es,ep,k _ o (Ne.symm hL) ho,r⟩
 ·refine(I.hok b u e).stay (fun c v hc q=>k c v ?_ q) (fun _ q=>q) fun _ _ q=>q
  rcases hc with z|z
  ·rw[z];exact nit b u e
  ·exact nit c _ z
theorem Inv.tok (I:Inv X pins σ H s)(t:Nat):Inv X pins σ H {s with toks:=t}:=I.un (h':=s.heap) (t':=t) Un.refl I.hok
theorem Inv.kept {t':Nat}(I:Inv X pins σ H s)(k:∀b u,s.heap.get? b=some u->h'.get? b=some u):Inv X pins σ H {s with heap:=h',toks:=t'}:=I.un (Un.kept k) (I.hok.kept k)
theorem Inv.laid {a:Addr}{o:HO}{t':Nat}(I:Inv X pins σ H s)(k:∀b u,s.heap.get? b=some u->h'.get? b=some u)(hp:s.heap.objs.size<=a)(new:jb1 X.prog X.w (upd H a o) h' a o) :
  Inv X pins σ (upd H a o) {s with heap:=h',toks:=t'}:=I.un (Un.laid k hp (I.hok.fresh hp)) (I.hok.laid k hp new)
theorem Inv.write {x e:Addr}{o:HO}{t':Nat}(I:Inv X pins σ H s)(mu:Mut (H x))(he:e=x∨H e=some (.own x))(k:∀b u,b≠e->s.heap.get? b=some u->h'.get? b=some u)(heo:∃u,h'.get? e=some u)
  (new:jb1 X.prog X.w (upd H x o) h' x o):Inv X pins σ (upd H x o) {s with heap:=h',toks:=t'}:=I.un (Un.write mu he k heo) (I.hok.write mu he k heo new)
theorem Inv.pins_of {pins':List (Addr×Obj)}(I:Inv X pins σ H s)(h:∀p∈pins',s.heap.get? p.1=some p.2/\H p.1=none/\p.1≠X.env.locals/\p.1∉X.fs/\∀v,p.2.data≠.cell v):Inv X pins' σ H s:=
 ⟨I.ok,I.os,I.bare,I.base,I.loc,I.cell,I.free,I.freeC,fun p hp=>(j03.mp hp).elim (fun z=>I.pin p (j1a _ z)) (h p),I.hok,I.len⟩
theorem jih {N:List Str}(hN:N.Nodup){i j:Nat}{x:Str}(a:N[i]?=some x)(b:N[j]?=some x):i=j:=by
 obtain⟨h1,e1⟩:=j0r.mp a
 obtain⟨h2,e2⟩:=j0r.mp b
 exact(List.getElem_inj hN).mp (e1.trans e2.symm)
theorem jja {M:Model}{A:Around}{E:Value->Shared->Prop}{i:Nat}{x:Str}{v:V}{u:Value}{Q:Unit->Shared->Prop}(I:Inv X pins σ H s)(hN:X.N.Nodup)(hi:X.N[i]?=some x)(hx:Loc X.env.scope x)(r:ja3 v u)
  (h:∀s',Inv X pins (σ.set i (some v)) H s'->(∃a,Heap.SameBut a s.heap s'.heap/\(a=X.env.locals∨X.env.cells.lookup x=some a))->Q () s') (hf:X.fn x=true∨X.env.scope.names.lookup x=some .local:=by first|exact .inl rfl|exact .inr rfl|assumption):wpAny M A (storeName X.env x u) Q E s:=by
 obtain⟨m,hn,hl⟩:=id I.loc
 have hcls:(X.env.scope.kind==.class||(X.env.scope.kind==.module&&X.env.locals !=X.env.globals))=false:=by rw[I.ok.kind];rfl
 have hiσ:i<σ.length:=by rw[I.len];exact(j0r.mp hi).1
 have cne:=I.cne
 have tracked:∀{a:Addr} {h':Heap},(∃o,s.heap.get? a=some o/\H a=none)->Heap.SameBut a s.heap h'->HOk X.prog X.w H h':=fun {a h'} ha hs b ob e=>by
  obtain⟨_,_,hfree⟩:=ha
  refine(I.hok b ob e).stay (fun c w' hc q=>(hs.2 c ?_).trans q) (fun _ q=>q) fun _ _ q=>q
  rintro rfl
  rcases hc with rfl|hc
  ·rw[hfree]at e;cases e
  ·rw[hfree]at hc;cases hc
 rcases hx with hk|hk
 ·refine wpAny_storeName_local hk hn (fun h' hn' hs=>?_) hcls
  obtain⟨oL,_,_,hoL,_⟩:=id hn
  refine h _ ⟨I.ok,I.os,I.bare,⟨fun b o e n hb hx=>?_,fun b o e n hb hx=>?_,I.base.free,fun b o e hx=>?_,I.base.tups,I.base.frzs,I.base.tbls⟩,⟨_,hn',fun j y v' e1 e2 e3=>?_⟩,fun y c e=>?_,I.free,I.freeC,fun p hp=>?_,tracked ⟨oL,hoL,I.free⟩ hs,by simpa using I.len⟩ ⟨_,hs,.inl rfl⟩
  ·exact(hs.2 b (j0k (j0m (j0h e) I.ok.above))).trans (I.base.keep b o e n hb hx)
  ·obtain⟨sl,e1⟩:=I.base.slot b o e n hb hx
   exact⟨sl,(hs.2 b (j0k (j0m (j0h e) I.ok.above))).trans e1⟩
  ·obtain⟨o',e1⟩:=I.base.there b o e hx
   exact⟨o',(hs.2 b (j0k (j0m (j0h e) I.ok.above))).trans e1⟩
  ·by_cases hj:j=i
   ·subst hj
    rw[hi]at e1;cases e1
    rw[j1j hiσ]at e2
    cases e2
    exact⟨u,r,.inl ⟨hk,by simp⟩⟩
   ·rw[j1b (Ne.symm hj)]at e2
    obtain⟨u',r',q⟩:=hl j y v' e1 e2 e3
    refine⟨u',r',?_⟩
    rcases q with⟨k,e⟩|⟨k,c,e,z⟩
    ·refine .inl ⟨k,?_⟩
     have:y≠x:=fun e=>hj (jih hN e1 (e▸hi))
     simp[this,e]
    ·exact .inr ⟨k,c,e,z.sameBut hs (cne y c e)⟩
  ·obtain⟨w',z⟩:=I.cell y c e
   exact⟨w',z.sameBut hs (cne y c e)⟩
  ·obtain⟨e,n,ne,nf,d⟩:=I.pin p hp
   exact⟨(hs.2 p.1 ne).trans e,n,ne,nf,d⟩
 ·have hfn:X.fn x=true:=by
   rcases hf with z|z
   ·exact z
   ·rw[z]at hk;cases hk
  obtain⟨c,hc⟩:=I.ok.has x (.inl hk)
  obtain⟨w',z⟩:=I.cell x c hc
  refine wpAny_storeName_cell I.ok.kind hk hc z (fun h' hc' hs=>?_)
  obtain⟨oc,hoc,hocd⟩:=id z
  refine h {s with heap:=h'} ⟨I.ok,I.os,I.bare,⟨fun b o e n hb hx=>?_,fun b o e n hb hx=>?_,I.base.free,fun b o e hx=>?_,I.base.tups,I.base.frzs,I.base.tbls⟩,⟨m,hn.sameBut hs (Ne.symm (cne x c hc)),fun j y v' e1 e2 e3=>?_⟩,fun y c' e=>?_,I.free,I.freeC,fun p hp=>?_,tracked ⟨oc,hoc,I.freeC x c hc⟩ hs,by simpa using I.len⟩ ⟨c,hs,.inr hc⟩
  ·exact(hs.2 b (j0k (j0m (j0h e) (I.ok.cab x c hfn hc)))).trans (I.base.keep b o e n hb hx)
  ·obtain⟨sl,e1⟩:=I.base.slot b o e n hb hx
   exact⟨sl,(hs.2 b (j0k (j0m (j0h e) (I.ok.cab x c hfn hc)))).trans e1⟩
  ·obtain⟨o',e1⟩:=I.base.there b o e hx
   exact⟨o',(hs.2 b (j0k (j0m (j0h e) (I.ok.cab x c hfn hc)))).trans e1⟩
  ·by_cases hj:j=i
   ·subst hj
    rw[hi]at e1;cases e1
    rw[j1j hiσ]at e2
    cases e2
    exact⟨u,r,.inr ⟨.inl hk,c,hc,hc'⟩⟩
   ·rw[j1b (Ne.symm hj)]at e2
    obtain⟨u',r',q⟩:=hl j y v' e1 e2 e3
    refine⟨u',r',?_⟩
    rcases q with q|⟨k,c',e,z'⟩
    ·exact .inl q
    ·refine .inr ⟨k,c',e,z'.sameBut hs ?_⟩
     rintro rfl
     exact hj (jih hN e1 (I.ok.inj _ _ _ e hc▸hi))
  ·by_cases hcc:c'=c
   ·subst hcc;exact⟨_,hc'⟩
   ·obtain⟨w2,z2⟩:=I.cell y c' e
    exact⟨w2,z2.sameBut hs hcc⟩
  ·obtain⟨e,n,ne,nf,d⟩:=I.pin p hp
   refine⟨(hs.2 p.1 ?_).trans e,n,ne,nf,d⟩
   intro q
   rw[q,hoc]at e
   have q':oc=p.2:=j0w e
   exact d w' (by rw[<- q'];exact hocd)
theorem jh6 {M:Model}{A:Around}{E:Value->Shared->Prop}{i:Nat}{x:Str}{v:V}{u:Value}{Q:Unit->Shared->Prop}(I:Inv X pins σ H s)(hN:X.N.Nodup)(hi:X.N[i]?=some x)(hx:Loc X.env.scope x)(r:ja3 v u)
  (h:∀s',Inv X pins (σ.set i (some v)) H s'->Q () s') (hf:X.fn x=true∨X.env.scope.names.lookup x=some .local:=by first|exact .inl rfl|exact .inr rfl|assumption):wpAny M A (storeName X.env x u) Q E s:=
 jja I hN hi hx r (fun s' I' _=>h s' I') hf
theorem Inv.call' {s':Shared}{ch:List Addr}(I:Inv X pins σ H s)(ho:s'.os=s.os)(u:Un (frs X.stack) ch H H' s.heap s'.heap)(hok:HOk X.prog X.w H' s'.heap)(hg:AllBare s'.gens)
  (hch:∀b∈ch,(b∈X.ex∨X.s₀.heap.objs.size<=b)/\b≠X.env.locals/\(∀x c,X.env.cells.lookup x=some c->c≠b)/\∀p∈X.pn++pins,p.1≠b):Inv X pins σ H' s':=by
 obtain⟨h',g',d',t',o'⟩:=s'
 have e:o'=s.os:=ho
 subst e
 exact I.call (g':=g') (t':=t') (d':=d') u hok hg hch
end
noncomputable abbrev XK:=Value->Option Addr->Hp->Prop
noncomputable abbrev St:=List (Option V)
noncomputable abbrev VK:=V->Hp->Prop
noncomputable abbrev TE:=St->Hp->VK->Prop
noncomputable abbrev TT:=St->Hp->(Bool->Hp->Prop)->Prop
noncomputable abbrev TA:=St->Hp->(List V->Hp->Prop)->Prop
structure Ends where
 nx:St->Hp->Prop
 rt:VK
 bk:St->Hp->Prop:=fun _ _=>False
 ct:St->Hp->Prop:=fun _ _=>False
noncomputable abbrev TS:=Ends->St->Hp->Prop
def EP (X:Cx)(pins:List (Addr×Obj))(σ:St)(Q:VK)(u:Value)(s':Shared):Prop:=∃v H',Inv X pins σ H' s'/\ja3 v u/\Q v H'
def TP (X:Cx)(pins:List (Addr×Obj))(σ:St)(Q:Bool->Hp->Prop)(b:Bool)(s':Shared):Prop:=∃H',Inv X pins σ H' s'/\Q b H'
def AP (X:Cx)(pins:List (Addr×Obj))(σ:St)(Q:List V->Hp->Prop)(us:List Value)(s':Shared):Prop:=∃vs H',Inv X pins σ H' s'/\jaR vs us/\Q vs H'
def SP (X:Cx)(pins:List (Addr×Obj))(D:Ends)(f:Flow)(s':Shared):Prop:=
 match f with
 |.next=>∃σ' H',Inv X pins σ' H' s'/\D.nx σ' H'
 |.brk=>∃σ' H',Inv X pins σ' H' s'/\D.bk σ' H'
 |.cont=>∃σ' H',Inv X pins σ' H' s'/\D.ct σ' H'
 |.ret u=>∃v σ' H',Inv X pins σ' H' s'/\ja3 v u/\D.rt v H'
def PE (X:Cx)(e:Expr)(t:TE):Prop:=
 ∀(pins:List (Addr×Obj)) (s:Shared) (σ:St) (H:Hp) (Q:VK),Inv X pins σ H s->t σ H Q->wpAny (model X.prog X.w) X.A (eval e X.env) (EP X pins σ Q) X.xe s
def PT (X:Cx)(e:Expr)(t:TT):Prop:=
 ∀(pins:List (Addr×Obj)) (s:Shared) (σ:St) (H:Hp) (Q:Bool->Hp->Prop),Inv X pins σ H s->t σ H Q->wpAny (model X.prog X.w) X.A (isTrue e X.env (eval e X.env)) (TP X pins σ Q) X.xe s
def PW (X:Cx)(e:Expr)(t:TT):Prop:=
 ∀(whole:Sem Value) (pins:List (Addr×Obj)) (s:Shared) (σ:St) (H:Hp) (Q:Bool->Hp->Prop),Inv X pins σ H s->t σ H Q->wpAny (model X.prog X.w) X.A (isTrue e X.env whole) (TP X pins σ Q) X.xe s
theorem PW.pt {X:Cx}{e:Expr}{t:TT}(h:PW X e t):PT X e t:=h _
def PA (X:Cx)(es:List Expr)(t:TA):Prop:=
 ∀(pos:Pos) (pins:List (Addr×Obj)) (s:Shared) (σ:St) (H:Hp) (Q:List V->Hp->Prop),Inv X pins σ H s->t σ H Q->wpAny (model X.prog X.w) X.A (spliced (backTo pos (starEach es X.env))) (AP X pins σ Q) X.xe s
def PS (X:Cx)(st:Stmt)(t:TS):Prop:=
 ∀(pins:List (Addr×Obj)) (s:Shared) (σ:St) (H:Hp) (D:Ends),Inv X pins σ H s->t D σ H->wpAny (model X.prog X.w) X.A (exec st X.env) (SP X pins D) X.xe s
def PSs (X:Cx)(st:List Stmt)(t:TS):Prop:=
 ∀(pins:List (Addr×Obj)) (s:Shared) (σ:St) (H:Hp) (D:Ends),Inv X pins σ H s->t D σ H->wpAny (model X.prog X.w) X.A (execs st X.env) (SP X pins D) X.xe s
theorem thn {α:Type}{t:Sem α}{Q Q':α->Shared->Prop}{M:Model}{A:Around}{E:Value->Shared->Prop}{s:Shared}(h:wpAny M A t Q E s)(hQ:∀a s,Q a s->Q' a s):wpAny M A t Q' E s:=wpAny_mono h hQ fun _ _ x=>x
section
variable {X:Cx}
theorem bin {a b:Expr}{ta tb:TE}(ha:PE X a ta)(hb:PE X b tb){pins:List (Addr×Obj)}{s:Shared}{σ:St}{H:Hp}{R:V->V->Hp->Prop}(I:Inv X pins σ H s)(h:ta σ H fun x H1=>tb σ H1 fun y H2=>R x y H2)
  {α:Type} {Q:α->Shared->Prop} {f:Value->Value->Sem α}
  (hf:∀v u s2 x y H2,Inv X pins σ H2 s2->ja3 x v->ja3 y u->R x y H2->wpAny (model X.prog X.w) X.A (f v u) Q X.xe s2) :
  wpAny (model X.prog X.w) X.A (eval a X.env) (fun v s₁=>wpAny (model X.prog X.w) X.A (eval b X.env) (fun u s₂=>wpAny (model X.prog X.w) X.A (f v u) Q X.xe s₂) X.xe s₁) X.xe s:=by
 refine thn (ha pins s σ H _ I h) fun v s1 ⟨x,H1,I1,r1,q1⟩=>?_
 refine thn (hb pins s1 σ H1 _ I1 q1) fun u s2 ⟨y,H2,I2,r2,q2⟩=>?_
 exact hf v u s2 x y H2 I2 r1 r2 q2
def jAl (i:Nat):TE:=fun σ H Q=>∃v,σ[i]?=some (some v)/\Q v H
def tC (v:V):TE:=fun _ H Q=>Q v H
theorem jyp {i:Nat} {x:Str} {pos:Pos} (hN:X.N[i]?=some x) (hv:Vis X.env.scope x) (hd:(x==("__debug__" : Str))=false:=by decide) (hcd:(x==("__classdict__" : Str))=false:=by decide):PE X (.Name x pos) (jAl i):=by
 intro pins s σ H Q I h
 obtain⟨v,e,h⟩:=h
 obtain⟨m,hn,hl⟩:=I.loc
 obtain⟨u,r,l⟩:=hl i x v hN e hv
 have fin:EP X pins σ Q u s:=⟨v,H,I,r,h⟩
 rcases l with⟨hk,hm⟩|⟨hk,c,hc,hcell⟩
 ·exact wpAny_Name (wpAny_loadName_local I.ok.kind hk hn hm fin) hd
 ·rcases hk with hk|hk
  ·exact wpAny_Name (wpAny_loadName_cell I.ok.kind hk hc hcell fin) hd
  ·exact wpAny_Name (wpAny_loadName_free I.ok.kind hk hc hcell fin hcd) hd
theorem jxT {i j pos}:PE X (.Constant (.int i) j pos) (tC (.int i)):=fun _ _ _ H _ I h=>wpAny_Constant_int ⟨.int i,H,I.tok _,⟨_,rfl⟩,h⟩
theorem jrf {b j pos}:PE X (.Constant (.bool b) j pos) (tC (.bl b)):=fun _ _ _ H _ I h=>Constant_bool ⟨.bl b,H,I,rfl,h⟩
theorem jvN {j pos}:PE X (.Constant .none j pos) (tC .non):=fun _ _ _ H _ I h=>Constant_none ⟨.non,H,I,rfl,h⟩
theorem jxr {x j pos}:PE X (.Constant (.str x) j pos) (tC (.str x)):=fun _ _ _ H _ I h=>Calls.Constant_str ⟨.str x,H,I.tok _,⟨_,rfl⟩,h⟩
def Gl (X:Cx)(x:Str):Prop:=X.env.kindOf x=some .globalImplicit
theorem jgK {E:Value->Shared->Prop}{pins:List (Addr×Obj)}{s:Shared}{σ:St}{H:Hp}{x:Str}{u:Value}{pos:Pos}{Q:Value->Shared->Prop}(I:Inv X pins σ H s)(hg:Gl X x)(hm:X.mg x=some u)(h:Q u s)
  (hd:(x==("__debug__" : Str))=false:=by decide):wpAny (model X.prog X.w) X.A (eval (.Name x pos) X.env) Q E s:=
 Calls.Name_function_global I.ok.kind hg (Calls.loadGlobal_global (by rw[I.ok.glob];exact I.mod.glob.keeps I.bk) hm h) hd
theorem jf {E:Value->Shared->Prop}{pins:List (Addr×Obj)}{s:Shared}{σ:St}{H:Hp}{x:Str}{u:Value}{pos:Pos}{Q:Value->Shared->Prop}(I:Inv X pins σ H s)(hg:Gl X x)(hm:X.mg x=none)(hv:bootBuiltins x=some u)(h:Q u s)
  (hn:x≠"__name__":=by decide) (hd:(x==("__debug__" : Str))=false:=by decide):wpAny (model X.prog X.w) X.A (eval (.Name x pos) X.env) Q E s:=by
 obtain⟨mb,h1,h2⟩:=I.mod.blt
 exact Calls.Name_function_global I.ok.kind hg (Calls.loadGlobal_builtin (by rw[I.ok.glob];exact I.mod.glob.keeps I.bk) hm (by rw[I.ok.blt];exact h1.keeps I.bk) ((h2 x hn).trans hv) h) hd
theorem jkI {x:Str} {v:V} {u:Value} {pos:Pos} (hg:Gl X x) (hm:X.mg x=some u) (r:ja3 v u) (hd:(x==("__debug__" : Str))=false:=by decide):PE X (.Name x pos) (tC v):=
 fun _ _ _ H _ I h=>jgK I hg hm ⟨v,H,I,r,h⟩ hd
theorem js9 {x:Str} {v:V} {u:Value} {pos:Pos} (hg:Gl X x) (hm:X.mg x=none) (hv:bootBuiltins x=some u) (r:ja3 v u) (hn:x≠"__name__":=by decide) (hd:(x==("__debug__" : Str))=false:=by decide):PE X (.Name x pos) (tC v):=
 fun _ _ _ H _ I h=>jf I hg hm hv ⟨v,H,I,r,h⟩ hn hd
variable {a b:Expr} {ta tb:TE} {pos:Pos}
def tB (t:TE):TT:=fun σ H Q=>t σ H fun x H1=>∃c,x=.bl c/\Q c H1
variable {tA tB':TT} {rest:List Expr}
def jzc (t u:TT):TT:=fun σ H Q=>t σ H fun c H1=>if c=true then u σ H1 Q else Q false H1
def tOr (t u:TT):TT:=fun σ H Q=>t σ H fun c H1=>if c=true then Q true H1 else u σ H1 Q
def jAq (t:TT):TT:=fun σ H Q=>t σ H fun c H1=>Q (!c) H1
theorem juh (ha:PT X a tA):PW X (.BoolOp .And [a] pos) tA:=by
 intro wh pins s σ H Q I h
 refine isTrue_and (thn (ha pins s σ H Q I h) fun c s1 e=>?_)
 cases c with
 |true=>exact isTrue_and_nil e
 |false=>exact e
theorem jxI (ha:PT X a tA):PW X (.BoolOp .Or [a] pos) tA:=by
 intro wh pins s σ H Q I h
 refine isTrue_or (thn (ha pins s σ H Q I h) fun c s1 e=>?_)
 cases c with
 |false=>exact isTrue_or_nil e
 |true=>exact e
theorem jvQ (ha:PT X a tA)(hb:PW X (.BoolOp .And (b::rest) pos) tB'):PW X (.BoolOp .And (a::b::rest) pos) (jzc tA tB'):=by
 intro wh pins s σ H Q I h
 refine isTrue_and (thn (ha pins s σ H _ I h) fun c s1 ⟨H1,I1,q1⟩=>?_)
 cases c with
 |true=>exact hb wh pins s1 σ H1 Q I1 q1
 |false=>exact⟨H1,I1,q1⟩
theorem jy6 (ha:PT X a tA)(hb:PW X (.BoolOp .Or (b::rest) pos) tB'):PW X (.BoolOp .Or (a::b::rest) pos) (tOr tA tB'):=by
 intro wh pins s σ H Q I h
 refine isTrue_or (thn (ha pins s σ H _ I h) fun c s1 ⟨H1,I1,q1⟩=>?_)
 cases c with
 |true=>exact⟨H1,I1,q1⟩
 |false=>exact hb wh pins s1 σ H1 Q I1 q1
theorem jvB (ha:PT X a tA):PT X (.UnaryOp .Not a pos) (jAq tA):=by
 intro pins s σ H Q I h
 exact isTrue_not (ha pins s σ H (fun c H1=>Q (!c) H1) I h)
def jtU (ta tb:TE):TE:=fun σ H Q=>ta σ H fun x H1=>∃c,x=.bl c/\if c=true then tb σ H1 Q else Q (.bl false) H1
def jzT (ta tb:TE):TE:=fun σ H Q=>ta σ H fun x H1=>∃c,x=.bl c/\if c=true then Q (.bl true) H1 else tb σ H1 Q
def jvw (ta:TE):TE:=fun σ H Q=>ta σ H fun x H1=>∃c,x=.bl c/\Q (.bl (!c)) H1
theorem jwy {op}{t:TE}(h:PE X a t):PE X (.BoolOp op [a] pos) t:=fun pins s σ H Q I hw=>BoolOp_one (h pins s σ H Q I hw)
theorem jy (ha:PE X a ta)(hb:PE X (.BoolOp .And (b::rest) pos) tb):PE X (.BoolOp .And (a::b::rest) pos) (jtU ta tb):=by
 intro pins s σ H Q I h
 refine BoolOp_and (thn (ha pins s σ H _ I h) fun v s1 ⟨x,H1,I1,r1,q1⟩=>?_)
 obtain⟨c,rfl,q1⟩:=q1
 cases r1
 refine wpAny_truthy_bool ?_
 cases c with
 |true=>exact hb pins s1 σ H1 Q I1 q1
 |false=>exact⟨.bl false,H1,I1,rfl,q1⟩
theorem jzz (ha:PE X a ta)(hb:PE X (.BoolOp .Or (b::rest) pos) tb):PE X (.BoolOp .Or (a::b::rest) pos) (jzT ta tb):=by
 intro pins s σ H Q I h
 refine BoolOp_or (thn (ha pins s σ H _ I h) fun v s1 ⟨x,H1,I1,r1,q1⟩=>?_)
 obtain⟨c,rfl,q1⟩:=q1
 cases r1
 refine wpAny_truthy_bool ?_
 cases c with
 |false=>exact hb pins s1 σ H1 Q I1 q1
 |true=>exact⟨.bl true,H1,I1,rfl,q1⟩
theorem jwP (ha:PE X a ta):PE X (.UnaryOp .Not a pos) (jvw ta):=by
 intro pins s σ H Q I h
 refine UnaryOp_ (thn (ha pins s σ H _ I h) fun v s1 ⟨x,H1,I1,r1,q1⟩=>?_)
 obtain⟨c,rfl,q1⟩:=q1
 cases r1
 exact not_of (wpAny_truthy_bool ⟨.bl (!c),H1,I1,rfl,q1⟩)
def tIf (t:TT)(ta tb:TE):TE:=fun σ H Q=>t σ H fun c H1=>if c=true then ta σ H1 Q else tb σ H1 Q
theorem jre {c:Expr}(hc:PT X c tA)(ha:PE X a ta)(hb:PE X b tb):PE X (.IfExp c a b pos) (tIf tA ta tb):=by
 intro pins s σ H Q I h
 refine wpAny_IfExp (thn (hc pins s σ H _ I h) fun d s1 ⟨H1,I1,q1⟩=>?_)
 cases d with
 |true=>exact ha pins s1 σ H1 Q I1 q1
 |false=>exact hb pins s1 σ H1 Q I1 q1
end
def SqL (K:PySem.W.Frag)(H:Hp)(a:Addr)(xs:List V):Prop:=
 Rd H a (.lst xs) ∨
  ∃(o:Obj) (its:Array Value) (n:Nat),K.lookup a=some o/\o.cls=.type "list"/\o.dict=none/\o.data=.seq its n/\its.size<=sizeLine/\jaR xs its.toList
def SqT (K:PySem.W.Frag)(H:Hp)(a:Addr)(xs:List V):Prop:=
 Rd H a (.tup xs) ∨
  ∃(o:Obj) (its:Array Value) (n:Nat),K.lookup a=some o/\o.cls=.type "tuple"/\o.data=.seq its n/\its.size<=sizeLine/\jaR xs its.toList
noncomputable def jA1:Value->Option V
 |.none=>some .non
 |.bool b=>some (.bl b)
 |.int i _=>some (.int i)
 |.str x _=>some (.str x)
 |.bytes b _=>some (.byt b)
 |.float b _=>some (.flt b)
 |.ref a=>some (.ref a)
 |.type n=>some (.ty n)
 |_=>none
theorem ja3.abs {x:V}{u:Value}(r:ja3 x u):jA1 u=some x:=by
 cases x with
 |non=>cases r;rfl
 |bl _=>cases r;rfl
 |int _=>obtain⟨t,rfl⟩:=r;rfl
 |str _=>obtain⟨t,rfl⟩:=r;rfl
 |byt _=>obtain⟨t,rfl⟩:=r;rfl
 |flt _=>obtain⟨t,rfl⟩:=r;rfl
 |ref _=>cases r;rfl
 |ty _=>cases r;rfl
theorem ja3.inj {x y:V}{u:Value}(r:ja3 x u)(q:ja3 y u):x=y:=j0w (r.abs.symm.trans q.abs)
theorem jaR.inj {xs ys:List V}{us:List Value}(h:jaR xs us)(k:jaR ys us):xs=ys:=by
 induction h generalizing ys with
 |nil=>cases k;rfl
 |cons r t ih=>
  cases k with
  |cons r' t'=>rw[r.inj r',ih t']
section
variable {X:Cx} {pins:List (Addr×Obj)} {σ:St} {H:Hp} {s:Shared} {a:Addr} {xs ys:List V}
theorem SqL.of {K:PySem.W.Frag}(h:H a=some (.lst xs)):SqL K H a xs:=.inl (.inl h)
theorem SqT.of {K:PySem.W.Frag}(h:H a=some (.tup xs)):SqT K H a xs:=.inl (.inl h)
theorem Inv.list (I:Inv X pins σ H s)(h:SqL X.K H a xs):∃its:List Value,jaR xs its/\PlainL s.heap a its.toArray/\xs.length<=sizeLine:=by
 rcases h with h|⟨o,its,n,hk,hc,hd,hs,hz,r⟩
 ·obtain⟨z,its,n,r,e⟩:=h.ok I.hok
  exact⟨its,r,⟨_,n,e,rfl,rfl,rfl⟩,z⟩
 ·refine⟨its.toList,r,⟨o,n,I.kIn a o hk,hc,hd,by simpa using hs⟩,?_⟩
  have e:=r.length
  simp only[j01]at e
  omega
theorem Inv.tuple (I:Inv X pins σ H s)(h:SqT X.K H a xs):∃its:List Value,jaR xs its/\IsTup s.heap a its.toArray/\xs.length<=sizeLine:=by
 rcases h with h|⟨o,its,n,hk,hc,hs,hz,r⟩
 ·obtain⟨z,its,r,p⟩:=h.ok I.hok
  exact⟨its,r,p,z⟩
 ·refine⟨its.toList,r,⟨o,I.kIn a o hk,hc,n,by simpa using hs⟩,?_⟩
  have e:=r.length
  simp only[j01]at e
  omega
theorem Inv.list_inj (I:Inv X pins σ H s)(h:SqL X.K H a xs)(h':SqL X.K H a ys):xs=ys:=by
 obtain⟨its,r,⟨o,n,e,_,_,d⟩,_⟩:=I.list h
 obtain⟨its',r',⟨o',n',e',_,_,d'⟩,_⟩:=I.list h'
 rw[e]at e';cases e'
 rw[d]at d'
 injection d' with d1 _
 have:its=its':=by simpa using congrArg Array.toList d1
 subst this
 exact r.inj r'
theorem Inv.tuple_inj (I:Inv X pins σ H s)(h:SqT X.K H a xs)(h':SqT X.K H a ys):xs=ys:=by
 obtain⟨its,r,⟨o,e,_,n,d⟩,_⟩:=I.tuple h
 obtain⟨its',r',⟨o',e',_,n',d'⟩,_⟩:=I.tuple h'
 rw[e]at e';cases e'
 rw[d]at d'
 injection d' with d1 _
 have:its=its':=by simpa using congrArg Array.toList d1
 subst this
 exact r.inj r'
end
noncomputable abbrev Cx.wish (X:Cx) (E:Value->Shared->Prop):Cx:={X with xe:=E}
noncomputable abbrev Cx.nox (X:Cx):Cx:=X.wish fun _ _=>False
theorem Cx.Ok.wish {X:Cx}(ok:X.Ok)(E:Value->Shared->Prop):(X.wish E).Ok:=
 ⟨ok.mod,ok.kind,ok.glob,ok.blt,ok.above,ok.inj,ok.has,ok.cab,ok.hd,ok.frames,ok.stk,ok.exf,ok.bs,ok.bsz,ok.noex,ok.exfs,ok.funs,ok.frf⟩
theorem Cx.Ok.unwish {X:Cx}{E:Value->Shared->Prop}(ok:(X.wish E).Ok):X.Ok:=
 ⟨ok.mod,ok.kind,ok.glob,ok.blt,ok.above,ok.inj,ok.has,ok.cab,ok.hd,ok.frames,ok.stk,ok.exf,ok.bs,ok.bsz,ok.noex,ok.exfs,ok.funs,ok.frf⟩
section
variable {X:Cx} {pins:List (Addr×Obj)} {σ:St} {H:Hp} {s:Shared} {E:Value->Shared->Prop}
theorem Inv.wish (I:Inv X pins σ H s)(E:Value->Shared->Prop):Inv (X.wish E) pins σ H s:=⟨I.ok.wish E,I.os,I.bare,I.base,I.loc,I.cell,I.free,I.freeC,I.pin,I.hok,I.len⟩
theorem Inv.unwish (I:Inv (X.wish E) pins σ H s):Inv X pins σ H s:=⟨I.ok.unwish,I.os,I.bare,I.base,I.loc,I.cell,I.free,I.freeC,I.pin,I.hok,I.len⟩
theorem SP.unwish {D:Ends}{f:Flow}{s':Shared}(h:SP (X.wish E) pins D f s'):SP X pins D f s':=by
 cases f with
 |next=>obtain⟨σ',H',I,q⟩:=h;exact⟨σ',H',I.unwish,q⟩
 |brk=>obtain⟨σ',H',I,q⟩:=h;exact⟨σ',H',I.unwish,q⟩
 |cont=>obtain⟨σ',H',I,q⟩:=h;exact⟨σ',H',I.unwish,q⟩
 |ret u=>obtain⟨v,σ',H',I,r,q⟩:=h;exact⟨v,σ',H',I.unwish,r,q⟩
theorem PSs.nox {st:List Stmt}{t:TS}(h:PSs X.nox st t):PSs X st t:=fun pins s σ H D I hw=>
 wpAny_mono (h pins s σ H D (I.wish _) hw) (fun _ _ q=>q.unwish) fun _ _ z=>False.elim z
end
section
variable {X:Cx} {st:Stmt} {rest:List Stmt} {t u:TS} {e:Expr} {te:TE} {pos:Pos}
def jxS:TS:=fun D σ H=>D.nx σ H
def jAx (t u:TS):TS:=fun D σ H=>t {D with nx:=u D} σ H
theorem jne:PSs X [] jxS:=fun _ _ σ H _ I h=>wpAny_execs_nil ⟨σ,H,I,h⟩
theorem jfl (h1:PS X st t)(h2:PSs X rest u):PSs X (st::rest) (jAx t u):=by
 intro pins s σ H D I h
 refine wpAny_execs_cons (thn (h1 pins s σ H {D with nx:=u D} I h) fun f s1 q=>?_)
 cases f with
 |next=>
  obtain⟨σ',H',I',q⟩:=q
  exact h2 pins s1 σ' H' D I' q
 |ret v=>exact q
 |brk=>exact q
 |cont=>exact q
theorem jo9 (h1:PS X st t):PSs X [st] t:=by
 intro pins s σ H D I h
 refine wpAny_execs_cons (thn (h1 pins s σ H D I h) fun f s1 q=>?_)
 cases f with
 |next=>exact wpAny_execs_nil q
 |ret v=>exact q
 |brk=>exact q
 |cont=>exact q
theorem jsI:PS X (.Pass pos) jxS:=fun _ _ σ H _ I h=>wpAny_Pass ⟨σ,H,I,h⟩
theorem Inv.quiet {pins:List (Addr×Obj)}{σ:St}{H:Hp}{s:Shared}(I:Inv X pins σ H s):interactive X.env=false:=by simp[interactive,I.ok.kind]
def jzt (te:TE):TS:=fun D σ H=>te σ H fun _ H1=>D.nx σ H1
theorem jkw (he:PE X e te)(hs:swapsWith e none pos.line X.env=pure false:=by rfl):PS X (.Expr e pos) (jzt te):=by
 intro pins s σ H D I h
 exact wpAny_Expr_any (thn (he pins s σ H _ I h) fun v s1 ⟨x,H1,I1,r1,q1⟩=>⟨σ,H1,I1,q1⟩) I.quiet hs
def jAR (te:TE):TS:=fun D σ H=>te σ H D.rt
theorem jmQ (he:PE X e te):PS X (.Return (some e) pos) (jAR te):=by
 intro pins s σ H D I h
 exact wpAny_Return_some (thn (he pins s σ H _ I h) fun v s1 ⟨x,H1,I1,r1,q1⟩=>⟨x,σ,H1,I1,r1,q1⟩)
def jzr:TS:=fun D _ H=>D.rt .non H
theorem jtC:PS X (.Return none pos) jzr:=fun _ _ σ H _ I h=>wpAny_Return_none ⟨.non,σ,H,I,rfl,h⟩
def jAQ (c:TT)(t u:TS):TS:=fun D σ H=>c σ H fun b H1=>if b=true then t D σ H1 else u D σ H1
theorem jxd {c:Expr}{a b:List Stmt}{tc:TT}(hc:PT X c tc)(ha:PSs X a t)(hb:PSs X b u):PS X (.If c a b pos) (jAQ tc t u):=by
 intro pins s σ H D I h
 refine wpAny_If (thn (hc pins s σ H _ I h) fun d s1 ⟨H1,I1,q1⟩=>?_)
 cases d with
 |true=>exact ha pins s1 σ H1 D I1 q1
 |false=>exact hb pins s1 σ H1 D I1 q1
def jxV:TS:=fun _ _ _=>False
theorem jqK:PS X st jxV:=fun _ _ _ _ _ _ h=>h.elim
end
noncomputable abbrev TG:=V->St->Hp->(St->Hp->Prop)->Prop
noncomputable abbrev TGs:=List V->St->Hp->(St->Hp->Prop)->Prop
def PG (X:Cx)(target:Expr)(t:TG):Prop:=
 ∀(pins:List (Addr×Obj)) (s:Shared) (σ:St) (H:Hp) (v:V) (u:Value) (Q:St->Hp->Prop),Inv X pins σ H s->ja3 v u->t v σ H Q ->
  wpAny (model X.prog X.w) X.A (assign target X.env u) (fun _ s'=>∃σ' H',Inv X pins σ' H' s'/\Q σ' H') X.xe s
def PGs (X:Cx)(ts:List Expr)(t:TGs):Prop:=
 ∀(pins:List (Addr×Obj)) (s:Shared) (σ:St) (H:Hp) (vs:List V) (us:List Value) (Q:St->Hp->Prop),Inv X pins σ H s->jaR vs us->t vs σ H Q ->
  wpAny (model X.prog X.w) X.A (assignInOrder ((assignEach ts X.env).map (·.2)) us) (fun _ s'=>∃σ' H',Inv X pins σ' H' s'/\Q σ' H') X.xe s
section
variable {X:Cx} {pos:Pos}
noncomputable def je6 (i:Nat):TG:=fun v σ H Q=>Q (σ.set i (some v)) H
theorem joX {i:Nat}{x:Str}(hN:X.N.Nodup)(hi:X.N[i]?=some x)(hx:Loc X.env.scope x)(hf:X.fn x=true∨X.env.scope.names.lookup x=some .local:=by first|exact .inl rfl|exact .inr rfl|assumption):PG X (.Name x pos) (je6 i):=by
 intro pins s σ H v u Q I r h
 exact wpAny_assign_Name (jh6 I hN hi hx r (fun s' I'=>⟨_,H,I',h⟩) hf)
noncomputable def jAj:TGs:=fun vs σ H Q=>vs=[]/\Q σ H
noncomputable def jym (t:TG)(u:TGs):TGs:=fun vs σ H Q=>∃v r,vs=v::r/\t v σ H fun σ' H'=>u r σ' H' Q
theorem jug:PGs X [] jAj:=by
 intro pins s σ H vs us Q I r h
 obtain⟨e,h⟩:=h
 subst e
 cases r
 exact assignInOrder_nil ⟨σ,H,I,h⟩
theorem jpA {e:Expr}{es:List Expr}{t:TG}{u:TGs}(h1:PG X e t)(h2:PGs X es u)
  (hs:(assignEach (e::es) X.env).map (·.2)=assign e X.env::(assignEach es X.env).map (·.2):=by rfl):PGs X (e::es) (jym t u):=by
 intro pins s σ H vs us Q I r h
 obtain⟨v,vr,e1,h⟩:=h
 subst e1
 cases r with
 |cons r rr=>
  rw[hs]
  refine assignInOrder_cons (thn (h1 pins s σ H _ _ _ I r h) fun _ s1 ⟨σ1,H1,I1,q1⟩=>?_)
  exact h2 pins s1 σ1 H1 _ _ Q I1 rr q1
noncomputable def jAd (K:PySem.W.Frag)(n:Nat)(t:TGs):TG:=fun v σ H Q=>∃a xs,v=.ref a/\SqT K H a xs/\xs.length=n/\t xs σ H Q
theorem jwR {es:List Expr}{k:Nat}{t:TGs}{n:Nat}(hc:X.calm=true)(h:PGs X es t)
  (hn:(assignEach es X.env).length=n:=by rfl) (hst:(assignEach es X.env).findIdx? (·.1)=none:=by rfl):PG X (.Tuple es k pos) (jAd X.K n t):=by
 intro pins s σ H v u Q I r hw
 obtain⟨a,xs,e1,hq,hl,hw⟩:=hw
 subst e1
 cases r
 obtain⟨its,rv,ht,hz⟩:=I.tuple hq
 refine assign_Tuple_tuple (I.ok.hd hc) ht (by simp[hn,<- hl,rv.length]) hst fun h' hx=>?_
 have I1:Inv X pins σ H {s with heap:=h'}:=I.kept (t':=s.toks) fun b o e=>hx b o (j0k (j0h e)) e
 exact h pins _ σ H xs _ Q I1 (by simpa using rv) hw
def jvm (te:TE)(g:TG):TS:=fun D σ H=>te σ H fun x H1=>g x σ H1 D.nx
theorem jrT {tg e:Expr}{te:TE}{g:TG}(he:PE X e te)(hg:PG X tg g)(hs:swapsWithSole [tg] e pos.line X.env=pure false:=by rfl)(hw:swappedStores [tg] e X.env=pure none:=by rfl)
  (h1:(assignEach [tg] X.env).map (·.2)=[assign tg X.env]:=by rfl):PS X (.Assign [tg] e pos) (jvm te g):=by
 intro pins s σ H D I h
 refine wpAny_Assign_stores (thn (he pins s σ H _ I h) fun v s1 ⟨x,H1,I1,r1,q1⟩=>?_) hs hw
 rw[h1]
 exact thn (hg pins s1 σ H1 x v _ I1 r1 q1) fun _ s2 q=>q
theorem jr2 {i:Nat}{x:Str}{e:Expr}{te:TE}{pos':Pos}(hN:X.N.Nodup)(hi:X.N[i]?=some x)(hx:Loc X.env.scope x)(he:PE X e te)(hs:swapsWith e (some (.Name x pos')) pos.line X.env=pure false:=by rfl)(hf:X.fn x=true∨X.env.scope.names.lookup x=some .local:=by first|exact .inl rfl|exact .inr rfl|assumption) :
  PS X (.Assign [.Name x pos'] e pos) (jvm te (je6 i)):=by
 intro pins s σ H D I h
 refine wpAny_Assign_Name (thn (he pins s σ H _ I h) fun v s1 ⟨y,H1,I1,r1,q1⟩=>?_) hs
 exact jh6 I1 hN hi hx r1 (fun s2 I2=>⟨_,H1,I2,q1⟩) hf
end
section
variable {X:Cx} {pos:Pos}
end
structure It where
 go:Nat->Hp->Prop
 yld:Nat->Hp->V->Hp->Prop
 stop:Nat->Hp->Prop
def jpd (X:Cx)(pins:List (Addr×Obj))(H:Hp)(b:Addr):Prop:=
 H b=none/\b≠X.env.locals/\b∉X.fs/\(b∈X.ex∨X.s₀.heap.objs.size<=b)/\(∀x c,X.env.cells.lookup x=some c->c≠b)/\∀p∈X.pn++pins,p.1≠b
theorem Inv.fpOk {X:Cx}{pins:List (Addr×Obj)}{σ:St}{H H':Hp}{s:Shared}{b:Addr}(I:Inv X pins σ H s)(hb:s.heap.objs.size<=b)(hn:H' b=none):jpd X pins H' b:=by
 refine⟨hn,Nat.ne_of_gt (j0m I.lt hb),I.nofs hb,.inr (j0H I.sz hb),fun x c e z=>?_,fun p hp z=>?_⟩
 ·obtain⟨v,q⟩:=I.cell x c e
  exact absurd (j0m q.lt (by rw[z];exact hb)) (Nat.lt_irrefl _)
 ·exact absurd (j0m (j0h (I.pin p hp).1) (by rw[z];exact hb)) (Nat.lt_irrefl _)
structure Turn (P:Program) (w:World) (K:PySem.W.Frag) (tg:Expr) (J:It) (fp:List Addr) (it:Addr) (tn:Nat->Heap->Prop):Prop where
 mem:it∈fp
 obj:∀i h,tn i h->∀b∈fp,∃o,h.get? b=some o/\∀v,o.data≠.cell v
 keep:∀i h h',tn i h->(∀b∈fp,∀o,h.get? b=some o->h'.get? b=some o)->tn i h'
 item:∀(X:Cx),X.prog=P->X.w=w->X.K=K->X.calm=true->∀(i:Nat) (pins:List (Addr×Obj)) (s:Shared) (σ:St) (H:Hp) (E:Value->Shared->Prop),Inv X pins σ H s->(∀b∈fp,jpd X pins H b)->tn i s.heap->J.go i H ->
  wpAny (model P w) X.A (pyNext (.ref it)) (fun r s1=>∃u,r=some u /\
   wpAny (model P w) X.A (letOwnedTupleGo tg (.ref it) u) (fun _ s2=>∃x H',Inv X pins σ H' s2/\ja3 x u/\J.yld i H x H'/\tn (i+1) s2.heap/\∀b∈fp,H' b=none) E s1) E s
 done:∀(X:Cx),X.prog=P->X.w=w->X.K=K->X.calm=true->∀(i:Nat) (pins:List (Addr×Obj)) (s:Shared) (σ:St) (H:Hp) (E:Value->Shared->Prop),Inv X pins σ H s->(∀b∈fp,jpd X pins H b)->tn i s.heap->J.stop i H ->
  wpAny (model P w) X.A (pyNext (.ref it)) (fun r s1=>r=none/\Inv X pins σ H s1) E s
 self:∀(A:Around) (i:Nat) (s:Shared) (Q:Value->Shared->Prop) (E:Value->Shared->Prop),tn i s.heap->Q (.ref it) s->wpAny (model P w) A (pyIter (.ref it)) Q E s
noncomputable abbrev TI:=St->Hp->(It->Hp->Prop)->Prop
def PIE (X:Cx)(pins:List (Addr×Obj))(σ:St)(tg:Expr)(R:It->Hp->Prop)(itv:Value)(s2:Shared):Prop:=
 ∃(it:Addr) (fp:List Addr) (tn:Nat->Heap->Prop) (J:It) (H':Hp),itv=.ref it/\Inv X pins σ H' s2/\Turn X.prog X.w X.K tg J fp it tn/\tn 0 s2.heap/\(∀b∈fp,jpd X pins H' b)/\R J H'
def PI (X:Cx)(tg iter:Expr)(wi:TI):Prop:=
 ∀(pins:List (Addr×Obj)) (s:Shared) (σ:St) (H:Hp) (R:It->Hp->Prop),Inv X pins σ H s->wi σ H R ->
  wpAny (model X.prog X.w) X.A (eval iter X.env) (fun v s1=>wpAny (model X.prog X.w) X.A (pyIter v) (PIE X pins σ tg R) X.xe s1) X.xe s
theorem jq2 {M:Model}{A:Around}{E:Value->Shared->Prop}{s:Shared}{tg:Expr}{it:Addr}{u:Value}{o:Obj}{n:String}{vs:Array Value}{Q:Unit->Shared->Prop}(ho:s.heap.get? it=some o)(hc:o.cls=.type n)(hd:o.data=.fields vs)
  (hn:["enumerate","zip","dict_itemiterator","dict_reverseitemiterator","odict_iterator","itertools.zip_longest","itertools.pairwise"].contains n=false) (hQ:Q () s):wpAny M A (letOwnedTupleGo tg (.ref it) u) Q E s:=by
 unfold letOwnedTupleGo
 cases tg<;>first
  |exact wpAny_pure hQ
  |(cases u<;>first
    |exact wpAny_pure hQ
    |(refine wpAny_bind (wpAny_load ho ?_)
      rw[hc,hd]
      show wpAny M A (if(["enumerate","zip","dict_itemiterator","dict_reverseitemiterator","odict_iterator","itertools.zip_longest","itertools.pairwise"].contains n&&vs[0]?==some (rawInt _))=true then _ else _) Q E s
      rw[if_neg (by intro h;rw[hn,Bool.false_and]at h;cases h)]
      exact wpAny_pure hQ))
noncomputable def Itl (K:PySem.W.Frag)(a:Addr):It:=
 ⟨fun i H=>∃xs x,SqL K H a xs/\xs[i]?=some x,fun i H x H'=>H'=H/\∀xs,SqL K H a xs->xs[i]?=some x,fun i H=>∃xs,SqL K H a xs/\xs.length<=i⟩
noncomputable def Itt (K:PySem.W.Frag)(a:Addr):It:=
 ⟨fun i H=>∃xs x,SqT K H a xs/\xs[i]?=some x,fun i H x H'=>H'=H/\∀xs,SqT K H a xs->xs[i]?=some x,fun i H=>∃xs,SqT K H a xs/\xs.length<=i⟩
noncomputable def Itr (lo:Int)(n:Nat):It:=⟨fun i _=>i<n,fun i H x H'=>H'=H/\x=.int (lo+i),fun i _=>n<=i⟩
theorem joc {P:Program}{w:World}{K:PySem.W.Frag}{tg:Expr}(a it:Addr):Turn P w K tg (Itl K a) [it] it (fun i h=>h.IsListIter it a i) where
 mem:=by simp
 obj:=fun i h st b hb=>by
  have e:b=it:=by simpa using hb
  subst e
  obtain⟨o,e,c,d⟩:=st
  exact⟨o,e,fun v z=>by rw[d]at z;cases z⟩
 keep:=fun i h h' st k=>st.at fun o e=>k it (by simp) o e
 item:=by
  intro X hP hw hK hc i pins s σ H E I hf st hg
  subst hP hw hK
  obtain⟨xs,x,hq,hx⟩:=hg
  obtain⟨its,rv,p,hz⟩:=I.list hq
  obtain⟨u,hu,ru⟩:=rv.get hx
  obtain⟨f0,f1,f2,f3,f4,f5⟩:=hf it (by simp)
  refine wpAny_pyNext_list_item st p.isList (x:=u) (by simpa using hu) fun h' st' sb=>?_
  have I1:Inv X pins σ H {s with heap:=h'}:=I.turned (t':=s.toks) (fun b o hb e=>(sb.2 b hb).trans e) f0 f1 f3 f4 f5
  obtain⟨o,e,c,d⟩:=id st'
  exact⟨u,rfl,jq2 (s:={s with heap:=h'}) e c d (by decide) ⟨x,H,I1,ru,⟨rfl,fun ys hy=>by rw[I.list_inj hy hq];exact hx⟩,st',fun b hb=>(hf b hb).1⟩⟩
 done:=by
  intro X hP hw hK hc i pins s σ H E I hf st hg
  subst hP hw hK
  obtain⟨xs,hq,hx⟩:=hg
  obtain⟨its,rv,p,hz⟩:=I.list hq
  obtain⟨f0,f1,f2,f3,f4,f5⟩:=hf it (by simp)
  have hl:=rv.length
  exact wpAny_pyNext_list_end (I.ok.hd hc) st p.isList (by simp;omega) fun h' eb=>⟨rfl,I.turned (t':=s.toks) (fun b o hb e=>eb b o hb e) f0 f1 f3 f4 f5⟩
 self:=fun _ _ _ _ _ st h=>wpAny_pyIter_listiter st h
theorem jmf {P:Program}{w:World}{K:PySem.W.Frag}{tg:Expr}(a it:Addr):Turn P w K tg (Itt K a) [it] it (fun i h=>h.IsTupleIter it a i) where
 mem:=by simp
 obj:=fun i h st b hb=>by
  have e:b=it:=by simpa using hb
  subst e
  obtain⟨o,e,c,d⟩:=st
  exact⟨o,e,fun v z=>by rw[d]at z;cases z⟩
 keep:=fun i h h' st k=>st.at fun o e=>k it (by simp) o e
 item:=by
  intro X hP hw hK hc i pins s σ H E I hf st hg
  subst hP hw hK
  obtain⟨xs,x,hq,hx⟩:=hg
  obtain⟨its,rv,p,hz⟩:=I.tuple hq
  obtain⟨u,hu,ru⟩:=rv.get hx
  obtain⟨f0,f1,f2,f3,f4,f5⟩:=hf it (by simp)
  refine wpAny_pyNext_tuple_item st (show s.heap.IsTuple a its.toArray from p) (x:=u) (by simpa using hu) fun h' st' sb=>?_
  have I1:Inv X pins σ H {s with heap:=h'}:=I.turned (t':=s.toks) (fun b o hb e=>(sb.2 b hb).trans e) f0 f1 f3 f4 f5
  obtain⟨o,e,c,d⟩:=id st'
  exact⟨u,rfl,jq2 (s:={s with heap:=h'}) e c d (by decide) ⟨x,H,I1,ru,⟨rfl,fun ys hy=>by rw[I.tuple_inj hy hq];exact hx⟩,st',fun b hb=>(hf b hb).1⟩⟩
 done:=by
  intro X hP hw hK hc i pins s σ H E I hf st hg
  subst hP hw hK
  obtain⟨xs,hq,hx⟩:=hg
  obtain⟨its,rv,p,hz⟩:=I.tuple hq
  obtain⟨f0,f1,f2,f3,f4,f5⟩:=hf it (by simp)
  have hl:=rv.length
  exact wpAny_pyNext_tuple_end (I.ok.hd hc) st (show s.heap.IsTuple a its.toArray from p) (by simp;omega) fun h' eb=>⟨rfl,I.turned (t':=s.toks) (fun b o hb e=>eb b o hb e) f0 f1 f3 f4 f5⟩
 self:=fun _ _ _ _ _ st h=>wpAny_pyIter_tupleiter st h
theorem jmq {P:Program}{w:World}{K:PySem.W.Frag}{tg:Expr}(it:Addr)(lo:Int)(n:Nat):Turn P w K tg (Itr lo n) [it] it (fun i h=>IsRangeIter h it (lo+(i:Nat)*1) ((n:Int) - (i:Nat)) 1) where
 mem:=by simp
 obj:=fun i h st b hb=>by
  have e:b=it:=by simpa using hb
  subst e
  exact⟨_,st,fun v z=>by
   have z':Data.fields _=Data.cell v:=z
   cases z'⟩
 keep:=fun i h h' st k=>k it (by simp) _ st
 item:=by
  intro X hP hw hK hc i pins s σ H E I hf st hg
  subst hP hw hK
  obtain⟨f0,f1,f2,f3,f4,f5⟩:=hf it (by simp)
  have W:=Walks.range (prog:=X.prog) (w:=X.w) (I.ok.hd hc) it lo 1 n
  refine W.item i s _ _ hg st fun v h' tk hv st' kk=>?_
  obtain⟨t,rfl⟩:=hv
  have I1:Inv X pins σ H {s with heap:=h',toks:=tk}:=I.turned (fun b o hb e=>kk b o (by simpa using hb) e) f0 f1 f3 f4 f5
  refine⟨_,rfl,jq2 (s:={s with heap:=h',toks:=tk}) (n:="range_iterator") st' rfl rfl (by decide) ⟨.int (lo+i),H,I1,⟨t,?_⟩,⟨rfl,rfl⟩,st',fun b hb=>(hf b hb).1⟩⟩
  rw[Int.mul_one]
 done:=by
  intro X hP hw hK hc i pins s σ H E I hf st hg
  subst hP hw hK
  obtain⟨f0,f1,f2,f3,f4,f5⟩:=hf it (by simp)
  exact wpAny_pyNext_range_end (I.ok.hd hc) st (by have:n<=i:=hg;omega) fun h' eb=>⟨rfl,I.turned (t':=s.toks) (fun b o hb e=>eb b o hb e) f0 f1 f3 f4 f5⟩
 self:=fun _ _ _ _ _ st h=>wpAny_pyIter_rangeiter st h
section
variable {X:Cx} {tg:Expr}
theorem jlQ {pins:List (Addr×Obj)}{σ:St}{H:Hp}{s:Shared}{R:It->Hp->Prop}{E:Value->Shared->Prop}{lo hi:Int}{t u v:Tok}{tk:Nat}(I:Inv X pins σ H s)(h1 : -(2 ^ 62)<=lo)(h2:lo<2 ^ 62)(h3 : -(2 ^ 62)<=hi)(h4:hi<2 ^ 62)
  (q:R (Itr lo (hi - lo).toNat) H):wpAny (model X.prog X.w) X.A (pyIter (.ref s.heap.objs.size)) (PIE X pins σ tg R) E {s with heap:=s.heap.push {cls:=.type "range",data:=.fields #[.int lo t,.int hi u,.int 1 v]},toks:=tk}:=by
 refine wpAny_pyIter_range (IsRange.new ..) (small_one h1 h2 h3 h4) ?_
 have I1:Inv X pins σ H {s with heap:=s.heap.push {cls:=.type "range",data:=.fields #[.int lo t,.int hi u,.int 1 v]},toks:=tk}:=I.kept fun b o e=>j0c _ e
 refine⟨(s.heap.push {cls:=.type "range",data:=.fields #[.int lo t,.int hi u,.int 1 v]}).objs.size,[(s.heap.push {cls:=.type "range",data:=.fields #[.int lo t,.int hi u,.int 1 v]}).objs.size],_,_,H,rfl,
  I1.kept (t':=tk) fun b o e=>j0c _ e,jmq _ lo (hi - lo).toNat,?_,fun b hb=>?_,q⟩
 ·have e1:lo+((0:Nat):Int)*1=lo:=by simp
  have e2:(((hi - lo).toNat:Nat):Int) - ((0:Nat):Int)=Builtin.Range.rangeSize lo hi 1:=by rw[rangeSize_one];split<;>omega
  show IsRangeIter _ _ (lo+((0:Nat):Int)*1) ((((hi - lo).toNat:Nat):Int) - ((0:Nat):Int)) 1
  rw[e1,e2]
  exact j0o _ rfl
 ·have e:b=(s.heap.push {cls:=.type "range",data:=.fields #[.int lo t,.int hi u,.int 1 v]}).objs.size:=by simpa using hb
  subst e
  exact I1.fpOk (j0q _) (I1.hok.fresh (j0q _))
def jxl (ta:TA):TI:=fun σ H R=>ta σ H fun vs H1=>∃j:Int,vs=[.int j]/\-(2 ^ 62)<=j/\j<2 ^ 62/\R (Itr 0 j.toNat) H1
def jvH (ta:TA):TI:=fun σ H R=>ta σ H fun vs H1=>∃i j:Int,vs=[.int i,.int j]/\(-(2 ^ 62)<=i/\i<2 ^ 62/\-(2 ^ 62)<=j/\j<2 ^ 62)/\R (Itr i (j - i).toNat) H1
theorem joN {a:Expr} {ta:TA} {p pos:Pos} (hg:Gl X "range") (hm:X.mg "range" =none) (ha:PA X [a] ta) (hs:starEach [a] X.env=[(false,eval a X.env)]:=by rfl):PI X tg (.Call (.Name "range" p) [a] [] pos) (jxl ta):=by
 intro pins s σ H R I h
 refine Call_ (jf I hg hm boot_range (j0U (thn (ha pos pins s σ H _ I h) fun us s1 ⟨vs,H1,I1,r1,q1⟩=>?_) hs rfl))
 obtain⟨j,e,q1,q2,q⟩:=q1
 subst e
 cases r1 with
 |cons r rr=>
  cases rr
  obtain⟨t,rfl⟩:=r
  exact call_range_1 (jlQ I1 (by omega) (by omega) q1 q2 (by simpa using q))
theorem jo0 {a b:Expr} {ta:TA} {p pos:Pos} (hg:Gl X "range") (hm:X.mg "range" =none) (ha:PA X [a,b] ta) (hs:starEach [a,b] X.env=[(false,eval a X.env),(false,eval b X.env)]:=by rfl) (hs2:starEach [b] X.env=[(false,eval b X.env)]:=by rfl) :
  PI X tg (.Call (.Name "range" p) [a,b] [] pos) (jvH ta):=by
 intro pins s σ H R I h
 refine Call_ (jf I hg hm boot_range (j0U (thn (ha pos pins s σ H _ I h) fun us s1 ⟨vs,H1,I1,r1,q1⟩=>?_) (by rw[hs,hs2]) (by rw[hs2];rfl)))
 obtain⟨i,j,e,⟨q1,q2,q3,q4⟩,q⟩:=q1
 subst e
 cases r1 with
 |cons r rr=>
  cases rr with
  |cons r' rr=>
   cases rr
   obtain⟨t,rfl⟩:=r
   obtain⟨t',rfl⟩:=r'
   exact call_range_2 (jlQ I1 q1 q2 q3 q4 q)
def jAz (wi:TI)(g:TG)(tb:TS):TS:=fun D σ H=>wi σ H fun J H1=>∃W:Nat->Nat->St->Hp->Prop,(∃m,W 0 m σ H1)/\∀i m σ H,W i m σ H ->
 (J.stop i H/\D.nx σ H)∨(J.go i H/\∃N:St->Hp->Prop,(∀σ' H',N σ' H'->∃m',m'<m/\W (i+1) m' σ' H')/\∀x H',J.yld i H x H'->g x σ H' fun σ2 H2=>tb {D with nx:=N,ct:=N,bk:=D.nx} σ2 H2)
noncomputable def ji4 (fp:List Addr)(h:Heap):List (Addr×Obj):=fp.filterMap fun b=>(h.get? b).map fun o=>(b,o)
theorem jep {fp:List Addr}{h:Heap}{b:Addr}{o:Obj}(hb:b∈fp)(e:h.get? b=some o):(b,o)∈ji4 fp h:=j1w.mpr ⟨b,hb,by rw[e];rfl⟩
theorem jos {fp:List Addr}{h:Heap}{p:Addr×Obj}(hp:p∈ji4 fp h):p.1∈fp/\h.get? p.1=some p.2:=by
 obtain⟨b,hb,e⟩:=j1w.mp hp
 cases q:h.get? b with
 |none=>rw[q]at e;cases e
 |some o=>
  rw[q]at e
  have e':(b,o)=p:=j0w e
  subst e'
  exact⟨hb,q⟩
theorem Inv.pinned {pins:List (Addr×Obj)}{σ:St}{H:Hp}{s:Shared}{fp:List Addr}(I:Inv X pins σ H s)(hf:∀b∈fp,jpd X pins H b)(ho:∀b∈fp,∃o,s.heap.get? b=some o/\∀v,o.data≠.cell v):Inv X (pins++ji4 fp s.heap) σ H s:=
 I.pins_of fun p hp=>(j03.mp hp).elim (fun z=>I.pin p (j0u _ z)) fun z=>by
  obtain⟨hb,e⟩:=jos z
  obtain⟨f0,f1,f2,_⟩:=hf p.1 hb
  obtain⟨o,e',d⟩:=ho p.1 hb
  rw[e]at e';cases e'
  exact⟨e,f0,f1,f2,d⟩
theorem Inv.unpinned {pins pl:List (Addr×Obj)}{σ:St}{H:Hp}{s:Shared}(I:Inv X (pins++pl) σ H s):Inv X pins σ H s:=I.pins_of fun p hp=>I.pin p (j0u _ (j1a _ hp))
theorem jrS {iter:Expr}{body:List Stmt}{wi:TI}{g:TG}{tb:TS}{pos:Pos}(hp:PassesOwn (model X.prog X.w) X.A X.env X.xe)(hc:X.calm=true)(hi:PI X tg iter wi)(hg:PG X tg g)(hb:PSs X body tb)
  (hs:∀x,foldedSetIterable iter X.env x=pure x:=by intro _;rfl):PS X (.For tg iter body [] pos) (jAz wi g tb):=by
 intro pins s σ H D I h
 refine wpAny_For (thn (hi pins s σ H _ I h) fun v s1 h1=>thn h1 fun itv s2 h2=>?_) hs
 obtain⟨it,fp,tn,J,H2,e,I2,T,st2,f2,W,⟨m0,w0⟩,turn⟩:=h2
 subst e
 have stat:∀{H':Hp},(∀b∈fp,H' b=none)->∀b∈fp,jpd X pins H' b:=fun hn b hb=>⟨hn b hb,(f2 b hb).2⟩
 refine codeAny_forLoop_any (fun n s'=>∃i σ' H',Inv X pins σ' H' s'/\tn i s'.heap/\(∀b∈fp,H' b=none)/\W i n σ' H') ?_ m0 ⟨0,σ,H2,I2,st2,fun b hb=>(f2 b hb).1,w0⟩
 rintro n s3 ⟨i,σ3,H3,I3,st3,fr3,w3⟩
 rcases turn i n σ3 H3 w3 with⟨stop,qn⟩|⟨go,N,hN,step⟩
 ·refine wpAny_passesOwn hp (thn (T.done X rfl rfl rfl hc i pins s3 σ3 H3 X.xe I3 (stat fr3) st3 stop) fun r s4 ⟨hr,I4⟩=>?_)
  subst hr
  exact wpAny_execs_nil ⟨σ3,H3,I4,qn⟩
 ·refine wpAny_passesOwn hp (thn (T.item X rfl rfl rfl hc i pins s3 σ3 H3 X.xe I3 (stat fr3) st3 go) fun r s4 ⟨u,hr,h4⟩=>?_)
  subst hr
  refine wpAny_passesOwn hp (thn h4 fun _ s5 ⟨x,H5,I5,r5,y5,st5,fr5⟩=>?_)
  have I5':=I5.pinned (stat fr5) (T.obj _ _ st5)
  refine wpAny_passesOwn hp (thn (hg _ s5 σ3 H5 x u _ I5' r5 (step x H5 y5)) fun _ s6 ⟨σ6,H6,I6,q6⟩=>?_)
  refine wpAny_passesOwn hp (thn (hb _ s6 σ6 H6 _ I6 q6) fun f s7 q7=>?_)
  have again:∀{σ7:St} {H7:Hp},Inv X (pins++ji4 fp s5.heap) σ7 H7 s7->N σ7 H7->∃m,m<n/\∃i σ' H',Inv X pins σ' H' s7/\tn i s7.heap/\(∀b∈fp,H' b=none)/\W i m σ' H':=fun {σ7 H7} I7 n7=>by
   obtain⟨m',hm,w7⟩:=hN σ7 H7 n7
   refine⟨m',hm,i+1,σ7,H7,I7.unpinned,T.keep _ _ _ st5 fun b hb o e=>(I7.pin (b,o) (j0u _ (j0u _ (jep hb e)))).1,fun b hb=>?_,w7⟩
   obtain⟨o,e,d⟩:=T.obj _ _ st5 b hb
   exact(I7.pin (b,o) (j0u _ (j0u _ (jep hb e)))).2.1
  cases f with
  |next=>obtain⟨σ7,H7,I7,n7⟩:=q7;exact again I7 n7
  |cont=>obtain⟨σ7,H7,I7,n7⟩:=q7;exact again I7 n7
  |brk=>obtain⟨σ7,H7,I7,q7⟩:=q7;exact⟨σ7,H7,I7.unpinned,q7⟩
  |ret v=>obtain⟨x7,σ7,H7,I7,r7,q7⟩:=q7;exact⟨x7,σ7,H7,I7.unpinned,r7,q7⟩
end
noncomputable abbrev R2:=V->V->Hp->VK->Prop
def OpR (X:Cx)(f:Value->Value->Sem Value)(r:R2):Prop:=
 ∀(pins:List (Addr×Obj)) (s:Shared) (σ:St) (H:Hp) (x y:V) (v u:Value) (Q:VK),Inv X pins σ H s->ja3 x v->ja3 y u->r x y H Q ->
  wpAny (model X.prog X.w) X.A (f v u) (EP X pins σ Q) X.xe s
def UnR (X:Cx)(f:Value->Sem Value)(r:V->Hp->VK->Prop):Prop:=
 ∀(pins:List (Addr×Obj)) (s:Shared) (σ:St) (H:Hp) (x:V) (v:Value) (Q:VK),Inv X pins σ H s->ja3 x v->r x H Q ->
  wpAny (model X.prog X.w) X.A (f v) (EP X pins σ Q) X.xe s
def jbK (X:Cx)(f:Value)(r:List V->Hp->VK->Prop):Prop:=
 ∀(pins:List (Addr×Obj)) (s:Shared) (σ:St) (H:Hp) (xs:List V) (us:List Value) (Q:VK),Inv X pins σ H s->jaR xs us->r xs H Q ->
  wpAny (model X.prog X.w) X.A (call f us) (EP X pins σ Q) X.xe s
def jA3 (X:Cx)(r:V->Hp->(Bool->Hp->Prop)->Prop):Prop:=
 ∀(pins:List (Addr×Obj)) (s:Shared) (σ:St) (H:Hp) (x:V) (v:Value) (Q:Bool->Hp->Prop),Inv X pins σ H s->ja3 x v->r x H Q ->
  wpAny (model X.prog X.w) X.A (truthy v) (TP X pins σ Q) X.xe s
def tOp (r:R2)(ta tb:TE):TE:=fun σ H Q=>ta σ H fun x H1=>tb σ H1 fun y H2=>r x y H2 Q
def tUn (r:V->Hp->VK->Prop)(ta:TE):TE:=fun σ H Q=>ta σ H fun x H1=>r x H1 Q
def rI (C:Int->Int->Prop)(g:Int->Int->V):R2:=fun x y H Q=>∃i j,x=.int i/\y=.int j/\C i j/\Q (g i j) H
def rI0 (g:Int->Int->V):R2:=fun x y H Q=>∃i j,x=.int i/\y=.int j/\Q (g i j) H
noncomputable def rU (g:Int->V):V->Hp->VK->Prop:=fun x H Q=>∃i,x=.int i/\Q (g i) H
section
variable {X:Cx} {a b c:Expr} {ta tb tc:TE} {pos:Pos}
theorem jzg (ha:PE X a ta)(hb:PE X b tb){pins:List (Addr×Obj)}{s:Shared}{σ:St}{H:Hp}{R:V->V->Hp->Prop}(I:Inv X pins σ H s)
  (h:ta σ H fun x H1=>tb σ H1 fun y H2=>R x y H2) {Q:Value->Shared->Prop} {f:Value->Value->Sem Value}
  (hf:∀v u s2 x y H2,Inv X pins σ H2 s2->ja3 x v->ja3 y u->R x y H2->wpAny (model X.prog X.w) X.A (f v u) Q X.xe s2) :
  wpAny (model X.prog X.w) X.A (eval a X.env) (fun v s₁=>wpAny (model X.prog X.w) X.A (eval b X.env) (fun u s₂=>wpAny (model X.prog X.w) X.A (f v u) Q X.xe s₂) X.xe s₁) X.xe s:=by
 refine thn (ha pins s σ H _ I h) fun v s1 ⟨x,H1,I1,r1,q1⟩=>?_
 refine thn (hb pins s1 σ H1 _ I1 q1) fun u s2 ⟨y,H2,I2,r2,q2⟩=>?_
 exact hf v u s2 x y H2 I2 r1 r2 q2
theorem jyN {op:Operator}{r:R2}(ho:OpR X (binaryOp op) r)(ha:PE X a ta)(hb:PE X b tb):PE X (.BinOp a op b pos) (tOp r ta tb):=by
 intro pins s σ H Q I h
 exact wpAny_BinOp (jzg ha hb I h fun v u s2 x y H2 I2 rx ry q=>ho pins s2 σ H2 x y v u Q I2 rx ry q)
theorem jzi {op:UnaryOp}{r:V->Hp->VK->Prop}(ho:UnR X (unaryOp op) r)(ha:PE X a ta):PE X (.UnaryOp op a pos) (tUn r ta):=by
 intro pins s σ H Q I h
 exact UnaryOp_ (thn (ha pins s σ H _ I h) fun v s1 ⟨x,H1,I1,r1,q1⟩=>ho pins s1 σ H1 x v Q I1 r1 q1)
theorem opI {f:Value->Value->Sem Value}{C:Int->Int->Prop}{g:Int->Int->Int}
  (rule:∀(i j:Int) (t u:Tok) (s:Shared) (Q:Value->Shared->Prop) (E:Value->Shared->Prop),C i j->Q (.int (g i j) s.toks) {s with toks:=s.toks+1}->wpAny (model X.prog X.w) X.A (f (.int i t) (.int j u)) Q E s) :
  OpR X f (rI C fun i j=>.int (g i j)):=by
 intro pins s σ H x y v u Q I rx ry h
 obtain⟨i,j,rfl,rfl,hc,q⟩:=h
 obtain⟨t,rfl⟩:=rx
 obtain⟨t',rfl⟩:=ry
 exact rule i j t t' s _ _ hc ⟨.int (g i j),H,I.tok _,⟨_,rfl⟩,q⟩
theorem jz4 {f:Value->Value->Sem Value}{g:Int->Int->Int}
  (rule:∀(i j:Int) (t u:Tok) (s:Shared) (Q:Value->Shared->Prop) (E:Value->Shared->Prop),Q (.int (g i j) s.toks) {s with toks:=s.toks+1}->wpAny (model X.prog X.w) X.A (f (.int i t) (.int j u)) Q E s) :
  OpR X f (rI0 fun i j=>.int (g i j)):=by
 intro pins s σ H x y v u Q I rx ry h
 obtain⟨i,j,rfl,rfl,q⟩:=h
 obtain⟨t,rfl⟩:=rx
 obtain⟨t',rfl⟩:=ry
 exact rule i j t t' s _ _ ⟨.int (g i j),H,I.tok _,⟨_,rfl⟩,q⟩
theorem jyr {f:Value->Value->Sem Value}{g:Int->Int->Bool}
  (rule:∀(i j:Int) (t u:Tok) (s:Shared) (Q:Value->Shared->Prop) (E:Value->Shared->Prop),Q (.bool (g i j)) s->wpAny (model X.prog X.w) X.A (f (.int i t) (.int j u)) Q E s) :
  OpR X f (rI0 fun i j=>.bl (g i j)):=by
 intro pins s σ H x y v u Q I rx ry h
 obtain⟨i,j,rfl,rfl,q⟩:=h
 obtain⟨t,rfl⟩:=rx
 obtain⟨t',rfl⟩:=ry
 exact rule i j t t' s _ _ ⟨.bl (g i j),H,I,rfl,q⟩
def jA5 (i j:Int):Prop:=0<=j/\j<=1000000/\i.natAbs<2 ^ 64
def jyB (i j:Int):Prop:=(-(2 ^ 64)<i/\i<2 ^ 64)∨(-(2 ^ 64)<j/\j<2 ^ 64)
theorem jyB.ok {i j:Int}(h:jyB i j):IntMulOk i j:=by
 rcases h with⟨h1,h2⟩|⟨h1,h2⟩
 ·exact .of_left (intBits_le_64 h1 h2)
 ·exact .of_right (intBits_le_64 h1 h2)
theorem jvA:OpR X (binaryOp .Add) (rI0 fun i j=>.int (i+j)):=jz4 fun _ _ _ _ _ _ _ q=>add_int q
theorem jw3:OpR X (binaryOp .Sub) (rI0 fun i j=>.int (i - j)):=jz4 fun _ _ _ _ _ _ _ q=>sub_int q
theorem jvV:OpR X (binaryOp .Mult) (rI jyB fun i j=>.int (i*j)):=opI fun _ _ _ _ _ _ _ hc q=>mul_int q hc.ok
theorem jxH:OpR X (binaryOp .Mod) (rI (fun _ j=>0<j) fun i j=>.int (i % j)):=opI fun i j _ _ _ _ _ hc q=>by
 have h1:(0:Int)<j:=hc
 exact mod_int' (by omega) (by rw[Int.fmod_eq_emod_of_nonneg i (by omega)];exact q)
theorem jwX:OpR X (binaryOp .Pow) (rI jA5 fun i j=>.int (i ^ j.toNat)):=opI fun _ _ _ _ _ _ _ hc q=>pow_int_small hc.1 hc.2.1 hc.2.2 q
theorem unI {f:Value->Sem Value}{g:Int->Int}
  (rule:∀(i:Int) (t:Tok) (s:Shared) (Q:Value->Shared->Prop) (E:Value->Shared->Prop),Q (.int (g i) s.toks) {s with toks:=s.toks+1}->wpAny (model X.prog X.w) X.A (f (.int i t)) Q E s) :
  UnR X f (rU fun i=>.int (g i)):=by
 intro pins s σ H x v Q I rx h
 obtain⟨i,rfl,q⟩:=h
 obtain⟨t,rfl⟩:=rx
 exact rule i t s _ _ ⟨.int (g i),H,I.tok _,⟨_,rfl⟩,q⟩
theorem jw4:UnR X (unaryOp .USub) (rU fun i=>.int (-i)):=unI fun _ _ _ _ _ q=>neg_int q
end
noncomputable def jyz:V->V->Bool
 |.non,.non=>true|.non,.int _=>true|.int _,.non=>true|.non,.bl _=>true|.bl _,.non=>true|.non,.str _=>true|.str _,.non=>true
 |.int _,.int _=>true|.bl _,.bl _=>true|.str _,.str _=>true|.byt _,.byt _=>true
 |.int _,.str _=>true|.str _,.int _=>true|.bl _,.str _=>true|.str _,.bl _=>true
 |_,_=>false
def rEq:R2:=fun x y H Q=>jyz x y=true/\Q (.bl (decide (x=y))) H
def rNe:R2:=fun x y H Q=>jyz x y=true/\Q (.bl (!decide (x=y))) H
theorem joE {i j:Int}:decide (V.int i=V.int j)=(i==j):=by
 rw[j0V]
 simp
theorem jsa {i j:Bool}:decide (V.bl i=V.bl j)=(i==j):=by
 rw[j0V]
 simp
theorem jm4 {i j:Str}:decide (V.str i=V.str j)=(i==j):=by
 rw[j0V]
 simp
theorem jn4 {i j:Array UInt8}:decide (V.byt i=V.byt j)=(i.toList==j.toList):=by
 rw[j0V]
 cases i
 cases j
 simp
section
variable {X:Cx} {a b c:Expr} {ta tb tc:TE} {pos:Pos}
theorem jaP {pins:List (Addr×Obj)}{σ:St}{H:Hp}{s:Shared}{Q:VK}{k k':Bool}(I:Inv X pins σ H s)(q:Q (.bl k) H)(e:k=k'):EP X pins σ Q (.bool k') s:=by
 subst e
 exact⟨.bl k,H,I,rfl,q⟩
theorem jzG:OpR X (compareOp .Eq) rEq:=by
 intro pins s σ H x y v u Q I rx ry h
 obtain⟨hs,q⟩:=h
 cases x with
 |non=>
  cases rx
  cases y with
  |non=>cases ry;exact PySem.EqNone.eq_none_none (jaP I q (by simp))
  |bl j=>cases ry;exact PySem.EqNone.eq_none_bool (jaP I q (by simp))
  |int j=>obtain⟨t',rfl⟩:=ry;exact PySem.EqNone.eq_none_int (jaP I q (by simp))
  |str j=>obtain⟨t',rfl⟩:=ry;exact PySem.EqNone.eq_none_str (jaP I q (by simp))
  |_=>exact absurd (show false=true from hs) j0g
 |bl i=>
  cases rx
  cases y with
  |non=>cases ry;exact PySem.EqNone.eq_bool_none (jaP I q (by simp))
  |bl j=>cases ry;exact eq_bool (jaP I q jsa)
  |str j=>obtain⟨t',rfl⟩:=ry;exact PySem.EqMixed.eq_bool_str (jaP I q (by simp))
  |_=>exact absurd (show false=true from hs) j0g
 |int i=>
  obtain⟨t,rfl⟩:=rx
  cases y with
  |non=>cases ry;exact PySem.EqNone.eq_int_none (jaP I q (by simp))
  |int j=>obtain⟨t',rfl⟩:=ry;exact eq_int (jaP I q joE)
  |str j=>obtain⟨t',rfl⟩:=ry;exact PySem.EqMixed.eq_int_str (jaP I q (by simp))
  |_=>exact absurd (show false=true from hs) j0g
 |str i=>
  obtain⟨t,rfl⟩:=rx
  cases y with
  |non=>cases ry;exact PySem.EqNone.eq_str_none (jaP I q (by simp))
  |bl j=>cases ry;exact PySem.EqMixed.eq_str_bool (jaP I q (by simp))
  |int j=>obtain⟨t',rfl⟩:=ry;exact PySem.EqMixed.eq_str_int (jaP I q (by simp))
  |str j=>obtain⟨t',rfl⟩:=ry;exact eq_str (jaP I q jm4)
  |_=>exact absurd (show false=true from hs) j0g
 |byt i=>
  obtain⟨t,rfl⟩:=rx
  cases y with
  |byt j=>obtain⟨t',rfl⟩:=ry;exact PySem.W.eq_bytes (jaP I q jn4)
  |_=>exact absurd (show false=true from hs) j0g
 |_=>cases y<;>exact absurd (show false=true from hs) j0g
theorem jzM:OpR X (compareOp .NotEq) rNe:=by
 intro pins s σ H x y v u Q I rx ry h
 obtain⟨hs,q⟩:=h
 cases x with
 |non=>
  cases rx
  cases y with
  |non=>cases ry;exact PySem.EqNone.ne_none_none (jaP I q (by simp))
  |bl j=>cases ry;exact PySem.EqNone.ne_none_bool (jaP I q (by simp))
  |int j=>obtain⟨t',rfl⟩:=ry;exact PySem.EqNone.ne_none_int (jaP I q (by simp))
  |str j=>obtain⟨t',rfl⟩:=ry;exact PySem.EqNone.ne_none_str (jaP I q (by simp))
  |_=>exact absurd (show false=true from hs) j0g
 |bl i=>
  cases rx
  cases y with
  |non=>cases ry;exact PySem.EqNone.ne_bool_none (jaP I q (by simp))
  |bl j=>cases ry;exact ne_bool (jaP I q (congrArg not jsa))
  |str j=>obtain⟨t',rfl⟩:=ry;exact PySem.EqMixed.ne_bool_str (jaP I q (by simp))
  |_=>exact absurd (show false=true from hs) j0g
 |int i=>
  obtain⟨t,rfl⟩:=rx
  cases y with
  |non=>cases ry;exact PySem.EqNone.ne_int_none (jaP I q (by simp))
  |int j=>obtain⟨t',rfl⟩:=ry;exact ne_int (jaP I q (congrArg not joE))
  |str j=>obtain⟨t',rfl⟩:=ry;exact PySem.EqMixed.ne_int_str (jaP I q (by simp))
  |_=>exact absurd (show false=true from hs) j0g
 |str i=>
  obtain⟨t,rfl⟩:=rx
  cases y with
  |non=>cases ry;exact PySem.EqNone.ne_str_none (jaP I q (by simp))
  |bl j=>cases ry;exact PySem.EqMixed.ne_str_bool (jaP I q (by simp))
  |int j=>obtain⟨t',rfl⟩:=ry;exact PySem.EqMixed.ne_str_int (jaP I q (by simp))
  |str j=>obtain⟨t',rfl⟩:=ry;exact ne_str (jaP I q (congrArg not jm4))
  |_=>exact absurd (show false=true from hs) j0g
 |byt i=>
  obtain⟨t,rfl⟩:=rx
  cases y with
  |byt j=>obtain⟨t',rfl⟩:=ry;exact PySem.W.ne_bytes (jaP I q (congrArg not jn4))
  |_=>exact absurd (show false=true from hs) j0g
 |_=>cases y<;>exact absurd (show false=true from hs) j0g
theorem jyS:OpR X (compareOp .Lt) (rI0 fun i j=>.bl (decide (i<j))):=jyr fun _ _ _ _ _ _ _ q=>lt_int q
theorem jzv:OpR X (compareOp .LtE) (rI0 fun i j=>.bl (decide (i<=j))):=jyr fun _ _ _ _ _ _ _ q=>le_int q
theorem jzU:OpR X (compareOp .Gt) (rI0 fun i j=>.bl (decide (j<i))):=jyr fun _ _ _ _ _ _ _ q=>gt_int q
theorem jzJ:OpR X (compareOp .GtE) (rI0 fun i j=>.bl (decide (j<=i))):=jyr fun _ _ _ _ _ _ _ q=>ge_int q
theorem OpR.or {f:Value->Value->Sem Value}{r r':R2}(h:OpR X f r)(h':OpR X f r'):OpR X f (fun x y H Q=>r x y H Q∨r' x y H Q):=by
 intro pins s σ H x y v u Q I rx ry q
 rcases q with q|q
 ·exact h pins s σ H x y v u Q I rx ry q
 ·exact h' pins s σ H x y v u Q I rx ry q
theorem jmO (b:Expr){op:CmpOp}(h:op≠.In:=by decide)(h2:op≠.NotIn:=by decide):behindInMarks op b=false:=by
 have e1:(op==CmpOp.In)=false:=by cases op<;>first|rfl|exact absurd rfl h
 have e2:(op==CmpOp.NotIn)=false:=by cases op<;>first|rfl|exact absurd rfl h2
 cases b<;>simp[behindInMarks,e1,e2]
theorem jnm {op:CmpOp}{r:R2}(ho:OpR X (compareOp op) r)(ha:PE X a ta)(hb:PE X b tb)(hm:behindInMarks op b=false):PE X (.Compare a [op] [b] pos) (tOp r ta tb):=by
 intro pins s σ H Q I h
 exact wpAny_Compare1 (jzg ha hb I h fun v u s2 x y H2 I2 rx ry q=>ho pins s2 σ H2 x y v u Q I2 rx ry q) hm
def jps (t:TE):TT:=fun σ H Q=>t σ H fun x H'=>∃k,x=.bl k/\Q k H'
theorem juk {op:CmpOp}{r:R2}(ho:OpR X (compareOp op) r)(ha:PE X a ta)(hb:PE X b tb)(hm:behindInMarks op b=false):PT X (.Compare a [op] [b] pos) (jps (tOp r ta tb)):=by
 intro pins s σ H Q I h
 refine wpAny_isTrue_Compare1 (thn (ha pins s σ H _ I h) fun v s1 ⟨x,H1,I1,r1,q1⟩=>thn (hb pins s1 σ H1 _ I1 q1) fun u s2 ⟨y,H2,I2,r2,q2⟩=>
  thn (ho pins s2 σ H2 x y v u _ I2 r1 r2 q2) fun c s3 ⟨z,H3,I3,r3,k,e,q3⟩=>?_) hm
 subst e
 cases r3
 exact wpAny_truthy_bool ⟨H3,I3,q3⟩
def jiX (r r':R2)(ta tb tc:TE):TE:=fun σ H Q=>ta σ H fun x H1=>tb σ H1 fun y H2=>r x y H2 fun z H3=>∃k,z=.bl k /\
 (if k=true then tc σ H3 fun w' H4=>r' y w' H4 Q else Q (.bl false) H3)
theorem jqb {op op':CmpOp}{r r':R2}(ho:OpR X (compareOp op) r)(ho':OpR X (compareOp op') r')(ha:PE X a ta)(hb:PE X b tb)(hc:PE X c tc)
  (hm:lastMarks [op,op'] [b,c]=false:=by with_unfolding_all rfl):PE X (.Compare a [op,op'] [b,c] pos) (jiX r r' ta tb tc):=by
 intro pins s σ H Q I h
 refine Compare_chain (thn (ha pins s σ H _ I h) fun v s1 ⟨x,H1,I1,r1,q1⟩=>chain_link (thn (hb pins s1 σ H1 _ I1 q1) fun u s2 ⟨y,H2,I2,r2,q2⟩=>
  thn (ho pins s2 σ H2 x y v u _ I2 r1 r2 q2) fun d s3 ⟨z,H3,I3,r3,k,e,q3⟩=>?_)) hm
 subst e
 cases r3
 refine wpAny_truthy_bool ?_
 cases k with
 |false=>exact ite_ff ⟨.bl false,H3,I3,rfl,q3⟩
 |true=>exact ite_tt (chain_last (thn (hc pins s3 σ H3 _ I3 q3) fun w' s4 ⟨z',H4,I4,r4,q4⟩=>ho' pins s4 σ H4 y z' u w' Q I4 r2 r4 q4))
theorem jqP {op op':CmpOp}{r r':R2}(ho:OpR X (compareOp op) r)(ho':OpR X (compareOp op') r')(ha:PE X a ta)(hb:PE X b tb)(hc:PE X c tc)
  (hm:lastMarks [op,op'] [b,c]=false:=by with_unfolding_all rfl):PT X (.Compare a [op,op'] [b,c] pos) (jps (jiX r r' ta tb tc)):=by
 intro pins s σ H Q I h
 refine isTrue_chain (thn (ha pins s σ H _ I h) fun v s1 ⟨x,H1,I1,r1,q1⟩=>test_link (thn (hb pins s1 σ H1 _ I1 q1) fun u s2 ⟨y,H2,I2,r2,q2⟩=>
  thn (ho pins s2 σ H2 x y v u _ I2 r1 r2 q2) fun d s3 ⟨z,H3,I3,r3,k,e,q3⟩=>?_)) hm
 subst e
 cases r3
 refine wpAny_truthy_bool ?_
 cases k with
 |false=>
  obtain⟨k',e',q'⟩:=q3
  cases e'
  exact ite_ff ⟨H3,I3,q'⟩
 |true=>
  refine ite_tt (test_last (thn (hc pins s3 σ H3 _ I3 q3) fun w' s4 ⟨z',H4,I4,r4,q4⟩=>thn (ho' pins s4 σ H4 y z' u w' _ I4 r2 r4 q4) fun d' s5 ⟨z2,H5,I5,r5,k2,e2,q5⟩=>?_))
  subst e2
  cases r5
  exact wpAny_truthy_bool ⟨H5,I5,q5⟩
def jwV (K:PySem.W.Frag)(x:V)(H:Hp)(k:Bool):Prop:=
 match x with
 |.non=>k=false
 |.bl b=>k=b
 |.int i=>k=(i !=0)
 |.str y=>y.length<=sizeLine/\k=((y.length:Int) !=0)
 |.byt y=>y.size<=sizeLine/\k=((y.size:Int) !=0)
 |.ref p=>(∃xs,SqL K H p xs/\k =!xs.isEmpty)∨(∃xs,SqT K H p xs/\k =!xs.isEmpty)∨∃kvs,H p=some (.dK kvs)/\k =!kvs.isEmpty
 |_=>False
theorem jmt {κ:Type}{kvs:List (κ×V)}{vs:List (κ×Value)}(r:KV kvs vs):(!vs.isEmpty) =!kvs.isEmpty:=by
 cases r<;>rfl
theorem jhT {xs:List V}{its:List Value}(r:jaR xs its):(!its.toArray.isEmpty) =!xs.isEmpty:=by
 cases r<;>simp
theorem jhI:(sizeLine:Nat)<2 ^ 63:=by rw[sizeLine_eq];decide
theorem jxE:jA3 X (fun x H Q=>∃k,jwV X.K x H k/\Q k H):=by
 intro pins s σ H x v Q I rx h
 obtain⟨k,e,q⟩:=h
 have hl:=jhI
 have hs:sizeLine=16777216:=sizeLine_eq
 cases x with
 |non=>
  cases rx
  have e':k=false:=e
  subst e'
  exact truthy_none ⟨H,I,q⟩
 |bl b=>
  cases rx
  have e':k=b:=e
  subst e'
  exact wpAny_truthy_bool ⟨H,I,q⟩
 |int i=>
  obtain⟨t,rfl⟩:=rx
  have e':k=(i !=0):=e
  subst e'
  exact PySem.P.truthy_int ⟨H,I,q⟩
 |str y=>
  obtain⟨t,rfl⟩:=rx
  obtain⟨hy,e'⟩:y.length<=sizeLine/\k=((y.length:Int) !=0):=e
  subst e'
  exact PySem.P.truthy_str (by omega) ⟨H,I.tok _,q⟩
 |byt y=>
  obtain⟨t,rfl⟩:=rx
  obtain⟨hy,e'⟩:y.size<=sizeLine/\k=((y.size:Int) !=0):=e
  subst e'
  exact PySem.W.truthy_bytes (by omega) ⟨H,I.tok _,q⟩
 |ref p=>
  cases rx
  have e':(∃xs,SqL X.K H p xs/\k =!xs.isEmpty)∨(∃xs,SqT X.K H p xs/\k =!xs.isEmpty)∨∃kvs,H p=some (.dK kvs)/\k =!kvs.isEmpty:=e
  rcases e' with⟨xs,hx,e'⟩|⟨xs,hx,e'⟩|⟨kvs,hx,e'⟩
  ·subst e'
   obtain⟨its,r,pl,hz⟩:=I.list hx
   have hlen:=r.length
   exact wpAny_truthy_list pl.isList (by simp only[j0j];omega) ⟨H,I.tok _,by rw[jhT r];exact q⟩
  ·subst e'
   obtain⟨its,r,pl,hz⟩:=I.tuple hx
   have hlen:=r.length
   exact truthy_tuple pl (by simp only[j0j];omega) ⟨H,I.tok _,by rw[jhT r];exact q⟩
  ·subst e'
   obtain⟨hz,hS,vs,r,m⟩:kvs.length<=sizeLine/\(p==sysModules)=false/\∃vs,KV kvs vs/\s.heap.DictOf (ja6 X.prog X.w) p vs:=I.hok p _ hx
   have hlen:kvs.length=vs.length:=Paired.length r
   exact wpAny_truthy_dict hS m (by omega) ⟨H,I.tok _,by rw[jmt r];exact q⟩
 |_=>exact(show False from e).elim
theorem jp6 (ha:PE X a ta)(he:∀whole,isTrue a X.env whole=(do let v <- whole;standAt a.pos;holding [v] (truthy v))) :
  PT X a (fun σ H Q=>ta σ H fun x H'=>∃k,jwV X.K x H' k/\Q k H'):=by
 intro pins s σ H Q I h
 exact isTrue_plain (thn (ha pins s σ H _ I h) fun v s1 ⟨x,H1,I1,r1,q1⟩=>jxE pins s1 σ H1 x v Q I1 r1 q1) (he _)
theorem jmc:OpR X (binaryOp .Add) (fun x y H Q=>∃i j,x=.str i/\y=.str j/\i.length+j.length<=sizeLine/\Q (.str (i++j)) H):=by
 intro pins s σ H x y v u Q I rx ry h
 obtain⟨i,j,rfl,rfl,hz,q⟩:=h
 obtain⟨t,rfl⟩:=rx
 obtain⟨t',rfl⟩:=ry
 exact add_str (fun t' tk=>⟨.str (i++j),H,I.tok _,⟨_,rfl⟩,q⟩) hz
theorem jgc {x:V}{us:List Value}(r:jaR [x] us):∃u,us=[u]/\ja3 x u:=by
 cases r with
 |cons r1 r2=>cases r2;exact⟨_,rfl,r1⟩
theorem jq8 {x y:V}{us:List Value}(r:jaR [x,y] us):∃u w',us=[u,w']/\ja3 x u/\ja3 y w':=by
 cases r with
 |cons r1 r2=>
  cases r2 with
  |cons r3 r4=>cases r4;exact⟨_,_,rfl,r1,r3⟩
theorem joL (hc:X.calm=true):jbK X (.builtin "max") (fun xs H Q=>∃i j,xs=[.int i,.int j]/\Q (.int (if j > i then j else i)) H):=by
 intro pins s σ H xs us Q I r h
 obtain⟨i,j,rfl,q⟩:=h
 obtain⟨u,w',rfl,⟨t,rfl⟩,⟨t',rfl⟩⟩:=jq8 r
 refine max_two_ints (I.ok.hd hc) fun h' tk k=>⟨_,H,I.kept k,?_,q⟩
 by_cases hj:j > i
 ·rw[if_pos hj,if_pos hj];exact⟨_,rfl⟩
 ·rw[if_neg hj,if_neg hj];exact⟨_,rfl⟩
theorem jpa (hc:X.calm=true):jbK X (.builtin "min") (fun xs H Q=>∃i j,xs=[.int i,.int j]/\Q (.int (if j<i then j else i)) H):=by
 intro pins s σ H xs us Q I r h
 obtain⟨i,j,rfl,q⟩:=h
 obtain⟨u,w',rfl,⟨t,rfl⟩,⟨t',rfl⟩⟩:=jq8 r
 refine min_two_ints (I.ok.hd hc) fun h' tk k=>⟨_,H,I.kept k,?_,q⟩
 by_cases hj:j<i
 ·rw[if_pos hj,if_pos hj];exact⟨_,rfl⟩
 ·rw[if_neg hj,if_neg hj];exact⟨_,rfl⟩
theorem jnD:jbK X (.type "int") (fun xs H Q=>(∃i,xs=[.int i]/\Q (.int i) H)∨∃k,xs=[.bl k]/\Q (.int (if k then 1 else 0)) H):=by
 intro pins s σ H xs us Q I r h
 rcases h with⟨i,rfl,q⟩|⟨k,rfl,q⟩
 ·obtain⟨u,rfl,t,rfl⟩:=jgc r
  exact call_int_int ⟨.int i,H,I,⟨_,rfl⟩,q⟩
 ·obtain⟨u,rfl,r1⟩:=jgc r
  cases r1
  exact call_int_bool ⟨.int (if k then 1 else 0),H,I.tok _,⟨_,rfl⟩,q⟩
theorem jjb:jbK X (.type "str") (fun xs H Q=>∃i,xs=[.int i]/\i.natAbs.log2<1920/\Q (.str (toString i)) H):=by
 intro pins s σ H xs us Q I r h
 obtain⟨i,rfl,hz,q⟩:=h
 obtain⟨u,rfl,t,rfl⟩:=jgc r
 exact PySem.P.str_of_int hz ⟨.str _,H,I.tok _,⟨_,rfl⟩,q⟩
end
structure ObjM (h:Heap) (x dx C:Addr) (mA:Str->Option Value):Prop where
 obj:h.get? x=some (PySem.W.instObj C dx)
 ns:h.Ns1 dx mA
 ne:dx≠x
theorem jm7 {h:Heap}{dx:Addr}{mA:Str->Option Value}(n:h.Ns1 dx mA):∃od,h.get? dx=some od/\∀name,PySem.W.lookIn name od=some (mA name):=by
 obtain⟨o,es,ep,ho,hd,hk,_,hm⟩:=n
 refine⟨o,ho,fun name=>?_⟩
 have e:=hm name
 unfold nsFind findBy at e
 rw[<- Array.find?_toList]at e
 unfold PySem.W.lookIn
 rw[hd]
 dsimp only
 split
 ·rename_i y q
  rw[q]at e
  exact congrArg some e
 ·rename_i q
  rw[q]at e
  have a:es.toList.any (·.refKey)=false:=by
   rw[List.any_eq_false]
   intro y hy
   obtain⟨z,t,hkey⟩:=hk y (Array.mem_toList_iff.mp hy)
   simp[DictEntry.refKey,hkey]
  have a':¬ es.toList.any (·.refKey)=true:=by rw[a];exact j0g
  rw[if_neg a']
  exact congrArg some e
theorem ObjM.look {h:Heap}{x dx C:Addr}{mA:Str->Option Value}(I:ObjM h x dx C mA):∃od,PySem.W.InstAt h x (PySem.W.instObj C dx) C (some od)/\∀name,PySem.W.lookIn name od=some (mA name):=
 let⟨od,ho,hl⟩:=jm7 I.ns
 ⟨od,⟨I.obj,rfl,rfl,ho⟩,hl⟩
section
variable {prog:Program} {w:World} {A:Around} {E:Value->Shared->Prop} {s:Shared} {K:PySem.W.Frag} {x dx C f:Addr} {mA:Str->Option Value} {name:Str} {v:Value}
end
theorem jj3.some_of {v:V}{o:Option Value}(r:jj3 (some v) o):∃u,o=some u/\ja3 v u:=by
 cases o with
 |none=>exact(show False from r).elim
 |some u=>exact⟨u,rfl,r⟩
section
variable {P:Program} {w:World} {H H':Hp} {h h':Heap} {a C dx:Addr} {fs fs':List (Str×V)}
theorem js4 (hok:HOk P w H h)(e:H a=some (.ins C dx fs)):∃mA,ObjM h a dx C mA/\(∀f,jj3 (fs.lookup f) (mA f))/\PySem.Within mA (fs.map (·.1))/\fs.length<=1000/\H dx=some (.own a):=by
 obtain⟨d,z,ne,ob,mA,n,r,q⟩:=(show jb1 P w H h a (.ins C dx fs)from hok a _ e)
 exact⟨mA,⟨ob,n,ne⟩,r,q,z,d⟩
end
structure Cls (K:PySem.W.Frag) (C:Addr):Prop where
 pg:PySem.W.plainGet K C Str.empty=true
 hd:PySem.W.hasDictIn K C=true
 po:PySem.W.plainOver K C=true
 sa:PySem.W.findIn K (.ref C) "__setattr__" =some (some (.builtin "object.__setattr__"))
theorem Cls.get {K:PySem.W.Frag}{C:Addr}(c:Cls K C)(f:Str):PySem.W.plainGet K C f=true:=c.pg
def jwS (K:PySem.W.Frag)(C:Addr)(f:Str):Prop:=PySem.W.findIn K (.ref C) f=some none
structure Con (K:PySem.W.Frag) (C:Addr) (f:Str) (v:V) (u:Value):Prop where
 at_:PySem.W.findIn K (.ref C) f=some (some u)
 rel:ja3 v u
 get:PySem.W.specialIn K u "__get__" =some none
 cp:PySem.W.copiedNames.contains f=false
structure Meth (K:PySem.W.Frag) (C:Addr) (m:Str) (f:Addr):Prop where
 at_:PySem.W.findIn K (.ref C) m=some (some (.ref f))
 fn:PySem.W.isFn K (.ref f)=true
 kp:PySem.W.keepIn K (.ref f)=true
section
variable {X:Cx} {pins:List (Addr×Obj)} {σ:St} {H:Hp} {s:Shared} {a C dx:Addr} {fs:List (Str×V)} {f:Str} {v:V} {A:Around} {E:Value->Shared->Prop}
end
section
variable {X:Cx} {o e value:Expr} {f:Str} {pos pos' tpos:Pos} {ta tv:TE}
end
section
variable {X:Cx} {pins:List (Addr×Obj)} {σ:St} {H:Hp} {s:Shared} {A:Around} {E:Value->Shared->Prop} {Q:Value->Shared->Prop} {c:Value} {b:Bool}
inductive TyOf (K:PySem.W.Frag) (H:Hp):V->Value->Prop where
 |non:TyOf K H .non (.type "NoneType")
 |bl (x:Bool):TyOf K H (.bl x) (.type "bool")
 |int (i:Int):TyOf K H (.int i) (.type "int")
 |str (x:Str):TyOf K H (.str x) (.type "str")
 |flt (x:UInt64):TyOf K H (.flt x) (.type "float")
 |lst {a:Addr} {xs:List V} (e:H a=some (.lst xs)):TyOf K H (.ref a) (.type "list")
 |frz {a:Addr} {o:Obj} {xs:List V} (e:H a=some (.frz o (.lst xs))):TyOf K H (.ref a) (.type "list")
 |tup {a:Addr} {xs:List V} (e:H a=some (.tup xs)):TyOf K H (.ref a) (.type "tuple")
 |dK {a:Addr} {kvs:List (Key×V)} (e:H a=some (.dK kvs)):TyOf K H (.ref a) (.type "dict")
 |dT {a:Addr} {kvs:List (List Key×V)} (e:H a=some (.dT kvs)):TyOf K H (.ref a) (.type "dict")
 |ins {a C dx:Addr} {fs:List (Str×V)} (e:H a=some (.ins C dx fs)) (cl:Cls K C) (ha:PySem.W.findIn K (.ref C) "__class__" =some (some (.builtin "object.__class__")))
   (hn:PySem.W.specialIn K (.builtin "object.__class__") "__get__" =some (some (.builtin "getset_descriptor.__get__"))) (htk:PySem.W.takesIn K (.builtin "object.__class__")=some true)
   (hm:PySem.W.mroIn K C (.type "object")=some true):TyOf K H (.ref a) (.ref C)
theorem jjZ {x:V}{u t:Value}(I:Inv X pins σ H s)(rx:ja3 x u)(ty:TyOf X.K H x t)(e:PySem.W.kitOne X.K t c=some b)(h:∀tk,Q (.bool b) {s with toks:=tk}) :
  wpAny (model X.prog X.w) A (call (.builtin "isinstance") [u,c]) Q E s:=by
 cases ty with
 |non=>cases(show u=Value.none from rx);exact j0P PySem.W.kitx_none I.kIn True.intro e (fun z=>nomatch z) h
 |bl y=>cases(show u=Value.bool y from rx);exact j0P PySem.W.kitx_bool I.kIn True.intro e (fun z=>nomatch z) h
 |int i=>obtain⟨t,q⟩:=(show ∃t,u=Value.int i t from rx);cases q;exact j0P PySem.W.kitx_int I.kIn True.intro e (fun z=>nomatch z) h
 |str y=>obtain⟨t,q⟩:=(show ∃t,u=Value.str y t from rx);cases q;exact j0P PySem.W.kitx_str I.kIn True.intro e (fun z=>nomatch z) h
 |flt y=>obtain⟨t,q⟩:=(show ∃t,u=Value.float y t from rx);cases q;exact j0P PySem.W.kitx_float I.kIn True.intro e (fun z=>nomatch z) h
 | @lst a xs ea=>
  cases(show u=Value.ref a from rx)
  obtain⟨_,_,n,_,h1⟩:=(show jb1 X.prog X.w H s.heap a (.lst xs)from I.hok a _ ea)
  exact j0P PySem.W.kitx_list I.kIn ⟨_,h1,rfl⟩ e (fun z=>nomatch z) h
 | @frz a ob xs ea=>
  cases(show u=Value.ref a from rx)
  obtain⟨_,_,_,n,_,h1⟩:=(show jb1 X.prog X.w H s.heap a (.frz ob (.lst xs))from I.hok a _ ea)
  exact j0P PySem.W.kitx_list I.kIn ⟨_,h1,rfl⟩ e (fun z=>nomatch z) h
 | @tup a xs ea=>
  cases(show u=Value.ref a from rx)
  obtain⟨_,_,_,p⟩:=(show jb1 X.prog X.w H s.heap a (.tup xs)from I.hok a _ ea)
  obtain⟨o,h1,h2,_⟩:=p
  exact j0P PySem.W.kitx_tuple I.kIn ⟨o,h1,h2⟩ e (fun z=>nomatch z) h
 | @dK a kvs ea=>
  cases(show u=Value.ref a from rx)
  obtain⟨_,_,vs,_,p⟩:=(show jb1 X.prog X.w H s.heap a (.dK kvs)from I.hok a _ ea)
  obtain⟨o,es,ep,h1,h2,_⟩:=p
  exact j0P PySem.W.kitx_dict I.kIn ⟨o,h1,h2.1⟩ e (fun z=>nomatch z) h
 | @dT a kvs ea=>
  cases(show u=Value.ref a from rx)
  obtain⟨_,_,xs,_,o,es,ep,h1,h2,_⟩:=(show jb1 X.prog X.w H s.heap a (.dT kvs)from I.hok a _ ea)
  exact j0P PySem.W.kitx_dict I.kIn ⟨o,h1,h2.1⟩ e (fun z=>nomatch z) h
 | @ins a C dx fs ea cl ha hn htk hm=>
  cases(show u=Value.ref a from rx)
  obtain⟨mA,O,_⟩:=js4 I.hok ea
  obtain⟨od,J,_⟩:=O.look
  exact j0P (PySem.W.kitx_own (cl.get _) cl.hd ha hn htk hm) I.kIn J e (fun z=>nomatch z) h
end
structure Room (k:Nat) (A:Around):Prop where
 hd:A.handled=none
 dp:A.depth+3*k+5<recursionLimit
 un:A.units+16*k+200<cLine
theorem Room.mono {j k:Nat}{A:Around}(r:Room k A)(h:j<=k):Room j A:=⟨r.hd,by have:=r.dp;omega,by have:=r.un;omega⟩
theorem Room.deeper {k:Nat}{A:Around}(r:Room (k+1) A)(env:Env):Room k (A.deeper env):=
 ⟨r.hd,by have:=r.dp;show A.depth+1+3*k+5<_;omega,by have:=r.un;show A.units+3+16*k+200<_;omega⟩
theorem Room.depth {k:Nat}{A:Around}(r:Room k A):A.depth<recursionLimit:=by have:=r.dp;omega
theorem Room.units {k:Nat}{A:Around}(r:Room k A):A.units+64<cLine:=by have:=r.un;omega
def jAb:TA:=fun _ H Q=>Q [] H
def jnT (ta:TE)(tr:TA):TA:=fun σ H Q=>ta σ H fun x H1=>tr σ H1 fun xs H2=>Q (x::xs) H2
section
variable {X:Cx} {e:Expr} {es:List Expr} {te:TE} {t:TA} {pos:Pos}
theorem jcG:PA X [] jAb:=fun _ _ _ _ H Q I h=>Calls.spliced_nil ⟨[],H,I,.nil,h⟩
theorem jbD (ha:PE X e te)(hr:PA X es t)(hs:starEach (e::es) X.env=(false,eval e X.env)::starEach es X.env:=by rfl):PA X (e::es) (jnT te t):=by
 intro pos pins s σ H Q I h
 rw[hs]
 show wpAny _ _ (spliced ((false,eval e X.env)::backTo pos (starEach es X.env))) _ _ s
 refine Calls.spliced_cons (thn (ha pins s σ H _ I h) fun u s1 ⟨x,H1,I1,r1,q1⟩=>?_)
 exact thn (hr pos pins s1 σ H1 _ I1 q1) fun us s2 ⟨xs,H2,I2,r2,q2⟩=>⟨x::xs,H2,I2,.cons r1 r2,q2⟩
def jAU (t:TA):TE:=fun σ H Q=>t σ H fun xs H1=>xs.length<=sizeLine/\∀p,H1 p=none->Q (.ref p) (upd H1 p (.tup xs))
def jA0 (t:TA):TE:=fun σ H Q=>t σ H fun xs H1=>xs.length<=sizeLine/\∀p,H1 p=none->Q (.ref p) (upd H1 p (.lst xs))
theorem jow {x1}(h:PA X es t):PE X (.Tuple es x1 pos) (jAU t):=by
 intro pins s σ H Q I hq
 refine wpAny_Tuple_spliced (thn (h pos pins s σ H _ I hq) fun us s1 ⟨xs,H1,I1,r,z,q⟩=>⟨by rw[<- r.length];exact z,?_⟩)
 have hf:H1 s1.heap.objs.size=none:=I1.hok.fresh (j0q _)
 refine⟨.ref s1.heap.objs.size,upd H1 s1.heap.objs.size (.tup xs),I1.laid (t':=s1.toks) (fun b u e=>j0c _ e) (j0q _) ?_,rfl,q _ hf⟩
 exact⟨z,us,r,⟨_,j0o _ rfl,rfl,_,rfl⟩⟩
theorem jle (h:PA X es t):PE X (.List es pos) (jA0 t):=by
 intro pins s σ H Q I hq
 refine wpAny_List_spliced (thn (h pos pins s σ H _ I hq) fun us s1 ⟨xs,H1,I1,r,z,q⟩=>⟨by rw[<- r.length];exact z,?_⟩)
 have hf:H1 s1.heap.objs.size=none:=I1.hok.fresh (j0q _)
 refine⟨.ref s1.heap.objs.size,upd H1 s1.heap.objs.size (.lst xs),I1.laid (t':=s1.toks) (fun b u e=>j0c _ e) (j0q _) ?_,rfl,q _ hf⟩
 exact⟨z,us,0,r,j0o _ rfl⟩
end
noncomputable abbrev Sp:=List V->Hp->VK->XK->Prop
noncomputable abbrev CXT:=List Env->Hp->Shared->XK->Value->Shared->Prop
structure Env0 (P:Program) (w:World) (K:PySem.W.Frag) (mg:Str->Option Value) (base:Heap) (A:Around) (outer:List Env) (s:Shared) (H:Hp):Prop where
 frames:A.frames=some outer
 mod:Mod K mg base
 bs:∀b o,base.get? b=some o->s.heap.get? b=some o/\H b=none
 bsz:base.objs.size<=s.heap.objs.size
 funs:s.heap.FunFrames base outer
 frf:∀b∈frs outer,H b=none
 hok:HOk P w H s.heap
 bare:AllBare s.gens
def CE (outer:List Env)(P:Program)(w:World)(H:Hp)(s:Shared)(Q:VK)(u:Value)(s':Shared):Prop:=
 ∃v H',s'.os=s.os/\AllBare s'.gens/\Un (frs outer) [] H H' s.heap s'.heap/\HOk P w H' s'.heap/\ja3 v u/\Q v H'
def CR (CX:CXT)(outer:List Env)(P:Program)(w:World)(H:Hp)(s:Shared)(Q:VK)(E:XK)(r:Result)(s':Shared):Prop:=
 match r with
 |.ok (.ret u)=>CE outer P w H s Q u s'
 |.ok _=>False
 |.error e=>CX outer H s E e s'
structure FnOk (P:Program) (w:World) (K:PySem.W.Frag) (mg:Str->Option Value) (base:Heap) (CX:CXT) (k:Nat) (f:Addr) (fd:FuncData) (ps:List Str) (sp:Sp):Prop where
 len:∀vs H Q E,sp vs H Q E->vs.length=ps.length
 run:∀(A:Around) (outer:List Env) (s:Shared) (H:Hp) (args:Args) (us:List Value) (vs:List V) (Q:VK) (E:XK),Room k A->Env0 P w K mg base A outer s H->BindsTo s fd args (ps.zip us)->jaR vs us->sp vs H Q E ->
  codeAny (model P w) A (.call (.ref f) args) (CR CX outer P w H s Q E) s
theorem FnOk.imp {P:Program}{w:World}{K:PySem.W.Frag}{mg:Str->Option Value}{base:Heap}{CX:CXT}{k:Nat}{f:Addr}{fd:FuncData}{ps:List Str}{sp sp':Sp}(F:FnOk P w K mg base CX k f fd ps sp)
  (h:∀vs H Q E,sp' vs H Q E->sp vs H Q E):FnOk P w K mg base CX k f fd ps sp':=
 ⟨fun vs H Q E q=>F.len vs H Q E (h _ _ _ _ q),fun A outer s H args us vs Q E hr he hb hv hs=>F.run A outer s H args us vs Q E hr he hb hv (h _ _ _ _ hs)⟩
section
variable {X:Cx} {pins:List (Addr×Obj)} {σ:St} {H:Hp} {s s':Shared}
theorem Inv.env0 (I:Inv X pins σ H s):Env0 X.prog X.w X.K X.mg X.base X.A X.stack s H:=
 ⟨I.ok.frames,I.ok.mod,I.bs,j0H I.ok.bsz I.sz,I.stack,I.stkFree,I.hok,I.bare⟩
theorem Inv.after {Q:VK}{u:Value}(I:Inv X pins σ H s)(h:CE X.stack X.prog X.w H s Q u s'):EP X pins σ Q u s':=by
 obtain⟨v,H',os,bare,un,hok,r,q⟩:=h
 obtain⟨hh,g,d,t,os'⟩:=s'
 obtain rfl:os'=s.os:=os
 exact⟨v,H',I.call (h':=hh) (g':=g) (d':=d) (t':=t) (ch:=[]) un hok bare (fun b z=>absurd z (by simp)),r,q⟩
end
def jvc (sp:Sp)(dvs:List V)(E:XK)(t:TA):TE:=fun σ H Q=>t σ H fun vs H1=>sp (vs++dvs) H1 Q E
def jfR (K:PySem.W.Frag)(fd:FuncData)(ps:List Str)(ds:List Value):Prop:=
 ∀(s:Shared) (us:List Value),K.In s.heap->(us++ds).length=ps.length->BindsTo s fd ⟨us,[]⟩ (ps.zip (us++ds))
theorem jfR.all {K:PySem.W.Frag}{fd:FuncData}{ps:List Str}(h:∀us:List Value,us.length=ps.length->bindArgs fd ⟨us,[]⟩=pure (ps.zip us)):jfR K fd ps []:=fun s us _ hl=>by
 rw[j0l]at hl ⊢
 exact .of_eq (h us hl)
def jhH (CX:CXT)(X:Cx)(E:XK):Prop:=∀(pins:List (Addr×Obj)) (σ:St) (H:Hp) (s:Shared) (e:Value) (s':Shared),Inv X pins σ H s->CX X.stack H s E e s'->X.xe e s'
section
variable {X:Cx} {CX:CXT} {k:Nat} {f C:Addr} {fd:FuncData} {ps:List Str} {sp:Sp} {dvs:List V} {ds:List Value} {E:XK} {x m:Str} {p pos apos:Pos} {e o:Expr} {es:List Expr} {ta:TE} {t:TA}
theorem jwH {pins:List (Addr×Obj)}{σ:St}{H:Hp}{s:Shared}{Q:VK}{us:List Value}{vs:List V}(F:FnOk X.prog X.w X.K X.mg X.base CX k f fd ps sp)(hr:Room k X.A)(hb:jfR X.K fd ps ds)(hd:jaR dvs ds)(hx:jhH CX X E)
  (I:Inv X pins σ H s) (r:jaR vs us) (h:sp (vs++dvs) H Q E):wpAny (model X.prog X.w) X.A (call (.ref f) us) (EP X pins σ Q) X.xe s:=by
 have r2:jaR (vs++dvs) (us++ds):=r.append hd
 have hl:(us++ds).length=ps.length:=by rw[<- r2.length];exact F.len _ _ _ _ h
 refine wpAny_call (codeAny_mono (F.run X.A X.stack s H ⟨us,[]⟩ (us++ds) (vs++dvs) Q E hr I.env0 (hb s us I.kIn hl) r2 h) fun r s' hq=>?_)
 cases r with
 |error e=>exact hx pins σ H s e s' I hq
 |ok fl=>
  cases fl with
  |ret u=>exact I.after hq
  |next=>exact False.elim hq
  |brk=>exact False.elim hq
  |cont=>exact False.elim hq
theorem jn5 (F:FnOk X.prog X.w X.K X.mg X.base CX k f fd ps sp)(hr:Room k X.A)(hg:Gl X x)(hm:X.mg x=some (.ref f))(hk:PySem.W.keepIn X.K (.ref f)=true)(hb:jfR X.K fd ps ds)(hd:jaR dvs ds)(hx:jhH CX X E)
  (ha:PA X (e::es) t) (hdb:(x==("__debug__" : Str))=false:=by decide) (he:starEach (e::es) X.env=(false,eval e X.env)::starEach es X.env:=by rfl) (hpl:(backTo pos (starEach es X.env)).any (·.1)=false:=by rfl) :
  PE X (.Call (.Name x p) (e::es) [] pos) (jvc sp dvs E t):=by
 intro pins s σ H Q I h
 refine wpAny_Call_Name_kw (jgK I hg hm ?_ hdb)
 refine PySem.W.callWith_K (h₀:=X.base) I.ok.mod.kin hk (thn (ha pos pins s σ H _ I h) fun us s1 ⟨vs,H1,I1,r,q⟩=>⟨I1.kIn,?_⟩) he hpl
 exact jwH F hr hb hd hx I1 r q
structure Mk (K:PySem.W.Frag) (C f:Addr):Prop where
 makes:PySem.W.makesIn K C=true
 init:PySem.W.findIn K (.ref C) "__init__" =some (some (.ref f))
 fn:PySem.W.isFn K (.ref f)=true
 kp:PySem.W.keepIn K (.ref C)=true
end
section
variable {X:Cx} {CX:CXT} {k:Nat} {f C:Addr} {fd:FuncData} {ps ks:List Str} {sp:Sp} {E:XK} {x m:Str} {p pos apos kpos:Pos} {e o:Expr} {es:List Expr} {kws:List Keyword} {te ta:TE} {t tk:TA} {nm:Option Str}
structure KBinds (K:PySem.W.Frag) (fd:FuncData) (ps ks:List Str) (g:List Value->List Value->List Value) (gV:List V->List V->List V):Prop where
 to:∀(s:Shared) (us ws:List Value),K.In s.heap->(g us ws).length=ps.length->BindsTo s fd ⟨us,ks.zip ws⟩ (ps.zip (g us ws))
 rel:∀{vs:List V} {us:List Value} {zs:List V} {ws:List Value},jaR vs us->jaR zs ws->jaR (gV vs zs) (g us ws)
variable {g:List Value->List Value->List Value} {gV:List V->List V->List V}
end
structure FnScope (N P:List Str) (sc:Scope):Prop where
 kind:sc.kind=.function
 co:sc.isCoroutine=false
 gen:sc.isGenerator=false
 nd:N.Nodup
 pre:N.take P.length=P
 par:∀x∈P,sc.names.lookup x=some .local∨sc.names.lookup x=some .cell
 nofree:∀y∈sc.names,y.2≠.free
theorem ji8 {kindOf:Str->Option NameKind}{x:Str}:∀{binds:List (Str×Value)} {m:Str->Option Value},(∀v,(x,v)∉binds)->bindL kindOf binds m x=m x
 |[],_,_=>rfl
 |(n,v)::r,m,h=>by
  unfold bindL
  rw[ji8 fun w hw=>h w (j09 _ hw)]
  split
  ·have:x≠n:=by rintro rfl;exact h v j02
   simp[this]
  ·rfl
theorem jjx {kindOf:Str->Option NameKind}{x:Str}:∀{binds:List (Str×Value)} {m:Str->Option Value},(∀v,(x,v)∉binds)->bindC kindOf binds m x=m x
 |[],_,_=>rfl
 |(n,v)::r,m,h=>by
  unfold bindC
  rw[jjx fun w hw=>h w (j09 _ hw)]
  split
  ·rfl
  ·have:x≠n:=by rintro rfl;exact h v j02
   simp[this]
theorem jjd {kindOf:Str->Option NameKind}{x:Str}{v:Value}:∀{P:List Str} {vs:List Value} {i:Nat} {m:Str->Option Value},P.Nodup->P[i]?=some x->vs[i]?=some v->kindOf x=some .local ->
  bindL kindOf (P.zip vs) m x=some v
 |[],_,_,_,_,h,_,_=>by simp at h
 |_::_,[],_,_,_,_,h,_=>by simp at h
 |p::P,w::vs,0,m,nd,h1,h2,hk=>by
  simp at h1 h2;subst h1;subst h2
  show bindL kindOf ((p,w)::P.zip vs) m p=_
  unfold bindL
  rw[ji8 fun v hv=>(j1r.mp nd).1 (List.of_mem_zip hv).1,if_pos hk]
  simp
 |p::P,w::vs,i+1,m,nd,h1,h2,hk=>by
  show bindL kindOf ((p,w)::P.zip vs) m x=_
  unfold bindL
  exact jjd (i:=i) (j1r.mp nd).2 (by simpa using h1) (by simpa using h2) hk
theorem jjy {kindOf:Str->Option NameKind}{x:Str}{v:Value}:∀{P:List Str} {vs:List Value} {i:Nat} {m:Str->Option Value},P.Nodup->P[i]?=some x->vs[i]?=some v->kindOf x≠some .local ->
  bindC kindOf (P.zip vs) m x=some v
 |[],_,_,_,_,h,_,_=>by simp at h
 |_::_,[],_,_,_,_,h,_=>by simp at h
 |p::P,w::vs,0,m,nd,h1,h2,hk=>by
  simp at h1 h2;subst h1;subst h2
  show bindC kindOf ((p,w)::P.zip vs) m p=_
  unfold bindC
  rw[jjx fun v hv=>(j1r.mp nd).1 (List.of_mem_zip hv).1,if_neg hk]
  simp
 |p::P,w::vs,i+1,m,nd,h1,h2,hk=>by
  show bindC kindOf ((p,w)::P.zip vs) m x=_
  unfold bindC
  exact jjy (i:=i) (j1r.mp nd).2 (by simpa using h1) (by simpa using h2) hk
noncomputable def start (N:List Str)(vs:List V):St:=vs.map some++List.replicate (N.length - vs.length) none
noncomputable def jiu (CX:CXT)(P:Program)(w:World)(K:PySem.W.Frag)(mg:Str->Option Value)(base:Heap)(N:List Str)(qual:Str)(scope:Scope)(f:Addr)(cd:Value)(A:Around)(outer:List Env)(s:Shared)(H:Hp)(E:XK):Cx where
 prog:=P
 w:=w
 K:=K
 mg:=mg
 base:=base
 A:=A.deeper (envOfC qual scope s.heap.objs.size f cd)
 N:=N
 s₀:=s
 H₀:=H
 env:=envOfC qual scope s.heap.objs.size f cd
 outer:=outer
 stack:=envOfC qual scope s.heap.objs.size f cd::outer
 ex:=[]
 calm:=true
 fn:=fun _=>true
 pn:=[]
 xe:=fun e s'=>wpAny (model P w) (A.deeper (envOfC qual scope s.heap.objs.size f cd)) (leaving (envOfC qual scope s.heap.objs.size f cd) e) (fun _ s''=>CX outer H s E e s'') (fun e' s''=>CX outer H s E e' s'') s'
theorem jlr {sc:Scope}{n:Nat}{x:Str}(h:sc.names.lookup x=some .cell):∃c,(cellsFrom n sc.names []).lookup x=some c:=by
 have q:=PySem.W.cellsFrom_some sc.names n [] (.inl h)
 exact Option.isSome_iff_exists.mp q
theorem jmZ {CX:CXT}{P:Program}{w:World}{K:PySem.W.Frag}{mg:Str->Option Value}{base:Heap}{N ps:List Str}{qual:Str}{scope:Scope}{f:Addr}{cd:Value}{A:Around}{outer:List Env}{s s1:Shared}{H:Hp}{E:XK}{us:List Value}{vs:List V}
  (S:FnScope N ps scope) (hd:A.handled=none) (e0:Env0 P w K mg base A outer s H) (hl:vs.length=ps.length) (r:jaR vs us)
  (x:InCallC s s.heap.objs.size (bindL (envOfC qual scope s.heap.objs.size f cd).kindOf (ps.zip us) fun _=>none) (cellsFrom (s.heap.objs.size+1) scope.names []) (bindC (envOfC qual scope s.heap.objs.size f cd).kindOf (ps.zip us) fun _=>none) s1) :
  Inv (jiu CX P w K mg base N qual scope f cd A outer s H E) [] (start N vs) H s1:=by
 have hpl:ps.length<=N.length:=by have:=congrArg List.length S.pre;rw[j0n]at this;omega
 obtain⟨h1,tk,rfl,hk⟩:=x.done
 have noA:∀b:Addr,b∉(jiu CX P w K mg base N qual scope f cd A outer s H E).ex:=fun b z=>absurd (show b∈([]:List Addr)from z) (by simp)
 refine⟨⟨e0.mod,S.kind,rfl,rfl,j0q _,fun y z c h1 h2=>?_,fun y hy=>?_,fun y c _ h=>?_,fun _=>hd,Around.frames_deeper e0.frames,.inr ⟨rfl,rfl⟩,fun b z=>absurd z (noA b),e0.bs,e0.bsz,fun b _ _=>noA b,fun b z=>absurd z (noA b),e0.funs,e0.frf⟩,
  rfl,e0.bare,Un.kept hk,⟨_,x.toInCall.ns,fun i y v h1 h2 h3=>?_⟩,fun y c h=>⟨_,x.cell y c h⟩,e0.hok.fresh (j0q _),fun y c h=>?_,fun p hp=>absurd (show p∈([]:List (Addr×Obj))from hp) (by simp),e0.hok.kept hk,?_⟩
 ·exact name_of_addr x.apart (j07 h1) (j07 h2)
 ·have hy:scope.names.lookup y=some .cell∨scope.names.lookup y=some .free:=hy
  rcases hy with hy|hy
  ·exact jlr hy
  ·exact absurd rfl (S.nofree _ (j07 hy))
 ·exact Nat.le_of_lt (x.above y c (j07 h))
 ·have hi:i<vs.length:=by
   unfold start at h2
   by_cases hi:i<vs.length
   ·exact hi
   ·rw[j1l (by simpa using hi)]at h2
    rw[List.getElem?_replicate]at h2
    split at h2<;>cases h2
  have ha:vs[i]?=some v:=by
   unfold start at h2
   rw[j0Z (by simpa using hi),j1g]at h2
   cases e:vs[i]? with
   |none=>rw[e]at h2;cases h2
   |some a=>rw[e]at h2;cases h2;rfl
  obtain⟨u,hu,rv⟩:=r.get ha
  have hp:ps[i]?=some y:=by
   rw[<- S.pre,List.getElem?_take_of_lt (by omega)];exact h1
  have ndP:ps.Nodup:=by rw[<- S.pre];exact S.nd.sublist (List.take_sublist _ _)
  refine⟨u,rv,?_⟩
  rcases S.par y (j0C hp)with k|k
  ·exact .inl ⟨k,jjd ndP hp hu k⟩
  ·obtain⟨c,e⟩:=jlr (n:=s.heap.objs.size+1) k
   refine .inr ⟨.inl k,c,e,?_⟩
   have q:=x.cell y c e
   rw[jjy ndP hp hu (by show scope.names.lookup y≠_;rw[k];decide)]at q
   exact q
 ·exact e0.hok.fresh (Nat.le_of_lt (x.above y c (j07 h)))
 ·unfold start
  show _=N.length
  rw[j0p,j0f,List.length_replicate]
  omega
theorem jxp {CX:CXT}{P:Program}{w:World}{K:PySem.W.Frag}{mg:Str->Option Value}{base:Heap}{k:Nat}{f:Addr}{name qual:Str}{params:Arguments}{body:List Stmt}{scope:Scope}{dV kV doc pm cdv ct oc:Value}{an od:Option Addr}
  {osl:Array (Option Value)} {N ps:List Str} {sp:Sp} (lk:K.lookup f=some ⟨oc,od,.func (PySem.W.fnOf name qual params body scope dV kV doc pm an cdv ct),osl⟩) (hcd:PySem.W.codeIn K cdv qual=true) (S:FnScope N ps scope)
  (len:∀vs H Q E,sp vs H Q E->vs.length=ps.length)
  (hbody:∀(A:Around) (outer:List Env) (s:Shared) (H:Hp) (vs:List V) (Q:VK) (E:XK),Room k (A.deeper (envOfC qual scope s.heap.objs.size f cdv))->sp vs H Q E ->
   ∃t,PSs (jiu CX P w K mg base N qual scope f cdv A outer s H E) body t/\t {nx:=fun _ H'=>Q .non H',rt:=Q} (start N vs) H) :
  FnOk P w K mg base CX (k+1) f (PySem.W.fnOf name qual params body scope dV kV doc pm an cdv ct) ps sp:=by
 refine⟨len,fun A outer s H args us vs Q E hr e0 hb r hsp=>?_⟩
 have hl:=len _ _ _ _ hsp
 have KX:K.In s.heap:=e0.mod.kin.keeps fun b o e=>(e0.bs b o e).1
 have lim:s.heap.NoLimit:=e0.mod.nolimit.keeps fun b o e=>(e0.bs b o e).1
 have hkind:∀y∈ps.zip us,scope.names.lookup y.1=some .local∨(scope.names.lookup y.1=some .cell/\((cellsFrom (s.heap.objs.size+1) scope.names []).lookup y.1).isSome=true):=fun⟨n,v⟩ hy=>by
  rcases S.par n (List.of_mem_zip hy).1 with q|q
  ·exact .inl q
  ·exact .inr ⟨q,PySem.W.cellsFrom_some _ _ _ (.inl q)⟩
 refine codeAny_call_function hr.depth (KX _ _ lk) rfl S.co S.gen rfl (PySem.W.codeRec_of KX hcd) (hb _ _ _ _ ?_)
 refine wpAny_newFunctionEnv_cells S.kind hkind fun env he s1 x=>?_
 subst he
 refine⟨lim.keeps x.toInCall.keep,codeAny_func ?_⟩
 obtain⟨t,ht,hq⟩:=hbody A outer s H vs Q E (hr.deeper _) hsp
 have I:Inv (jiu CX P w K mg base N qual scope f cdv A outer s H E) [] (start N vs) H s1:=jmZ S hr.hd e0 hl r x
 refine wpAny_mono (ht [] s1 (start N vs) H _ I hq) (fun fl s' hs=>?_) fun e s' hs=>hs
 have fin:∀{σ':St} {H':Hp} {v:V} {u:Value},Inv (jiu CX P w K mg base N qual scope f cdv A outer s H E) [] σ' H' s'->ja3 v u->Q v H'->CE outer P w H s Q u s':=
  fun {σ' H' v u} J rv q=>⟨v,H',J.os,J.bare,J.base,J.hok,rv,q⟩
 cases fl with
 |ret u=>
  obtain⟨v,σ',H',J,rv,q⟩:=hs
  exact fin J rv q
 |next=>
  obtain⟨σ',H',J,q⟩:=hs
  exact fin (v:=V.non) (u:=Value.none) J rfl q
 |brk=>
  obtain⟨_,_,_,q⟩:=hs
  exact False.elim q
 |cont=>
  obtain⟨_,_,_,q⟩:=hs
  exact False.elim q
section
variable {X:Cx} {x:Str} {p pos:Pos} {e:Expr} {es:List Expr} {t:TA} {id T:String} {r:List V->Hp->VK->Prop}
def tCB (r:List V->Hp->VK->Prop)(t:TA):TE:=fun σ H Q=>t σ H fun vs H1=>r vs H1 Q
theorem jp4 (hc:jbK X (.builtin id) r) (hg:Gl X x) (hm:X.mg x=none) (hv:bootBuiltins x=some (.builtin id)) (ha:PA X (e::es) t) (hn:x≠"__name__":=by decide) (hdb:(x==("__debug__" : Str))=false:=by decide)
  (he:starEach (e::es) X.env=(false,eval e X.env)::starEach es X.env:=by rfl) (hpl:(backTo pos (starEach es X.env)).any (·.1)=false:=by rfl):PE X (.Call (.Name x p) (e::es) [] pos) (tCB r t):=by
 intro pins s σ H Q I h
 refine wpAny_Call_Name_kw (jf I hg hm hv ?_ hn hdb)
 exact PyProof.Rows.callWith_builtin1 (thn (ha pos pins s σ H _ I h) fun us s1 ⟨vs,H1,I1,r1,q1⟩=>hc pins s1 σ H1 vs us Q I1 r1 q1) he hpl
theorem joW (hc:jbK X (.type T) r) (hg:Gl X x) (hm:X.mg x=none) (hv:bootBuiltins x=some (.type T)) (ha:PA X (e::es) t) (hn:x≠"__name__":=by decide) (hdb:(x==("__debug__" : Str))=false:=by decide)
  (he:starEach (e::es) X.env=(false,eval e X.env)::starEach es X.env:=by rfl) (hpl:(backTo pos (starEach es X.env)).any (·.1)=false:=by rfl):PE X (.Call (.Name x p) (e::es) [] pos) (tCB r t):=by
 intro pins s σ H Q I h
 refine wpAny_Call_Name_kw (jf I hg hm hv ?_ hn hdb)
 exact j0U (thn (ha pos pins s σ H _ I h) fun us s1 ⟨vs,H1,I1,r1,q1⟩=>hc pins s1 σ H1 vs us Q I1 r1 q1) he hpl
end
end _L2
namespace HT
open PySem PyProof.Rows
section
open PySem.SeqAt
open PySem.AutoSeq1 (wpAny_loadPart')
open PySem.MeetsSeq PySem.MeetsSeq2 PySem.MeetsSeq3
end
section
variable {prog:Program} {w:World} {A:Around} {E:Value->Shared->Prop} {s:Shared}
noncomputable def sIx (n d:Nat):Option Int->Nat
 |none=>d
 |some v=>if v<0 then(v+(n:Int)).toNat else min v.toNat n
theorem sIx_none (n d:Nat):sIx n d none=d:=rfl
theorem sIx_nat (n d k:Nat):sIx n d (some (k:Int))=min k n:=by
 show(if(k:Int)<0 then((k:Int)+(n:Int)).toNat else min (k:Int).toNat n)=min k n
 rw[if_neg (by omega),j1s]
theorem jwY (n d:Nat)(hd:d<=n)(o:Option Int):sIx n d o<=n:=by
 cases o with
 |none=>exact hd
 |some v=>
  show(if v<0 then(v+(n:Int)).toNat else min v.toNat n)<=n
  by_cases hv:v<0
  ·rw[if_pos hv];omega
  ·rw[if_neg hv];exact Nat.min_le_right _ _
theorem clip_eq (v:Int)(n d:Nat):(if v<0 then max (v+(n:Int)) 0 else min v (n:Int))=((sIx n d (some v):Nat):Int):=by
 show(if v<0 then max (v+(n:Int)) 0 else min v (n:Int))=(((if v<0 then(v+(n:Int)).toNat else min v.toNat n):Nat):Int)
 by_cases hv:v<0
 ·simp only[if_pos hv];omega
 ·simp only[if_neg hv];omega
theorem jm (lo hi:Option Int)(n:Nat):Builtin.Slice.sliceAdjust lo hi 1 (n:Int)=(((sIx n 0 lo:Nat):Int),((sIx n n hi:Nat):Int)):=by
 have h1:¬ ((1:Int)<0):=by omega
 unfold Builtin.Slice.sliceAdjust
 simp only[h1,if_false]
 refine Prod.ext ?_ ?_
 ·cases lo with
  |none=>rfl
  |some v=>exact clip_eq v n 0
 ·cases hi with
  |none=>rfl
  |some v=>exact clip_eq v n n
theorem jmj (i j:Nat):Builtin.Slice.slicePlaces (i:Int) (j:Int) 1=j - i:=by
 unfold Builtin.Slice.slicePlaces
 have h1:(1:Int) > 0:=by omega
 simp only[h1,if_true,Int.ediv_one]
 split<;>omega
theorem jhM {v:Value}{o:Option Int}{Q:Option Int->Shared->Prop}(p:IsPart v o)(h:Q o s):wpAny (model prog w) A (Builtin.Slice.slicePartIndex v) Q E s:=by
 cases p with
 |none=>exact slicePart_none h
 |int i t=>exact slicePart_int h
theorem jdK {sl:Addr}{vl vu:Value}{lo hi:Option Int}{n:Nat}{Q:Int×Int×Nat->Shared->Prop}(hs:s.heap.IsSliceOf sl vl vu .none)(pl:IsPart vl lo)(pu:IsPart vu hi)
  (h:Q (((sIx n 0 lo:Nat):Int),1,sIx n n hi - sIx n 0 lo) s):wpAny (model prog w) A (Builtin.Slice.sliceApplied (.ref sl) (pure (n:Int))) Q E s:=by
 obtain⟨os,hos,hcs,hds⟩:=id hs
 unfold Builtin.Slice.sliceApplied Builtin.Slice.sliceFields
 refine wpAny_bind (wpAny_bind (wpAny_field hos hds (x:=vl) rfl (wpAny_bind (wpAny_field hos hds (x:=vu) rfl (wpAny_bind (wpAny_field hos hds (x:=.none) rfl (wpAny_pure ?_)))))))
 refine wpAny_bind (slicePart_none ?_)
 show wpAny _ _ (if((1:Int)==0)=true then _ else _) _ _ s
 rw[if_neg (by decide)]
 refine wpAny_bind (jhM pl (wpAny_bind (jhM pu (wpAny_bind (wpAny_pure ?_)))))
 show wpAny _ _ (match Builtin.Slice.sliceAdjust lo hi 1 (n:Int)with|(lo,hi)=>pure (lo,(1:Int),Builtin.Slice.slicePlaces lo hi 1)) _ _ s
 rw[jm lo hi n]
 show wpAny _ _ (pure (((sIx n 0 lo:Nat):Int),(1:Int),Builtin.Slice.slicePlaces ((sIx n 0 lo:Nat):Int) ((sIx n n hi:Nat):Int) 1)) _ _ s
 rw[jmj]
 exact wpAny_pure h
theorem jqE (xs:Array Value)(i k:Nat):((List.range k).filterMap fun(m:Nat)=>xs[((i:Int)+(m:Int)*1).toNat]?).toArray=((xs.toList.drop i).take k).toArray:=by
 have e:(fun(m:Nat)=>xs[((i:Int)+(m:Int)*1).toNat]?)=fun m=>xs[i+m]?:=by
  funext m
  have:((i:Int)+(m:Int)*1).toNat=i+m:=by omega
  rw[this]
 rw[e]
 have:=pick_run xs i k
 rw[List.filterMap_map]at this
 have e2:((fun x=>xs[x]?) ∘ fun x=>i+x)=fun m=>xs[i+m]?:=rfl
 rw[e2]at this
 rw[this]
theorem getItem_tuple_cut {t sl:Addr}{items:Array Value}{vl vu:Value}{lo hi:Option Int}{Q:Value->Shared->Prop}(ht:IsTup s.heap t items)(hs:s.heap.IsSliceOf sl vl vu .none)(pl:IsPart vl lo)(pu:IsPart vu hi)
  (hw:¬ (sIx items.size 0 lo=0/\sIx items.size items.size hi=items.size))
  (h:Q (.ref s.heap.objs.size) {s with heap:=s.heap.push {cls:=.type "tuple",data:=.seq ((items.toList.drop (sIx items.size 0 lo)).take (sIx items.size items.size hi - sIx items.size 0 lo)).toArray}})
  (hsz:items.size<=sizeLine):wpAny (model prog w) A (getItem (.ref t) (.ref sl)) Q E s:=by
 have htake:sizeOk (.seq ((items.toList.drop (sIx items.size 0 lo)).take (sIx items.size items.size hi - sIx items.size 0 lo)).toArray):=by
  show((items.toList.drop (sIx items.size 0 lo)).take (sIx items.size items.size hi - sIx items.size 0 lo)).toArray.size<=sizeLine
  rw[j0j,j0n,j1o,j01]
  omega
 have hj:sIx items.size items.size hi<=items.size:=jwY _ _ (j0q _) hi
 obtain⟨os,hos,hcs,hds⟩:=id hs
 have hTs:s.TypeIs (.ref sl) "slice":=⟨os,hos,hcs⟩
 unfold getItem
 try with_reducible refine wpAny_holding ?_
 first|refine wpAny_bind (wpAny_pure ?_)|skip
 refine wpAny_bind (wpAny_sequenceKey ht.typeIs (by decide) ?_)
 refine wpAny_bind (wpAny_callSpecial?_slot (name:=Str.ofString "__getitem__") ht.typeIs j08
  (wpAny_call_entry j08 ht.typeIs entry_tuple_getitem ?_ (args_tuple_getitem _ _)))
 show wpAny _ _ (Builtin.Tuple.tupleItemsOf (.ref t) >>=_) _ _ s
 refine wpAny_bind (tupleItemsOf_ ht ?_)
 refine wpAny_bind (wpAny_typeOf hTs ?_)
 rw[if_pos (by decide)]
 refine wpAny_bind (jdK hs pl pu ?_)
 have hno:¬ ((((sIx items.size 0 lo:Nat):Int)==0&&(1:Int)==1&&(sIx items.size items.size hi - sIx items.size 0 lo)==items.size)=true):=by
  intro q
  rw[j0a,j0a]at q
  have q1:((sIx items.size 0 lo:Nat):Int)=0:=eq_of_beq q.1.1
  have q2:sIx items.size items.size hi - sIx items.size 0 lo=items.size:=eq_of_beq q.2
  exact hw ⟨by omega,by omega⟩
 show wpAny _ _ (if(((sIx items.size 0 lo:Nat):Int)==0&&(1:Int)==1&&(sIx items.size items.size hi - sIx items.size 0 lo)==items.size)=true then _ else _) _ _ s
 rw[if_neg hno,jqE]
 first
  |exact wpAny_bind (m:=Builtin.Tuple.tupleExact _) (wpAny_newObj_type (wpAny_pure ⟨_,rfl,wpAny_pure h⟩) htake)
  |exact wpAny_bind (m:=Builtin.Tuple.tupleExact _) (wpAny_newObj_type (wpAny_bind (wpAny_pure (wpAny_pure ⟨_,rfl,wpAny_pure h⟩))) htake)
  |exact wpAny_bind (wpAny_bind (m:=Builtin.Tuple.tupleExact _) (wpAny_newObj_type (wpAny_pure (wpAny_pure ⟨_,rfl,wpAny_pure h⟩)) htake))
  |exact wpAny_bind (wpAny_bind (m:=Builtin.Tuple.tupleExact _) (wpAny_newObj_type (wpAny_pure ⟨_,rfl,wpAny_pure h⟩) htake))
end
end HT
namespace _L2
open PySem PySem.Spec PyProof.Rows
noncomputable abbrev TO:=St->Hp->(Option Int->Hp->Prop)->Prop
def PO (X:Cx)(e:Option Expr)(t:TO):Prop:=
 ∀(pins:List (Addr×Obj)) (s:Shared) (σ:St) (H:Hp) (Q:Option Int->Hp->Prop),Inv X pins σ H s->t σ H Q ->
  wpAny (model X.prog X.w) X.A (evalPart e X.env) (fun u s'=>∃o H',Inv X pins σ H' s'/\IsPart u o/\Q o H') X.xe s
noncomputable def jsW:TO:=fun _ H Q=>Q none H
noncomputable def jzC (t:TE):TO:=fun σ H Q=>t σ H fun x H1=>∃i,x=.int i/\Q (some i) H1
section
variable {X:Cx} {e:Expr} {te:TE} {lo hi:Option Expr} {tl th:TO} {pos p2:Pos}
theorem jui:PO X none jsW:=by
 intro pins s σ H Q I h
 rw[evalPart_none]
 exact wpAny_pure ⟨none,H,I,.none,h⟩
theorem jun (h:PE X e te):PO X (some e) (jzC te):=by
 intro pins s σ H Q I hw
 rw[evalPart_some]
 refine thn (h pins s σ H _ I hw) fun u s1 ⟨x,H1,I1,r1,q1⟩=>?_
 obtain⟨i,rfl,q⟩:=q1
 obtain⟨t,rfl⟩:=r1
 exact⟨some i,H1,I1,.int i t,q⟩
def SlR (X:Cx)(r:V->Option Int->Option Int->Hp->VK->Prop):Prop:=
 ∀(pins:List (Addr×Obj)) (s:Shared) (σ:St) (H:Hp) (x:V) (v vl vu:Value) (lo hi:Option Int) (sl:Addr) (Q:VK),Inv X pins σ H s->ja3 x v->s.heap.IsSliceOf sl vl vu .none->IsPart vl lo->IsPart vu hi->r x lo hi H Q ->
  ∃T id,typeLookup (.type T) "__getitem__" =pure (some (.builtin id))/\s.TypeIs v T/\wpAny (model X.prog X.w) X.A (getItem v (.ref sl)) (EP X pins σ Q) X.xe s
theorem SlR.or {r r':V->Option Int->Option Int->Hp->VK->Prop}(h:SlR X r)(h':SlR X r'):SlR X (fun x lo hi H Q=>r x lo hi H Q∨r' x lo hi H Q):=by
 intro pins s σ H x v vl vu lo hi sl Q I rx hs pl pu q
 rcases q with q|q
 ·exact h pins s σ H x v vl vu lo hi sl Q I rx hs pl pu q
 ·exact h' pins s σ H x v vl vu lo hi sl Q I rx hs pl pu q
def tSl (r:V->Option Int->Option Int->Hp->VK->Prop)(te:TE)(tl th:TO):TE:=fun σ H Q=>te σ H fun x H1=>tl σ H1 fun l H2=>th σ H2 fun u H3=>r x l u H3 Q
theorem jq {r:V->Option Int->Option Int->Hp->VK->Prop}(hr:SlR X r)(he:PE X e te)(hl:PO X lo tl)(hu:PO X hi th):PE X (.Subscript e (.Slice lo hi none p2) pos) (tSl r te tl th):=by
 intro pins s σ H Q I h
 refine Subscript_ (thn (he pins s σ H _ I h) fun v s1 ⟨x,H1,I1,r1,q1⟩=>?_)
 refine wpAny_Slice (thn (hl pins s1 σ H1 _ I1 q1) fun vl s2 ⟨l,H2,I2,pl,q2⟩=>thn (hu pins s2 σ H2 _ I2 q2) fun vu s3 ⟨u,H3,I3,pu,q3⟩=>?_)
 rw[evalPart_none]
 refine wpAny_pure ?_
 have I4:Inv X pins σ H3 {s3 with heap:=s3.heap.push {cls:=.type "slice",data:=.fields #[vl,vu,.none]}}:=I3.kept (t':=s3.toks) fun b ob q=>j0c _ q
 obtain⟨T,id,hT,ht,hg⟩:=hr pins {s3 with heap:=s3.heap.push {cls:=.type "slice",data:=.fields #[vl,vu,.none]}} σ H3 x v vl vu l u s3.heap.objs.size Q I4 r1 (Heap.IsSliceOf.new ..) pl pu q3
 show wpAny (model X.prog X.w) X.A (subscriptTail e (.Slice lo hi none p2) v (.ref s3.heap.objs.size)) (EP X pins σ Q) X.xe {s3 with heap:=s3.heap.push {cls:=.type "slice",data:=.fields #[vl,vu,.none]}}
 exact tail_any (ops:=[.ref s3.heap.objs.size,v]) ht hT hg (by with_unfolding_all rfl)
noncomputable def jrB (xs:List V)(lo hi:Option Int):List V:=(xs.drop (HT.sIx xs.length 0 lo)).take (HT.sIx xs.length xs.length hi - HT.sIx xs.length 0 lo)
theorem jgy (xs:List V)(lo hi:Option Int):(jrB xs lo hi).length<=xs.length:=by
 unfold jrB
 rw[j0n,j1o]
 omega
noncomputable def jz0 (K:PySem.W.Frag):V->Option Int->Option Int->Hp->VK->Prop:=fun x lo hi H Q=>∃a xs,x=.ref a/\SqT K H a xs /\
 ¬ (HT.sIx xs.length 0 lo=0/\HT.sIx xs.length xs.length hi=xs.length)/\∀p,H p=none->Q (.ref p) (upd H p (.tup (jrB xs lo hi)))
theorem jyf:SlR X (jz0 X.K):=by
 intro pins s σ H x v vl vu lo hi sl Q I rx hs pl pu h
 obtain⟨a,xs,rfl,hx,hw,q⟩:=h
 cases rx
 obtain⟨its,r,ht,hz⟩:=I.tuple hx
 have hlen:its.toArray.size=xs.length:=by rw[j0j];exact r.length.symm
 refine⟨"tuple",_,PyProof.Rows.slot_tuple_getitem.lookup,ht.typeIs,?_⟩
 refine HT.getItem_tuple_cut ht hs pl pu (by rw[hlen];exact hw) ?_ (by rw[hlen];exact hz)
 rw[hlen]
 refine⟨.ref s.heap.objs.size,_,I.laid (t':=s.toks) (o:=.tup (jrB xs lo hi)) (fun b ob q=>j0c _ q) (j0q _) ?_,rfl,q _ (I.hok.fresh (j0q _))⟩
 exact⟨j0H (jgy xs lo hi) hz,_,(r.drop (HT.sIx xs.length 0 lo)).take (HT.sIx xs.length xs.length hi - HT.sIx xs.length 0 lo),IsTup.new _ _⟩
theorem jaR.nil_iff {xs:List V}{us:List Value}(r:jaR xs us):us=[]↔xs=[]:=by
 cases r with
 |nil=>simp
 |cons _ _=>simp
end
noncomputable def ixN (n:Nat)(i:Int):Option Nat:=if 0<=i then(if i<n then some i.toNat else none)else if -(n:Int)<=i then some (i+n).toNat else none
noncomputable def atI {α:Type}(xs:List α)(i:Int):Option α:=(ixN xs.length i).bind fun j=>xs[j]?
theorem ju2 {n:Nat}{i:Int}{j:Nat}(h:ixN n i=some j):seqIndex? i n=some j/\j<n/\-(n:Int)<=i/\i<n:=by
 unfold ixN at h
 by_cases h0:0<=i
 ·rw[if_pos h0]at h
  by_cases h1:i<n
  ·rw[if_pos h1]at h
   have e:i.toNat=j:=j0w h
   exact⟨by rw[seqIndex_of h0 h1,e],by omega,by omega,h1⟩
  ·rw[if_neg h1]at h;cases h
 ·rw[if_neg h0]at h
  by_cases h1 : -(n:Int)<=i
  ·rw[if_pos h1]at h
   have e:(i+n).toNat=j:=j0w h
   exact⟨by rw[seqIndex_neg (by omega) h1,e],by omega,h1,by omega⟩
  ·rw[if_neg h1]at h;cases h
theorem jkG {α:Type}{xs:List α}{i:Int}{v:α}(h:atI xs i=some v):∃j,seqIndex? i xs.length=some j/\xs[j]?=some v/\j<xs.length/\-(xs.length:Int)<=i/\i<xs.length:=by
 unfold atI at h
 cases e:ixN xs.length i with
 |none=>rw[e]at h;cases h
 |some j=>
  rw[e]at h
  obtain⟨h1,h2,h3,h4⟩:=ju2 e
  exact⟨j,h1,h,h2,h3,h4⟩
theorem jdC {α:Type}{xs:List α}{j:Nat}{v:α}(h:xs[j]?=some v):atI xs (j:Int)=some v:=by
 have hj:j<xs.length:=(j0r.mp h).1
 have e:ixN xs.length (j:Int)=some j:=by
  unfold ixN
  rw[if_pos (by omega),if_pos (by omega)];simp
 unfold atI;rw[e];exact h
def jnd (b:Expr):Prop:=∀o i,subscripted b false o i=operate [o,i] (getItem o i)
def IxR (X:Cx)(r:R2):Prop:=
 ∀(value slice:Expr) (pins:List (Addr×Obj)) (s:Shared) (σ:St) (H:Hp) (x y:V) (v u:Value) (Q:VK),Inv X pins σ H s->ja3 x v->ja3 y u->r x y H Q ->
  subscripted slice false v u=operate [v,u] (getItem v u)->wpAny (model X.prog X.w) X.A (subscriptTail value slice v u) (EP X pins σ Q) X.xe s
def MtR (X:Cx)(id:String)(r:V->List V->Hp->VK->Prop):Prop:=
 ∀(pins:List (Addr×Obj)) (s:Shared) (σ:St) (H:Hp) (x:V) (xs:List V) (v:Value) (us:List Value) (Q:VK),Inv X pins σ H s->ja3 x v->jaR xs us->r x xs H Q ->
  wpAny (model X.prog X.w) X.A (call (.builtin id) (v::us)) (EP X pins σ Q) X.xe s
section
variable {X:Cx} {a b:Expr} {ta tb:TE} {pos:Pos}
theorem IxR.or {r r':R2}(h:IxR X r)(h':IxR X r'):IxR X (fun x y H Q=>r x y H Q∨r' x y H Q):=by
 intro value slice pins s σ H x y v u Q I rx ry q hs
 rcases q with q|q
 ·exact h value slice pins s σ H x y v u Q I rx ry q hs
 ·exact h' value slice pins s σ H x y v u Q I rx ry q hs
theorem jyj {r:R2}(hr:IxR X r)(ha:PE X a ta)(hb:PE X b tb)(hs:jnd b):PE X (.Subscript a b pos) (tOp r ta tb):=by
 intro pins s σ H Q I h
 exact Subscript_ (jzg ha hb I h fun v u s2 x y H2 I2 rx ry q=>hr a b pins s2 σ H2 x y v u Q I2 rx ry q (hs _ _))
def jAg (K:PySem.W.Frag):R2:=fun x y H Q=>∃p xs i v,x=.ref p/\y=.int i/\SqL K H p xs/\atI xs i=some v/\Q v H
def jAp (K:PySem.W.Frag):R2:=fun x y H Q=>∃p xs i v,x=.ref p/\y=.int i/\SqT K H p xs/\atI xs i=some v/\Q v H
def jA:R2:=fun x y H Q=>∃z i c,x=.str z/\y=.int i/\z.length<=sizeLine/\atI z.cps.toList i=some c/\Q (.str ⟨#[c]⟩) H
theorem jua:IxR X (jAg X.K):=by
 intro value slice pins s σ H x y v u Q I rx ry h hs
 obtain⟨p,xs,i,z,rfl,rfl,hq,he,q⟩:=h
 cases rx
 obtain⟨t,rfl⟩:=ry
 obtain⟨its,r,pl,hz⟩:=I.list hq
 obtain⟨j,h1,h2,h3,h4,h5⟩:=jkG he
 obtain⟨w,ew,rw'⟩:=r.get h2
 have hl:=r.length
 have hn:=jhI
 have fin:EP X pins σ Q w s:=⟨z,H,I,rw',q⟩
 by_cases h0:0<=i
 ·have hj:i.toNat=j:=by
   rw[seqIndex_of h0 h5]at h1
   exact j0w h1
  exact item_listR pl.isList h0 (by omega) (by rw[hj];simpa using ew) fin hs
 ·have hj:(i+(its.toArray.size:Int)).toNat=j:=by
   rw[seqIndex_neg (by omega) h4]at h1
   rw[j0j,<- hl]
   exact j0w h1
  exact subscriptTail_builtinR (x:=w) pl.isList.typeIs slot_list_getitem.lookup
   (wpAny_getItem_list_neg (Q:=fun r s'=>r=w/\EP X pins σ Q r s') pl.isList (by omega) (by rw[j0j]<;>omega) (by omega) (by rw[hj];simpa using ew) ⟨rfl,fin⟩) hs
theorem jwm:IxR X (jAp X.K):=by
 intro value slice pins s σ H x y v u Q I rx ry h hs
 obtain⟨p,xs,i,z,rfl,rfl,hq,he,q⟩:=h
 cases rx
 obtain⟨t,rfl⟩:=ry
 obtain⟨its,r,pl,hz⟩:=I.tuple hq
 obtain⟨j,h1,h2,h3,h4,h5⟩:=jkG he
 obtain⟨w,ew,rw'⟩:=r.get h2
 have hl:=r.length
 have hn:=jhI
 have fin:EP X pins σ Q w s:=⟨z,H,I,rw',q⟩
 exact subscriptTail_builtinR (x:=w) pl.typeIs slot_tuple_getitem.lookup
  (getItem_tuple (j:=j) (Q:=fun r s'=>r=w/\EP X pins σ Q r s') pl (by omega) (by omega) (by rw[j0j,<- hl];exact h1) (by simpa using ew) ⟨rfl,fin⟩) hs
theorem jxC:IxR X jA:=by
 intro value slice pins s σ H x y v u Q I rx ry h hs
 obtain⟨z,i,c,rfl,rfl,hz,he,q⟩:=h
 obtain⟨t,rfl⟩:=rx
 obtain⟨t',rfl⟩:=ry
 obtain⟨j,h1,h2,h3,h4,h5⟩:=jkG he
 have hl:z.cps.toList.length=z.length:=by simp[Str.length]
 rw[hl]at h1 h4 h5
 have hn:=jhI
 exact tail_any (typeIs_str s z t) slot_str_getitem.lookup (getItem_str (c:=c) (by
  have e1:decide (i < -(2 ^ 63:Int))=false:=decide_eq_false (by omega)
  have e2:decide (i ≥ 2 ^ 63)=false:=decide_eq_false (by omega)
  rw[e1,e2,Bool.or_false]) (by rw[h1];simpa using h2) ⟨.str ⟨#[c]⟩,H,I.tok _,⟨_,rfl⟩,q⟩) hs
def rIx (K:PySem.W.Frag):R2:=fun x y H Q=>jAg K x y H Q∨jAp K x y H Q∨jA x y H Q
theorem jwF:IxR X (rIx X.K):=jua.or (jwm.or jxC)
theorem Inv.lst {pins:List (Addr×Obj)}{σ:St}{H:Hp}{s:Shared}{p:Addr}{xs:List V}(I:Inv X pins σ H s)(h:H p=some (.lst xs)) :
  ∃(its:List Value) (n:Nat),jaR xs its/\s.heap.get? p=some {cls:=.type "list",data:=.seq its.toArray n}/\xs.length<=sizeLine:=by
 obtain⟨z,its,n,r,e⟩:=I.hok p _ h
 exact⟨its,n,r,e,z⟩
theorem jjC (lo hi:Option Int)(n:Nat):(sliceBounds lo hi none n).1=((HT.sIx n 0 lo:Nat):Int)/\(sliceBounds lo hi none n).2.1=((HT.sIx n n hi:Nat):Int)/\(sliceBounds lo hi none n).2.2=1:=by
 refine⟨?_,?_,rfl⟩
 ·cases lo with
  |none=>simp[sliceBounds,HT.sIx]
  |some i=>
   simp only[sliceBounds,HT.sIx,Option.getD_none,show(1:Int) > 0 by decide,if_true]
   by_cases h:i<0
   ·simp only[h,if_true]<;>omega
   ·simp only[h,if_false]<;>omega
 ·cases hi with
  |none=>simp[sliceBounds,HT.sIx]
  |some i=>
   simp only[sliceBounds,HT.sIx,Option.getD_none,show(1:Int) > 0 by decide,if_true]
   by_cases h:i<0
   ·simp only[h,if_true]<;>omega
   ·simp only[h,if_false]<;>omega
theorem jiJ (its:List Value)(lo hi:Option Int):slicePick its.toArray lo hi none=((its.drop (HT.sIx its.length 0 lo)).take (HT.sIx its.length its.length hi - HT.sIx its.length 0 lo)).toArray:=by
 obtain⟨h1,h2,h3⟩:=jjC lo hi its.toArray.size
 unfold slicePick
 rw[h1,h2,h3]
 simp only[sliceRange_one,pick_run,j0j]<;>rfl
noncomputable def jz6 (K:PySem.W.Frag):V->Option Int->Option Int->Hp->VK->Prop:=fun x lo hi H Q=>∃a xs,x=.ref a/\SqL K H a xs/\∀p,H p=none->Q (.ref p) (upd H p (.lst (jrB xs lo hi)))
theorem juP:SlR X (jz6 X.K):=by
 intro pins s σ H x v vl vu lo hi sl Q I rx hs pl pu h
 obtain⟨a,xs,rfl,hx,q⟩:=h
 cases rx
 obtain⟨its,r,ht,hz⟩:=I.list hx
 have hlen:=r.length
 refine⟨"list",_,slot_list_getitem.lookup,ht.isList.typeIs,?_⟩
 refine wpAny_getItem_list_slice ht.isList hs pl pu .none (by simp) ?_ (by rw[j0j]<;>omega)
 rw[jiJ,<- hlen]
 refine⟨.ref s.heap.objs.size,_,I.laid (t':=s.toks) (o:=.lst (jrB xs lo hi)) (fun b ob q=>j0c _ q) (j0q _) ?_,rfl,q _ (I.hok.fresh (j0q _))⟩
 exact⟨j0H (jgy xs lo hi) hz,_,0,(r.drop (HT.sIx xs.length 0 lo)).take (HT.sIx xs.length xs.length hi - HT.sIx xs.length 0 lo),j0o _ rfl⟩
noncomputable def jer:V->Bool
 |.non=>true
 |.bl _=>true
 |.int _=>true
 |.str _=>true
 |_=>false
noncomputable def eqV:V->V->Bool
 |.non,.non=>true
 |.bl a,.bl b=>a==b
 |.bl a,.int b=>(if a then 1 else 0)==b
 |.int a,.bl b=>a==(if b then 1 else 0)
 |.int a,.int b=>a==b
 |.str a,.str b=>a==b
 |_,_=>false
theorem jo2 {A:Around}{s:Shared}{y x:V}{u v:Value}(ry:ja3 y u)(rx:ja3 x v)(fy:jer y=true)(fx:jer x=true):SeqAt.EqAt A s u v (eqV y x):=by
 cases y with
 |non=>
  cases ry
  cases x with
  |non=>cases rx;exact SeqAt.EqAt.same _
  |bl b=>cases rx;exact SeqAt.EqAt.none_bool b
  |int b=>obtain⟨t,rfl⟩:=rx;exact SeqAt.EqAt.none_int b t
  |str b=>obtain⟨t,rfl⟩:=rx;exact SeqAt.EqAt.none_str b t
  |_=>exact absurd (show false=true from fx) j0g
 |bl a=>
  cases ry
  cases x with
  |non=>cases rx;exact SeqAt.EqAt.bool_none a
  |bl b=>cases rx;exact SeqAt.EqAt.bool_bool a b
  |int b=>obtain⟨t,rfl⟩:=rx;exact SeqAt.EqAt.bool_int a b t
  |str b=>obtain⟨t,rfl⟩:=rx;exact SeqAt.EqAt.bool_str a b t
  |_=>exact absurd (show false=true from fx) j0g
 |int a=>
  obtain⟨t',rfl⟩:=ry
  cases x with
  |non=>cases rx;exact SeqAt.EqAt.int_none a t'
  |bl b=>cases rx;exact SeqAt.EqAt.int_bool a t' b
  |int b=>obtain⟨t,rfl⟩:=rx;exact SeqAt.EqAt.int_int a t' b t
  |str b=>obtain⟨t,rfl⟩:=rx;exact SeqAt.EqAt.int_str a t' b t
  |_=>exact absurd (show false=true from fx) j0g
 |str a=>
  obtain⟨t',rfl⟩:=ry
  cases x with
  |non=>cases rx;exact SeqAt.EqAt.str_none a t'
  |bl b=>cases rx;exact SeqAt.EqAt.str_bool a t' b
  |int b=>obtain⟨t,rfl⟩:=rx;exact SeqAt.EqAt.str_int a t' b t
  |str b=>obtain⟨t,rfl⟩:=rx;exact SeqAt.EqAt.str_str a t' b t
  |_=>exact absurd (show false=true from fx) j0g
 |_=>exact absurd (show false=true from fy) j0g
noncomputable def eqU (x:V)(u:Value):Bool:=match u with
 |.none=>eqV .non x
 |.bool b=>eqV (.bl b) x
 |.int i _=>eqV (.int i) x
 |.str z _=>eqV (.str z) x
 |_=>false
theorem jsm {x y:V}{u:Value}(r:ja3 y u)(f:jer y=true):eqU x u=eqV y x:=by
 cases y with
 |non=>cases r;rfl
 |bl b=>cases r;rfl
 |int i=>obtain⟨t,rfl⟩:=r;rfl
 |str z=>obtain⟨t,rfl⟩:=r;rfl
 |_=>exact absurd (show false=true from f) j0g
theorem jgL {x:V}:∀{xs:List V} {us:List Value},jaR xs us->xs.all jer=true->us.any (eqU x)=xs.any fun y=>eqV y x
 |_,_,.nil,_=>rfl
 |y::xs,u::us,.cons r t,f=>by
  rw[j0S,j0a]at f
  rw[List.any_cons,List.any_cons,jsm r f.1,jgL t f.2]
theorem jeT {A:Around}{s:Shared}{x:V}{v:Value}(rx:ja3 x v)(fx:jer x=true):∀{xs:List V} {us:List Value},jaR xs us->xs.all jer=true->∀u∈us,SeqAt.EqAt A s u v (eqU x u)
 |_,_,.nil,_=>fun u hu=>by cases hu
 |y::xs,u::us,.cons r t,f=>fun u' hu=>by
  rw[j0S,j0a]at f
  rcases j0d.mp hu with rfl|hu
  ·rw[jsm r f.1];exact jo2 r rx f.1 fx
  ·exact jeT rx fx t f.2 u' hu
noncomputable def inV (x:V)(xs:List V):Bool:=xs.any fun y=>eqV y x
def rIn (K:PySem.W.Frag)(neg:Bool):R2:=fun x y H Q=>∃p xs,y=.ref p/\(SqL K H p xs∨SqT K H p xs)/\jer x=true/\xs.all jer=true/\Q (.bl (if neg then !inV x xs else inV x xs)) H
theorem jm8:OpR X (compareOp .In) (rIn X.K false):=by
 intro pins s σ H x y v u Q I rx ry h
 obtain⟨p,xs,rfl,hq,fx,fs,q⟩:=h
 cases ry
 rcases hq with hq|hq
 ·obtain⟨its,r,pl,hz⟩:=I.list hq
  refine SeqAt.in_listAt (eqU x) pl.isList (fun w hw=>jeT rx fx r fs w (by simpa using hw)) ⟨.bl _,H,I,rfl,?_⟩
  rw[show its.toArray.any (eqU x)=its.any (eqU x)by simp,jgL r fs]
  exact q
 ·obtain⟨its,r,pl,hz⟩:=I.tuple hq
  refine SeqAt.in_tupleAt (eqU x) pl (fun w hw=>jeT rx fx r fs w (by simpa using hw)) ⟨.bl _,H,I,rfl,?_⟩
  rw[show its.toArray.any (eqU x)=its.any (eqU x)by simp,jgL r fs]
  exact q
theorem jjv:OpR X (compareOp .NotIn) (rIn X.K true):=by
 intro pins s σ H x y v u Q I rx ry h
 obtain⟨p,xs,rfl,hq,fx,fs,q⟩:=h
 cases ry
 rcases hq with hq|hq
 ·obtain⟨its,r,pl,hz⟩:=I.list hq
  refine SeqAt.notIn_listAt (eqU x) pl.isList (fun w hw=>jeT rx fx r fs w (by simpa using hw)) ⟨.bl _,H,I,rfl,?_⟩
  rw[show its.toArray.any (eqU x)=its.any (eqU x)by simp,jgL r fs]
  exact q
 ·obtain⟨its,r,pl,hz⟩:=I.tuple hq
  refine SeqAt.notIn_tupleAt (eqU x) pl (fun w hw=>jeT rx fx r fs w (by simpa using hw)) ⟨.bl _,H,I,rfl,?_⟩
  rw[show its.toArray.any (eqU x)=its.any (eqU x)by simp,jgL r fs]
  exact q
theorem ji3:jbK X (.builtin "len") (fun xs H Q=>∃p ys,xs=[.ref p]/\(SqL X.K H p ys∨SqT X.K H p ys)/\Q (.int ys.length) H):=by
 intro pins s σ H xs us Q I r h
 obtain⟨p,ys,rfl,hq,q⟩:=h
 obtain⟨u,rfl,rx⟩:=jgc r
 cases rx
 have hn:=jhI
 rcases hq with hq|hq
 ·obtain⟨its,r',pl,hz⟩:=I.list hq
  have hlen:=r'.length
  exact Calls.call_len_list pl.isList (by simp only[j0j]<;>omega) ⟨.int ys.length,H,I.tok _,⟨s.toks+1,by rw[j0j,hlen]⟩,q⟩
 ·obtain⟨its,r',pl,hz⟩:=I.tuple hq
  have hlen:=r'.length
  exact len_tuple pl (by simp only[j0j]<;>omega) ⟨.int ys.length,H,I.tok _,⟨s.toks+1,by rw[j0j,hlen]⟩,q⟩
theorem jjS:jbK X (.builtin "len") (fun xs H Q=>∃z,xs=[.str z]/\z.length<=sizeLine/\Q (.int z.length) H):=by
 intro pins s σ H xs us Q I r h
 obtain⟨z,rfl,hz,q⟩:=h
 obtain⟨u,rfl,t,rfl⟩:=jgc r
 have hn:=jhI
 exact len_str (by omega) ⟨.int z.length,H,I.tok _,⟨_,rfl⟩,q⟩
theorem jbK.or {f:Value}{r r':List V->Hp->VK->Prop}(h:jbK X f r)(h':jbK X f r'):jbK X f (fun xs H Q=>r xs H Q∨r' xs H Q):=by
 intro pins s σ H xs us Q I rs q
 rcases q with q|q
 ·exact h pins s σ H xs us Q I rs q
 ·exact h' pins s σ H xs us Q I rs q
theorem ji2:jbK X (.type "list") (fun xs H Q=>∃p ys,xs=[.ref p]/\(SqL X.K H p ys∨SqT X.K H p ys)/\∀l,H l=none->Q (.ref l) (upd H l (.lst ys))):=by
 intro pins s σ H xs us Q I r h
 obtain⟨p,ys,rfl,hq,q⟩:=h
 obtain⟨u,rfl,rx⟩:=jgc r
 cases rx
 have fin:∀(its:List Value),jaR ys its->ys.length<=sizeLine->∀(h':Heap) (c':Nat),(∀b o',s.heap.get? b=some o'->h'.get? b=some o') ->
   h'.get? s.heap.objs.size=some {cls:=.type "list",dict:=none,data:=.seq its.toArray c',slots:=#[]}->EP X pins σ Q (.ref s.heap.objs.size) {s with heap:=h'}:=fun its r' hz h' c' kp e=>
  ⟨.ref s.heap.objs.size,_,I.laid (t':=s.toks) kp (j0q _) (show jb1 X.prog X.w _ h' _ (.lst ys)from⟨hz,its,c',r',e⟩),rfl,q _ (I.hok.fresh (j0q _))⟩
 rcases hq with hq|hq
 ·obtain⟨its,r',pl,hz⟩:=I.list hq
  have hlen:=r'.length
  obtain⟨o,ho,hc,n,hd⟩:=pl.isList
  exact call_list_seq p (.inl rfl) ho hc hd (fun h' c' kp e=>fin its r' hz h' c' kp e) (by simp only[j0j]<;>omega)
 ·obtain⟨its,r',pl,hz⟩:=I.tuple hq
  have hlen:=r'.length
  obtain⟨o,ho,hc,n,hd⟩:=pl
  exact call_list_seq p (.inr rfl) ho hc hd (fun h' c' kp e=>fin its r' hz h' c' kp e) (by simp only[j0j]<;>omega)
theorem jfv:jbK X (.type "tuple") (fun xs H Q=>∃p ys,xs=[.ref p]/\((SqL X.K H p ys/\∀l,H l=none->Q (.ref l) (upd H l (.tup ys)))∨(SqT X.K H p ys/\Q (.ref p) H))):=by
 intro pins s σ H xs us Q I r h
 obtain⟨p,ys,rfl,h⟩:=h
 obtain⟨u,rfl,rx⟩:=jgc r
 cases rx
 rcases h with⟨hq,q⟩|⟨hq,q⟩
 ·obtain⟨its,r',pl,hz⟩:=I.list hq
  have hlen:=r'.length
  refine call_tuple_list pl.isList (fun h' kp=>?_) (by simp only[j0j]<;>omega)
  have I1:Inv X pins σ H {s with heap:=h'}:=I.kept (t':=s.toks) kp
  have I2:Inv X pins σ (upd H h'.objs.size (.tup ys)) {s with heap:=h'.push {cls:=.type "tuple",data:=.seq its.toArray}}:=
   I1.laid (t':=s.toks) (fun b o e=>j0c _ e) (j0q _) (show jb1 X.prog X.w _ _ _ (.tup ys)from⟨hz,its,r',IsTup.new _ _⟩)
  exact⟨.ref h'.objs.size,_,I2,rfl,q _ (I1.hok.fresh (j0q _))⟩
 ·obtain⟨its,r',pl,hz⟩:=I.tuple hq
  exact call_tuple_same pl ⟨.ref p,H,I,rfl,q⟩
def tyV (K:PySem.W.Frag)(T:String)(x:V)(H:Hp):Prop:=match x with
 |.str _=>T = "str"
 |.int _=>T = "int"
 |.ref p=>(T = "list"/\∃xs,SqL K H p xs)∨(T = "tuple"/\∃o,K.lookup p=some o/\o.cls=.type "tuple"/\o.dict=none) ∨
   (T = "dict"/\((∃kvs,H p=some (.dK kvs))∨∃kvs,H p=some (.dT kvs)))∨(T = "set"/\∃S n,H p=some (.set S n))
 |_=>False
theorem jw1 {pins:List (Addr×Obj)}{σ:St}{H:Hp}{s:Shared}{T:String}{x:V}{v:Value}(I:Inv X pins σ H s)(r:ja3 x v)(ty:tyV X.K T x H) :
  s.TypeIs v T/\∀a,v=.ref a->∃ob,s.heap.get? a=some ob/\ob.dict=none:=by
 cases x with
 |str z=>
  obtain⟨t,rfl⟩:=r
  cases(show T = "str" from ty)
  exact⟨typeIs_str s z t,fun _ e=>nomatch e⟩
 |int i=>
  obtain⟨t,rfl⟩:=r
  cases(show T = "int" from ty)
  exact⟨typeIs_int s i t,fun _ e=>nomatch e⟩
 |ref p=>
  cases r
  rcases ty with⟨rfl,xs,hq⟩|⟨rfl,o,hk,hc,hd⟩|⟨rfl,hk⟩|⟨rfl,S,n,hk⟩
  ·obtain⟨its,_,pl,_⟩:=I.list hq
   refine⟨pl.isList.typeIs,fun a e=>?_⟩
   cases e
   obtain⟨o,n,e,c,hd,_⟩:=pl
   exact⟨o,e,hd⟩
  ·refine⟨⟨o,I.kIn p o hk,hc⟩,fun a e=>?_⟩
   cases e
   exact⟨o,I.kIn _ o hk,hd⟩
  ·have z:∃o,s.heap.get? p=some o/\o.ExactDict:=by
    rcases hk with⟨kvs,hk⟩|⟨kvs,hk⟩
    ·obtain⟨_,_,_,_,o,_,_,e,ex,_⟩:=I.hok p _ hk
     exact⟨o,e,ex⟩
    ·obtain⟨_,_,_,_,o,_,_,e,ex,_⟩:=I.hok p _ hk
     exact⟨o,e,ex⟩
   obtain⟨o,e,ex⟩:=z
   refine⟨⟨o,e,ex.1⟩,fun a e2=>?_⟩
   cases e2
   exact⟨o,e,ex.2.1⟩
  ·obtain⟨o,_,_,_,e,ex,_⟩:=I.hok p _ hk
   refine⟨⟨o,e,ex.1⟩,fun a e2=>?_⟩
   cases e2
   exact⟨o,e,ex.2.1⟩
 |_=>exact False.elim ty
def tBM (K:PySem.W.Frag)(T:String)(r:V->List V->Hp->VK->Prop)(to:TE)(t:TA):TE:=fun σ H Q=>to σ H fun x H1=>tyV K T x H1/\t σ H1 fun xs H2=>r x xs H2 Q
variable {o e:Expr} {es:List Expr} {to:TE} {t:TA} {name:Str} {apos cpos:Pos} {T id:String} {r:V->List V->Hp->VK->Prop}
theorem jzP (pa:PlainAttrs T) (slot:Slot T name id) (hty:typeOf (.builtin id)=pure (.type "method_descriptor")) (hm:MtR X id r) (ho:PE X o to) (ha:PA X (e::es) t)
  (hbase:attributeBase o name X.env (eval o X.env)=eval o X.env:=by rfl)
  (hfew:((backTo cpos (starEach (e::es) X.env)).all (fun x=>!x.1)&&(backToKw cpos (keywordEach [] X.env)).all (fun x=>x.1.isSome)
   && decide ((e::es).length+([]:List Keyword).length+(if([]:List Keyword).isEmpty then 0 else 1)<30))=true:=by rfl)
  (hline:(apos.endLine==cpos.line)=true:=by rfl) (hs:starEach (e::es) X.env=(false,eval e X.env)::starEach es X.env:=by rfl) (hplain:(backTo cpos (starEach es X.env)).any (·.1)=false:=by rfl) :
  PE X (.Call (.Attribute o name apos) (e::es) [] cpos) (tBM X.K T r to t):=by
 intro pins s σ H Q I h
 refine wpAny_Call_method_late hbase hfew hline rfl (thn (ho pins s σ H _ I h) fun v s1 ⟨x,H1,I1,r1,ty,q1⟩=>?_)
 obtain⟨h1,h2⟩:=jw1 I1 r1 ty
 refine⟨T,id,pa,slot,hty,h1,h2,?_⟩
 have hA:=ha cpos pins s1 σ H1 _ I1 q1
 rw[hs]at hA ⊢
 refine Calls.callWith_builtin (by show(false||(backTo cpos (starEach es X.env)).any (·.1))=false;rw[hplain]<;>rfl) (Calls.evalArgs_plain ?_)
 exact thn hA fun us s2 ⟨vs,H2,I2,r2,q2⟩=>hm pins s2 σ H2 x vs v us Q I2 r1 r2 q2
end
def MtM (X:Cx)(id:String)(r:V->List V->Hp->VK->Prop):Prop:=
 ∀(pins:List (Addr×Obj)) (s:Shared) (σ:St) (H:Hp) (x:V) (xs:List V) (v:Value) (us:List Value) (Q:VK),Inv X pins σ H s->ja3 x v->jaR xs us->r x xs H Q ->
  wpAny (model X.prog X.w) X.A (call (.builtin id) (v::us)) (EP X pins σ Q) X.xe s
theorem jaR.one:∀{x:V} {us:List Value},jaR [x] us->∃u,us=[u]/\ja3 x u
 |_,_,.cons r .nil=>⟨_,rfl,r⟩
theorem jaR.two {x y:V}{us:List Value}(h:jaR [x,y] us):∃u v,us=[u,v]/\ja3 x u/\ja3 y v:=by
 cases h with
 |cons r t=>
  cases t with
  |cons q s=>
   cases s
   exact⟨_,_,rfl,r,q⟩
theorem jaR.zero:∀{us:List Value},jaR [] us->us=[]
 |_,.nil=>rfl
theorem jaR.rep {xs:List V}{us:List Value}(h:jaR xs us):∀k:Nat,jaR (List.replicate k xs).flatten (List.replicate k us).flatten
 |0=>.nil
 |k+1=>by
  rw[j0W,j0W,j1t,j1t]
  exact jaR.append h (jaR.rep h k)
theorem foldl_rep (its:List Value):∀(k:Nat) (acc:List Value),
  List.foldl (fun x1 x2=>x1++x2) acc.toArray (List.replicate k its.toArray)=(acc++(List.replicate k its).flatten).toArray
 |0,acc=>by simp
 |k+1,acc=>by
  have e:acc.toArray++its.toArray=(acc++its).toArray:=by simp
  have e2:(acc++its)++(List.replicate k its).flatten=acc++(List.replicate (k+1) its).flatten:=by
   rw[j0W,j1t,j0J]
  rw[<- e2,<- foldl_rep its k (acc++its),<- e,j0W,List.foldl_cons]
section
variable {X:Cx} {pins:List (Addr×Obj)} {σ:St} {H:Hp} {s:Shared} {l b:Addr} {xs ys zs:List V}
theorem Inv.lset {its its':List Value}{n:Nat}{f:Array Value->Array Value}{t':Nat}(I:Inv X pins σ H s)(hH:H l=some (.lst xs))
  (e:s.heap.get? l=some {cls:=.type "list",data:=.seq its.toArray n}) (hf:f its.toArray=its'.toArray) (hv:jaR ys its') (hz:ys.length<=sizeLine) :
  Inv X pins σ (upd H l (.lst ys)) {s with heap:=s.heap.update l (Obj.mapSeq f),toks:=t'}:=by
 have q:=PySem.IsL.update e f
 rw[hf]at q
 refine I.write (x:=l) (e:=l) (by rw[hH];exact trivial) (.inl rfl) (fun b' u hb hu=>(Heap.get?_update_other s.heap (Obj.mapSeq f) (Ne.symm hb)).trans hu) ⟨_,q⟩ ?_
 exact⟨hz,its',_,hv,q⟩
theorem Inv.lnew {its:List Value}{t':Nat}(I:Inv X pins σ H s)(hv:jaR ys its)(hz:ys.length<=sizeLine) :
  Inv X pins σ (upd H s.heap.objs.size (.lst ys)) {s with heap:=s.heap.push {cls:=.type "list",data:=.seq its.toArray},toks:=t'}:=
 I.laid (fun _ _ q=>j0c _ q) (j0q _) ⟨hz,its,0,hv,j0o _ rfl⟩
theorem Inv.fresh (I:Inv X pins σ H s):H s.heap.objs.size=none:=I.hok.fresh (j0q _)
theorem Inv.lstM (I:Inv X pins σ H s)(hH:H l=some (.lst xs)):xs.length<=sizeLine/\∃(its:List Value) (n:Nat),jaR xs its/\xs.length=its.length/\s.heap.get? l=some {cls:=.type "list",data:=.seq its.toArray n}:=by
 obtain⟨z,its,n,r,e⟩:=I.hok l _ hH
 exact⟨z,its,n,r,r.length,e⟩
end
section
variable {X:Cx}
noncomputable def rAppend:V->List V->Hp->VK->Prop:=fun x vs H Q=>∃l xs y,x=.ref l/\vs=[y]/\H l=some (.lst xs)/\xs.length<sizeLine/\Q .non (upd H l (.lst (xs++[y])))
theorem jgU:MtM X "list.append" rAppend:=by
 intro pins s σ H x vs v us Q I rx rv h
 obtain⟨l,xs,y,rfl,rfl,hH,hz,q⟩:=h
 cases rx
 obtain⟨u,rfl,ru⟩:=rv.one
 obtain⟨z,its,n,r,hl,e⟩:=I.lstM hH
 refine call_meets F.slot_list_append ⟨_,e,rfl⟩ F.entry_list_append (F.args_list_append_2 _ _) (PySem.list_append l its.toArray n u (by rw[j0j];omega)) ⟨e,?_⟩
 refine⟨.non,_,I.lset (its':=its++[u]) hH e (by simp) (r.append (.cons ru .nil)) ?_,rfl,q⟩
 rw[j0p,List.length_singleton]
 omega
theorem ju9 {α:Type}(xs:List α)(k:Nat):(List.replicate k xs).flatten.length=k*xs.length:=by
 induction k with
 |zero=>simp
 |succ k ih=>rw[j0W,j1t,j0p,ih,Nat.succ_mul,Nat.add_comm]
end
section
variable {prog:Program} {w:World} {A:Around} {E:Value->Shared->Prop} {s:Shared}
end
section
variable {X:Cx}
end
end _L2
namespace Att
open PySem PySem.W PySem.Calls PyProof.Rows
theorem jg5 {P:Params}{h:Heap}:∀(ns:List Int) (vs:List Value),WellAll P h vs (ns.map WData.int)->IntsAre vs ns:=by
 intro ns
 induction ns with
 |nil=>
  intro vs w
  rw[j0z]at w
  cases w
  exact .nil
 |cons n ns ih=>
  intro vs w
  rw[j0i]at w
  cases w with
  |cons a b=>
   cases a
   exact .cons _ _ (ih _ b)
theorem jm3 {l:OpenLaw}{n:Nat}(hn:l.most=some n){P:Params}{h:Heap}{args:List WData}{vals:List Value}
  (hpre:l.row.toRowW.claim.pre args=true) (hwl:WellAll P h vals args) :
  ∃a vs ns,vals=[Value.ref a]/\args=[WData.list (ns.map WData.int)]/\h.get? a=some {cls:=.type "list",data:=.seq vs.toArray}/\IntsAre vs ns/\ns.length<=n:=by
 have hsh:WShape.hasAll [] args [.list .int]=true:=(pre_splitW hpre).1
 have hc:l.pre.holds [] {args:=args}=true:=(pre_splitW hpre).2
 obtain⟨d,r,rfl,h1,h2⟩:=hasAllW_cons hsh
 obtain rfl:=hasAllW_nil h2
 obtain⟨xs,rfl,h3⟩:=hasW_list h1
 obtain⟨ns,rfl⟩:=items_int h3
 have hlen:ns.length<=n:=by
  unfold OpenLaw.pre at hc
  have h4:(WTm.not (.lt (.lit (.int (n:Int))) (.len (.arg 0)))).holds [] {args:=[.list (ns.map .int)]}=true:=by
   have h4:=(holds_andW hc).1
   rw[hn]at h4
   exact h4
  have h5:=condW_of h4 (w_not (w_lt w_lit (w_len_list (w_arg rfl))))
  rw[j0f]at h5
  refine Nat.le_of_not_lt fun q=>?_
  have q':(n:Int)<((ns.length:Nat):Int):=by omega
  first
   |(rw[decide_eq_true q']at h5;exact absurd h5 (by decide))
   |(simp at h5;omega)
 cases hwl with
 |cons w1 w2=>
  cases w2
  cases w1 with
  |list ho hall=>exact⟨_,_,ns,rfl,rfl,ho,jg5 ns _ hall,hlen⟩
theorem jnA (l:OpenLaw)(args:List WData):l.row.toRowW.claim.post args (.bool true) args=true:=
 postW_of (r:=l.row.toRowW) (X:=(true==true))
  (show WShape.has [] (.bool true) .bool=true by first|rfl|decide|simp[WShape.has,WShape.arms,WShape.armsAll])
  (show(WTm.eq .res (.lit (.bool true))).value [] {args:=args,res:=some (.bool true),after:=args}=some (.bool (true==true))from w_eq_bool (w_res rfl) w_lit) rfl
theorem attach_call {l:OpenLaw}{n:Nat}{q:Program}{loose:List Str}{XP:(Str->Option Value)->Heap->Prop}{YP:World->Heap->Prop}{d:DefRec}
  (hn:l.most=some n) (hdf:d.params.defaults=[])
  (call:∀(w:World) (s₀ s₁:Shared) (mg mb:Str->Option Value) (fa:Addr) (o:Obj) (pm cd doc:Value) (a:Addr) (vs:List Value) (ns:List Int),
   Ground q loose [] XP w s₀ mg mb s₁.heap->YP w s₁.heap ->
   s₁.heap.get? fa=some o->o.data=.func (docDef d.name d.params d.body d.scope pm cd doc)->s₁.heap.CodeRec cd d.name->mg d.name=some (.ref fa) ->
   s₁.heap.get? a=some {cls:=.type "list",data:=.seq vs.toArray}->IntsAre vs ns->ns.length<=n->s₁.gens = #[] ->
   codeAny (model l.prog w) callerA (.call (.ref fa) ⟨[.ref a],[]⟩) (fun r s'=>r=.ok (.ret (.bool true))/\OldK s₁.heap s'.heap/\s'.os=s₁.os/\AllBare s'.gens) s₁) :
  WalkO q loose XP YP l.row.toRowW d [] (fun f vs=>PySem.call f vs):=by
 intro w s₀ s₁ mg mb G Y fa o pm cd doc dV kV ho hd hcd hD hmg hg args vals as hpre hlay hrd hwl hlo
 obtain rfl:dV=.none:=Dflts.none hD hdf
 obtain rfl:kV=.none:=Dflts.noKw hD
 obtain⟨a,vs,ns,rfl,rfl,hobj,hints,hlen⟩:=jm3 hn hpre hwl
 refine enter_call (codeAny_mono (call w s₀ s₁ mg mb fa o pm cd doc a vs ns G Y ho (fd_plain hd) hcd hmg hobj hints hlen hg) fun r s' hq=>?_)
 obtain⟨rfl,h2,h3,h4⟩:=hq
 exact⟨.inl ⟨.bool true,.bool true,[],rfl,fun _=>rfl,.bool true,jnA l _,fun _=>⟨List.Pairwise.nil,fun _ hm=>(nomatch hm)⟩⟩,h2,h3,h4⟩
section
variable {prog:Program} {w:World} {A:Around} {E:Value->Shared->Prop} {s:Shared} {K:Frag}
end
end Att
namespace _L2
open PySem PySem.Spec PyProof.Rows
theorem jjt:∀{vs:List Value} {ns:List Int},IntsAre vs ns->jaR (ns.map V.int) vs
 |_,_,.nil=>.nil
 |_,_,.cons n t h=>.cons ⟨t,rfl⟩ (jjt h)
def jyE (H:Hp):Prop:=∀b,H b=none∨∃o xs,H b=some (.frz o (.lst xs))
theorem jqV {P:Program}{w:World}{K:PySem.W.Frag}{mg mb:Str->Option Value}{CX:CXT}{k:Nat}{fa a:Addr}{fd:FuncData}{x:Str}{sp:Sp}{s₁:Shared}{vs:List Value}{ns:List Int}
  (KX:K.In s₁.heap) (hns:s₁.heap.Ns mainGlobals mg) (hb:s₁.heap.Ns builtinsNs mb) (hbb:∀x:Str,x≠"__name__"->mb x=bootBuiltins x) (hlim:s₁.heap.NoLimit) (hg:s₁.gens = #[])
  (ha:s₁.heap.get? a=some {cls:=.type "list",data:=.seq vs.toArray}) (hi:IntsAre vs ns) (hl:ns.length<=sizeLine) (hr:Room k callerA)
  (F:∀base:Heap,K.In base->base.Ns mainGlobals mg->FnOk P w K mg base CX k fa fd [x] sp) (hbind:∀(s:Shared) (u:Value),BindsTo s fd ⟨[u],[]⟩ [(x,u)])
  (hsp:∀H:Hp,jyE H->SqL K H a (ns.map V.int)->sp [.ref a] H (fun v _=>v=.bl true) fun _ _ _=>False)
  (hCX:∀H e s',CX [] H s₁ (fun _ _ _=>False) e s'->False) :
  codeAny (model P w) callerA (.call (.ref fa) ⟨[.ref a],[]⟩) (fun r s'=>r=.ok (.ret (.bool true))/\OldK s₁.heap s'.heap/\s'.os=s₁.os/\AllBare s'.gens) s₁:=by
 have rv:=jjt hi
 have lenV:=hi.length
 have core:∀H:Hp,jyE H->SqL K H a (ns.map V.int)->HOk P w H s₁.heap->(∀b,H b≠none->b=a)->(H a≠none->K.lookup a=none) ->
   codeAny (model P w) callerA (.call (.ref fa) ⟨[.ref a],[]⟩) (fun r s'=>r=.ok (.ret (.bool true))/\OldK s₁.heap s'.heap/\s'.os=s₁.os/\AllBare s'.gens) s₁:=by
  intro H hO hS hok hA hK
  have base_of:∀{b:Addr} {o:Obj},s₁.heap.get? b=some o->H b=none->(jqk s₁.heap H).get? b=some o:=fun e n=>jq7 e n
  have noA:∀{b:Addr} {o:Obj} {es:Array DictEntry} {ep:Nat},s₁.heap.get? b=some o->o.data=.dict es ep->H b=none:=fun {b o es ep} e d=>by
   cases q:H b with
   |none=>rfl
   |some u=>
    have e':b=a:=hA b (by rw[q];simp)
    subst e'
    rw[ha]at e;cases e
    have d':Data.seq vs.toArray _=Data.dict es ep:=d
    cases d'
  have nsK:∀{b:Addr} {m:Str->Option Value},s₁.heap.Ns b m->(jqk s₁.heap H).Ns b m:=fun {b m} ⟨o,es,ep,e,d,r⟩=>⟨o,es,ep,base_of e (noA e d),d,r⟩
  have hKb:K.In (jqk s₁.heap H):=fun b o e=>base_of (KX b o e) (by
   cases q:H b with
   |none=>rfl
   |some u=>
    have e':b=a:=hA b (by rw[q];simp)
    subst e'
    rw[hK (by rw[q];simp)]at e;cases e)
  have hM:Mod K mg (jqk s₁.heap H):=⟨hKb,nsK hns,⟨mb,nsK hb,hbb⟩,let⟨mc,h1,h2⟩:=hlim;⟨mc,nsK h1,h2⟩⟩
  have e0:Env0 P w K mg (jqk s₁.heap H) callerA [] s₁ H:=⟨rfl,hM,fun b o e=>jtK e,j1q (jpj _ _),trivial,fun b hb=>absurd (show b∈([]:List Addr)from hb) (by simp),hok,.of_eq hg⟩
  refine codeAny_mono ((F _ hKb (nsK hns)).run callerA [] s₁ H ⟨[.ref a],[]⟩ [.ref a] [.ref a] _ _ hr e0 (hbind s₁ (.ref a)) (.cons rfl .nil) (hsp H hO hS)) fun r s' h=>?_
  cases r with
  |error e=>exact(hCX H e s' h).elim
  |ok fl=>
   cases fl with
   |next=>exact False.elim h
   |brk=>exact False.elim h
   |cont=>exact False.elim h
   |ret u=>
    obtain⟨v,H',os,bare,un,hok',r',q⟩:=h
    have q':v=.bl true:=q
    subst q'
    obtain rfl:u=Value.bool true:=r'
    refine⟨rfl,OldK.of_keep fun b o e=>?_,os,bare⟩
    cases q:H b with
    |none=>exact un.keep b o e q (by intro z;exact absurd (show b∈([]:List Addr)from z) (by simp)) (by simp)
    |some u=>
     rcases hO b with z|⟨ob,xs,z⟩
     ·rw[q]at z;cases z
     ·have z2:=un.frzs b ob _ z
      obtain⟨e1,_⟩:=hok b _ z
      obtain⟨e2,_⟩:=hok' b _ z2
      rw[e]at e1;cases e1
      exact e2
 cases hk:K.lookup a with
 |some o=>
  have e:=KX a o hk
  rw[ha]at e
  cases e
  refine core (fun _=>none) (fun _=>.inl rfl) (.inr ⟨_,vs.toArray,_,hk,rfl,rfl,rfl,by rw[j0j,lenV];exact hl,by simpa using rv⟩) (fun b u z=>by have z':(none:Option HO)=some u:=z;cases z') (fun b z=>absurd rfl z) fun z=>absurd rfl z
 |none=>
  refine core (fun b=>if b=a then some (.frz {cls:=.type "list",data:=.seq vs.toArray} (.lst (ns.map V.int)))else none) (fun b=>?_) (.inl (.inr ⟨{cls:=.type "list",data:=.seq vs.toArray},if_pos rfl⟩)) (fun b u z=>?_) (fun b z=>?_) fun _=>hk
  ·by_cases hb:b=a
   ·exact .inr ⟨_,_,if_pos hb⟩
   ·exact .inl (if_neg hb)
  ·by_cases hb:b=a
   ·have z':=(if_pos hb).symm.trans z
    cases z'
    subst hb
    exact⟨ha,by rw[j0f];exact hl,vs,_,rv,ha⟩
   ·have z':=(if_neg hb).symm.trans z
    cases z'
  ·by_cases hb:b=a
   ·exact hb
   ·exact absurd (if_neg hb) z
theorem jtL {l:PySem.W.OpenLaw}{n k:Nat}{q:Program}{loose:List Str}{XP:(Str->Option Value)->Heap->Prop}{YP:World->Heap->Prop}{d:DefRec}{K:Params->PySem.W.Frag}{CX:World->CXT}{sp:World->Sp}{x:Str}
  (hn:l.most=some n) (hn2:n<=sizeLine) (hdf:d.params.defaults=[]) (hr:Room k callerA)
  (hY:∀(w:World) (h:Heap),YP w h->(K w.params).In h)
  (F:∀(w:World) (mg:Str->Option Value) (fa:Addr) (h:Heap),(K w.params).In h->h.Ns mainGlobals mg->mg d.name=some (.ref fa) ->
   ∃fd:FuncData,(∀(s:Shared) (u:Value),BindsTo s fd ⟨[u],[]⟩ [(x,u)]) /\
    ∀base:Heap,(K w.params).In base->base.Ns mainGlobals mg->FnOk l.prog w (K w.params) mg base (CX w) k fa fd [x] (sp w))
  (hsp:∀(w:World) (H:Hp) (a:Addr) (ns:List Int),ns.length<=n->jyE H->SqL (K w.params) H a (ns.map V.int)->sp w [.ref a] H (fun v _=>v=.bl true) fun _ _ _=>False)
  (hCX:∀(w:World) (H:Hp) (s:Shared) (e:Value) (s':Shared),CX w [] H s (fun _ _ _=>False) e s'->False) :
  PySem.W.WalkO q loose XP YP l.row.toRowW d [] (fun f vs=>PySem.call f vs):=by
 refine Att.attach_call hn hdf fun w s₀ s₁ mg mb fa o pm cd doc a vs ns G Y ho hd hcd hmg hobj hints hlen hg=>?_
 have KX:=hY w _ Y
 obtain⟨fd,hb,hF⟩:=F w mg fa _ KX G.T.g hmg
 exact jqV KX G.T.g G.T.b G.T.builtins G.T.nolimit hg hobj hints (j0H hlen hn2) hr hF hb (fun H hO hS=>hsp w H a ns hlen hO hS) fun H e s'=>hCX w H s₁ e s'
theorem walk_ofK {l:PySem.W.OpenLaw}{n k:Nat}{q:Program}{loose:List Str}{XP:(Str->Option Value)->Heap->Prop}{YP:World->Heap->Prop}{d:DefRec}{K:Params->PySem.W.Frag}{CX:CXT}{sp:PySem.W.Frag->Sp}{x:Str}
  (hn:l.most=some n) (hn2:n<=sizeLine) (hdf:d.params.defaults=[]) (hr:Room k callerA)
  (hY:∀(w:World) (h:Heap),YP w h->(K w.params).In h)
  (F:∀(w:World) (mg:Str->Option Value) (fa:Addr) (h:Heap),(K w.params).In h->h.Ns mainGlobals mg->mg d.name=some (.ref fa) ->
   ∃fd:FuncData,(∀(s:Shared) (u:Value),BindsTo s fd ⟨[u],[]⟩ [(x,u)]) /\
    ∀base:Heap,(K w.params).In base->base.Ns mainGlobals mg->FnOk l.prog w (K w.params) mg base CX k fa fd [x] (sp (K w.params)))
  (hsp:∀(K:PySem.W.Frag) (H:Hp) (a:Addr) (ns:List Int),ns.length<=n->jyE H->SqL K H a (ns.map V.int)->sp K [.ref a] H (fun v _=>v=.bl true) fun _ _ _=>False)
  (hCX:∀(H:Hp) (s:Shared) (e:Value) (s':Shared),CX [] H s (fun _ _ _=>False) e s'->False) :
  PySem.W.WalkO q loose XP YP l.row.toRowW d [] (fun f vs=>PySem.call f vs):=
 jtL (K:=K) (CX:=fun _=>CX) (sp:=fun w=>sp (K w.params)) hn hn2 hdf hr hY F (fun w H a ns h1 h2 h3=>hsp (K w.params) H a ns h1 h2 h3) fun _ H s e s'=>hCX H s e s'
noncomputable def jfB (s:Stmt):Arguments:=match s with
 |.FunctionDef _ a _ _ _ _ _ _ _ _=>a
 |_=>{posonlyargs:=[],args:=[],vararg:=none,kwonlyargs:=[],kw_defaults:=[],kwarg:=none,defaults:=[]}
noncomputable def jap (s:Stmt):List Stmt:=match s with
 |.FunctionDef _ _ b _ _ _ _ _ _ _=>b
 |_=>[]
noncomputable def ja (s:Stmt):Scope:=match s with
 |.FunctionDef _ _ _ _ _ _ sc _ _ _=>sc
 |_=>{kind:=.function,names:=[],isGenerator:=false,isCoroutine:=false}
noncomputable abbrev CX0:CXT:=fun _ _ _ _ _ _=>False
noncomputable abbrev E0:XK:=fun _ _ _=>False
theorem jzl {X:Cx}:jhH CX0 X E0:=fun _ _ _ _ _ _ _ h=>h.elim
structure Fun (K:PySem.W.Frag) (x qual:Str) (st:Stmt) (f:Addr) (fd:FuncData):Prop where
 ex:∃(oc:Value) (od:Option Addr) (kV doc pm:Value) (an:Option Addr) (cdv ct:Value) (osl:Array (Option Value)),
  fd=PySem.W.fnOf x qual (jfB st) (jap st) (ja st) .none kV doc pm an cdv ct/\K.lookup f=some ⟨oc,od,.func fd,osl⟩/\PySem.W.codeIn K cdv qual=true
 kp:PySem.W.keepIn K (.ref f)=true
section
variable {P:Program} {w:World} {K:PySem.W.Frag} {mg:Str->Option Value} {base:Heap}
theorem Fun.ok {x qual:Str}{st:Stmt}{f:Addr}{fd:FuncData}{N ps:List Str}{k:Nat}{sp:Sp}(F:Fun K x qual st f fd)(S:FnScope N ps (ja st))(len:∀vs H Q E,sp vs H Q E->vs.length=ps.length)
  (hbody:∀(cdv:Value) (A:Around) (outer:List Env) (s:Shared) (H:Hp) (vs:List V) (Q:VK) (E:XK),Room k (A.deeper (envOfC qual (ja st) s.heap.objs.size f cdv))->sp vs H Q E ->
   ∃t,PSs (jiu CX0 P w K mg base N qual (ja st) f cdv A outer s H E).nox (jap st) t/\t {nx:=fun _ H'=>Q .non H',rt:=Q} (start N vs) H):FnOk P w K mg base CX0 (k+1) f fd ps sp:=by
 obtain⟨oc,od,kV,doc,pm,an,cdv,ct,osl,rfl,lk,hcd⟩:=F.ex
 refine jxp lk hcd S len fun A outer s H vs Q E hr hsp=>?_
 obtain⟨t,h,q⟩:=hbody cdv A outer s H vs Q E hr hsp
 exact⟨t,h.nox,q⟩
theorem Fun.binds {x qual:Str}{st:Stmt}{f:Addr}{fd:FuncData}{ps:List Str}(F:Fun K x qual st f fd)
  (h:∀(kV doc pm:Value) (an:Option Addr) (cdv ct:Value) (us:List Value),us.length=ps.length->bindArgs (PySem.W.fnOf x qual (jfB st) (jap st) (ja st) .none kV doc pm an cdv ct) ⟨us,[]⟩=pure (ps.zip us)):jfR K fd ps []:=by
 obtain⟨oc,od,kV,doc,pm,an,cdv,ct,osl,rfl,lk,hcd⟩:=F.ex
 exact .all (h kV doc pm an cdv ct)
theorem jaL {x qual:Str}{st:Stmt}{f:Addr}{oc:Value}{od an:Option Addr}{osl:Array (Option Value)}{kV doc pm cdv ct:Value}(l:K.lookup f=some ⟨oc,od,.func (PySem.W.fnOf x qual (jfB st) (jap st) (ja st) .none kV doc pm an cdv ct),osl⟩)
  (c:PySem.W.codeIn K cdv qual=true) (k:PySem.W.keepIn K (.ref f)=true):Fun K x qual st f (PySem.W.fnOf x qual (jfB st) (jap st) (ja st) .none kV doc pm an cdv ct):=⟨⟨oc,od,kV,doc,pm,an,cdv,ct,osl,rfl,l,c⟩,k⟩
end
section
variable {X:Cx}
end
def jfA (H H':Hp):Prop:=∀b o,H b=some o->H' b=some o
theorem jfA.refl (H:Hp):jfA H H:=fun _ _ h=>h
theorem jfA.trans {H H1 H2:Hp}(a:jfA H H1)(b:jfA H1 H2):jfA H H2:=fun c o h=>b c o (a c o h)
theorem jfA.free {H H':Hp}(e:jfA H H'){l:Addr}(h:H' l=Option.none):H l=Option.none:=by
 cases q:H l with
 |none=>rfl
 |some o=>
  rw[e l o q]at h
  cases h
theorem jfA.seq {K:PySem.W.Frag}{H H':Hp}{a:Addr}{xs:List V}(e:jfA H H')(h:SqL K H a xs):SqL K H' a xs:=by
 rcases h with(h|⟨o,h⟩)|h
 ·exact .inl (.inl (e _ _ h))
 ·exact .inl (.inr ⟨o,e _ _ h⟩)
 ·exact .inr h
theorem jfx {a b c:Nat}(h:a<b)(k:b<=c):a≠c:=j0k (j0m h k)
theorem ju7 {a b:Nat}(h:a<b)(k:b<=a):False:=absurd (j0m h k) (Nat.lt_irrefl _)
noncomputable def jiO (names:List (Str×NameKind))(cells:List (Str×Addr)):List (Str×Addr):=
 (names.filterMap fun p=>if p.2==.free then(cells.lookup p.1).map fun c=>(p.1,c)else none).reverse
theorem jdh (env:Env):∀(names:List (Str×NameKind)) (acc:List (Str×Addr)),(∀p∈names,p.2=.free->∃c,env.cells.lookup p.1=some c) ->
  (forIn names acc fun(x:Str×NameKind) cs=>(match x with
   |(name,kind)=>if(kind==.free)=true then(do let c <- cellOf env name;pure (ForInStep.yield ((name,c)::cs)))else pure (ForInStep.yield cs)):Sem (List (Str×Addr)))
   =pure (jiO names env.cells++acc)
 |[],acc,_=>rfl
 |(n,k)::r,acc,h=>by
  have hr:∀p∈r,p.2=.free->∃c,env.cells.lookup p.1=some c:=fun p hp=>h p (j09 _ hp)
  rw[List.forIn_cons]
  by_cases hk:k=.free
  ·subst hk
   obtain⟨c,hc⟩:=h (n,.free) j02 rfl
   have e1:cellOf env n=pure c:=by
    unfold cellOf
    have hc':env.cells.lookup n=some c:=hc
    rw[hc']
   have e2:jiO ((n,NameKind.free)::r) env.cells=jiO r env.cells++[(n,c)]:=by
    have hc':env.cells.lookup n=some c:=hc
    unfold jiO
    rw[j0G]
    simp[hc']
   simp only[beq_self_eq_true,if_true,e1,pure_bind]
   rw[jdh env r _ hr,e2,j0J]
   rfl
  ·have hb:(k==NameKind.free)=false:=by simpa using hk
   have e2:jiO ((n,k)::r) env.cells=jiO r env.cells:=by
    unfold jiO
    rw[j0G]
    simp[hb]
   simp only[hb,j0e,if_false,pure_bind]
   rw[jdh env r _ hr,e2]
theorem jiP {scope:Scope}{env:Env}(h:∀p∈scope.names,p.2=.free->∃c,env.cells.lookup p.1=some c):closureFor scope env=pure (jiO scope.names env.cells):=by
 have q:=jdh env scope.names [] h
 rw[j0l]at q
 unfold closureFor
 simp only[bind_pure]
 exact q
theorem jqD {names:List (Str×NameKind)}{cells:List (Str×Addr)}{x:Str}{c:Addr}(h:(x,c)∈jiO names cells):(x,NameKind.free)∈names/\cells.lookup x=some c:=by
 unfold jiO at h
 rw[List.mem_reverse,j1w]at h
 obtain⟨⟨n,k⟩,hm,e⟩:=h
 by_cases hk:k=.free
 ·subst hk
  simp only[beq_self_eq_true,if_true]at e
  cases q:cells.lookup n with
  |none=>rw[q]at e;cases e
  |some a=>
   rw[q]at e
   have e':(n,a)=(x,c):=j0w e
   cases e'
   exact⟨hm,q⟩
 ·have hb:(k==NameKind.free)=false:=by simpa using hk
  simp only[hb,j0e,if_false]at e
  cases e
theorem jaM {names:List (Str×NameKind)}{cells:List (Str×Addr)}{x:Str}{c:Addr}(h:(jiO names cells).lookup x=some c):cells.lookup x=some c:=(jqD (j07 h)).2
theorem jin {α:Type}{x:Str}{l:List (Str×α)}{a:α}(h:(x,a)∈l):∃b,l.lookup x=some b:=by
 induction l with
 |nil=>cases h
 |cons p r ih=>
  obtain⟨n,b⟩:=p
  by_cases e:x=n
  ·subst e;exact⟨b,by simp[List.lookup_cons]⟩
  ·rcases j0d.mp h with z|z
   ·cases z;exact absurd rfl e
   ·obtain⟨b',q⟩:=ih z
    exact⟨b',by rw[List.lookup_cons,(by simpa using e:(x==n)=false)];exact q⟩
theorem jlJ {names:List (Str×NameKind)}{cells:List (Str×Addr)}{x:Str}{c:Addr}(h:(x,NameKind.free)∈names)(hc:cells.lookup x=some c):(jiO names cells).lookup x=some c:=by
 have hm:(x,c)∈jiO names cells:=by
  unfold jiO
  rw[List.mem_reverse,j1w]
  exact⟨(x,.free),h,by simp[hc]⟩
 obtain⟨b,q⟩:=jin hm
 have:=jaM q
 rw[hc]at this
 cases this
 exact q
theorem jdQ {scope:Scope}{env:Env}{x:Str}(hc:∀y∈scope.names,y.2≠.cell)(h:(relabel scope env).names.lookup x=some .cell∨(relabel scope env).names.lookup x=some .free):(x,NameKind.free)∈scope.names:=by
 have key:∀k,(relabel scope env).names.lookup x=some k->(k=.cell∨k=.free)->(x,NameKind.free)∈scope.names:=fun k q hk=>by
  have m:=j07 q
  unfold relabel at m
  rw[j0s]at m
  obtain⟨⟨n,k'⟩,hm,e⟩:=m
  dsimp only at e
  by_cases hf:k'=.free
  ·subst hf
   split at e<;>cases e<;>exact hm
  ·have hb:(k'==NameKind.free)=false:=by simpa using hf
   simp only[hb,Bool.false_and,j0e,if_false]at e
   cases e
   rcases hk with rfl|rfl
   ·exact absurd rfl (hc _ hm)
   ·exact absurd rfl hf
 rcases h with h|h
 ·exact key _ h (.inl rfl)
 ·exact key _ h (.inr rfl)
noncomputable def jaO (X:Cx)(N':List Str)(scope:Scope)(C:Addr)(fp:List Addr)(s₂:Shared)(H₂:Hp):Cx where
 prog:=X.prog
 w:=X.w
 K:=X.K
 mg:=X.mg
 base:=X.base
 A:=X.A
 N:=N'
 s₀:=s₂
 H₀:=H₂
 env:=compEnvC scope (jiO scope.names X.env.cells) C X.env
 outer:=X.stack
 stack:=X.stack
 ex:=fp
 fn:=fun _=>false
 calm:=X.calm
 pn:=[]
 xe:=fun _ _=>False
structure CompScope (X:Cx) (own N':List Str) (scope:Scope):Prop where
 kind:scope.kind=.function
 nocell:∀y∈scope.names,y.2≠.cell
 names:∀y∈scope.names,y.2=.local->scope.names.lookup y.1=some .local
 free:∀y∈scope.names,y.2=.free->(X.env.kindOf y.1=some .cell∨X.env.kindOf y.1=some .free)
 len:N'.length=own.length+X.N.length
 outer:∀(i:Nat) (x:Str),(N'.drop own.length)[i]?=some x->(x,NameKind.free)∈scope.names->X.N[i]?=some x
 apart:∀x∈N'.drop own.length,(relabel scope X.env).names.lookup x≠some .local
def Cmp (J:It)(k:Nat)(g:TG)(tt:TT)(te:TE)(σ:St)(Q:VK)(H1:Hp):Prop:=∃W:Nat->Nat->List V->Hp->Prop,(∃m,W 0 m [] H1)/\∀i m ys H,W i m ys H ->
 (J.stop i H/\∀p,H p=none->Q (.ref p) (upd H p (.lst ys))) ∨
 (J.go i H/\ys.length<sizeLine/\∃(N1:V->Hp->Prop) (N0:Hp->Prop),(∀y H',N1 y H'->∃m',m'<m/\W (i+1) m' (ys++[y]) H')/\(∀H',N0 H'->∃m',m'<m/\W (i+1) m' ys H') /\
  ∀x H',J.yld i H x H'->g x (List.replicate k none++σ) H' fun σ2 H2=>tt σ2 H2 fun b H3=>if b=true then te σ2 H3 N1 else N0 H3)
def jqU (k:Nat)(wi:TI)(g:TG)(tt:TT)(te:TE):TE:=fun σ H Q=>wi σ H fun J H1=>Cmp J k g tt te σ Q H1
def PTs (X:Cx)(ifs:List Expr)(t:TT):Prop:=
 ∀(pins:List (Addr×Obj)) (s:Shared) (σ:St) (H:Hp) (Q:Bool->Hp->Prop),Inv X pins σ H s->t σ H Q ->
  wpAny (model X.prog X.w) X.A (forIn ifs true fun c r=>if r=true then do let ok <- isTrue c X.env (eval c X.env);pure (ForInStep.yield ok)else pure (ForInStep.yield r)) (TP X pins σ Q) X.xe s
def jyt:TT:=fun _ H Q=>Q true H
theorem joF {X:Cx}:PTs X [] jyt:=fun _ _ σ H Q I h=>wpAny_tests_nil ⟨H,I,h⟩
theorem jtM {X:Cx}{c:Expr}{t:TT}(h:PT X c t):PTs X [c] t:=fun pins s σ H Q I q=>wpAny_tests_one (h pins s σ H Q I q)
noncomputable abbrev jwh (cs:List Expr) (en:Env):Sem Bool:=forIn cs true fun c yes=>if yes=true then isTrue c en (eval c en) >>=fun b=>pure (ForInStep.yield b)else pure (ForInStep.yield yes)
noncomputable abbrev jsQ (P:Program) (W:World) (B:Around) (elt tgt:Expr) (cs:List Expr) (src lst:Value) (en:Env) (Er:Value->Shared->Prop) (Go:Shared->Prop) (v:Value):Shared->Prop:=wpAny (model P W) B (letOwnedTupleGo tgt src v) (fun _ t2=>
 wpAny (model P W) B (assign tgt en v) (fun _ t3=>wpAny (model P W) B (jwh cs en) (fun yes t4=>if yes=true then wpAny (model P W) B (eval elt en) (fun x t5=>wpAny (model P W) B (call (.builtin "list.append") [lst,x]) (fun _ t6=>Go t6) Er t5) Er t4 else Go t4) Er t3) Er t2) Er
theorem jjL {P:Program}{W:World}{B:Around}{R:Result->Shared->Prop}{s:Shared}{elt tgt iter:Expr}{cs:List Expr}{scope:Scope}{pos:Pos}{src lst:Value}{en:Env}{Er:Value->Shared->Prop}(hEr:∀x t,Er x t->notedBy (model P W) B en (fun y t'=>R (.error y) t') x t)(J:Nat->Shared->Prop)
  (turn:∀k t,J k t->wpAny (model P W) B (pyNext src) (fun got t1=>match got with|none=>R (.ok .next) t1|some v=>jsQ P W B elt tgt cs src lst en Er (fun t6=>∃j,j<k/\J j t6) v t1) Er t)
  (k:Nat) (start:J k s):codeAny (model P W) B (.compLoop (.ListComp elt [⟨tgt,iter,cs,0⟩] scope pos) 0 src lst en) R s:=by
 refine codeAny_loop rfl J (fun j t hj=>?_) k start
 refine(?_:wpAny _ B ((compTurn (.ListComp elt [⟨tgt,iter,cs,0⟩] scope pos) 0 src lst en).onRaise fun x=>do noteFrame x en;theTreesLotGoes x) _ _ t)
 refine wpAny_noted ?_
 rw[compTurn_list]
 refine wpAny_bind (wpAny_standAt (wpAny_bind (wpAny_mono (turn j t hj) (fun got t1 h1=>?_) hEr)))
 match got,h1 with
 |none,h1=>exact wpAny_pure h1
 |some v,h1=>
  refine wpAny_bind (wpAny_mono h1 (fun _ t2 h2=>wpAny_bind (wpAny_mono h2 (fun _ t3 h3=>wpAny_bind (wpAny_mono h3 (fun yes t4 h4=>?_) hEr)) hEr)) hEr)
  match yes,h4 with
  |true,h4=>exact wpAny_bind (wpAny_bind (wpAny_mono h4 (fun x t5 h5=>wpAny_bind (wpAny_mono h5 (fun _ t6 h6=>wpAny_pure (wpAny_pure ⟨rfl,h6⟩)) hEr)) hEr))
  |false,h4=>exact wpAny_pure ⟨rfl,h4⟩
section
variable {X:Cx}
theorem CompScope.ok {own N':List Str}{scope:Scope}{C:Addr}{fp:List Addr}{s₂:Shared}{H₂:Hp}{pins:List (Addr×Obj)}{σ:St}(S:CompScope X own N' scope)(I:Inv X pins σ H₂ s₂)(hC:s₂.heap.objs.size<=C)
  (hf:∀b∈fp,jpd X pins H₂ b) (hlt:∀b∈fp,b<s₂.heap.objs.size):(jaO X N' scope C fp s₂ H₂).Ok where
 mod:=I.ok.mod
 kind:=S.kind
 glob:=I.ok.glob
 blt:=I.ok.blt
 above:=hC
 inj:=fun x y c h1 h2=>I.ok.inj x y c (jaM h1) (jaM h2)
 has:=fun x h=>by
  have hm:=jdQ S.nocell h
  obtain⟨c,hc⟩:=I.ok.has x (S.free _ hm rfl)
  exact⟨c,jlJ hm hc⟩
 cab:=fun x c h=>by cases h
 hd:=I.ok.hd
 frames:=I.ok.frames
 stk:=.inl rfl
 exf:=fun b hb=>⟨jfx (hlt b hb) hC,fun x c h=>(hf b hb).2.2.2.2.1 x c (jaM h)⟩
 bs:=I.bs
 bsz:=j0H I.ok.bsz I.sz
 noex:=fun b o e hb=>by
  rcases(hf b hb).2.2.2.1 with z|z
  ·exact I.ok.noex b o e z
  ·exact ju7 (j0h e) (j0H I.ok.bsz z)
 exfs:=fun b hb hs=>by
  rcases j0d.mp (I.stkSub b hs)with z|z
  ·exact(hf b hb).2.1 z
  ·exact(hf b hb).2.2.1 z
 funs:=I.stack
 frf:=I.stkFree
theorem CompScope.inv {own N':List Str}{scope:Scope}{C D:Addr}{fp:List Addr}{s₂ s₄:Shared}{H₂:Hp}{pins:List (Addr×Obj)}{σ:St}{oD:Obj}{m:Str->Option Value}(S:CompScope X own N' scope)(I:Inv X pins σ H₂ s₂)(hC:s₂.heap.objs.size<=C)
  (hf:∀b∈fp,jpd X pins H₂ b) (hlt:∀b∈fp,b<s₂.heap.objs.size) (hos:s₄.os=s₂.os) (hg:s₄.gens=s₂.gens) (k:∀b u,s₂.heap.get? b=some u->s₄.heap.get? b=some u) (hn:s₄.heap.Ns C m)
  (hD:s₄.heap.get? D=some oD) (hDs:s₂.heap.objs.size<=D) (hDC:D≠C) (hDd:∀v,oD.data≠.cell v) :
  Inv (jaO X N' scope C fp s₂ H₂) [(D,oD)] (List.replicate own.length none++σ) H₂ s₄ where
 ok:=S.ok I hC hf hlt
 os:=hos
 bare:=by rw[hg];exact I.bare
 base:=Un.kept k
 loc:=⟨m,hn,fun i x v e1 e2 e3=>by
  obtain⟨mX,hnX,hlX⟩:=I.loc
  have hge:own.length<=i:=by
   refine Nat.le_of_not_lt fun hi=>?_
   rw[j0Z (by simpa using hi),List.getElem?_replicate]at e2
   split at e2<;>cases e2
  rw[j1l (by simpa using hge),List.length_replicate]at e2
  have e1':(N'.drop own.length)[i - own.length]?=some x:=by
   rw[List.getElem?_drop,show own.length+(i - own.length)=i by omega]
   exact e1
  have nl:=S.apart x (j0C e1')
  have hfr:(x,NameKind.free)∈scope.names:=by
   rcases e3 with z|z|z
   ·exact absurd z nl
   ·exact jdQ S.nocell (.inl z)
   ·exact jdQ S.nocell (.inr z)
  have hk:=S.free _ hfr rfl
  obtain⟨u,r,l⟩:=hlX (i - own.length) x v (S.outer _ _ e1' hfr) e2 (by
   rcases hk with z|z
   ·exact .inr (.inl z)
   ·exact .inr (.inr z))
  refine⟨u,r,?_⟩
  rcases l with⟨z,_⟩|⟨_,c,hc,o,ho,hd⟩
  ·rcases hk with q|q
   ·rw[q]at z;cases z
   ·rw[q]at z;cases z
  ·refine .inr ⟨?_,c,jlJ hfr hc,o,k _ _ ho,hd⟩
   rcases e3 with z|z|z
   ·exact absurd z nl
   ·exact .inl z
   ·exact .inr z⟩
 cell:=fun x c h=>by
  obtain⟨v,o,ho,hd⟩:=I.cell x c (jaM h)
  exact⟨v,o,k _ _ ho,hd⟩
 free:=I.hok.fresh hC
 freeC:=fun x c h=>I.freeC x c (jaM h)
 pin:=fun p hp=>by
  have e:p=(D,oD):=by
   have hp':p∈[(D,oD)]:=hp
   simpa using hp'
  subst e
  refine⟨hD,I.hok.fresh hDs,hDC,fun z=>?_,hDd⟩
  rcases j0d.mp (I.stkSub D z)with q|q
  ·exact jfx I.lt hDs q.symm
  ·exact I.nofs hDs q
 hok:=I.hok.kept k
 len:=by
  show _=N'.length
  rw[S.len,j0p,List.length_replicate,I.len]
theorem jfO {own N':List Str}{scope:Scope}{elt tg iter:Expr}{ifs:List Expr}{pos:Pos}{g:TG}{tt:TT}{te:TE}{it:Addr}{fp:List Addr}{tn:Nat->Heap->Prop}{J:It}{pins:List (Addr×Obj)}{s₂:Shared}{σ:St}{H₂:Hp}{Q:VK}
  {RR:Value->Addr->Result->Shared->Prop} {E:Value->Shared->Prop} {xe:Addr->List Addr->Shared->Hp->Value->Shared->Prop} (hc:X.calm=true) (S:CompScope X own N' scope)
  (hg:∀C s H,PG ((jaO X N' scope C fp s H).wish (xe C fp s H)) tg g) (ht:∀C s H,PTs ((jaO X N' scope C fp s H).wish (xe C fp s H)) ifs tt) (he:∀C s H,PE ((jaO X N' scope C fp s H).wish (xe C fp s H)) elt te)
  (I:Inv X pins σ H₂ s₂) (T:Turn X.prog X.w X.K tg J fp it tn) (st:tn 0 s₂.heap) (hf:∀b∈fp,jpd X pins H₂ b)
  (W:Nat->Nat->List V->Hp->Prop) (m0:Nat) (w0:W 0 m0 [] H₂)
  (turn:∀i m ys H,W i m ys H->(J.stop i H/\∀p,H p=none->Q (.ref p) (upd H p (.lst ys))) ∨
   (J.go i H/\ys.length<sizeLine/\∃(N1:V->Hp->Prop) (N0:Hp->Prop),(∀y H',N1 y H'->∃m',m'<m/\W (i+1) m' (ys++[y]) H')/\(∀H',N0 H'->∃m',m'<m/\W (i+1) m' ys H') /\
    ∀x H',J.yld i H x H'->g x (List.replicate own.length none++σ) H' fun σ2 H2=>tt σ2 H2 fun b H3=>if b=true then te σ2 H3 N1 else N0 H3))
  (hRR:∀(D C:Addr) (s':Shared) (H':Hp) (m':Str->Option Value),Inv X pins σ H' s'->Q (.ref D) H'->s'.heap.Ns C m'->H' C=none->C≠X.env.locals->X.s₀.heap.objs.size<=C->(∀x c,X.env.cells.lookup x=some c->c≠C)->(∀p∈X.pn++pins,p.1≠C) ->
   RR (.ref D) C (.ok .next) s')
  (hX:∀(D C:Addr) (v:Value) (s':Shared),s₂.heap.objs.size<=C->xe C fp s₂ H₂ v s'->notedBy (model X.prog X.w) X.A (compEnvC scope (jiO scope.names X.env.cells) C X.env) (fun x s''=>RR (.ref D) C (.error x) s'') v s') :
  wpAny (model X.prog X.w) X.A (newList []) (fun acc s₃=>wpAny (model X.prog X.w) X.A (newFunctionEnv scope X.env.globals (jiO scope.names X.env.cells) [] X.env.qual none .none (some X.env)) (fun cenv s₄=>
   codeAny (model X.prog X.w) X.A (.compStart (.ListComp elt [⟨tg,iter,ifs,0⟩] scope pos) 0 (.ref it) acc {cenv with scope:=relabel scope X.env}) (RR acc cenv.locals) s₄) E s₃) E s₂:=by
 refine wpAny_newObj_type (wpAny_newFunctionEnv S.nocell (by intro y hy;simp at hy) (fun h₁ hns₁ hsb₁=>?_) S.kind)
 dsimp only at hns₁ hsb₁ ⊢
 generalize hH2:s₂.heap.push {cls:=.type "list",dict:=none,data:=.seq ([]:List Value).toArray}=H2 at hns₁ hsb₁ ⊢
 have hC:H2.objs.size=s₂.heap.objs.size+1:=hH2▸Heap.size_push ..
 have hDC:s₂.heap.objs.size≠H2.objs.size:=j0k (by omega)
 have hCle:s₂.heap.objs.size<=H2.objs.size:=hC▸j05 _ 1
 have below:∀b,b<s₂.heap.objs.size->b≠H2.objs.size/\b≠s₂.heap.objs.size:=fun b hb=>⟨j0k (j0m hb hCle),j0k hb⟩
 have old:∀b o,s₂.heap.get? b=some o->h₁.get? b=some o:=fun b o e=>hsb₁.extBut b o (below b (j0h e)).1 (j0c _ (hH2▸j0c _ e))
 have hacc:h₁.get? s₂.heap.objs.size=some {cls:=.type "list",data:=.seq ([]:List Value).toArray 0}:=hsb₁.extBut _ _ hDC (j0c _ (hH2▸j0o _ rfl))
 have hflt:∀b∈fp,b<s₂.heap.objs.size:=fun b hb=>by
  obtain⟨o,e,_⟩:=T.obj 0 _ st b hb
  exact j0h e
 generalize hCd:H2.objs.size=C at *
 generalize hDd:s₂.heap.objs.size=D at *
 have hDnf:D∉X.fs:=I.nofs (j1q hDd)
 have stat:∀{H':Hp} {o:Obj},(∀b∈fp,H' b=none)->∀b∈fp,jpd ((jaO X N' scope C fp s₂ H₂).wish (xe C fp s₂ H₂)) [(D,o)] H' b:=fun {H' o} hn b hb=>
  ⟨hn b hb,(jfx (hflt b hb) hCle),fun z=>((S.ok I (hDd▸hCle) hf (by rw[hDd];exact hflt)).wish (xe C fp s₂ H₂)).exfs b hb z,.inl hb,fun x c h=>(hf b hb).2.2.2.2.1 x c (jaM h),fun p hp=>by
   have e:p=(D,o):=by
    have hp':p∈[(D,o)]:=hp
    simpa using hp'
   subst e
   exact Ne.symm (j0k (hflt b hb))⟩
 have loop:∀s₃:Shared,s₃={s₂ with heap:=h₁,toks:=s₂.toks+([]:List (Str×Value)).length} ->
   codeAny (model X.prog X.w) X.A (.compLoop (.ListComp elt [⟨tg,iter,ifs,0⟩] scope pos) 0 (.ref it) (.ref D) (compEnvC scope (jiO scope.names X.env.cells) C X.env)) (RR (.ref D) C) s₃:=by
  rintro s₃ rfl
  refine jjL (Er:=xe C fp s₂ H₂) (fun x t h=>hX D C x t hCle h) (fun n s'=>∃i ys us nn H',Inv ((jaO X N' scope C fp s₂ H₂).wish (xe C fp s₂ H₂)) [(D,{cls:=.type "list",data:=.seq (us:List Value).toArray nn})] (List.replicate own.length none++σ) H' s'/\jaR ys us/\ys.length<=sizeLine /\
   tn i s'.heap/\(∀b∈fp,H' b=none)/\W i n ys H') ?_ m0 ⟨0,[],[],0,H₂,(S.inv (m:=fun x=>([]:List (Str×Value)).reverse.lookup x) (s₄:={s₂ with heap:=h₁,toks:=s₂.toks+([]:List (Str×Value)).length}) I (by rw[hDd];exact hCle) hf (by rw[hDd];exact hflt) rfl rfl old hns₁ hacc (j1q hDd) hDC (by intro v z;cases z)).wish _,.nil,Nat.zero_le _,
    T.keep _ _ _ st fun b hb o e=>old b o e,fun b hb=>(hf b hb).1,w0⟩
  rintro n s3 ⟨i,ys,us,nn,H3,I3,rv,hyz,st3,fr3,w3⟩
  rcases turn i n ys H3 w3 with⟨stop,qn⟩|⟨go,hlt,N1,N0,hN1,hN0,step⟩
  ·refine thn (T.done ((jaO X N' scope C fp s₂ H₂).wish (xe C fp s₂ H₂)) rfl rfl rfl hc i _ s3 _ H3 (xe C fp s₂ H₂) I3 (stat fr3) st3 stop) fun r s4 ⟨hr,I4⟩=>?_
   subst hr
   obtain⟨e4,n4,ne4,nf4,d4⟩:=I4.pin (D,_) (j0u _ (j02))
   obtain⟨mC,hmC,_⟩:=I4.loc
   have hH4:H3 D=none:=n4
   have U:Un (frs X.stack) fp H₂ H3 s₂.heap s4.heap:=I4.base
   have U':Un (frs X.stack) fp H₂ (upd H3 D (.lst ys)) s₂.heap s4.heap:=
    {keep:=U.keep,slot:=U.slot,there:=U.there
     free:=fun b o e nb hx=>by
      rw[jar (jfx (j0h e) (j1q hDd))]
      exact U.free b o e nb hx
     tups:=fun b xs e=>by
      rw[jar (jfx (I.hok.lt e) (j1q hDd))]
      exact U.tups b xs e
     frzs:=fun b o xs e=>by
      rw[jar (jfx (I.hok.lt e) (j1q hDd))]
      exact U.frzs b o xs e
     tbls:=fun b ps e=>by
      rw[jar (jfx (I.hok.lt e) (j1q hDd))]
      exact U.tbls b ps e}
   have hokD:HOk X.prog X.w (upd H3 D (.lst ys)) s4.heap:=fun b u e=>by
    by_cases hb:b=D
    ·subst hb
     rw[jaF]at e
     cases e
     exact⟨hyz,us,nn,rv,e4⟩
    ·rw[jar hb]at e
     exact(I4.hok b u e).stay (fun _ _ _ q=>q) (fun c q=>by rw[jar (jaq q hH4)];exact q) fun c xs q=>by rw[jar (jaq q hH4)];exact q
   have IX:Inv X pins σ (upd H3 D (.lst ys)) s4:=I.call' I4.os U' hokD I4.bare fun b hb=>by
    obtain⟨f0,f1,f2,f3,f4,f5⟩:=hf b hb
    exact⟨f3,f1,f4,f5⟩
   have hDne:C≠D:=fun z=>hDC z.symm
   refine hRR D C s4 _ mC IX (qn D hH4) hmC (by rw[jar hDne];exact I4.free) (fun z=>?_) ?_ (fun x c h z=>?_) fun p hp z=>?_
   ·exact jfx I.lt (hDd▸hCle) z.symm
   ·exact j0H I.sz (hDd▸hCle)
   ·obtain⟨v,o,ho,_⟩:=I.cell x c h
    exact jfx (j0h ho) (hDd▸hCle) z
   ·exact jfx (j0h (I.pin p hp).1) (hDd▸hCle) z
  ·refine thn (T.item ((jaO X N' scope C fp s₂ H₂).wish (xe C fp s₂ H₂)) rfl rfl rfl hc i _ s3 _ H3 (xe C fp s₂ H₂) I3 (stat fr3) st3 go) fun r s4 ⟨u,hr,h4⟩=>?_
   subst hr
   refine thn h4 fun _ s5 ⟨x,H5,I5,r5,y5,st5,fr5⟩=>?_
   have I5':=I5.pinned (stat fr5) (T.obj _ _ st5)
   refine thn (hg C s₂ H₂ _ s5 _ H5 x u _ I5' r5 (step x H5 y5)) fun _ s6 ⟨σ6,H6,I6,q6⟩=>?_
   have back:∀{σ7:St} {H7:Hp} {s7:Shared} {pp:List (Addr×Obj)},Inv ((jaO X N' scope C fp s₂ H₂).wish (xe C fp s₂ H₂)) (pp++ji4 fp s5.heap) σ7 H7 s7->tn (i+1) s7.heap/\∀b∈fp,H7 b=none:=fun {σ7 H7 s7 pp} I7=>by
    refine⟨T.keep _ _ _ st5 fun b hb o e=>(I7.pin (b,o) (j0u _ (j0u _ (jep hb e)))).1,fun b hb=>?_⟩
    obtain⟨o,e,d⟩:=T.obj _ _ st5 b hb
    exact(I7.pin (b,o) (j0u _ (j0u _ (jep hb e)))).2.1
   refine thn (ht C s₂ H₂ _ s6 σ6 H6 _ I6 q6) fun b s7 ⟨H7,I7,q7⟩=>?_
   have weak:∀{H8:Hp} {s8:Shared} {pp:List (Addr×Obj)},Inv ((jaO X N' scope C fp s₂ H₂).wish (xe C fp s₂ H₂)) pp σ6 H8 s8->Inv ((jaO X N' scope C fp s₂ H₂).wish (xe C fp s₂ H₂)) pp (List.replicate own.length none++σ) H8 s8:=fun {H8 s8 pp} J8=>by
    obtain⟨mC,hmC,_⟩:=J8.loc
    refine⟨J8.ok,J8.os,J8.bare,J8.base,⟨mC,hmC,fun j y v e1 e2 e3=>?_⟩,J8.cell,J8.free,J8.freeC,J8.pin,J8.hok,I3.len⟩
    obtain⟨m3,hm3,hl3⟩:=(S.inv (m:=fun x=>([]:List (Str×Value)).reverse.lookup x) (s₄:={s₂ with heap:=h₁,toks:=s₂.toks+([]:List (Str×Value)).length}) I (by rw[hDd];exact hCle) hf (by rw[hDd];exact hflt) rfl rfl old hns₁ hacc (j1q hDd) hDC (by intro v z;cases z)).loc
    obtain⟨u',r',l'⟩:=hl3 j y v e1 e2 e3
    refine⟨u',r',?_⟩
    rcases l' with⟨k',z'⟩|⟨k',c,hcl,o,ho,hd⟩
    ·have hge:own.length<=j:=by
      refine Nat.le_of_not_lt fun hj=>?_
      rw[j0Z (by simpa using hj),List.getElem?_replicate]at e2
      split at e2<;>cases e2
     have e1':(N'.drop own.length)[j - own.length]?=some y:=by
      rw[List.getElem?_drop,show own.length+(j - own.length)=j by omega]
      exact e1
     exact absurd k' (S.apart y (j0C e1'))
    ·obtain⟨vc,oc,hoc,hdc⟩:=I.cell y c (jaM hcl)
     have ec:oc=o:=by
      have:=old c oc hoc
      rw[this]at ho
      exact j0w ho
     subst ec
     obtain⟨sl,hsl⟩:=J8.base.any hoc (I.freeC y c (jaM hcl)) (fun z=>(hf c z).2.2.2.2.1 y c (jaM hcl) rfl)
     exact .inr ⟨k',c,hcl,_,hsl,hd⟩
   cases b with
   |false=>
    obtain⟨m',hm,w7⟩:=hN0 _ q7
    obtain⟨st7,fr7⟩:=back I7
    exact⟨m',hm,i+1,ys,us,nn,H7,weak I7.unpinned,rv,hyz,st7,fr7,w7⟩
   |true=>
    refine thn (he C s₂ H₂ _ s7 σ6 H7 _ I7 q7) fun yv s8 ⟨y,H8,I8,r8,q8⟩=>?_
    obtain⟨m',hm,w8⟩:=hN1 _ _ q8
    obtain⟨st8,fr8⟩:=back I8
    obtain⟨e8,n8,ne8,nf8,d8⟩:=I8.pin (D,_) (j0u _ (j1a _ j02))
    refine append_at (hsz:=by rw[j0j,<- rv.length];exact hyz) e8 fun h9 hs9 hD9=>?_
    have I8':Inv ((jaO X N' scope C fp s₂ H₂).wish (xe C fp s₂ H₂)) [] σ6 H8 s8:=I8.pins_of fun p hp=>nomatch hp
    have I9:Inv ((jaO X N' scope C fp s₂ H₂).wish (xe C fp s₂ H₂)) [] σ6 H8 {s8 with heap:=h9}:=I8'.turned (t':=s8.toks) (it:=D) (fun b o hb e=>hs9.extBut b o hb e) n8 ne8 (.inr (j1q hDd)) (fun x c h z=>by
     obtain⟨v,o,ho,_⟩:=I.cell x c (jaM h)
     exact jfx (j0h ho) (j1q hDd) z) fun p hp=>nomatch (show p∈([]:List (Addr×Obj))from hp)
    have eqD:({cls:=.type "list",data:=.seq (us.toArray.push yv) (nn+1)}:Obj)={cls:=.type "list",data:=.seq (us++[yv]).toArray (nn+1)}:=by rw[List.push_toArray]
    refine⟨m',hm,i+1,ys++[y],us++[yv],nn+1,H8,weak (I9.pins_of fun p hp=>?_),rv.append (.cons r8 .nil),by rw[j0p];exact hlt,T.keep _ _ _ st8 fun b hb o e=>hs9.extBut b o (j0k (hflt b hb)) e,fr8,w8⟩
    have e:p=(D,{cls:=.type "list",data:=.seq (us++[yv]).toArray (nn+1)}):=by simpa using hp
    subst e
    exact⟨by rw[<- eqD];exact hD9,n8,ne8,nf8,by intro v z;cases z⟩
 exact codeAny_compStart_list (loop _ rfl) (T.self _ 0 _ _ _ (T.keep _ _ _ st fun b hb o e=>old b o e) (loop _ rfl))
end
section
variable {X:Cx}
theorem jfI {own N':List Str}{scope:Scope}(S:CompScope X own N' scope){pins:List (Addr×Obj)}{s:Shared}{σ:St}{H:Hp}(I:Inv X pins σ H s) :
  closureFor scope X.env=pure (jiO scope.names X.env.cells):=jiP fun p hp hf=>I.ok.has p.1 (S.free p hp hf)
theorem jv {own N':List Str}{scope:Scope}{elt tg iter:Expr}{ifs:List Expr}{pos:Pos}{wi:TI}{g:TG}{tt:TT}{te:TE}(hc:X.calm=true)(S:CompScope X own N' scope)(hi:PI X tg iter wi)
  (hg:∀C fp s H,PG (jaO X N' scope C fp s H) tg g) (ht:∀C fp s H,PTs (jaO X N' scope C fp s H) ifs tt) (he:∀C fp s H,PE (jaO X N' scope C fp s H) elt te)
  (hs:∀x,foldedSetIterable iter X.env x=pure x:=by intro _;rfl):PE X (.ListComp elt [⟨tg,iter,ifs,0⟩] scope pos) (jqU own.length wi g tt te):=by
 intro pins s σ H Q I h
 rw[eval_ListComp]
 refine wpAny_comprehension_free (use:=none) rfl hs (jfI S I) S.kind S.names (thn (hi pins s σ H _ I h) fun v s1 h1=>thn h1 fun itv s2 h2=>?_)
 obtain⟨it,fp,tn,J,H2,e,I2,T,st2,f2,W,⟨m0,w0⟩,turn⟩:=h2
 subst e
 refine jfO (xe:=fun _ _ _ _ _ _=>False) (RR:=fun acc C=>compPost (model X.prog X.w) X.A X.xe none (EP X pins σ Q) acc C) hc S (fun C s H=>hg C fp s H) (fun C s H=>ht C fp s H) (fun C s H=>he C fp s H) I2 T st2 f2 W m0 w0 turn ?_ fun _ _ _ _ _ h=>h.elim
 intro D C s' H' m' I' q' hn hC h1 h2' h3 h4
 refine⟨m',hn,fun h' hsb=>?_⟩
 exact⟨.ref D,H',I'.turned (t':=s'.toks) (it:=C) (fun b o hb e=>hsb.extBut b o hb e) hC h1 (.inr h2') h3 h4,rfl,q'⟩
theorem jl4 {own N':List Str}{scope:Scope}{elt tg iter:Expr}{ifs:List Expr}{pos spos py:Pos}{wi:TI}{g:TG}{tt:TT}{te:TE}{i:Nat}{y:Str}(hN:X.N.Nodup)(hy:X.N[i]?=some y)(hx:Loc X.env.scope y)(hc:X.calm=true)(S:CompScope X own N' scope)(hi:PI X tg iter wi)
  (hg:∀C fp s H,PG (jaO X N' scope C fp s H) tg g) (ht:∀C fp s H,PTs (jaO X N' scope C fp s H) ifs tt) (he:∀C fp s H,PE (jaO X N' scope C fp s H) elt te)
  (hsw:swapsWith (.ListComp elt [⟨tg,iter,ifs,0⟩] scope pos) (some (.Name y py)) spos.line X.env=pure true)
  (hs:∀x,foldedSetIterable iter X.env x=pure x:=by intro _;rfl) (hf:X.fn y=true∨X.env.scope.names.lookup y=some .local:=by first|exact .inl rfl|exact .inr rfl|assumption) :
  PS X (.Assign [.Name y py] (.ListComp elt [⟨tg,iter,ifs,0⟩] scope pos) spos) (jvm (jqU own.length wi g tt te) (je6 i)):=by
 intro pins s σ H D I h
 rw[exec_Assign_Name_used _ _ _ _ hsw]
 refine wpAny_bind (wpAny_standAt (wpAny_bind ?_))
 show wpAny _ X.A (do let _ <- comprehension (.ListComp elt [⟨tg,iter,ifs,0⟩] scope pos) scope X.env _ (newList []) false (eval iter X.env) (some (assign (.Name y py) X.env))) _ _ s
 refine wpAny_bind (wpAny_mono (wpAny_comprehension_free (use:=some (assign (.Name y py) X.env)) (Q:=fun _ s'=>SP X pins D .next s') rfl hs (jfI S I) S.kind S.names
  (thn (hi pins s σ H _ I h) fun v s1 h1=>thn h1 fun itv s2 h2=>?_)) (fun _ s' hq=>wpAny_pure (wpAny_pure hq)) fun _ _ e=>e)
 obtain⟨it,fp,tn,J,H2,e,I2,T,st2,f2,W,⟨m0,w0⟩,turn⟩:=h2
 subst e
 refine jfO (xe:=fun _ _ _ _ _ _=>False) (Q:=fun x H1=>je6 i x σ H1 D.nx) (RR:=fun acc C=>compPost (model X.prog X.w) X.A X.xe (some (assign (.Name y py) X.env)) (fun _ s'=>SP X pins D .next s') acc C) hc S (fun C s H=>hg C fp s H) (fun C s H=>ht C fp s H) (fun C s H=>he C fp s H) I2 T st2 f2 W m0 w0 turn ?_ fun _ _ _ _ _ h=>h.elim
 intro D' C s' H' m' I' q' hn hC h1 h2' h3 h4
 show wpAny _ X.A (assign (.Name y py) X.env (.ref D')) _ _ _
 refine wpAny_assign_Name (jja (v:=.ref D') I' hN hy hx rfl (fun s'' I'' hch=>?_) hf)
 obtain⟨a,hsa,ha⟩:=hch
 have hCa:C≠a:=by
  rcases ha with z|z
  ·rw[z];exact h1
  ·exact Ne.symm (h3 _ _ z)
 refine⟨m',hn.sameBut hsa hCa,fun h' hsb=>?_⟩
 exact⟨_,H',I''.turned (t':=s''.toks) (it:=C) (fun b o hb e=>hsb.extBut b o hb e) hC h1 (.inr h2') h3 h4,q'⟩
noncomputable def Its (z:Str):It:=⟨fun i _=>i<z.cps.size,fun i H x H'=>H'=H/\∃c,z.cps[i]?=some c/\x=.str ⟨#[c]⟩,fun i _=>z.cps.size<=i⟩
theorem jqY {P:Program} {w:World} {K:PySem.W.Frag} {tg:Expr} (it:Addr) (z:Str) (t:Tok) (ty:String) (hty:ty = "str_ascii_iterator"∨ty = "str_iterator"):Turn P w K tg (Its z) [it] it (fun i h=>h.IsStrIter it ty z t i) where
 mem:=by simp
 obj:=fun i h st b hb=>by
  have e:b=it:=by simpa using hb
  subst e
  obtain⟨o,e,c,d⟩:=st
  exact⟨o,e,fun v z=>by rw[d]at z;cases z⟩
 keep:=fun i h h' st k=>by
  obtain⟨o,e,c,d⟩:=st
  exact⟨o,k it (by simp) o e,c,d⟩
 item:=by
  intro X hP hw hK hc i pins s σ H E I hf st hg
  subst hP hw hK
  have hg':i<z.cps.size:=hg
  have hx:z.cps[i]?=some z.cps[i]:=by simp[hg']
  obtain⟨f0,f1,f2,f3,f4,f5⟩:=hf it (by simp)
  have fin:∀h',h'.IsStrIter it ty z t (i+1)->Heap.SameBut it s.heap h'->∃u,some (Value.str ⟨#[z.cps[i]]⟩ s.toks)=some u /\
    wpAny (model X.prog X.w) X.A (letOwnedTupleGo tg (.ref it) u) (fun _ s2=>∃x H',Inv X pins σ H' s2/\ja3 x u/\(Its z).yld i H x H'/\s2.heap.IsStrIter it ty z t (i+1)/\∀b∈[it],H' b=none) E {s with heap:=h',toks:=s.toks+1}:=fun h' st' sb=>by
   have I1:Inv X pins σ H {s with heap:=h',toks:=s.toks+1}:=I.turned (fun b o hb e=>(sb.2 b hb).trans e) f0 f1 f3 f4 f5
   obtain⟨o,e,c,d⟩:=id st'
   refine⟨_,rfl,jq2 (s:={s with heap:=h',toks:=s.toks+1}) e c d ?_ ⟨.str ⟨#[z.cps[i]]⟩,H,I1,⟨_,rfl⟩,⟨rfl,_,hx,rfl⟩,st',fun b hb=>(hf b hb).1⟩⟩
   rcases hty with q|q<;>rw[q]<;>decide
  rcases hty with q|q
  ·subst q
   exact wpAny_pyNext_ascii_item st hx fin
  ·subst q
   exact wpAny_pyNext_wide_item st hx fin
 done:=by
  intro X hP hw hK hc i pins s σ H E I hf st hg
  subst hP hw hK
  have hg':z.cps.size<=i:=hg
  have hx:z.cps[i]?=none:=by simp[hg']
  obtain⟨f0,f1,f2,f3,f4,f5⟩:=hf it (by simp)
  rcases hty with q|q
  ·subst q
   exact wpAny_pyNext_ascii_end (I.ok.hd hc) st hx fun h' eb=>⟨rfl,I.turned (t':=s.toks) (fun b o hb e=>eb b o hb e) f0 f1 f3 f4 f5⟩
  ·subst q
   exact wpAny_pyNext_wide_end (I.ok.hd hc) st hx fun h' eb=>⟨rfl,I.turned (t':=s.toks) (fun b o hb e=>eb b o hb e) f0 f1 f3 f4 f5⟩
 self:=fun A i s Q E st h=>by
  rcases hty with q|q
  ·subst q;exact wpAny_pyIter_striter_ascii st h
  ·subst q;exact wpAny_pyIter_striter_wide st h
def jAS (tl:TE):TI:=fun σ H R=>tl σ H fun x H1=>∃z,x=.str z/\R (Its z) H1
theorem jvy {tg:Expr}{l:Expr}{tl:TE}(hl:PE X l tl):PI X tg l (jAS tl):=by
 intro pins s σ H R I h
 refine thn (hl pins s σ H _ I h) fun v s1 ⟨x,H1,I1,r1,q1⟩=>?_
 obtain⟨z,e,q⟩:=q1
 subst e
 obtain⟨t,rfl⟩:=r1
 have fin:∀ty,(ty = "str_ascii_iterator"∨ty = "str_iterator")->PIE X pins σ tg R (.ref s1.heap.objs.size) {s1 with heap:=s1.heap.push {cls:=.type ty,data:=.fields #[.str z t,.int 0 0]}}:=fun ty hty=>
  ⟨s1.heap.objs.size,[s1.heap.objs.size],_,_,H1,rfl,I1.kept (t':=s1.toks) fun b o e=>j0c _ e,jqY _ z t ty hty,⟨_,j0o _ rfl,rfl,rfl⟩,fun b hb=>by
   have e:b=s1.heap.objs.size:=by simpa using hb
   subst e
   exact I1.fpOk (j0q _) (I1.hok.fresh (j0q _)),q⟩
 cases ha:z.cps.all (· < 128)
 ·exact wpAny_pyIter_wide ha (fin _ (.inr rfl))
 ·exact wpAny_pyIter_ascii ha (fin _ (.inl rfl))
def jxi (K:PySem.W.Frag):R2:=fun x y H Q=>∃l b xs zs,x=.ref l/\y=.ref b/\SqL K H l xs/\SqL K H b zs/\xs.length+zs.length<=sizeLine/\∀p,H p=none->Q (.ref p) (upd H p (.lst (xs++zs)))
theorem jtD:OpR X (binaryOp .Add) (jxi X.K):=by
 intro pins s σ H x y v u Q I rx ry h
 obtain⟨l,b,xs,zs,rfl,rfl,hH,hB,hz,q⟩:=h
 cases rx
 cases ry
 obtain⟨its,r,pl,z⟩:=I.list hH
 obtain⟨its2,r2,pl2,z2⟩:=I.list hB
 have hl:=r.length
 have hl2:=r2.length
 obtain⟨⟨cls,dd,data,sl⟩,n,ho,hc,_,hd⟩:=pl
 obtain⟨⟨cls2,dd2,data2,sl2⟩,n2,ho2,hc2,_,hd2⟩:=pl2
 simp only at hc hd hc2 hd2
 subst hc hd hc2 hd2
 have e:its.toArray++its2.toArray=(its++its2).toArray:=by simp
 refine concat_meets ⟨_,ho,rfl⟩ ⟨_,ho2,rfl⟩ noFill_list_add seq_list_add PySem.F.slot_list_add PySem.F.entry_list_add (PySem.F.args_list_add_2 _ _) (list_addW l b its.toArray its2.toArray n n2 dd dd2 sl sl2 (by rw[j0j,j0j];omega)) ⟨ho,ho2,?_⟩
 rw[e]
 exact⟨.ref _,_,I.lnew (t':=s.toks) (r.append r2) (by rw[j0p];omega),rfl,q _ I.fresh⟩
noncomputable def jz9:V->Option Int->Option Int->Hp->VK->Prop:=fun x lo hi H Q=>∃z,x=.str z/\z.length<=sizeLine/\Q (.str (Txt.slice z lo hi)) H
theorem jvU:SlR X jz9:=by
 intro pins s σ H x v vl vu lo hi sl Q I rx hs pl pu h
 obtain⟨z,rfl,hz,q⟩:=h
 obtain⟨t,rfl⟩:=rx
 refine⟨"str",_,PySem.F.slot_str_getitem.lookup,typeIs_str _ _ _,?_⟩
 have fin:∀(l u:Option (Int×Tok)),l.map (·.1)=lo->u.map (·.1)=hi->s.heap.IsSlice sl l u none->wpAny (model X.prog X.w) X.A (getItem (.str z t) (.ref sl)) (EP X pins σ Q) X.xe s:=fun l u el eu hs'=>by
  subst el eu
  exact wpAny_getItem_str_slice (l:=l) (u:=u) (st:=none) hs' rfl (post_val_or_str ⟨j0H (Txt.slice_le z _ _) hz,fun t' k=>⟨.str _,H,I.tok _,⟨_,rfl⟩,q⟩⟩)
 cases pl with
 |none=>
  cases pu with
  |none=>exact fin none none rfl rfl hs
  |int j tj=>exact fin none (some (j,tj)) rfl rfl hs
 |int i ti=>
  cases pu with
  |none=>exact fin (some (i,ti)) none rfl rfl hs
  |int j tj=>exact fin (some (i,ti)) (some (j,tj)) rfl rfl hs
theorem jhF:∀{ys:List Str} {us:List Value},jaR (ys.map V.str) us->StrsAre us ys
 |[],_,.nil=>.nil
 |y::ys,_,.cons ⟨t,e⟩ r=>by
  subst e
  exact .cons y t (jhF r)
noncomputable def jxP (K:PySem.W.Frag):V->List V->Hp->VK->Prop:=fun x xs H Q=>∃z p ys,x=.str z/\xs=[.ref p]/\SqL K H p (ys.map V.str)/\(ys.map (·.length)).sum+ys.length*z.length<=16777216/\Q (.str (Txt.join z ys)) H
theorem ju4:MtR X "str.join" (jxP X.K):=by
 intro pins s σ H x xs v us Q I rx rv h
 obtain⟨z,p,ys,rfl,rfl,hq,hz,q⟩:=h
 obtain⟨t,rfl⟩:=rx
 obtain⟨u,rfl,ru⟩:=rv.one
 cases ru
 obtain⟨its,r,pl,hl⟩:=I.list hq
 exact join_list pl.isList (by simpa using jhF r) hz fun t' k=>⟨.str _,H,I.tok _,⟨_,rfl⟩,q⟩
theorem jr:jbK X (.builtin "all") (fun xs H Q=>X.calm=true/\∃(p:Addr) (bs:List Bool),xs=[.ref p]/\SqL X.K H p (bs.map V.bl)/\Q (.bl (bs.all id)) H):=by
 intro pins s σ H xs us Q I r h
 obtain⟨hc,p,bs,rfl,hq,q⟩:=h
 obtain⟨u,rfl,rx⟩:=jgc r
 cases rx
 obtain⟨its,r',pl,hz⟩:=I.list hq
 have hl:=pl.isList
 have hlt:p<s.heap.objs.size:=by obtain⟨_,e,_⟩:=hl;exact j0h e
 have hlen:=r'.length
 rw[j0f]at hlen
 refine call_all_walk (wpAny_pyIter_list hl ?_)
 refine⟨s.heap.objs.size,_,_,_,_,_,fun i=>bs.getD i true,rfl,Walks.list (A:=X.A.in1) (I.ok.hd hc) s.heap.objs.size p (j0k hlt) its.toArray,⟨⟨_,j0o _ rfl,rfl,rfl⟩,hl.push _⟩,?_,fun h' tk hk=>?_⟩
 ·intro i v s' Q' E' hP hQ'
  have hP':its[i]?=some v:=by simpa using hP
  have hi:i<bs.length:=by rw[hlen];exact(j0r.mp hP').1
  obtain⟨u',hu,ru⟩:=r'.get (i:=i) (x:=V.bl bs[i]) (by simp[hi])
  rw[hP']at hu
  cases hu
  cases(show v=Value.bool bs[i]from ru)
  have e:bs.getD i true=bs[i]:=by simp[List.getD,hi]
  exact wpAny_truthy_bool (by rw[<- e];exact hQ')
 ·have e:(List.range its.toArray.size).all (fun i=>bs.getD i true)=bs.all id:=by
   rw[j0j,<- hlen,j0V,j0D,j0D]
   constructor
   ·intro a b hb
    obtain⟨i,hi,e⟩:=List.mem_iff_getElem.mp hb
    have:=a i (by simpa using hi)
    simpa[List.getD,hi,e]using this
   ·intro a i hi
    have hi':i<bs.length:=by simpa using hi
    have:=a bs[i] (List.getElem_mem hi')
    simpa[List.getD,hi']using this
  rw[e]
  exact⟨.bl _,H,(I.kept (t':=s.toks) (h':=s.heap.push {cls:=.type "list_iterator",data:=.fields #[.ref p,.int 0 0]}) fun b o e=>j0c _ e).turned (t':=tk) (it:=s.heap.objs.size) (fun b o hb e=>hk b o (by simpa using hb) e) I.fresh
   (Ne.symm (j0k I.lt)) (.inr I.sz) (fun x c h z=>by
    obtain⟨v,o,ho,_⟩:=I.cell x c h
    exact jfx (j0h ho) (j0q _) z) fun p hp z=>jfx (j0h (I.pin p hp).1) (j0q _) z,rfl,q⟩
theorem joK:OpR X (compareOp .LtE) (fun x y H Q=>∃i j,x=.str i/\y=.str j/\Q (.bl (!decide (j.cps.toList<i.cps.toList))) H):=by
 intro pins s σ H x y v u Q I rx ry h
 obtain⟨i,j,rfl,rfl,q⟩:=h
 obtain⟨t,rfl⟩:=rx
 obtain⟨t',rfl⟩:=ry
 exact PySem.P.le_str ⟨.bl _,H,I,rfl,q⟩
end
theorem jrM:bootBuiltins "len" =some (.builtin "len"):=by decide +kernel
theorem jwr:bootBuiltins "all" =some (.builtin "all"):=by decide +kernel
theorem jxt:bootBuiltins "max" =some (.builtin "max"):=by decide +kernel
theorem jwM:bootBuiltins "min" =some (.builtin "min"):=by decide +kernel
theorem jfs:bootBuiltins "isinstance" =some (.builtin "isinstance"):=by decide +kernel
theorem jrH:bootBuiltins "int" =some (.type "int"):=by decide +kernel
theorem jr7:bootBuiltins "str" =some (.type "str"):=by decide +kernel
theorem jue:bootBuiltins "bool" =some (.type "bool"):=by decide +kernel
theorem jvf:bootBuiltins "list" =some (.type "list"):=by decide +kernel
theorem jiT:bootBuiltins "tuple" =some (.type "tuple"):=by decide +kernel
theorem jw5:bootBuiltins "set" =some (.type "set"):=by decide +kernel
theorem jj0:bootBuiltins "enumerate" =some (.type "enumerate"):=by decide +kernel
theorem jsS:bootBuiltins "dict" =some (.type "dict"):=by decide +kernel
structure Callee (P:Program) (w:World) (K:PySem.W.Frag) (mg:Str->Option Value) (base:Heap) (k:Nat) (x:Str) (ps:List Str) (sp:Sp):Prop where
 ex:∃(f:Addr) (fd:FuncData),FnOk P w K mg base CX0 k f fd ps sp/\mg x=some (.ref f)/\PySem.W.keepIn K (.ref f)=true/\jfR K fd ps []
section
variable {X:Cx}
theorem jyW {k j:Nat}{x:Str}{ps:List Str}{sp:Sp}{e:Expr}{es:List Expr}{t:TA}{p pos:Pos}(c:Callee X.prog X.w X.K X.mg X.base k x ps sp)(hr:Room j X.A)(hg:Gl X x)(ha:PA X (e::es) t)(hk:k<=j:=by decide)
  (hd:(x==("__debug__" : Str))=false:=by decide) (hs:starEach (e::es) X.env=(false,eval e X.env)::starEach es X.env:=by rfl) (hplain:(backTo pos (starEach es X.env)).any (·.1)=false:=by rfl):PE X (.Call (.Name x p) (e::es) [] pos) (jvc sp [] E0 t):=by
 obtain⟨f,fd,F,hm,hkp,hb⟩:=c.ex
 exact jn5 (hdb:=hd) (he:=hs) (hpl:=hplain) F (hr.mono hk) hg hm hkp hb .nil jzl ha
noncomputable def csB (N:List Str)(env:Env)(own N':List Str)(scope:Scope):Bool:=
 scope.kind==.function&&scope.names.all (fun y=>y.2 !=.cell)&&scope.names.all (fun y=>y.2 !=.local||scope.names.lookup y.1==some .local) &&
 scope.names.all (fun y=>y.2 !=.free||env.kindOf y.1==some .cell||env.kindOf y.1==some .free)&&N'.length==own.length+N.length &&
 ((N'.drop own.length).zip N).all (fun p=>p.1==p.2||!(scope.names.contains (p.1,NameKind.free)))&&(N'.drop own.length).all (fun x=>(relabel scope env).names.lookup x !=some .local)
theorem cs {own N':List Str}{scope:Scope}(h:csB X.N X.env own N' scope=true):CompScope X own N' scope:=by
 unfold csB at h
 simp only[j0a]at h
 obtain⟨⟨⟨⟨⟨⟨h1,h2⟩,h3⟩,h4⟩,h5⟩,h6⟩,h7⟩:=h
 have hlen:N'.length=own.length+X.N.length:=by simpa using h5
 refine⟨by simpa using h1,fun y hy=>?_,fun y hy hl=>?_,fun y hy hf=>?_,hlen,fun i x hx hf=>?_,fun x hx=>?_⟩
 ·have:=j0D.mp h2 y hy
  simpa using this
 ·have:=j0D.mp h3 y hy
  simpa[hl]using this
 ·have:=j0D.mp h4 y hy
  simpa[hf]using this
 ·have hi:i<(N'.drop own.length).length:=(j0r.mp hx).1
  have hi':i<X.N.length:=by rw[j1o]at hi;omega
  have hz:((N'.drop own.length).zip X.N)[i]?=some (x,X.N[i]):=by
   rw[List.getElem?_zip_eq_some]
   exact⟨hx,by simp[hi']⟩
  have:=j0D.mp h6 _ (j0C hz)
  have hc:scope.names.contains (x,NameKind.free)=true:=by simpa using hf
  rw[hc]at this
  have e:x=X.N[i]:=by simpa using this
  rw[e]
  simp[hi']
 ·have:=j0D.mp h7 x hx
  simpa using this
end
theorem jfA.upd {H H':Hp}{p:Addr}{o:HO}(e:jfA H H')(h:H' p=none):jfA H (upd H' p o):=fun b u q=>by
 have q':=e b u q
 rw[jar (jaq q' h)]
 exact q'
theorem jfA.tup {K:PySem.W.Frag}{H H':Hp}{a:Addr}{xs:List V}(e:jfA H H')(h:SqT K H a xs):SqT K H' a xs:=by
 rcases h with(h|⟨o,h⟩)|h
 ·exact .inl (.inl (e _ _ h))
 ·exact .inl (.inr ⟨o,e _ _ h⟩)
 ·exact .inr h
theorem jlF:∀{l:List Str},(∀y∈l,y.length=1)->(l.map (·.length)).sum=l.length
 |[],_=>rfl
 |y::l,h=>by
  rw[j0i,List.sum_cons,h y j02,jlF fun z hz=>h z (j09 _ hz),j0b]
  omega
noncomputable def spLaw (K:PySem.W.Frag):Sp:=fun vs H Q _=>∃(a:Addr) (ns:List Int),vs=[.ref a]/\SqL K H a (ns.map V.int)/\ns.length<=63/\∀H',Q (.bl true) H'
section
variable {X:Cx}
structure Maker (P:Program) (w:World) (K:PySem.W.Frag) (mg:Str->Option Value) (base:Heap) (k:Nat) (x:Str) (C:Addr) (ps:List Str) (sp:Sp):Prop where
 ex:∃(f:Addr) (fd:FuncData),Mk K C f/\FnOk P w K mg base CX0 k f fd ps sp/\mg x=some (.ref C)/\jfR K fd ps []
noncomputable def jiV (σ:List Str)(v:Str):List Str:=if v∈σ then σ else σ++[v]
noncomputable def ddS (xs:List Str):List Str:=xs.foldl jiV []
theorem jli (σ:List Str)(v:Str):(jiV σ v).length=if decide (v∈σ)=true then σ.length else σ.length+1:=by
 unfold jiV
 by_cases h:v∈σ<;>simp[h]
theorem jpz (σ:List Str)(v k:Str):decide (k∈jiV σ v)=(decide (k∈σ)||decide (k=v)):=by
 unfold jiV
 by_cases h:v∈σ
 ·rw[if_pos h,j0V]
  simp only[j1x,decide_eq_true_eq]
  exact⟨.inl,fun z=>z.elim id fun e=>e▸h⟩
 ·rw[if_neg h,j0V]
  simp only[j1x,decide_eq_true_eq,j03,j04]
theorem jpX (xs:List Str)(i:Nat)(v:Str)(h:xs[i]?=some v):ddS (xs.take (i+1))=jiV (ddS (xs.take i)) v:=by
 unfold ddS
 rw[List.take_add_one,h,Option.toList_some,List.foldl_append]
 rfl
theorem jtP (σ:List Str)(v:Str):(jiV σ v).length<=σ.length+1:=by
 rw[jli]
 split<;>omega
theorem jkN:∀(xs σ:List Str),(xs.foldl jiV σ).length<=σ.length+xs.length
 |[],σ=>j0q _
 |x::xs,σ=>by
  have h1:=jkN xs (jiV σ x)
  have h2:=jtP σ x
  rw[List.foldl_cons,j0b]
  omega
theorem jsg (xs:List Str):(ddS xs).length<=xs.length:=by
 have:=jkN xs []
 simpa[ddS]using this
theorem jhO:∀(xs σ:List Str),(σ++xs).Nodup->xs.foldl jiV σ=σ++xs
 |[],σ,_=>by simp
 |x::xs,σ,h=>by
  have hx:x∉σ:=fun hm=>by
   rw[List.nodup_append]at h
   exact h.2.2 x hm x j02 rfl
  rw[List.foldl_cons]
  have e:jiV σ x=σ++[x]:=by
   unfold jiV
   rw[if_neg hx]
  rw[e,jhO xs (σ++[x]) (by simpa using h)]
  simp
theorem jm0 {xs:List Str}(h:xs.Nodup):(ddS xs).length=xs.length:=by
 unfold ddS
 rw[jhO xs [] (by simpa using h)]
 simp
theorem jg3 {P:Program}{W:World}{g g':Heap}{D:Addr}{f:Str->Bool}{n:Nat}(h:g.SetOf (strKind P W) D f n)(k:∀o,g.get? D=some o->g'.get? D=some o):g'.SetOf (strKind P W) D f n:=
 match h with
 |⟨o,es,ep,tb,at_,r⟩=>⟨o,es,ep,tb,k _ at_,r⟩
theorem jpH {P:Program}{W:World}{B:Around}{R:Result->Shared->Prop}{src:Addr}{fp wr:List Addr}{zs:List Str}{Pv:Nat->Value->Prop}{Sx:Nat->Heap->Prop}(Wk:Walks P W B.in1 src fp wr zs.length Pv Sx)(D:Addr)(out:D∉fp)(texts:∀j v,Pv j v->∃z t,zs[j]?=some z/\v=.str z t)(few:zs.length+1<scanBound)(left:Nat) :
  ∀(j:Nat) (t:Shared),zs.length - j=left->j<=zs.length->Sx j t.heap->t.heap.SetOf (strKind P W) D (fun z=>decide (z∈ddS (zs.take j))) (ddS (zs.take j)).length ->
   (∀g tk,(∀b o,b≠D->b∉wr->t.heap.get? b=some o->g.get? b=some o)->g.SetOf (strKind P W) D (fun z=>decide (z∈ddS zs)) (ddS zs).length->R (.ok (.ret .none)) {t with heap:=g,toks:=tk}) ->
   codeAny (model P W) B (.builtin "set.update.loop" ⟨[.ref D,.ref src],[]⟩) R t:=by
 have outw:D∉wr:=fun z=>out (Wk.sub _ z)
 induction left with
 |zero=>
  intro j t he hj here lies fin
  obtain rfl:j=zs.length:=by omega
  rw[List.take_length]at lies
  refine codeAny_builtin PyProof.Rows.F.entry_set_update_loop ?_
  rw[Around.under_plainId j1e _]
  refine(wpAny_bind (Wk.done t _ _ here fun g tk kp=>?_):wpAny _ B.in1 (pyNext (.ref src) >>=_) _ _ t)
  show wpAny (model P W) B.in1 (ret Value.none) _ _ _
  exact wpAny_pure (fin g tk (fun b o _ nw e=>kp b o nw e) (jg3 lies fun o e=>kp D o outw e))
 |succ left ih=>
  intro j t he hj here lies fin
  refine codeAny_builtin PyProof.Rows.F.entry_set_update_loop ?_
  rw[Around.under_plainId j1e _]
  refine(wpAny_bind (Wk.item j t _ _ (by omega) here fun v g1 tk1 hv here1 kp1=>?_):wpAny _ B.in1 (pyNext (.ref src) >>=_) _ _ t)
  obtain⟨z,tz,hz,rfl⟩:=texts j v hv
  have size:=jsg (zs.take j)
  rw[j0n]at size
  refine(wpAny_bind (wpAny_holding ?_):wpAny _ B.in1 (holding [Value.str z tz] (setAdd D (.str z tz)) >>=_) _ _ _)
  unfold setAdd
  refine wpAny_holding (wpAny_bind ((strKind P W).pyHash (k:=z) (strKind_is _ _ _ _) ?_))
  refine wpAny_setAddHashed_of (knd:=strKind P W) (s:={t with heap:=g1,toks:=tk1+1}) (strKind_is _ _ _ _) rfl (jg3 lies fun o e=>kp1 D o outw e) (by omega) fun g2 only lies2=>?_
  have lies3:g2.SetOf (strKind P W) D (fun y=>decide (y∈ddS (zs.take (j+1)))) (ddS (zs.take (j+1))).length:=by
   rw[jpX zs j z hz,jli,show(fun y=>decide (y∈jiV (ddS (zs.take j)) z))=fun y=>decide (y∈ddS (zs.take j))||decide (y=z)from funext fun y=>jpz _ _ _]
   exact lies2
  exact wpAny_pure ⟨plainId_quiet j1e _,ih (j+1) _ (by omega) (by omega) (Wk.frame _ _ _ here1 fun b hb o e=>(only.2 b fun q=>out (q▸hb)).trans e) lies3 fun g tk kp lies4=>fin g tk (fun b o nd nw e=>kp b o nd nw ((only.2 b nd).trans (kp1 b o nw e))) lies4⟩
noncomputable def jv1 (P:Program)(w:World)(a:Addr)(n:Nat):HO:=.ext fun h=>∃S,h.SetOf (strKind P w) a S n
theorem jiB:jbK X (.builtin "len") (fun xs H Q=>∃(p:Addr) (n:Nat),xs=[.ref p]/\H p=some (jv1 X.prog X.w p n)/\n<=1000/\Q (.int n) H):=by
 intro pins s σ H xs us Q I r h
 obtain⟨p,n,rfl,hp,hn,q⟩:=h
 obtain⟨u,rfl,rx⟩:=jgc r
 cases rx
 obtain⟨⟨S,o,es,ep,t,ho,hex,hd,hel,hmem,hbd,hf,hz⟩,_,_⟩:=I.hok p _ hp
 exact call_len_set ho hex hd hf (by omega) ⟨.int n,H,I.tok _,⟨_,by rw[hz]⟩,q⟩
end
section
variable {X:Cx}
section
variable {prog:Program} {w:World} {A:Around} {R:Result->Shared->Prop} {I:Addr} {fp wr:List Addr}
end
end
noncomputable def jip (N:List Str)(sc:Scope)(i:Nat)(x:Str):Bool:=
 N[i]?==some x&&(sc.names.lookup x==some .local||sc.names.lookup x==some .cell||sc.names.lookup x==some .free)&&!(x==("__debug__" : Str))&&!(x==("__classdict__" : Str))
noncomputable def jgP (N:List Str)(sc:Scope)(i:Nat)(x:Str):Bool:=N[i]?==some x&&(sc.names.lookup x==some .local||sc.names.lookup x==some .cell)
noncomputable def jpN (N:List Str)(sc:Scope)(i:Nat)(x:Str):Bool:=N[i]?==some x&&sc.names.lookup x==some .local
noncomputable def jb0 (sc:Scope)(x:Str):Bool:=sc.names.lookup x==some .globalImplicit&&!(x==("__debug__" : Str))&&!(x==("__name__" : Str))
noncomputable def jaG:Expr->Bool
 |.Starred ..=>false
 |_=>true
theorem jau {e:Expr}{es:List Expr}{env:Env}(h:jaG e=true):starEach (e::es) env=(false,eval e env)::starEach es env:=by
 cases e<;>first|rfl|cases h
noncomputable def notComp:Expr->Bool
 |.ListComp ..=>false
 |.SetComp ..=>false
 |.DictComp ..=>false
 |_=>true
theorem jc7 {e:Expr}{t:Option Expr}{l:Nat}{env:Env}(h:notComp e=true):swapsWith e t l env=pure false:=by
 cases e<;>first|rfl|cases h
section
variable {X:Cx}
theorem pvk (i:Nat){x:Str}{pos:Pos}(h:jip X.N X.env.scope i x=true):PE X (.Name x pos) (jAl i):=by
 unfold jip at h
 simp only[j0a,j1x,beq_iff_eq,j0B]at h
 obtain⟨⟨⟨h1,h2⟩,h3⟩,h4⟩:=h
 refine jyp h1 ?_ h3 h4
 rcases h2 with(h2|h2)|h2
 ·exact .inl h2
 ·exact .inr (.inl h2)
 ·exact .inr (.inr h2)
theorem jcb {i:Nat}{x:Str}(h:jgP X.N X.env.scope i x=true):X.N[i]?=some x/\Loc X.env.scope x:=by
 unfold jgP at h
 simp only[j0a,j1x,beq_iff_eq]at h
 exact h
theorem jgR {i:Nat}{x:Str}(h:jpN X.N X.env.scope i x=true):X.N[i]?=some x/\X.env.scope.names.lookup x=some .local:=by
 unfold jpN at h
 simp only[j0a,beq_iff_eq]at h
 exact h
theorem jas {x:Str}(h:jb0 X.env.scope x=true):Gl X x/\(x==("__debug__" : Str))=false/\x≠"__name__":=by
 unfold jb0 at h
 simp only[j0a,beq_iff_eq,j0B]at h
 obtain⟨⟨h1,h2⟩,h3⟩:=h
 exact⟨h1,h2,fun z=>by rw[z]at h3;simp at h3⟩
theorem jid {i:Nat}{x:Str}{e:Expr}{te:TE}{pos pos':Pos}(hN:X.N.Nodup)(h:jgP X.N X.env.scope i x=true)(he:PE X e te)(hs:notComp e=true:=by rfl)(hf:X.fn x=true:=by rfl) :
  PS X (.Assign [.Name x pos'] e pos) (jvm te (je6 i)):=jr2 hN (jcb h).1 (jcb h).2 he (jc7 hs) (.inl hf)
theorem jrk {i:Nat}{x:Str}{pos:Pos}(hN:X.N.Nodup)(h:jgP X.N X.env.scope i x=true)(hf:X.fn x=true:=by rfl):PG X (.Name x pos) (je6 i):=joX hN (jcb h).1 (jcb h).2 (.inl hf)
theorem jul {i:Nat}{x:Str}{pos:Pos}(hN:X.N.Nodup)(h:jpN X.N X.env.scope i x=true):PG X (.Name x pos) (je6 i):=joX hN (jgR h).1 (.inl (jgR h).2) (.inr (jgR h).2)
theorem pac {e:Expr}{es:List Expr}{te:TE}{t:TA}(ha:PE X e te)(hr:PA X es t)(h:jaG e=true:=by rfl):PA X (e::es) (jnT te t):=jbD ha hr (jau h)
noncomputable def jag (es:List Expr):Bool:=es.all jaG
theorem jbA:∀{es:List Expr} {env:Env} {pos:Pos},jag es=true->(backTo pos (starEach es env)).any (·.1)=false
 |[],_,_,_=>rfl
 |e::es,env,pos,h=>by
  unfold jag at h
  simp only[j0S,j0a]at h
  rw[jau h.1]
  show(false||(backTo pos (starEach es env)).any (·.1))=false
  rw[Bool.false_or]
  exact jbA h.2
theorem jvI {k j:Nat}{x:Str}{ps:List Str}{sp:Sp}{e:Expr}{es:List Expr}{t:TA}{p pos:Pos}(c:Callee X.prog X.w X.K X.mg X.base k x ps sp)(hr:Room j X.A)(hg:jb0 X.env.scope x=true)(ha:PA X (e::es) t)(hk:k<=j:=by decide)(hst:jag (e::es)=true:=by rfl) :
  PE X (.Call (.Name x p) (e::es) [] pos) (jvc sp [] E0 t):=by
 have h1:=hst
 unfold jag at h1
 simp only[j0S,j0a]at h1
 exact jyW c hr (jas hg).1 ha hk (jas hg).2.1 (jau h1.1) (jbA h1.2)
theorem jdd {x:Str}{id:String}{r:List V->Hp->VK->Prop}{e:Expr}{es:List Expr}{t:TA}{p pos:Pos}(hc:jbK X (.builtin id) r)(hg:jb0 X.env.scope x=true)(hm:X.mg x=none)(hv:bootBuiltins x=some (.builtin id))(ha:PA X (e::es) t)(hst:jag (e::es)=true:=by rfl) :
  PE X (.Call (.Name x p) (e::es) [] pos) (tCB r t):=by
 have h1:=hst
 unfold jag at h1
 simp only[j0S,j0a]at h1
 exact jp4 hc (jas hg).1 hm hv ha (jas hg).2.2 (jas hg).2.1 (jau h1.1) (jbA h1.2)
theorem jfL {x:Str}{T:String}{r:List V->Hp->VK->Prop}{e:Expr}{es:List Expr}{t:TA}{p pos:Pos}(hc:jbK X (.type T) r)(hg:jb0 X.env.scope x=true)(hm:X.mg x=none)(hv:bootBuiltins x=some (.type T))(ha:PA X (e::es) t)(hst:jag (e::es)=true:=by rfl) :
  PE X (.Call (.Name x p) (e::es) [] pos) (tCB r t):=by
 have h1:=hst
 unfold jag at h1
 simp only[j0S,j0a]at h1
 exact joW hc (jas hg).1 hm hv ha (jas hg).2.2 (jas hg).2.1 (jau h1.1) (jbA h1.2)
theorem jfm {x:Str}{v:V}{u:Value}{pos:Pos}(hg:jb0 X.env.scope x=true)(hm:X.mg x=some u)(r:ja3 v u):PE X (.Name x pos) (tC v):=jkI (jas hg).1 hm r (jas hg).2.1
theorem jlD {x:Str}{v:V}{u:Value}{pos:Pos}(hg:jb0 X.env.scope x=true)(hm:X.mg x=none)(hv:bootBuiltins x=some u)(r:ja3 v u):PE X (.Name x pos) (tC v):=js9 (jas hg).1 hm hv r (jas hg).2.2 (jas hg).2.1
theorem jmI {tg:Expr} {a:Expr} {ta:TA} {p pos:Pos} (hg:jb0 X.env.scope "range" =true) (hm:X.mg "range" =none) (ha:PA X [a] ta) (hs:jaG a=true:=by rfl):PI X tg (.Call (.Name "range" p) [a] [] pos) (jxl ta):=joN (jas hg).1 hm ha (jau hs)
theorem jmn {tg:Expr} {a b:Expr} {ta:TA} {p pos:Pos} (hg:jb0 X.env.scope "range" =true) (hm:X.mg "range" =none) (ha:PA X [a,b] ta) (hs:jag [a,b]=true:=by rfl):PI X tg (.Call (.Name "range" p) [a,b] [] pos) (jvH ta):=by
 have h1:=hs
 unfold jag at h1
 simp only[j0S,j0a]at h1
 refine jo0 (jas hg).1 hm ha ?_ (jau h1.2.1)
 rw[jau h1.1,jau h1.2.1]
 rfl
end
noncomputable def jgg (scope sc:Scope):Scope:=
 {scope with names:=scope.names.map fun(n,k)=>if(k==.free&&sc.kind==.function&&sc.names.lookup n==some .cell)then(n,.cell)else(n,k)}
theorem jn3 (scope:Scope)(env:Env):relabel scope env=jgg scope env.scope:=rfl
noncomputable def jyD (N:List Str)(sc:Scope)(own N':List Str)(scope:Scope):Bool:=
 scope.kind==.function&&scope.names.all (fun y=>y.2 !=.cell)&&scope.names.all (fun y=>y.2 !=.local||scope.names.lookup y.1==some .local) &&
 scope.names.all (fun y=>y.2 !=.free||sc.names.lookup y.1==some .cell||sc.names.lookup y.1==some .free)&&N'.length==own.length+N.length &&
 ((N'.drop own.length).zip N).all (fun p=>p.1==p.2||!(scope.names.contains (p.1,NameKind.free)))&&(N'.drop own.length).all (fun x=>(jgg scope sc).names.lookup x !=some .local)
theorem csk {X:Cx}{own N':List Str}{scope:Scope}(h:jyD X.N X.env.scope own N' scope=true):CompScope X own N' scope:=cs h
structure QE (X:Cx) (e:Expr) (t:TE):Prop where
 h:PE X e t
structure QT (X:Cx) (e:Expr) (t:TT):Prop where
 h:PT X e t
structure QW (X:Cx) (e:Expr) (t:TT):Prop where
 h:PW X e t
structure QA (X:Cx) (es:List Expr) (t:TA):Prop where
 h:PA X es t
structure QS (X:Cx) (st:Stmt) (t:TS):Prop where
 h:PS X st t
structure QSs (X:Cx) (st:List Stmt) (t:TS):Prop where
 h:PSs X st t
structure QG (X:Cx) (tg:Expr) (t:TG):Prop where
 h:PG X tg t
structure QGs (X:Cx) (ts:List Expr) (t:TGs):Prop where
 h:PGs X ts t
structure QI (X:Cx) (tg iter:Expr) (wi:TI):Prop where
 h:PI X tg iter wi
structure QO (X:Cx) (e:Option Expr) (t:TO):Prop where
 h:PO X e t
structure QTs (X:Cx) (es:List Expr) (t:TT):Prop where
 h:PTs X es t
abbrev jAh:TA:=fun _ H Q=>Q [] H
abbrev jy1 (ta:TE) (tr:TA):TA:=fun σ H Q=>ta σ H fun x H1=>tr σ H1 fun xs H2=>Q (x::xs) H2
abbrev nC (v:V):TE:=fun _ H Q=>Q v H
abbrev nCB (r:List V->Hp->VK->Prop) (t:TA):TE:=fun σ H Q=>t σ H fun vs H1=>r vs H1 Q
noncomputable def jn7:Expr->Bool
 |.UnaryOp .Not ..=>false
 |.BoolOp ..=>false
 |.IfExp ..=>false
 |.Compare ..=>false
 |_=>true
theorem jpo {a:Expr}{env:Env}(h:jn7 a=true):∀whole,isTrue a env whole=(do let v <- whole;standAt a.pos;holding [v] (truthy v)):=by
 intro whole
 cases a with
 |UnaryOp op x p=>cases op<;>first|rfl|cases h
 |_=>first|rfl|cases h
noncomputable def jei:Expr->Bool
 |.Set ..=>false
 |_=>true
theorem jd3 {e:Expr}{env:Env}(h:jei e=true):∀x,foldedSetIterable e env x=pure x:=by
 intro x
 cases e<;>first|rfl|cases h
noncomputable def jbs:Expr->Bool
 |.Call ..=>false
 |_=>true
theorem jov {e:Expr}{f:Str}{env:Env}(h:jbs e=true):attributeBase e f env (eval e env)=eval e env:=by
 cases e<;>first|rfl|cases h
theorem jgq {e:Expr}{es:List Expr}{env:Env}(h:jaG e=true):assignEach (e::es) env=(false,assign e env)::assignEach es env:=by
 cases e<;>first|rfl|cases h
theorem jj9:∀{es:List Expr} {env:Env},jag es=true->(assignEach es env).length=es.length/\(assignEach es env).findIdx? (·.1)=none
 |[],_,_=>⟨rfl,rfl⟩
 |e::es,env,h=>by
  unfold jag at h
  simp only[j0S,j0a]at h
  obtain⟨h1,h2⟩:=jj9 (es:=es) (env:=env) h.2
  rw[jgq h.1,j0b,j0b,h1]
  exact⟨rfl,by rw[List.findIdx?_cons];simp[h2]⟩
theorem jrN {e:Expr}{es:List Expr}{env:Env}{cpos:Pos}(h:jag (e::es)=true)(hl:es.length<28):((backTo cpos (starEach (e::es) env)).all (fun x=>!x.1)&&(backToKw cpos (keywordEach [] env)).all (fun x=>x.1.isSome)
   && decide ((e::es).length+([]:List Keyword).length+(if([]:List Keyword).isEmpty then 0 else 1)<30))=true:=by
 have h1:=jbA (env:=env) (pos:=cpos) h
 have h2:(backTo cpos (starEach (e::es) env)).all (fun x=>!x.1)=true:=by
  rw[j0D]
  intro x hx
  rw[List.any_eq_false]at h1
  have:=h1 x hx
  simpa using this
 rw[h2]
 have h3:(backToKw cpos (keywordEach [] env)).all (fun x=>x.1.isSome)=true:=rfl
 rw[h3]
 simp
 omega
section
variable {X:Cx} {a b c e:Expr} {es:List Expr} {ta tb tc te:TE} {tA tB:TT} {t:TA} {pos p:Pos}
theorem jwf {i:Int}{j:Nat}:QE X (.Constant (.int i) j pos) (nC (.int i)):=⟨jxT⟩
theorem jy7 {b:Bool}{j:Nat}:QE X (.Constant (.bool b) j pos) (nC (.bl b)):=⟨jrf⟩
theorem jwL {j:Nat}:QE X (.Constant .none j pos) (nC .non):=⟨jvN⟩
theorem jxY {x:Str}{j:Nat}:QE X (.Constant (.str x) j pos) (nC (.str x)):=⟨jxr⟩
theorem js1 {x:Str}{v:V}{u:Value}(hg:jb0 X.env.scope x=true)(hm:X.mg x=none)(hv:bootBuiltins x=some u)(r:ja3 v u):QE X (.Name x pos) (nC v):=⟨jlD hg hm hv r⟩
theorem jzd {op:UnaryOp}{r:V->Hp->VK->Prop}(ho:UnR X (unaryOp op) r)(ha:QE X a ta):QE X (.UnaryOp op a pos) (tUn r ta):=⟨jzi ho ha.h⟩
theorem jrX {op:CmpOp}{r:R2}(ho:OpR X (compareOp op) r)(ha:QE X a ta)(hb:QE X b tb)(hm:behindInMarks op b=false:=by first|exact jmO _|with_unfolding_all rfl):QE X (.Compare a [op] [b] pos) (tOp r ta tb):=⟨jnm ho ha.h hb.h hm⟩
theorem jsd {op:CmpOp}{r:R2}(ho:OpR X (compareOp op) r)(ha:QE X a ta)(hb:QE X b tb)(hm:behindInMarks op b=false:=by first|exact jmO _|with_unfolding_all rfl):QT X (.Compare a [op] [b] pos) (jps (tOp r ta tb)):=⟨juk ho ha.h hb.h hm⟩
theorem jqG {op op':CmpOp}{r r':R2}(ho:OpR X (compareOp op) r)(ho':OpR X (compareOp op') r')(ha:QE X a ta)(hb:QE X b tb)(hc:QE X c tc)(hm:lastMarks [op,op'] [b,c]=false:=by with_unfolding_all rfl):QE X (.Compare a [op,op'] [b,c] pos) (jiX r r' ta tb tc):=⟨jqb ho ho' ha.h hb.h hc.h hm⟩
theorem jqN {op op':CmpOp}{r r':R2}(ho:OpR X (compareOp op) r)(ho':OpR X (compareOp op') r')(ha:QE X a ta)(hb:QE X b tb)(hc:QE X c tc)(hm:lastMarks [op,op'] [b,c]=false:=by with_unfolding_all rfl):QT X (.Compare a [op,op'] [b,c] pos) (jps (jiX r r' ta tb tc)):=⟨jqP ho ho' ha.h hb.h hc.h hm⟩
theorem jrQ {op:BoolOp}(h:QE X a ta):QE X (.BoolOp op [a] pos) ta:=⟨jwy h.h⟩
theorem jrI {rest:List Expr}(ha:QE X a ta)(hb:QE X (.BoolOp .And (b::rest) pos) tb):QE X (.BoolOp .And (a::b::rest) pos) (jtU ta tb):=⟨jy ha.h hb.h⟩
theorem jvu {rest:List Expr}(ha:QE X a ta)(hb:QE X (.BoolOp .Or (b::rest) pos) tb):QE X (.BoolOp .Or (a::b::rest) pos) (jzT ta tb):=⟨jzz ha.h hb.h⟩
theorem jxA (ha:QE X a ta):QE X (.UnaryOp .Not a pos) (jvw ta):=⟨jwP ha.h⟩
theorem jsG (ha:QT X a tA):QW X (.BoolOp .And [a] pos) tA:=⟨juh ha.h⟩
theorem jvS (ha:QT X a tA):QW X (.BoolOp .Or [a] pos) tA:=⟨jxI ha.h⟩
theorem jse {rest:List Expr}(ha:QT X a tA)(hb:QW X (.BoolOp .And (b::rest) pos) tB):QW X (.BoolOp .And (a::b::rest) pos) (jzc tA tB):=⟨jvQ ha.h hb.h⟩
theorem jwp {rest:List Expr}(ha:QT X a tA)(hb:QW X (.BoolOp .Or (b::rest) pos) tB):QW X (.BoolOp .Or (a::b::rest) pos) (tOr tA tB):=⟨jy6 ha.h hb.h⟩
theorem jv6 (ha:QT X a tA):QT X (.UnaryOp .Not a pos) (jAq tA):=⟨jvB ha.h⟩
theorem jxR (ha:QE X a ta)(h:jn7 a=true:=by rfl):QT X a (fun σ H Q=>ta σ H fun x H'=>∃k,jwV X.K x H' k/\Q k H'):=⟨jp6 ha.h (jpo h)⟩
theorem jqe (hc:QT X c tA)(ha:QE X a ta)(hb:QE X b tb):QE X (.IfExp c a b pos) (tIf tA ta tb):=⟨jre hc.h ha.h hb.h⟩
theorem jx8:QA X [] jAh:=⟨jcG⟩
theorem jtq (ha:QE X e te)(hr:QA X es t)(h:jaG e=true:=by rfl):QA X (e::es) (jy1 te t):=⟨pac ha.h hr.h h⟩
theorem jqH {x:Str}{id:String}{r:List V->Hp->VK->Prop}(hc:jbK X (.builtin id) r)(hg:jb0 X.env.scope x=true)(hm:X.mg x=none)(hv:bootBuiltins x=some (.builtin id))(ha:QA X (e::es) t)(hst:jag (e::es)=true:=by rfl):QE X (.Call (.Name x p) (e::es) [] pos) (nCB r t):=⟨jdd hc hg hm hv ha.h hst⟩
theorem jmN {x:Str}{T:String}{r:List V->Hp->VK->Prop}(hc:jbK X (.type T) r)(hg:jb0 X.env.scope x=true)(hm:X.mg x=none)(hv:bootBuiltins x=some (.type T))(ha:QA X (e::es) t)(hst:jag (e::es)=true:=by rfl):QE X (.Call (.Name x p) (e::es) [] pos) (nCB r t):=⟨jfL hc hg hm hv ha.h hst⟩
theorem jm6 {o:Expr} {to:TE} {name:Str} {apos cpos:Pos} {T id:String} {r:V->List V->Hp->VK->Prop} (pa:PlainAttrs T) (slot:Slot T name id) (hty:typeOf (.builtin id)=pure (.type "method_descriptor")) (hm:MtR X id r) (ho:QE X o to) (ha:QA X (e::es) t)
  (hb:jbs o=true:=by rfl) (hst:jag (e::es)=true:=by rfl) (hl:es.length<28:=by decide) (hline:(apos.endLine==cpos.line)=true:=by rfl):QE X (.Call (.Attribute o name apos) (e::es) [] cpos) (tBM X.K T r to t):=by
 have h1:=hst
 unfold jag at h1
 simp only[j0S,j0a]at h1
 exact⟨jzP pa slot hty hm ho.h ha.h (jov hb) (jrN hst hl) hline (jau h1.1) (jbA h1.2)⟩
end
section
variable {P:Program} {w:World} {K:PySem.W.Frag} {mg:Str->Option Value} {base:Heap}
theorem Fun.okQ {x qual:Str}{st:Stmt}{f:Addr}{fd:FuncData}{N ps:List Str}{k:Nat}{sp:Sp}(F:Fun K x qual st f fd)(S:FnScope N ps (ja st))(len:∀vs H Q E,sp vs H Q E->vs.length=ps.length)
  (hbody:∀(cdv:Value) (A:Around) (outer:List Env) (s:Shared) (H:Hp) (vs:List V) (Q:VK) (E:XK),Room k (A.deeper (envOfC qual (ja st) s.heap.objs.size f cdv))->sp vs H Q E ->
   ∃t,QSs (jiu CX0 P w K mg base N qual (ja st) f cdv A outer s H E).nox (jap st) t/\t {nx:=fun _ H'=>Q .non H',rt:=Q} (_L2.start N vs) H):FnOk P w K mg base CX0 (k+1) f fd ps sp:=
 F.ok S len fun cdv A outer s H vs Q E hr h=>let⟨t,ht,q⟩:=hbody cdv A outer s H vs Q E hr h;⟨t,ht.h,q⟩
end
def Trk (H:Hp)(a:Addr)(xs:List V):Prop:=H a=some (.lst xs)∨H a=some (.tup xs)
theorem Trk.ty {K:PySem.W.Frag}{H:Hp}{a:Addr}{xs:List V}(h:Trk H a xs):TyOf K H (.ref a) (.type "list")∨TyOf K H (.ref a) (.type "tuple"):=h.elim (fun h=>.inl (.lst h)) fun h=>.inr (.tup h)
section
variable {X:Cx}
end
def Lop (J:It)(g:TG)(tb:TS)(D:Ends)(σ:_L2.St)(H:Hp):Prop:=∃W:Nat->Nat->_L2.St->Hp->Prop,(∃m,W 0 m σ H)/\∀i m σ H,W i m σ H ->
   (J.stop i H/\D.nx σ H)∨(J.go i H/\∃N:_L2.St->Hp->Prop,(∀σ' H',N σ' H'->∃m',m'<m/\W (i+1) m' σ' H')/\∀x H',J.yld i H x H'->g x σ H' fun σ2 H2=>tb {D with nx:=N,ct:=N,bk:=D.nx} σ2 H2)
def jvO {α:Type}(f:α->List V)(H:Hp)(v:V)(x:α):Prop:=∃p,v=.ref p/\H p=some (.tup (f x))
theorem jju {α:Type}{xs:List α}{i:Nat}{x:α}(h:xs[i]?=some x):xs.take (i+1)=xs.take i++[x]:=by
 rw[List.take_add_one,h]
 rfl
section
variable {X:Cx} {K:PySem.W.Frag} {a b e:Expr} {es:List Expr} {ta tb te:TE} {t:TA} {pos p:Pos}
end
noncomputable def EqS (H:Hp):Nat->V->V->Prop
 |0,x,y=>x=y/\(jer x=true∨∃p,x=.ref p)
 |n+1,x,y=>(x=y/\(jer x=true∨∃p,x=.ref p))∨∃a b xs ys,x=.ref a/\y=.ref b/\((H a=some (.tup xs)/\H b=some (.tup ys))∨(H a=some (.lst xs)/\H b=some (.lst ys)))/\Paired (EqS H n) xs ys
theorem EqS.ref {H:Hp}{n:Nat}{p:Addr}:EqS H n (.ref p) (.ref p):=by
 cases n with
 |zero=>exact⟨rfl,.inr ⟨p,rfl⟩⟩
 |succ n=>exact .inl ⟨rfl,.inr ⟨p,rfl⟩⟩
theorem jiS {x:V}(h:jer x=true):eqV x x=true:=by
 cases x with
 |non=>rfl
 |bl b=>simp[eqV]
 |int i=>simp[eqV]
 |str z=>simp[eqV]
 |_=>exact absurd (show false=true from h) j0g
section
variable {X:Cx} {pins:List (Addr×Obj)} {σ:_L2.St} {H:Hp} {s:Shared}
theorem jmV {A:Around}{x:V}{u v:Value}(h:jer x=true∨∃p,x=.ref p)(r:ja3 x u)(r':ja3 x v):SeqAt.EqAt A s u v true:=by
 rcases h with h|⟨p,rfl⟩
 ·have:=jo2 (A:=A) (s:=s) r r' h h
  rw[jiS h]at this
  exact this
 ·cases r
  cases r'
  exact SeqAt.EqAt.same _
theorem jdY {F:V->V->Prop}:∀{xs ys:List V} {us vs:List Value},Paired F xs ys->jaR xs us->jaR ys vs->us.length=vs.length/\∀(j:Nat) (h1:j<us.length) (h2:j<vs.length),∃x y,F x y/\ja3 x us[j]/\ja3 y vs[j]
 |_,_,_,_,.nil,.nil,.nil=>⟨rfl,fun j h1=>absurd h1 (Nat.not_lt_zero _)⟩
 |_,_,_,_,.cons f t,.cons r rs,.cons r' rs'=>by
  obtain⟨e,h⟩:=jdY t rs rs'
  refine⟨congrArg (· + 1) e,fun j h1 h2=>?_⟩
  cases j with
  |zero=>exact⟨_,_,f,r,r'⟩
  |succ j=>exact h j (Nat.lt_of_succ_lt_succ h1) (Nat.lt_of_succ_lt_succ h2)
theorem jgn (n:Nat):(List.range n).all (fun _=>true)=true:=by simp
theorem jlI (I:Inv X pins σ H s):∀(n:Nat) {A:Around} {x y:V} {u v:Value},A.units+n<cLine->EqS H n x y->ja3 x u->ja3 y v->SeqAt.EqAt A s u v true
 |0,A,x,y,u,v,hu,⟨e,h⟩,r,r'=>by subst e;exact jmV h r r'
 |n+1,A,x,y,u,v,hu,.inl ⟨e,h⟩,r,r'=>by subst e;exact jmV h r r'
 |n+1,A,x,y,u,v,hu,.inr ⟨a,b,xs,ys,ea,eb,h,hp⟩,r,r'=>by
  subst ea eb
  cases r
  cases r'
  by_cases hne:a=b
  ·subst hne
   exact SeqAt.EqAt.same _
  have hu1:A.units<cLine:=by omega
  rcases h with⟨h1,h2⟩|⟨h1,h2⟩
  ·obtain⟨its,rv,p,_⟩:=I.tuple (SqT.of h1)
   obtain⟨its2,rv2,p2,_⟩:=I.tuple (SqT.of h2)
   obtain⟨el,hj⟩:=jdY hp rv rv2
   have:=SeqAt.RcAt.tuples (A:=A) (e:=fun _=>true) (show s.heap.IsTuple a its.toArray from p) (show s.heap.IsTuple b its2.toArray from p2) hu1 (fun j h1 h2=>by
    obtain⟨x,y,f,r1,r2⟩:=hj j (by simpa using h1) (by simpa using h2)
    have:=jlI I n (A:=A.in1) (by rw[j1p];omega) f r1 r2
    simpa using this)
   rw[jgn,j0L,show(its.toArray.size==its2.toArray.size)=true by simp[el]]at this
   exact SeqAt.EqAt.of_refs hne this
  ·obtain⟨its,rv,p,_⟩:=I.list (SqL.of h1)
   obtain⟨its2,rv2,p2,_⟩:=I.list (SqL.of h2)
   obtain⟨el,hj⟩:=jdY hp rv rv2
   have:=SeqAt.RcAt.lists (A:=A) (e:=fun _=>true) p.isList p2.isList (by simp[el]) hu1 (fun j h1 h2=>by
    obtain⟨x,y,f,r1,r2⟩:=hj j (by simpa using h1) (by simpa using h2)
    have:=jlI I n (A:=A.in1) (by rw[j1p];omega) f r1 r2
    simpa using this)
   rw[jgn]at this
   exact SeqAt.EqAt.of_refs hne this
end
def jzW (b:Bool):R2:=fun x y H Q=>∃a c xs ys,x=.ref a/\y=.ref c/\((H a=some (.tup xs)/\H c=some (.tup ys))∨(H a=some (.lst xs)/\H c=some (.lst ys)))/\Paired (EqS H 8) xs ys/\Q (.bl b) H
section
variable {X:Cx}
theorem jxU (hu:X.A.units+16<cLine):OpR X (compareOp .Eq) (jzW true):=by
 intro pins s σ H x y v u Q I rx ry h
 obtain⟨a,c,xs,ys,rfl,rfl,h,hp,q⟩:=h
 cases rx
 cases ry
 rcases h with⟨h1,h2⟩|⟨h1,h2⟩
 ·obtain⟨its,rv,p,_⟩:=I.tuple (SqT.of h1)
  obtain⟨its2,rv2,p2,_⟩:=I.tuple (SqT.of h2)
  obtain⟨el,hj⟩:=jdY hp rv rv2
  have:=SeqAt.RcAt.tuples (A:=X.A) (e:=fun _=>true) (show s.heap.IsTuple a its.toArray from p) (show s.heap.IsTuple c its2.toArray from p2) (by omega) (fun j h1 h2=>by
   obtain⟨x,y,f,r1,r2⟩:=hj j (by simpa using h1) (by simpa using h2)
   have:=jlI I 8 (A:=X.A.in1) (by rw[j1p];omega) f r1 r2
   simpa using this)
  rw[jgn,j0L,show(its.toArray.size==its2.toArray.size)=true by simp[el]]at this
  exact this _ _ _ _ ⟨.bl true,H,I,rfl,q⟩
 ·obtain⟨its,rv,p,_⟩:=I.list (SqL.of h1)
  obtain⟨its2,rv2,p2,_⟩:=I.list (SqL.of h2)
  obtain⟨el,hj⟩:=jdY hp rv rv2
  have:=SeqAt.RcAt.lists (A:=X.A) (e:=fun _=>true) p.isList p2.isList (by simp[el]) (by omega) (fun j h1 h2=>by
   obtain⟨x,y,f,r1,r2⟩:=hj j (by simpa using h1) (by simpa using h2)
   have:=jlI I 8 (A:=X.A.in1) (by rw[j1p];omega) f r1 r2
   simpa using this)
  rw[jgn]at this
  exact this _ _ _ _ ⟨.bl true,H,I,rfl,q⟩
end
theorem jhb {H:Hp}:∀{xs:List V},(∀x∈xs,jer x=true∨∃p,x=.ref p)->Paired (EqS H 8) xs xs
 |[],_=>.nil
 |x::xs,h=>.cons (.inl ⟨rfl,h x (by simp)⟩) (jhb fun y hy=>h y (by simp[hy]))
section
variable {X:Cx}
end
theorem jfG {α:Type}{f:α->List V}{G G':Hp}(ht:∀p xs,G p=some (.tup xs)->G' p=some (.tup xs)):∀{us:List V} {xs:List α},Paired (jvO f G) us xs->Paired (jvO f G') us xs
 |_,_,.nil=>.nil
 |_,_,.cons ⟨p,e,hp⟩ t=>.cons ⟨p,e,ht _ _ hp⟩ (jfG ht t)
theorem jhL {α β:Type}{F:α->β->Prop}:∀{us ws:List α} {xs ys:List β},Paired F us xs->Paired F ws ys->Paired F (us++ws) (xs++ys)
 |_,_,_,_,.nil,h=>h
 |_,_,_,_,.cons r t,h=>.cons r (jhL t h)
def Lst {α:Type}(f:α->List V)(H:Hp)(a:Addr)(xs:List α):Prop:=∃us,H a=some (.lst us)/\Paired (jvO f H) us xs
theorem jlp {H:Hp}{l:Addr}{zs:List V}{o:HO}(hl:H l=some (.lst zs)):∀p xs,H p=some (.tup xs)->upd H l o p=some (.tup xs):=fun p xs hp=>by
 have:p≠l:=fun e=>by rw[e,hl]at hp;cases hp
 rw[jar this]
 exact hp
theorem Lst.more {α:Type}{f:α->List V}{H:Hp}{a:Addr}{us ws:List V}{xs ys:List α}(h:H a=some (.lst us))(h1:Paired (jvO f H) us xs)(h2:Paired (jvO f H) ws ys):Lst f (upd H a (.lst (us++ws))) a (xs++ys):=
 ⟨_,jaF,jhL (jfG (jlp h) h1) (jfG (jlp h) h2)⟩
section
variable {X:Cx}
theorem js:bootBuiltins "zip" =some (.type "zip"):=by decide +kernel
end
section
variable {X:Cx}
end
def sAt (b:Bool)(h:Heap)(l:Addr)(xs:Array Value):Prop:=match b with|false=>h.IsList l xs|true=>h.IsTuple l xs
def iAt (b:Bool)(h:Heap)(it l:Addr)(i:Nat):Prop:=match b with|false=>h.IsListIter it l i|true=>h.IsTupleIter it l i
noncomputable def jd9 (b:Bool)(l:Addr):Obj:={cls:=.type (match b with|false=>"list_iterator" |true=>"tuple_iterator"),data:=.fields #[.ref l,.int 0 0]}
theorem jge {b:Bool}{l:Addr}{h:Heap}{it:Addr}(g:h.get? it=some (jd9 b l)):iAt b h it l 0:=by
 cases b<;>exact⟨_,g,rfl,rfl⟩
theorem iAt.keep {b:Bool}{h h':Heap}{it l:Addr}{i:Nat}(x:iAt b h it l i)(k:∀o,h.get? it=some o->h'.get? it=some o):iAt b h' it l i:=by
 cases b
 ·exact Heap.IsListIter.at x k
 ·exact Heap.IsTupleIter.at x k
theorem iAt.obj {b:Bool}{h:Heap}{it l:Addr}{i:Nat}(x:iAt b h it l i):∃o,h.get? it=some o/\∀v,o.data≠.cell v:=by
 cases b<;>(obtain⟨o,g,_,d⟩:=x;exact⟨o,g,fun v z=>by rw[d]at z;cases z⟩)
theorem sAt.keep {b:Bool}{h h':Heap}{l:Addr}{xs:Array Value}(x:sAt b h l xs)(k:∀o,h.get? l=some o->h'.get? l=some o):sAt b h' l xs:=by
 cases b<;>(obtain⟨o,g,r⟩:=x;exact⟨o,k o g,r⟩)
theorem sAt.obj {b:Bool}{h:Heap}{l:Addr}{xs:Array Value}(x:sAt b h l xs):∃o,h.get? l=some o:=by
 cases b<;>(obtain⟨o,g,_⟩:=x;exact⟨o,g⟩)
section
variable {prog:Program} {w:World} {A:Around} {E:Value->Shared->Prop} {s:Shared} {it l:Addr} {i:Nat} {items:Array Value} {b:Bool}
theorem jn1 {M:Model}{o:Obj}{fs:Array Value}{k:Nat}{v:Value}{Q:Unit->Shared->Prop}(ho:s.heap.get? it=some o)(hd:o.data=.fields fs)
  (q:Q () {s with heap:=s.heap.update it (Obj.mapFields (·.setIfInBounds k v))}) (hj:k<fs.size):wpAny M A (setField (.ref it) k v) Q E s:=wpAny_setField ho hd hj q
theorem jsM {h:Heap} {ob:Obj} (gi:h.get? it=some ob) (ci:ob.cls=.type "tuple_iterator") (di:ob.data=.fields #[.ref l,.int (i:Int) 0]) :
  (h.update it (Obj.mapFields (·.setIfInBounds 1 (rawInt ((i:Int)+1))))).IsTupleIter it l (i+1):=by
 have dn:=Obj.data_mapFields di (·.setIfInBounds 1 (rawInt ((i:Int)+1)))
 refine⟨_,Heap.get?_update_self (Obj.mapFields (·.setIfInBounds 1 (rawInt ((i:Int)+1)))) gi (Obj.isFreed_of_fields dn),?_,?_⟩
 ·rw[Obj.cls_mapFields,ci]
 ·rw[dn]
  simp[rawInt]
theorem jrw {Q:Value->Shared->Prop}{x:Value}(hit:s.heap.IsTupleIter it l i)(hl:s.heap.IsTuple l items)(hx:items[i]?=some x)
  (q:∀h',h'.IsTupleIter it l (i+1)->Heap.SameBut it s.heap h'->Q x {s with heap:=h'}):wpAny (model prog w) A (Builtin.SmallTypes.nextOf (.ref it)) Q E s:=by
 have ty:s.TypeIs (.ref it) "tuple_iterator":=let⟨o,g,c,_⟩:=hit;⟨o,g,c⟩
 obtain⟨ob,gi,ci,di⟩:=id hit
 obtain⟨ol,gl,_,nl,dl⟩:=hl
 have after:=jsM (i:=i) gi ci di
 unfold Builtin.SmallTypes.nextOf
 refine wpAny_bind (wpAny_callSpecial?_slot (name:=Str.ofString "__next__") ty j1m (wpAny_call_entry j1m ty F.entry_tuple_iterator_next ?_ (F.args_tuple_iterator_next_1 _)))
 wp_walk using wpAny_field gi di (x:=.ref l) rfl,wpAny_field gi di (x:=.int (i:Int) 0) rfl,wpAny_seqItems gl dl
 rw[j1s,hx]
 dsimp only
 wp_walk using jn1 gi di
 ·exact⟨_,rfl,wpAny_pure (q _ after (Heap.SameBut.update ..))⟩
 ·show 1<2;decide
theorem jjs {Q:Value->Shared->Prop}(hh:A.handled=none)(hit:s.heap.IsTupleIter it l i)(hl:s.heap.IsTuple l items)(hx:items[i]?=none)
  (q:∀h' x,Heap.ExtBut it s.heap h'->(∃o,h'.get? x=some o/\o.cls=.type "StopIteration")->E (.ref x) {s with heap:=h'}):wpAny (model prog w) A (Builtin.SmallTypes.nextOf (.ref it)) Q E s:=by
 have ty:s.TypeIs (.ref it) "tuple_iterator":=let⟨o,g,c,_⟩:=hit;⟨o,g,c⟩
 obtain⟨ob,gi,ci,di⟩:=id hit
 obtain⟨ol,gl,_,nl,dl⟩:=hl
 have hh1:A.in1.handled=none:=hh
 unfold Builtin.SmallTypes.nextOf
 refine wpAny_bind (wpAny_callSpecial?_slot (name:=Str.ofString "__next__") ty j1m (wpAny_call_entry j1m ty F.entry_tuple_iterator_next ?_ (F.args_tuple_iterator_next_1 _)))
 wp_walk using wpAny_field gi di (x:=.ref l) rfl,wpAny_field gi di (x:=.int (i:Int) 0) rfl,wpAny_seqItems gl dl
 rw[j1s,hx]
 dsimp only
 wp_walk using jn1 gi di
 ·(try unfold raiseNew)
  wp_walk
  exact q _ _ (((Heap.SameBut.update ..).extBut.push _).push _) ⟨_,j0o _ rfl,rfl⟩
 ·show 0<2;decide
theorem jvp {Q:Value->Shared->Prop}{x:Value}(hit:iAt b s.heap it l i)(hl:sAt b s.heap l items)(hx:items[i]?=some x)
  (q:∀h',iAt b h' it l (i+1)->Heap.SameBut it s.heap h'->Q x {s with heap:=h'}):wpAny (model prog w) A (Builtin.SmallTypes.nextOf (.ref it)) Q E s:=by
 cases b
 ·exact wpAny_nextOf_list_item hit hl hx q
 ·exact jrw hit hl hx q
theorem jgr {Q:Value->Shared->Prop}(hh:A.handled=none)(hit:iAt b s.heap it l i)(hl:sAt b s.heap l items)(hx:items[i]?=none)
  (q:∀h' x,Heap.ExtBut it s.heap h'->(∃o,h'.get? x=some o/\o.cls=.type "StopIteration")->E (.ref x) {s with heap:=h'}):wpAny (model prog w) A (Builtin.SmallTypes.nextOf (.ref it)) Q E s:=by
 cases b
 ·exact wpAny_nextOf_list_end hh hit hl hx q
 ·exact jjs hh hit hl hx q
theorem jjJ {Q:Value->Shared->Prop}(hl:sAt b s.heap l items)(q:Q (.ref s.heap.objs.size) {s with heap:=s.heap.push (jd9 b l)}):wpAny (model prog w) A (pyIter (.ref l)) Q E s:=by
 cases b
 ·exact wpAny_pyIter_list hl q
 ·exact wpAny_pyIter_tuple hl q
end
theorem joS {prog:Program}{w:World}{A:Around}{b:Bool}(hh:A.handled=none)(it l:Addr)(hne:l≠it)(items:Array Value) :
  Draws prog w A it [it,l] items.size (fun i v=>items[i]?=some v) (fun i h=>iAt b h it l i/\sAt b h l items) where
 live:=fun _ _ st=>let⟨o,g,_⟩:=st.1.obj;⟨o,g⟩
 frame:=fun _ _ _ st k=>⟨st.1.keep fun o e=>k it (by simp) o e,st.2.keep fun o e=>k l (by simp) o e⟩
 item:=fun i s Q E hi st q=>jvp st.1 st.2 (x:=items[i]) (by simp[hi]) fun h' a c=>q _ h' s.toks (by simp[hi]) ⟨a,st.2.keep fun o e=>c.extBut _ _ hne e⟩ c
 done:=fun s Q E st q=>jgr hh st.1 st.2 (by simp) q
theorem jkr (l:Addr)(items:Array Value)(n:Nat)(dc:Option Addr)(sl:Array (Option Value)) :
  Meets (Builtin.«enumerate.__new__» ⟨[.type "enumerate",.ref l],[]⟩) (fun _ R s=>s.heap.get? l=some {cls:=.type "tuple",dict:=dc,data:=.seq items n,slots:=sl} /\
   R (.ok (.ret (.ref (s.heap.push (jd9 true l)).objs.size))) {s with heap:=(s.heap.push (jd9 true l)).push {cls:=.type "enumerate",data:=.fields #[.none,.bool false,.ref s.heap.objs.size,rawInt 0,.none,.none]}}):=by
 refine .of_wp ?_
 rintro prog w A R ⟨hp,g,d,tk,os⟩ ⟨hl,q⟩
 have sub:=sub_enumerate
 have ht:sAt true (Shared.heap ⟨hp,g,d,tk,os⟩) l items:=⟨_,hl,rfl,n,rfl⟩
 wp_walk using AutoSeq1.wpAny_loadPart' hl
 refine wpAny_stack_any fun st=>wpAny_pure ?_
 split
 case h_1 c _ _ _ _ _=>cases(c==Value.type "enumerate")<;>(wp_walk using AutoSeq1.wpAny_loadPart' hl,jjJ ht;exact⟨_,rfl,q⟩)
 case h_2=>wp_walk using AutoSeq1.wpAny_loadPart' hl,jjJ ht;exact⟨_,rfl,q⟩
section
variable {prog:Program} {w:World} {A:Around} {E:Value->Shared->Prop} {s:Shared} {l:Addr} {items:Array Value} {b:Bool}
theorem jj5 {Q:Value->Shared->Prop}(hl:sAt b s.heap l items)
  (q:∀h',IsEnum h' (s.heap.objs.size+1) s.heap.objs.size 0 .none->iAt b h' s.heap.objs.size l 0->(∀c o,s.heap.get? c=some o->h'.get? c=some o)->Q (.ref (s.heap.objs.size+1)) {s with heap:=h'}) :
  wpAny (model prog w) A (call (.type "enumerate") [.ref l]) Q E s:=by
 cases b
 ·exact call_enumerate_list hl fun h' a c _ k=>q h' a c k
 ·obtain⟨⟨c,dc,dt,sl⟩,g,hc,n,hd⟩:=hl
  cases hc
  cases hd
  refine callType_new F.called_enumerate (by decide) (F.typeCall_enumerate_1 _) (F.newCall_enumerate_1 _) (fun o=>F.args_object_init_2 o _) F.entry_enumerate_new (jkr l items n dc sl) ⟨g,?_⟩
  have z:(s.heap.push (jd9 true l)).objs.size=s.heap.objs.size+1:=Heap.size_push ..
  have ge:=j0o (s.heap.push (jd9 true l)) (o:={cls:=.type "enumerate",data:=.fields #[.none,.bool false,.ref s.heap.objs.size,rawInt 0,.none,.none]}) rfl
  rw[z]at ge
  show _/\_
  rw[z]
  exact⟨⟨_,ge,rfl⟩,q _ ge (jge (j0c _ (j0o _ rfl))) fun c o x=>j0c _ (j0c _ x)⟩
theorem jpJ {h0 hB:Heap}{a c:Value}(zB:hB.objs.size=h0.objs.size+2) :
  ((hB.push {cls:=.type "tuple",data:=.seq #[a,c]}).push {cls:=.type "tuple",data:=.seq #[.none,.none]}).objs.size=h0.objs.size+4 /\
  IsZip (((hB.push {cls:=.type "tuple",data:=.seq #[a,c]}).push {cls:=.type "tuple",data:=.seq #[.none,.none]}).push {cls:=.type "zip",data:=.fields #[.none,.bool false,.bool false,.ref hB.objs.size,.ref (hB.push {cls:=.type "tuple",data:=.seq #[a,c]}).objs.size]}) (h0.objs.size+4) (h0.objs.size+2) (h0.objs.size+3) .none /\
  IsPair (((hB.push {cls:=.type "tuple",data:=.seq #[a,c]}).push {cls:=.type "tuple",data:=.seq #[.none,.none]}).push {cls:=.type "zip",data:=.fields #[.none,.bool false,.bool false,.ref hB.objs.size,.ref (hB.push {cls:=.type "tuple",data:=.seq #[a,c]}).objs.size]}) (h0.objs.size+2) a c /\
  IsPair (((hB.push {cls:=.type "tuple",data:=.seq #[a,c]}).push {cls:=.type "tuple",data:=.seq #[.none,.none]}).push {cls:=.type "zip",data:=.fields #[.none,.bool false,.bool false,.ref hB.objs.size,.ref (hB.push {cls:=.type "tuple",data:=.seq #[a,c]}).objs.size]}) (h0.objs.size+3) .none .none /\
  ∀d o,hB.get? d=some o->(((hB.push {cls:=.type "tuple",data:=.seq #[a,c]}).push {cls:=.type "tuple",data:=.seq #[.none,.none]}).push {cls:=.type "zip",data:=.fields #[.none,.bool false,.bool false,.ref hB.objs.size,.ref (hB.push {cls:=.type "tuple",data:=.seq #[a,c]}).objs.size]}).get? d=some o:=by
 have zC:(hB.push {cls:=.type "tuple",data:=.seq #[a,c]}).objs.size=h0.objs.size+3:=by rw[Heap.size_push,zB]
 have tC:=j0o hB (o:={cls:=.type "tuple",data:=.seq #[a,c]}) rfl
 have kC:∀d o,hB.get? d=some o->(hB.push {cls:=.type "tuple",data:=.seq #[a,c]}).get? d=some o:=fun d o e=>j0c _ e
 rw[zB]at tC ⊢
 rw[zC]
 generalize hB.push {cls:=.type "tuple",data:=.seq #[a,c]}=hC at zC tC kC ⊢
 have zD:(hC.push {cls:=.type "tuple",data:=.seq #[.none,.none]}).objs.size=h0.objs.size+4:=by rw[Heap.size_push,zC]
 have tD:=j0o hC (o:={cls:=.type "tuple",data:=.seq #[.none,.none]}) rfl
 have kD:∀d o,hC.get? d=some o->(hC.push {cls:=.type "tuple",data:=.seq #[.none,.none]}).get? d=some o:=fun d o e=>j0c _ e
 rw[zC]at tD
 generalize hC.push {cls:=.type "tuple",data:=.seq #[.none,.none]}=hD at zD tD kD ⊢
 have tE:=j0o hD (o:={cls:=.type "zip",data:=.fields #[.none,.bool false,.bool false,.ref (h0.objs.size+2),.ref (h0.objs.size+3)]}) rfl
 rw[zD]at tE
 exact⟨zD,tE,j0c _ (kD _ _ tC),j0c _ tD,fun d o e=>j0c _ (kD _ _ (kC _ _ e))⟩
theorem jpt (b1 b2:Bool)(l1 l2:Addr)(xs ys:Array Value) :
  Meets (Builtin.«zip.__new__» ⟨[.type "zip",.ref l1,.ref l2],[]⟩) (fun _ R s=>sAt b1 s.heap l1 xs/\sAt b2 s.heap l2 ys /\
   ∀h',IsZip h' (s.heap.objs.size+4) (s.heap.objs.size+2) (s.heap.objs.size+3) .none->IsPair h' (s.heap.objs.size+2) (.ref s.heap.objs.size) (.ref (s.heap.objs.size+1))->IsPair h' (s.heap.objs.size+3) .none .none ->
    iAt b1 h' s.heap.objs.size l1 0->iAt b2 h' (s.heap.objs.size+1) l2 0->(∀c o,s.heap.get? c=some o->h'.get? c=some o)->R (.ok (.ret (.ref (s.heap.objs.size+4)))) {s with heap:=h'}):=by
 refine .of_wp ?_
 rintro prog w A R ⟨hp,g,d,tk,os⟩ ⟨h1,h2,q⟩
 have sub:=sub_zip
 have g1:sAt b1 (Shared.heap ⟨hp,g,d,tk,os⟩) l1 xs:=h1
 have g2:sAt b2 (Shared.heap ⟨hp.push (jd9 b1 l1),g,d,tk,os⟩) l2 ys:=sAt.keep h2 fun o e=>j0c _ e
 wp_walk using jjJ g1,jjJ g2
 refine⟨_,rfl,?_⟩
 have z1:(hp.push (jd9 b1 l1)).objs.size=hp.objs.size+1:=Heap.size_push ..
 generalize eA:hp.push (jd9 b1 l1)=hA at *
 have z2:(hA.push (jd9 b2 l2)).objs.size=hp.objs.size+2:=by rw[Heap.size_push,z1]
 have i1:hA.get? hp.objs.size=some (jd9 b1 l1):=by rw[<- eA];exact j0o _ rfl
 have k1:∀c o,hp.get? c=some o->hA.get? c=some o:=fun c o e=>by rw[<- eA];exact j0c _ e
 have i2:(hA.push (jd9 b2 l2)).get? (hp.objs.size+1)=some (jd9 b2 l2):=by rw[<- z1];exact j0o _ rfl
 have k2:∀c o,hA.get? c=some o->(hA.push (jd9 b2 l2)).get? c=some o:=fun c o e=>j0c _ e
 obtain⟨e4,p1,p2,p3,p4⟩:=jpJ (a:=.ref hp.objs.size) (c:=.ref hA.objs.size) z2
 have hq:=q _ p1 (by show IsPair _ _ _ (.ref (hp.objs.size+1));rw[<- z1];exact p2) p3 (jge (p4 _ _ (k2 _ _ i1))) (jge (p4 _ _ i2)) fun c o e=>p4 _ _ (k2 _ _ (k1 _ _ e))
 rw[<- e4]at hq
 exact hq
theorem jhG {b1 b2:Bool}{l1 l2:Addr}{xs ys:Array Value}{Q:Value->Shared->Prop}(h1:sAt b1 s.heap l1 xs)(h2:sAt b2 s.heap l2 ys)
  (q:∀h',IsZip h' (s.heap.objs.size+4) (s.heap.objs.size+2) (s.heap.objs.size+3) .none->IsPair h' (s.heap.objs.size+2) (.ref s.heap.objs.size) (.ref (s.heap.objs.size+1))->IsPair h' (s.heap.objs.size+3) .none .none ->
    iAt b1 h' s.heap.objs.size l1 0->iAt b2 h' (s.heap.objs.size+1) l2 0->(∀c o,s.heap.get? c=some o->h'.get? c=some o)->Q (.ref (s.heap.objs.size+4)) {s with heap:=h'}) :
  wpAny (model prog w) A (call (.type "zip") [.ref l1,.ref l2]) Q E s:=
 callType_new F.called_zip (by decide) (F.typeCall_zip_2 _ _) (F.newCall_zip_2 _ _) (fun o=>F.args_object_init_3 o _ _) F.entry_zip_new (jpt b1 b2 l1 l2 xs ys)
  ⟨h1,h2,fun h' p1 p2 p3 p4 p5 p6=>⟨⟨_,p1,rfl⟩,q h' p1 p2 p3 p4 p5 p6⟩⟩
theorem jp {b1 b2:Bool}{z TI TO i1 i2 l1 l2:Addr}{i:Nat}{xs ys:Array Value}{x y u v:Value}{Q:Option Value->Shared->Prop}(D:ZipApart z TI TO i1 i2 l1 l2)
  (oz:IsZip s.heap z TI TO .none) (oi:IsPair s.heap TI (.ref i1) (.ref i2)) (oo:IsPair s.heap TO u v) (a1:iAt b1 s.heap i1 l1 i) (a2:iAt b2 s.heap i2 l2 i) (s1:sAt b1 s.heap l1 xs) (s2:sAt b2 s.heap l2 ys) (ex:xs[i]?=some x) (ey:ys[i]?=some y)
  (q:∀h',IsZip h' z TI TO (rawInt s.heap.objs.size)->IsPair h' TO x y->iAt b1 h' i1 l1 (i+1)->iAt b2 h' i2 l2 (i+1)->IsPair h' s.heap.objs.size x y ->
   (∀c o,c≠z->c≠TO->c≠i1->c≠i2->s.heap.get? c=some o->h'.get? c=some o)->Q (some (.ref s.heap.objs.size)) {s with heap:=h'}) :
  wpAny (model prog w) A (pyNext (.ref z)) Q E s:=by
 have ty:s.TypeIs (.ref z) "zip":=⟨_,oz,rfl⟩
 unfold pyNext
 refine wpAny_bind (wpAny_attempt (wpAny_callSpecial?_slot (name:=Str.ofString "__next__") ty j1h (wpAny_call_entry j1h ty F.entry_zip_next ?_ (F.args_zip_next_1 _))))
 have fin:∀(w1:Value) (t:Shared),Q (some w1) t->wpAny (model prog w) A (pure (some w1)) Q E t:=fun _ _ z=>wpAny_pure z
 change wpAny _ _ (field (.ref z) 2 >>=_) _ _ _
 refine wpAny_bind (wpAny_field oz rfl (x:=.bool false) rfl ?_)
 change wpAny _ _ (field (.ref z) 3 >>=_) _ _ _
 refine wpAny_bind (wpAny_field oz rfl (x:=.ref TI) rfl (wpAny_bind (wpAny_seqItems oi rfl ?_)))
 change wpAny _ _ (Builtin.SmallTypes.ownedTupleIsFree (.ref z) >>=_) _ _ _
 refine wpAny_bind (wpAny_bind (wpAny_field oz rfl (x:=.none) rfl (wpAny_pure ?_)))
 rw[if_pos rfl]
 refine wpAny_bind (wpAny_rule (wpAny_bind (wpAny_field oz rfl (x:=.ref TO) rfl (wpAny_bind (wpAny_setField_rec oz (by simp) fun hA zA kA=>wpAny_bind ?_)))))
 have zA':IsZip hA z TI TO .ellipsis:=zA
 have nA:hA.objs.size=s.heap.objs.size:=kA.1
 have oA:IsPair hA TO u v:=kA.extBut _ _ D.TOz oo
 have a1A:iAt b1 hA i1 l1 i:=a1.keep fun o e=>kA.extBut _ _ D.i1z e
 have a2A:iAt b2 hA i2 l2 i:=a2.keep fun o e=>kA.extBut _ _ D.i2z e
 have s1A:sAt b1 hA l1 xs:=s1.keep fun o e=>kA.extBut _ _ D.l1z e
 have s2A:sAt b2 hA l2 ys:=s2.keep fun o e=>kA.extBut _ _ D.l2z e
 have keepA:∀c o,c≠z->s.heap.get? c=some o->hA.get? c=some o:=fun c o n e=>kA.extBut _ _ n e
 simp only[List.zipIdx_cons,List.zipIdx_nil,List.forIn_cons,List.forIn_nil]
 refine wpAny_bind (wpAny_bind (wpAny_onRaise ?_))
 change wpAny _ _ (Builtin.SmallTypes.nextOf (.ref i1) >>=_) _ _ _
 refine wpAny_bind (jvp a1A s1A ex fun hB a1B kB=>wpAny_pure ?_)
 have oB:IsPair hB TO u v:=kB.extBut _ _ D.TOi1 oA
 refine wpAny_bind (wpAny_seqItems oB rfl (wpAny_bind (wpAny_updateSeq_pair oB fun hC oC kC=>wpAny_bind (wpAny_letGo (wpAny_pure ?_)))))
 have oC':IsPair hC TO x v:=oC
 have a2C:iAt b2 hC i2 l2 i:=(a2A.keep fun o e=>kB.extBut _ _ D.i12.symm e).keep fun o e=>kC.extBut _ _ D.TOi2.symm e
 have s2C:sAt b2 hC l2 ys:=(s2A.keep fun o e=>kB.extBut _ _ D.l2i1 e).keep fun o e=>kC.extBut _ _ D.l2TO e
 refine wpAny_bind (wpAny_bind (wpAny_onRaise ?_))
 change wpAny _ _ (Builtin.SmallTypes.nextOf (.ref i2) >>=_) _ _ _
 refine wpAny_bind (jvp a2C s2C ey fun hD a2D kD=>wpAny_pure ?_)
 have oD:IsPair hD TO x v:=kD.extBut _ _ D.TOi2 oC'
 refine wpAny_bind (wpAny_seqItems oD rfl (wpAny_bind (wpAny_updateSeq_pair oD fun hE oE kE=>wpAny_bind (wpAny_letGo (wpAny_pure (wpAny_pure ?_))))))
 have oE':IsPair hE TO x y:=oE
 refine wpAny_bind (wpAny_seqItems oE' rfl (wpAny_bind (wpAny_newTuple ?_)))
 have nE:hE.objs.size=s.heap.objs.size:=by rw[kE.1,kD.1,kC.1,kB.1,nA]
 have keepE:∀c o,c≠TO->c≠i1->c≠i2->hA.get? c=some o->hE.get? c=some o:=fun c o c2 c3 c4 e=>kE.extBut _ _ c2 (kD.extBut _ _ c4 (kC.extBut _ _ c2 (kB.extBut _ _ c3 e)))
 have zE:IsZip hE z TI TO .ellipsis:=keepE _ _ D.TOz.symm D.i1z.symm D.i2z.symm zA'
 have a1E:iAt b1 hE i1 l1 (i+1):=a1B.keep fun o e=>kE.extBut _ _ D.TOi1.symm (kD.extBut _ _ D.i12 (kC.extBut _ _ D.TOi1.symm e))
 have a2E:iAt b2 hE i2 l2 (i+1):=a2D.keep fun o e=>kE.extBut _ _ D.TOi2.symm e
 have lz:z<hE.objs.size:=j0h zE
 change wpAny _ _ (Builtin.SmallTypes.ownedTupleHandOut (.ref z) (.ref hE.objs.size) >>=_) _ _ _
 refine wpAny_bind ?_
 unfold Builtin.SmallTypes.ownedTupleHandOut
 have zP:IsZip (hE.push {cls:=.type "tuple",data:=.seq #[x,y]}) z TI TO .ellipsis:=j0c _ zE
 refine wpAny_bind (wpAny_setField_rec zP (by simp) fun hF zF kF=>wpAny_setField_rec (show IsZip hF z TI TO (rawInt hE.objs.size)from zF) (by simp) fun hG zG kG=>?_)
 have zG':IsZip hG z TI TO (rawInt hE.objs.size):=zG
 have keepG:∀c o,c≠z->(hE.push {cls:=.type "tuple",data:=.seq #[x,y]}).get? c=some o->hG.get? c=some o:=fun c o n e=>kG.extBut _ _ n (kF.extBut _ _ n e)
 have up:∀c o,c≠z->hE.get? c=some o->hG.get? c=some o:=fun c o n e=>keepG c o n (j0c _ e)
 have new:IsPair hG hE.objs.size x y:=keepG _ _ (Nat.ne_of_gt lz) (j0o _ rfl)
 rw[nE]at zG' new
 refine wpAny_pure ⟨_,rfl,fin _ _ ?_⟩
 change Q (some (.ref hE.objs.size)) _
 rw[nE]
 exact q hG zG' (up _ _ D.TOz oE') (a1E.keep fun o e=>up _ _ D.i1z e) (a2E.keep fun o e=>up _ _ D.i2z e) new fun c o c1 c2 c3 c4 e=>up c o c1 (keepE c o c2 c3 c4 (keepA c o c1 e))
theorem jr4 {b1 b2:Bool}{z TI TO i1 i2 l1 l2:Addr}{i:Nat}{xs ys:Array Value}{u v:Value}{Q:Option Value->Shared->Prop}(hh:A.handled=none)(D:ZipApart z TI TO i1 i2 l1 l2)
  (oz:IsZip s.heap z TI TO .none) (oi:IsPair s.heap TI (.ref i1) (.ref i2)) (oo:IsPair s.heap TO u v) (a1:iAt b1 s.heap i1 l1 i) (a2:iAt b2 s.heap i2 l2 i) (s1:sAt b1 s.heap l1 xs) (s2:sAt b2 s.heap l2 ys) (ee:xs[i]?=none∨ys[i]?=none)
  (q:∀h',(∀c o,c≠z->c≠TO->c≠i1->c≠i2->s.heap.get? c=some o->h'.get? c=some o)->Q none {s with heap:=h'}) :
  wpAny (model prog w) A (pyNext (.ref z)) Q E s:=by
 have ty:s.TypeIs (.ref z) "zip":=⟨_,oz,rfl⟩
 have hh1:A.in1.handled=none:=hh
 unfold pyNext
 refine wpAny_bind (wpAny_attempt (wpAny_callSpecial?_slot (name:=Str.ofString "__next__") ty j1h (wpAny_call_entry j1h ty F.entry_zip_next ?_ (F.args_zip_next_1 _))))
 have raised:∀(hX hY:Heap) (e:Addr),IsZip hX z TI TO .ellipsis->(∃o,hX.get? e=some o/\o.cls=.type "StopIteration")->(∀c o,c≠z->c≠TO->c≠i1->c≠i2->s.heap.get? c=some o->hX.get? c=some o)->Heap.SameBut z hX hY ->
   (∃o,hY.get? e=some o/\o.cls=.type "StopIteration")/\∀c o,c≠z->c≠TO->c≠i1->c≠i2->s.heap.get? c=some o->hY.get? c=some o:=fun hX hY e zX ⟨o,ho,hc⟩ kX kY=>by
  have ne:e≠z:=fun r=>by
   rw[r,zX]at ho
   cases ho
   simp at hc
  exact⟨⟨o,kY.extBut _ _ ne ho,hc⟩,fun c o c1 c2 c3 c4 r=>kY.extBut _ _ c1 (kX c o c1 c2 c3 c4 r)⟩
 change wpAny _ _ (field (.ref z) 2 >>=_) _ _ _
 refine wpAny_bind (wpAny_field oz rfl (x:=.bool false) rfl ?_)
 change wpAny _ _ (field (.ref z) 3 >>=_) _ _ _
 refine wpAny_bind (wpAny_field oz rfl (x:=.ref TI) rfl (wpAny_bind (wpAny_seqItems oi rfl ?_)))
 change wpAny _ _ (Builtin.SmallTypes.ownedTupleIsFree (.ref z) >>=_) _ _ _
 refine wpAny_bind (wpAny_bind (wpAny_field oz rfl (x:=.none) rfl (wpAny_pure ?_)))
 rw[if_pos rfl]
 refine wpAny_bind (wpAny_rule (wpAny_bind (wpAny_field oz rfl (x:=.ref TO) rfl (wpAny_bind (wpAny_setField_rec oz (by simp) fun hA zA kA=>wpAny_bind ?_)))))
 have zA':IsZip hA z TI TO .ellipsis:=zA
 have oA:IsPair hA TO u v:=kA.extBut _ _ D.TOz oo
 have a1A:iAt b1 hA i1 l1 i:=a1.keep fun o e=>kA.extBut _ _ D.i1z e
 have a2A:iAt b2 hA i2 l2 i:=a2.keep fun o e=>kA.extBut _ _ D.i2z e
 have s1A:sAt b1 hA l1 xs:=s1.keep fun o e=>kA.extBut _ _ D.l1z e
 have s2A:sAt b2 hA l2 ys:=s2.keep fun o e=>kA.extBut _ _ D.l2z e
 simp only[List.zipIdx_cons,List.zipIdx_nil,List.forIn_cons,List.forIn_nil]
 refine wpAny_bind (wpAny_bind (wpAny_onRaise ?_))
 change wpAny _ _ (Builtin.SmallTypes.nextOf (.ref i1) >>=_) _ _ _
 by_cases ex:xs[i]?=none
 ·refine wpAny_bind (jgr hh1 a1A s1A ex fun hX e kX he=>?_)
  have zX:IsZip hX z TI TO .ellipsis:=kX _ _ D.i1z.symm zA'
  refine wpAny_setField_rec zX (by simp) fun hY _ kY=>?_
  obtain⟨⟨o,ho,hc⟩,kk⟩:=raised hX hY e zX he (fun c o c1 _ c3 _ r=>kX _ _ c3 (kA.extBut _ _ c1 r)) kY
  exact wpAny_bind (wpAny_isInstance (T:="StopIteration") (b:=true) ⟨o,ho,hc⟩ isSubtype_stop (wpAny_pure (q _ kk)))
 ·have ey:ys[i]?=none:=ee.resolve_left ex
  obtain⟨x,ex'⟩:∃x,xs[i]?=some x:=Option.ne_none_iff_exists'.mp ex
  refine wpAny_bind (jvp a1A s1A ex' fun hB a1B kB=>wpAny_pure ?_)
  have oB:IsPair hB TO u v:=kB.extBut _ _ D.TOi1 oA
  refine wpAny_bind (wpAny_seqItems oB rfl (wpAny_bind (wpAny_updateSeq_pair oB fun hC oC kC=>wpAny_bind (wpAny_letGo (wpAny_pure ?_)))))
  have a2C:iAt b2 hC i2 l2 i:=(a2A.keep fun o e=>kB.extBut _ _ D.i12.symm e).keep fun o e=>kC.extBut _ _ D.TOi2.symm e
  have s2C:sAt b2 hC l2 ys:=(s2A.keep fun o e=>kB.extBut _ _ D.l2i1 e).keep fun o e=>kC.extBut _ _ D.l2TO e
  refine wpAny_bind (wpAny_bind (wpAny_onRaise ?_))
  change wpAny _ _ (Builtin.SmallTypes.nextOf (.ref i2) >>=_) _ _ _
  refine wpAny_bind (jgr hh1 a2C s2C ey fun hX e kX he=>?_)
  have zX:IsZip hX z TI TO .ellipsis:=kX _ _ D.i2z.symm (kC.extBut _ _ D.TOz.symm (kB.extBut _ _ D.i1z.symm zA'))
  refine wpAny_setField_rec zX (by simp) fun hY _ kY=>?_
  obtain⟨⟨o,ho,hc⟩,kk⟩:=raised hX hY e zX he (fun c o c1 c2 c3 c4 r=>kX _ _ c4 (kC.extBut _ _ c2 (kB.extBut _ _ c3 (kA.extBut _ _ c1 r)))) kY
  exact wpAny_bind (wpAny_isInstance (T:="StopIteration") (b:=true) ⟨o,ho,hc⟩ isSubtype_stop (wpAny_pure (q _ kk)))
end
def SqB (b:Bool)(K:PySem.W.Frag)(H:Hp)(a:Addr)(xs:List V):Prop:=match b with|false=>SqL K H a xs|true=>SqT K H a xs
section
variable {X:Cx} {pins:List (Addr×Obj)} {σ:_L2.St} {H:Hp} {s:Shared} {a:Addr} {xs ys:List V} {b:Bool}
theorem Inv.sqb (I:Inv X pins σ H s)(h:SqB b X.K H a xs):∃its:List Value,jaR xs its/\sAt b s.heap a its.toArray/\xs.length<=sizeLine:=by
 cases b
 ·obtain⟨its,v,p,z⟩:=I.list h
  exact⟨its,v,p.isList,z⟩
 ·obtain⟨its,v,p,z⟩:=I.tuple h
  exact⟨its,v,p,z⟩
theorem Inv.sqb_inj (I:Inv X pins σ H s)(h:SqB b X.K H a xs)(h':SqB b X.K H a ys):xs=ys:=by
 cases b
 ·exact I.list_inj h h'
 ·exact I.tuple_inj h h'
end
noncomputable def jz5 (b:Bool)(K:PySem.W.Frag)(a:Addr):It:=
 ⟨fun i H=>∃xs x,SqB b K H a xs/\xs[i]?=some x,fun i H x H'=>∃p y,x=.ref p/\H p=none/\H'=upd H p (.tup [.int (i:Int),y])/\∀xs,SqB b K H a xs->xs[i]?=some y,fun i H=>∃xs,SqB b K H a xs/\xs.length=i⟩
noncomputable def jAa (b1 b2:Bool)(K:PySem.W.Frag)(a b:Addr):It:=
 ⟨fun i H=>∃xs ys x y,SqB b1 K H a xs/\SqB b2 K H b ys/\xs[i]?=some x/\ys[i]?=some y,
  fun i H x H'=>∃p u v,x=.ref p/\H p=none/\H'=upd H p (.tup [u,v])/\(∀xs,SqB b1 K H a xs->xs[i]?=some u)/\∀ys,SqB b2 K H b ys->ys[i]?=some v,
  fun i H=>∃xs ys,SqB b1 K H a xs/\SqB b2 K H b ys/\(xs.length<=i∨ys.length<=i)⟩
theorem jmr {b:Bool}{P:Program}{w:World}{K:PySem.W.Frag}{elts:List Expr}{x1:Nat}{tpos:Pos}(a e it:Addr)(hne:e≠it)(hae:a≠e)(hai:a≠it):Turn P w K (.Tuple elts x1 tpos) (jz5 b K a) [e,it] e (fun i h=>(∃old,IsEnum h e it (i:Int) old)/\iAt b h it a i) where
 mem:=by simp
 obj:=fun i h st b hb=>by
  obtain⟨⟨old,he⟩,hi⟩:=st
  obtain⟨o,ho,hd⟩:=hi.obj
  rcases j0d.mp hb with z|z
  ·subst z
   exact⟨_,he,fun v z=>by
    have z':Data.fields _=Data.cell v:=z
    cases z'⟩
  ·have z':b=it:=by simpa using z
   subst z'
   exact⟨o,ho,hd⟩
 keep:=fun i h h' st k=>by
  obtain⟨⟨old,he⟩,hi⟩:=st
  exact⟨⟨old,k e (by simp) _ he⟩,hi.keep fun o q=>k it (by simp) o q⟩
 item:=by
  intro X hP hw hK hc i pins s σ H E I hf st hg
  subst hP hw hK
  obtain⟨xs,x,hq,hx⟩:=hg
  obtain⟨⟨old,he⟩,hit⟩:=st
  obtain⟨its,rv,p,hz⟩:=I.sqb hq
  obtain⟨u,hu,ru⟩:=rv.get hx
  have f1:=hf e (by simp)
  have f2:=hf it (by simp)
  have hlt:i<its.toArray.size:=by
   have:=(j0r.mp hu).1
   simpa using this
  refine wpAny_pyNext_enum_itemD (joS (prog:=X.prog) (w:=X.w) (A:=X.A.in1) (b:=b) (I.ok.hd hc) it a hai its.toArray) he ⟨hit,p⟩ hlt hne (by simp[hne,Ne.symm hae]) fun u' h1 tk hu' heo hst1 htup hsz kp=>?_
  have eu:u'=u:=by
   have hu2:its[i]?=some u':=by simpa using hu'
   rw[hu]at hu2
   exact(j0w hu2).symm
  subst eu
  obtain⟨hit1,_⟩:=hst1
  refine⟨_,rfl,wpAny_letOwnedTupleGo_enum heo fun h2 he2 sb2=>?_⟩
  have hen:s.heap.objs.size≠e:=Ne.symm (j0k (j0h he))
  have hitn:s.heap.objs.size≠it:=by
   obtain⟨o,ho,_⟩:=hit.obj
   exact Ne.symm (j0k (j0h ho))
  have kp2:∀b o,b∉[e,it]->s.heap.get? b=some o->h2.get? b=some o:=fun b o hb q=>by
   simp only[j0d,j0A,or_false,not_or]at hb
   exact(sb2.2 b hb.1).trans (kp b o hb.1 hb.2 q)
  have hnew:h2.get? s.heap.objs.size=some {cls:=.type "tuple",data:=.seq #[.int i tk,u']}:=(sb2.2 _ hen).trans htup
  have nt:∀b v,H b=some v->b∉[e,it]:=fun b v q hb=>by
   simp only[j0d,j0A,or_false]at hb
   rcases hb with z|z
   ·rw[z,f1.1]at q;cases q
   ·rw[z,f2.1]at q;cases q
  have hfr:=I.fresh
  have U:Un (frs X.stack) [e,it] H (upd H s.heap.objs.size (.tup [.int (i:Int),x])) s.heap h2:=
   {keep:=fun b o q _ _ hb=>kp2 b o hb q
    slot:=fun b o q _ _ hb=>⟨o.slots,kp2 b o hb q⟩
    free:=fun b o q n _=>by rw[jar (j0k (j0h q))];exact n
    there:=fun b o q hb=>⟨o,kp2 b o hb q⟩
    tups:=fun b xs q=>by rw[jar (jaq q hfr)];exact q
    frzs:=fun b o xs q=>by rw[jar (jaq q hfr)];exact q
    tbls:=fun b ps q=>⟨#[],by rw[jar (jaq q hfr),q];simp⟩}
  have hok:HOk X.prog X.w (upd H s.heap.objs.size (.tup [.int (i:Int),x])) h2:=fun b v q=>by
   by_cases hb:b=s.heap.objs.size
   ·subst hb
    rw[jaF]at q
    cases q
    exact⟨by show 2<=sizeLine;decide,[.int i tk,u'],.cons ⟨_,rfl⟩ (.cons ru .nil),_,hnew,rfl,_,rfl⟩
   ·rw[jar hb]at q
    refine(I.hok b v q).stay (fun c v' hc' r=>kp2 c v' ?_ r) (fun c r=>by rw[jar (jaq r hfr)];exact r) fun c ys r=>by rw[jar (jaq r hfr)];exact r
    rcases hc' with z|z
    ·rw[z];exact nt b v q
    ·exact nt c _ z
  have I2:Inv X pins σ (upd H s.heap.objs.size (.tup [.int (i:Int),x])) {s with heap:=h2,toks:=tk+1}:=I.call' rfl U hok I.bare fun b hb=>by
   obtain⟨g0,g1,g2,g3,g4,g5⟩:=hf b hb
   exact⟨g3,g1,g4,g5⟩
  refine⟨.ref s.heap.objs.size,_,I2,rfl,⟨_,x,rfl,hfr,rfl,fun ys hy=>by rw[I.sqb_inj hy hq];exact hx⟩,⟨⟨u',?_⟩,?_⟩,fun b hb=>?_⟩
  ·have e1:((i+1:Nat):Int)=(i:Int)+1:=by omega
   rw[e1]
   exact he2
  ·exact hit1.keep fun o q=>(sb2.2 it (Ne.symm hne)).trans q
  ·rw[jar (by
    simp only[j0d,j0A,or_false]at hb
    rcases hb with z|z
    ·rw[z];exact Ne.symm hen
    ·rw[z];exact Ne.symm hitn)]
   exact(hf b hb).1
 done:=by
  intro X hP hw hK hc i pins s σ H E I hf st hg
  subst hP hw hK
  obtain⟨xs,hq,hx⟩:=hg
  obtain⟨⟨old,he⟩,hit⟩:=st
  obtain⟨its,rv,p,hz⟩:=I.sqb hq
  obtain⟨f0,f1,f2,f3,f4,f5⟩:=hf it (by simp)
  have hl:=rv.length
  have e0:i=its.toArray.size:=by simp;omega
  exact wpAny_pyNext_enum_endD (joS (prog:=X.prog) (w:=X.w) (A:=X.A.in1) (b:=b) (I.ok.hd hc) it a hai its.toArray) he ⟨e0▸hit,p⟩ fun h' eb=>⟨rfl,I.turned (t':=s.toks) (fun b o hb e=>eb b o hb e) f0 f1 f3 f4 f5⟩
 self:=fun _ _ _ _ _ st h=>by
  obtain⟨⟨old,he⟩,_⟩:=st
  exact wpAny_pyIter_enum he h
section
variable {X:Cx}
def jv7 (K:PySem.W.Frag)(ta:TA):TI:=fun σ H R=>ta σ H fun vs H1=>∃a b,vs=[.ref a]/\(∃xs,SqB b K H1 a xs)/\R (jz5 b K a) H1
theorem jp5 {a:Expr} {ta:TA} {p pos:Pos} {elts:List Expr} {x1:Nat} {tpos:Pos} (hg:Gl X "enumerate") (hm:X.mg "enumerate" =none) (ha:PA X [a] ta) (hs:starEach [a] X.env=[(false,eval a X.env)]:=by rfl):PI X (.Tuple elts x1 tpos) (.Call (.Name "enumerate" p) [a] [] pos) (jv7 X.K ta):=by
 intro pins s σ H R I h
 refine Call_ (jf I hg hm jj0 (j0U (thn (ha pos pins s σ H _ I h) fun us s1 ⟨vs,H1,I1,r1,q1⟩=>?_) hs rfl))
 obtain⟨l,b,e,⟨xs,hq⟩,q⟩:=q1
 subst e
 obtain⟨u,rfl,ru⟩:=r1.one
 cases ru
 obtain⟨its,rv,pl,hz⟩:=I1.sqb hq
 have ll:l<s1.heap.objs.size:=by obtain⟨_,e⟩:=pl.obj;exact j0h e
 refine jj5 pl fun h' he hit kp=>wpAny_pyIter_enum he ?_
 refine⟨s1.heap.objs.size+1,[s1.heap.objs.size+1,s1.heap.objs.size],_,_,H1,rfl,I1.kept (t':=s1.toks) kp,jmr l _ _ (Ne.symm (j0k (Nat.lt_succ_self _))) (j0k (Nat.lt_succ_of_lt ll)) (j0k ll),⟨⟨_,he⟩,hit⟩,fun b hb=>?_,q⟩
 have hb':b=s1.heap.objs.size+1∨b=s1.heap.objs.size:=by simpa using hb
 have hle:s1.heap.objs.size<=b:=by
  rcases hb' with z|z
  ·rw[z];exact Nat.le_succ _
  ·rw[z];exact j0q _
 exact I1.fpOk hle (I1.hok.fresh hle)
end
theorem jpi {b1 b2:Bool}{P:Program}{w:World}{K:PySem.W.Frag}{elts:List Expr}{x1:Nat}{tpos:Pos}(a b z TI TO i1 i2:Addr)(D:ZipApart z TI TO i1 i2 a b) :
  Turn P w K (.Tuple elts x1 tpos) (jAa b1 b2 K a b) [z,TI,TO,i1,i2] z (fun i h=>IsZip h z TI TO .none/\IsPair h TI (.ref i1) (.ref i2)/\(∃c d,IsPair h TO c d)/\iAt b1 h i1 a i/\iAt b2 h i2 b i) where
 mem:=by simp
 obj:=fun i h st c hc=>by
  obtain⟨hz,hTI,⟨_,_,hTO⟩,h1,h2⟩:=st
  obtain⟨o1,ho1,hd1⟩:=h1.obj
  obtain⟨o2,ho2,hd2⟩:=h2.obj
  simp only[j0d,j0A,or_false]at hc
  rcases hc with e|e|e|e|e
  ·subst e
   exact⟨_,hz,fun v q=>by have q':Data.fields _=Data.cell v:=q;cases q'⟩
  ·subst e
   exact⟨_,hTI,fun v q=>by have q':Data.seq _ _=Data.cell v:=q;cases q'⟩
  ·subst e
   exact⟨_,hTO,fun v q=>by have q':Data.seq _ _=Data.cell v:=q;cases q'⟩
  ·subst e
   exact⟨o1,ho1,hd1⟩
  ·subst e
   exact⟨o2,ho2,hd2⟩
 keep:=fun i h h' st k=>by
  obtain⟨hz,hTI,⟨c,d,hTO⟩,h1,h2⟩:=st
  exact⟨k z (by simp) _ hz,k TI (by simp) _ hTI,⟨c,d,k TO (by simp) _ hTO⟩,h1.keep fun o q=>k i1 (by simp) o q,h2.keep fun o q=>k i2 (by simp) o q⟩
 item:=by
  intro X hP hw hK hc i pins s σ H E I hf st hg
  subst hP hw hK
  obtain⟨xs,ys,x,y,hq1,hq2,hx,hy⟩:=hg
  obtain⟨hz,hTI,⟨c,d,hTO⟩,h1,h2⟩:=st
  obtain⟨its1,rv1,p1,_⟩:=I.sqb hq1
  obtain⟨its2,rv2,p2,_⟩:=I.sqb hq2
  obtain⟨u1,hu1,ru1⟩:=rv1.get hx
  obtain⟨u2,hu2,ru2⟩:=rv2.get hy
  have fz:=hf z (by simp)
  have fTI:=hf TI (by simp)
  have fTO:=hf TO (by simp)
  have f1:=hf i1 (by simp)
  have f2:=hf i2 (by simp)
  refine jp D hz hTI hTO h1 h2 p1 p2 (x:=u1) (y:=u2) (by simpa using hu1) (by simpa using hu2) fun h3 hz3 hTO3 h13 h23 hT3 kp=>?_
  refine⟨_,rfl,wpAny_letOwnedTupleGo_zip hz3 fun h4 hz4 sb4=>?_⟩
  have hzn:s.heap.objs.size≠z:=Ne.symm (j0k (j0h hz))
  have hTIn:s.heap.objs.size≠TI:=Ne.symm (j0k (j0h hTI))
  have hTOn:s.heap.objs.size≠TO:=Ne.symm (j0k (j0h hTO))
  have h1n:s.heap.objs.size≠i1:=by
   obtain⟨o,ho,_⟩:=h1.obj
   exact Ne.symm (j0k (j0h ho))
  have h2n:s.heap.objs.size≠i2:=by
   obtain⟨o,ho,_⟩:=h2.obj
   exact Ne.symm (j0k (j0h ho))
  have kp2:∀b o,b∉[z,TI,TO,i1,i2]->s.heap.get? b=some o->h4.get? b=some o:=fun b o hb q=>by
   simp only[j0d,j0A,or_false,not_or]at hb
   exact(sb4.2 b hb.1).trans (kp b o hb.1 hb.2.2.1 hb.2.2.2.1 hb.2.2.2.2 q)
  have hnew:h4.get? s.heap.objs.size=some {cls:=.type "tuple",data:=.seq #[u1,u2]}:=(sb4.2 _ hzn).trans hT3
  have nt:∀b v,H b=some v->b∉[z,TI,TO,i1,i2]:=fun b v q hb=>by
   simp only[j0d,j0A,or_false]at hb
   rcases hb with e|e|e|e|e
   ·rw[e,fz.1]at q;cases q
   ·rw[e,fTI.1]at q;cases q
   ·rw[e,fTO.1]at q;cases q
   ·rw[e,f1.1]at q;cases q
   ·rw[e,f2.1]at q;cases q
  have hfr:=I.fresh
  have U:Un (frs X.stack) [z,TI,TO,i1,i2] H (upd H s.heap.objs.size (.tup [x,y])) s.heap h4:=
   {keep:=fun b o q _ _ hb=>kp2 b o hb q
    slot:=fun b o q _ _ hb=>⟨o.slots,kp2 b o hb q⟩
    free:=fun b o q n _=>by rw[jar (j0k (j0h q))];exact n
    there:=fun b o q hb=>⟨o,kp2 b o hb q⟩
    tups:=fun b xs q=>by rw[jar (jaq q hfr)];exact q
    frzs:=fun b o xs q=>by rw[jar (jaq q hfr)];exact q
    tbls:=fun b ps q=>⟨#[],by rw[jar (jaq q hfr),q];simp⟩}
  have hok:HOk X.prog X.w (upd H s.heap.objs.size (.tup [x,y])) h4:=fun b v q=>by
   by_cases hb:b=s.heap.objs.size
   ·subst hb
    rw[jaF]at q
    cases q
    exact⟨by show 2<=sizeLine;decide,[u1,u2],.cons ru1 (.cons ru2 .nil),_,hnew,rfl,_,rfl⟩
   ·rw[jar hb]at q
    refine(I.hok b v q).stay (fun c v' hc' r=>kp2 c v' ?_ r) (fun c r=>by rw[jar (jaq r hfr)];exact r) fun c ys r=>by rw[jar (jaq r hfr)];exact r
    rcases hc' with e|e
    ·rw[e];exact nt b v q
    ·exact nt c _ e
  have I2:Inv X pins σ (upd H s.heap.objs.size (.tup [x,y])) {s with heap:=h4}:=I.call' rfl U hok I.bare fun b hb=>by
   obtain⟨g0,g1,g2,g3,g4,g5⟩:=hf b hb
   exact⟨g3,g1,g4,g5⟩
  refine⟨.ref s.heap.objs.size,_,I2,rfl,⟨_,x,y,rfl,hfr,rfl,fun ys hy=>by rw[I.sqb_inj hy hq1];exact hx,fun ys hy'=>by rw[I.sqb_inj hy' hq2];exact hy⟩,⟨hz4,?_,⟨u1,u2,?_⟩,?_,?_⟩,fun b hb=>?_⟩
  ·exact(sb4.2 TI D.TIz).trans (kp TI _ D.TIz D.TITO D.TIi1 D.TIi2 hTI)
  ·exact(sb4.2 TO D.TOz).trans hTO3
  ·exact h13.keep fun o q=>(sb4.2 i1 D.i1z).trans q
  ·exact h23.keep fun o q=>(sb4.2 i2 D.i2z).trans q
  ·rw[jar (by
    simp only[j0d,j0A,or_false]at hb
    rcases hb with e|e|e|e|e
    ·rw[e];exact Ne.symm hzn
    ·rw[e];exact Ne.symm hTIn
    ·rw[e];exact Ne.symm hTOn
    ·rw[e];exact Ne.symm h1n
    ·rw[e];exact Ne.symm h2n)]
   exact(hf b hb).1
 done:=by
  intro X hP hw hK hc i pins s σ H E I hf st hg
  subst hP hw hK
  obtain⟨xs,ys,hq1,hq2,hx⟩:=hg
  obtain⟨hz,hTI,⟨c,d,hTO⟩,h1,h2⟩:=st
  obtain⟨its1,rv1,p1,_⟩:=I.sqb hq1
  obtain⟨its2,rv2,p2,_⟩:=I.sqb hq2
  have hl1:=rv1.length
  have hl2:=rv2.length
  have fz:=hf z (by simp)
  have fTI:=hf TI (by simp)
  have fTO:=hf TO (by simp)
  have f1:=hf i1 (by simp)
  have f2:=hf i2 (by simp)
  refine jr4 (I.ok.hd hc) D hz hTI hTO h1 h2 p1 p2 (by
   rcases hx with e|e
   ·left;simp;omega
   ·right;simp;omega) fun h4 kp=>⟨rfl,?_⟩
  have kp2:∀b o,b∉[z,TI,TO,i1,i2]->s.heap.get? b=some o->h4.get? b=some o:=fun b o hb q=>by
   simp only[j0d,j0A,or_false,not_or]at hb
   exact kp b o hb.1 hb.2.2.1 hb.2.2.2.1 hb.2.2.2.2 q
  have nt:∀b v,H b=some v->b∉[z,TI,TO,i1,i2]:=fun b v q hb=>by
   simp only[j0d,j0A,or_false]at hb
   rcases hb with e|e|e|e|e
   ·rw[e,fz.1]at q;cases q
   ·rw[e,fTI.1]at q;cases q
   ·rw[e,fTO.1]at q;cases q
   ·rw[e,f1.1]at q;cases q
   ·rw[e,f2.1]at q;cases q
  have U:Un (frs X.stack) [z,TI,TO,i1,i2] H H s.heap h4:=
   {keep:=fun b o q _ _ hb=>kp2 b o hb q
    slot:=fun b o q _ _ hb=>⟨o.slots,kp2 b o hb q⟩
    free:=fun b o q n _=>n
    there:=fun b o q hb=>⟨o,kp2 b o hb q⟩
    tups:=fun b xs q=>q
    frzs:=fun b o xs q=>q
    tbls:=fun b ps q=>⟨#[],by rw[q];simp⟩}
  have hok:HOk X.prog X.w H h4:=fun b v q=>by
   refine(I.hok b v q).stay (fun c v' hc' r=>kp2 c v' ?_ r) (fun c r=>r) fun c ys r=>r
   rcases hc' with e|e
   ·rw[e];exact nt b v q
   ·exact nt c _ e
  exact I.call' rfl U hok I.bare fun b hb=>by
   obtain⟨g0,g1,g2,g3,g4,g5⟩:=hf b hb
   exact⟨g3,g1,g4,g5⟩
 self:=fun _ _ _ _ _ st h=>wpAny_pyIter_zip st.1 h
section
variable {X:Cx}
def jxD (K:PySem.W.Frag)(ta:TA):TI:=fun σ H R=>ta σ H fun vs H1=>∃a b b1 b2,vs=[.ref a,.ref b]/\(∃xs,SqB b1 K H1 a xs)/\(∃ys,SqB b2 K H1 b ys)/\R (jAa b1 b2 K a b) H1
theorem jsn {a b:Expr} {ta:TA} {p pos:Pos} {elts:List Expr} {x1:Nat} {tpos:Pos} (hg:Gl X "zip") (hm:X.mg "zip" =none) (ha:PA X [a,b] ta) (hs:starEach [a,b] X.env=[(false,eval a X.env),(false,eval b X.env)]) (hs2:starEach [b] X.env=[(false,eval b X.env)]) :
  PI X (.Tuple elts x1 tpos) (.Call (.Name "zip" p) [a,b] [] pos) (jxD X.K ta):=by
 intro pins s σ H R I h
 refine Call_ (jf I hg hm js (j0U (thn (ha pos pins s σ H _ I h) fun us s1 ⟨vs,H1,I1,r1,q1⟩=>?_) (by rw[hs,hs2]) (by rw[hs2];rfl)))
 obtain⟨l1,l2,b1,b2,e,⟨xs,hq1⟩,⟨ys,hq2⟩,q⟩:=q1
 subst e
 obtain⟨u1,u2,rfl,ru1,ru2⟩:=r1.two
 cases ru1
 cases ru2
 obtain⟨its1,rv1,p1,_⟩:=I1.sqb hq1
 obtain⟨its2,rv2,p2,_⟩:=I1.sqb hq2
 have a1:l1<s1.heap.objs.size:=by obtain⟨_,e⟩:=p1.obj;exact j0h e
 have a2:l2<s1.heap.objs.size:=by obtain⟨_,e⟩:=p2.obj;exact j0h e
 refine jhG p1 p2 fun h' hz hTI hTO h1 h2 kp=>wpAny_pyIter_zip hz ?_
 refine⟨s1.heap.objs.size+4,[s1.heap.objs.size+4,s1.heap.objs.size+2,s1.heap.objs.size+3,s1.heap.objs.size,s1.heap.objs.size+1],_,_,H1,rfl,I1.kept (t':=s1.toks) kp,jpi l1 l2 _ _ _ _ _ (zipApart_new a1 a2),⟨hz,hTI,⟨_,_,hTO⟩,h1,h2⟩,fun b hb=>?_,q⟩
 have hle:s1.heap.objs.size<=b:=by
  simp only[j0d,j0A,or_false]at hb
  rcases hb with e|e|e|e|e<;>rw[e]
  ·exact j05 _ 4
  ·exact j05 _ 2
  ·exact j05 _ 3
  ·exact j0q _
  ·exact j05 _ 1
 exact I1.fpOk hle (I1.hok.fresh hle)
theorem jsw {a b:Expr} {t:TA} {p pos:Pos} {elts:List Expr} {x1:Nat} {tpos:Pos} (hg:jb0 X.env.scope "zip" =true) (hm:X.mg "zip" =none) (ha:QA X [a,b] t) (hs:jag [a,b]=true:=by rfl):QI X (.Tuple elts x1 tpos) (.Call (.Name "zip" p) [a,b] [] pos) (jxD X.K t):=by
 have h1:=hs
 unfold jag at h1
 simp only[j0S,j0a]at h1
 refine⟨jsn (jas hg).1 hm ha.h ?_ (jau h1.2.1)⟩
 rw[jau h1.1,jau h1.2.1]
 rfl
end
section
variable {κ:Type} [DecidableEq κ]
noncomputable def jmK (kvs:List (κ×V))(k:κ):Option V:=(kvs.find? fun kv=>decide (kv.1=k)).map (·.2)
noncomputable def jvZ (kvs:List (κ×V))(k:κ):List (κ×V):=kvs.filter fun kv=>decide (kv.1≠k)
theorem jiN {p:κ×V}{r:List (κ×V)}{k:κ}(e:p.1=k):jmK (p::r) k=some p.2:=by simp[jmK,j0X,e]
theorem jiz {p:κ×V}{r:List (κ×V)}{k:κ}(e:¬ p.1=k):jmK (p::r) k=jmK r k:=by simp[jmK,j0X,e]
theorem jj3.isSome_eq {o:Option V}{u:Option Value}(r:jj3 o u):o.isSome=u.isSome:=by
 cases o with
 |none=>cases u with
  |none=>rfl
  |some _=>exact(show False from r).elim
 |some _=>cases u with
  |none=>exact(show False from r).elim
  |some _=>rfl
theorem jj3.getD {o:Option V}{u:Option Value}{d:V}{d':Value}(r:jj3 o u)(rd:ja3 d d'):ja3 (o.getD d) (u.getD d'):=by
 cases o with
 |none=>cases u with
  |none=>exact rd
  |some _=>exact(show False from r).elim
 |some _=>cases u with
  |none=>exact(show False from r).elim
  |some _=>exact r
theorem KV.val {kvs:List (κ×V)}{vs:List (κ×Value)}(r:KV kvs vs)(k:κ):jj3 (jmK kvs k) (valueAt vs k):=by
 unfold KV at r
 induction r with
 |nil=>exact True.intro
 | @cons p q ps qs h t ih=>
  obtain⟨h1,h2⟩:=h
  by_cases e:p.1=k
  ·have e':q.1=k:=h1.symm.trans e
   have b:valueAt (q::qs) k=some q.2:=by simp[valueAt,j0X,e']
   rw[jiN e,b];exact h2
  ·have e':¬ q.1=k:=fun z=>e (h1.trans z)
   have b:valueAt (q::qs) k=valueAt qs k:=by simp[valueAt,j0X,e']
   rw[jiz e,b];exact ih
theorem KV.any {kvs:List (κ×V)}{vs:List (κ×Value)}(r:KV kvs vs)(k:κ):(kvs.any fun kv=>decide (kv.1=k))=vs.any fun kv=>decide (kv.1=k):=by
 unfold KV at r
 induction r with
 |nil=>rfl
 |cons h t ih=>rw[List.any_cons,List.any_cons,ih,h.1]
theorem KV.drop {kvs:List (κ×V)}{vs:List (κ×Value)}(r:KV kvs vs)(k:κ):KV (jvZ kvs k) (without vs k):=by
 unfold KV at r ⊢
 unfold jvZ without
 induction r with
 |nil=>exact .nil
 | @cons p q ps qs h t ih=>
  obtain⟨h1,h2⟩:=h
  rw[List.filter_cons,List.filter_cons]
  by_cases e:p.1=k
  ·have a:¬ decide (p.1≠k)=true:=by simp[e]
   have b:¬ decide (q.1≠k)=true:=by simp[h1.symm.trans e]
   rw[if_neg a,if_neg b];exact ih
  ·have e':¬ q.1=k:=fun z=>e (h1.trans z)
   have a:decide (p.1≠k)=true:=by simp[e]
   have b:decide (q.1≠k)=true:=by simp[e']
   rw[if_pos a,if_pos b];exact .cons ⟨h1,h2⟩ ih
theorem KV.keys {kvs:List (κ×V)}{vs:List (κ×Value)}(r:KV kvs vs):kvs.map (·.1)=vs.map (·.1):=by
 unfold KV at r
 induction r with
 |nil=>rfl
 |cons h t ih=>rw[j0i,j0i,ih,h.1]
theorem KV.length {kvs:List (κ×V)}{vs:List (κ×Value)}(r:KV kvs vs):kvs.length=vs.length:=Paired.length r
end
theorem jpT {P:Program}{w:World}{k:Key}{u:Value}(r:ja3 (kV k) u):(ja6 P w).is k u=true:=by
 cases k with
 |inl i=>obtain⟨t,e⟩:=(show ∃t,u=Value.int i t from r);subst e;exact jkk P w i t
 |inr x=>obtain⟨t,e⟩:=(show ∃t,u=Value.str x t from r);subst e;exact jgv P w x t
theorem jje {P:Program}{w:World}:∀{ks:List Key} {us:List Value},jaR (ks.map kV) us->ItemsAre (ja6 P w) ks us
 |[],_,r=>by rw[j0z]at r;cases r;exact .nil
 |k::ks,_,r=>by
  rw[j0i]at r
  cases r with
  |cons h t=>exact .cons (jpT h) (jje t)
noncomputable abbrev KT (H:Hp):List (List Key×V)->List (List Key×Addr×Value)->Prop:=Paired fun p q=>p.1=q.1/\H q.2.1=some (.tup (p.1.map kV))/\ja3 p.2 q.2.2
theorem KT.val {H:Hp}{kvs:List (List Key×V)}{xs:List (List Key×Addr×Value)}(r:KT H kvs xs)(k:List Key):jj3 (jmK kvs k) ((atKey xs k).map (·.2)):=by
 induction r with
 |nil=>exact True.intro
 | @cons p q ps qs h t ih=>
  obtain⟨h1,_,h2⟩:=h
  by_cases e:p.1=k
  ·have e':q.1=k:=h1.symm.trans e
   have b:atKey (q::qs) k=some q.2:=by simp[atKey,j0X,e']
   rw[jiN e,b];exact h2
  ·have e':¬ q.1=k:=fun z=>e (h1.trans z)
   have b:atKey (q::qs) k=atKey qs k:=by simp[atKey,j0X,e']
   rw[jiz e,b];exact ih
theorem KT.keeps {H H':Hp}{kvs:List (List Key×V)}{xs:List (List Key×Addr×Value)}(r:KT H kvs xs)(ht:∀b ys,H b=some (.tup ys)->H' b=some (.tup ys)):KT H' kvs xs:=
 Paired.mapP r fun _ _ z=>⟨z.1,ht _ _ z.2.1,z.2.2⟩
section
variable {P:Program} {w:World} {H:Hp} {h:Heap} {a:Addr}
theorem jw6 {u:HO}(ok:HOk P w H h)(e:Rd H a u):jb1 P w H h a u:=e.ok ok
theorem jpv {kvs:List (Key×V)}(ok:HOk P w H h)(e:Rd H a (.dK kvs)):kvs.length<=sizeLine/\(a==sysModules)=false/\∃vs,KV kvs vs/\h.DictOf (ja6 P w) a vs:=
 show jb1 P w H h a (.dK kvs)from jw6 ok e
theorem jly {ks:List Key}(ok:HOk P w H h)(e:H a=some (.tup (ks.map kV))):(tupleKind (ja6 P w)).is h ks a:=by
 obtain⟨_,its,r,o,h1,h2,n,h3⟩:=(show jb1 P w H h a (.tup (ks.map kV))from ok a _ e)
 exact⟨o,its.toArray,n,h1,h2,h3,by simpa using jje r⟩
theorem jq1 {kvs:List (List Key×V)}(ok:HOk P w H h)(e:Rd H a (.dT kvs)):kvs.length<=sizeLine/\(a==sysModules)=false /\
  ∃xs,KT H kvs xs/\h.DictOfH (tupleKind (ja6 P w)) a xs:=by
 obtain⟨z,y,xs,r,o,es,ep,h1,h2,h3,h4,h5⟩:=(show jb1 P w H h a (.dT kvs)from jw6 ok e)
 refine⟨z,y,xs,r,o,es,ep,h1,h2,h3,h4,fun x hx=>?_,h5⟩
 have all:∀{l:List (List Key×V)} {m:List (List Key×Addr×Value)},KT H l m->∀x∈m,(tupleKind (ja6 P w)).is h x.1 x.2.1:=by
  intro l m q
  induction q with
  |nil=>intro x hx;exact nomatch hx
  | @cons p q ps qs hq t ih=>
   intro x hx
   rcases j0d.mp hx with e|hx
   ·subst e
    exact jly ok (by rw[<- hq.1];exact hq.2.1)
   ·exact ih x hx
 exact all r x hx
end
def jvk (H:Hp)(a:Addr)(y:V)(r:Option V):Prop:=
 (∃kvs k,Rd H a (.dK kvs)/\y=kV k/\r=jmK kvs k)∨∃kvs k b,Rd H a (.dT kvs)/\y=.ref b/\H b=some (.tup (k.map kV))/\r=jmK kvs k
section
variable {X:Cx} {pins:List (Addr×Obj)} {σ:St} {H:Hp} {s:Shared} {a:Addr} {y v:V} {u r:Value} {o:Option V} {A:Around} {E:Value->Shared->Prop}
theorem Inv.big (I:Inv X pins σ H s):sysModules<s.heap.objs.size:=by
 have h:mainGlobals<s.heap.objs.size:=(I.mod.glob.keeps I.bk).lt
 exact Nat.lt_trans (by decide) h
theorem jna {Q:Value->Shared->Prop}(hu:A.units+1<cLine)(I:Inv X pins σ H s)(g:jvk H a y (some v))(ry:ja3 y u)(h:∀w' s',Inv X pins σ H s'->ja3 v w'->Q w' s') :
  wpAny (model X.prog X.w) A (getItem (.ref a) u) Q E s:=by
 rcases g with⟨kvs,k,e,ey,l⟩|⟨kvs,k,b,e,ey,eb,l⟩
 ·subst ey
  obtain⟨z,hd,vs,rel,dd⟩:=jpv I.hok e
  obtain⟨w',hw,rw'⟩:=jj3.some_of (v:=v) (o:=valueAt vs k) (by rw[l];exact rel.val k)
  exact wpAny_getItem_of (jpT ry) dd.mapOf hw (h w' _ (I.tok _) rw')
 ·subst ey
  cases(show u=Value.ref b from ry)
  obtain⟨z,hd,xs,rel,dd⟩:=jq1 I.hok e
  obtain⟨w',hw,rw'⟩:=jj3.some_of (v:=v) (o:=(atKey xs k).map (·.2)) (by rw[l];exact rel.val k)
  obtain⟨p,hp,hp2⟩:=Option.map_eq_some_iff.mp hw
  refine wpAny_getItem_heap (tupleKind_room_in1 hu) (jly I.hok eb) dd hp ?_
  rw[hp2]
  exact h w' _ (I.tok _) rw'
theorem jAY {Q:Value->Shared->Prop}(hu:A.units+1<cLine)(I:Inv X pins σ H s)(g:jvk H a y o)(ry:ja3 y u)(h:∀s',Inv X pins σ H s'->Q (.bool o.isSome) s') :
  wpAny (model X.prog X.w) A (compareOp .In u (.ref a)) Q E s:=by
 rcases g with⟨kvs,k,e,ey,l⟩|⟨kvs,k,b,e,ey,eb,l⟩
 ·subst ey
  obtain⟨z,hd,vs,rel,dd⟩:=jpv I.hok e
  refine wpAny_in_of (jpT ry) hd dd.mapOf ?_
  rw[<- (rel.val k).isSome_eq,<- l]
  exact h _ (I.tok _)
 ·subst ey
  cases(show u=Value.ref b from ry)
  obtain⟨z,hd,xs,rel,dd⟩:=jq1 I.hok e
  refine wpAny_in_heap (tupleKind_room_in1 hu) (jly I.hok eb) hd dd ?_
  have q:=(rel.val k).isSome_eq
  rw[Option.isSome_map]at q
  rw[<- q,<- l]
  exact h _ (I.tok _)
theorem ju1 {Q:Value->Shared->Prop}(hu:A.units+1<cLine)(I:Inv X pins σ H s)(g:jvk H a y o)(ry:ja3 y u)(h:∀s',Inv X pins σ H s'->Q (.bool (!o.isSome)) s') :
  wpAny (model X.prog X.w) A (compareOp .NotIn u (.ref a)) Q E s:=by
 rcases g with⟨kvs,k,e,ey,l⟩|⟨kvs,k,b,e,ey,eb,l⟩
 ·subst ey
  obtain⟨z,hd,vs,rel,dd⟩:=jpv I.hok e
  refine wpAny_notIn_of (jpT ry) hd dd.mapOf ?_
  rw[<- (rel.val k).isSome_eq,<- l]
  exact h _ (I.tok _)
 ·subst ey
  cases(show u=Value.ref b from ry)
  obtain⟨z,hd,xs,rel,dd⟩:=jq1 I.hok e
  refine wpAny_notIn_heap (tupleKind_room_in1 hu) (jly I.hok eb) hd dd ?_
  have q:=(rel.val k).isSome_eq
  rw[Option.isSome_map]at q
  rw[<- q,<- l]
  exact h _ (I.tok _)
theorem jx5 {P:Program}{w:World}{H':Hp}{h':Heap}{kvs:List (Key×V)}{vs:List (Key×Value)}(z:kvs.length<=sizeLine)(hd:(a==sysModules)=false)(rel:KV kvs vs)(dd:h'.DictOf (ja6 P w) a vs) :
  jb1 P w H' h' a (.dK kvs):=⟨z,hd,vs,rel,dd⟩
end
section
variable {X:Cx} {pins:List (Addr×Obj)} {σ:St} {H:Hp} {s:Shared} {a:Addr} {kvs:List (Key×V)} {k:Key} {u:Value} {A:Around} {E:Value->Shared->Prop}
end
theorem jkl {X:Cx}{pins:List (Addr×Obj)}{σ:St}{H:Hp}{s:Shared}{a:Addr}{y:V}{o:Option V}(I:Inv X pins σ H s)(g:jvk H a y o):s.TypeIs (.ref a) "dict":=by
 rcases g with⟨kvs,k,e,_,_⟩|⟨kvs,k,b,e,_,_,_⟩
 ·obtain⟨_,_,vs,_,dd⟩:=jpv I.hok e
  exact dd.typeIs
 ·obtain⟨_,_,xs,_,dd⟩:=jq1 I.hok e
  exact dd.typeIs
section
variable {X:Cx} {o i e value:Expr} {pos pos' tpos:Pos} {td ty tv:TE}
end
section
variable {X:Cx} {pos:Pos}
end
structure M1 (X:Cx) (o:Expr) (m:Str) (apos:Pos) (e:Expr) (cpos:Pos):Prop where
 base:attributeBase o m X.env (eval o X.env)=eval o X.env
 few:((backTo cpos (starEach [e] X.env)).all (fun x=>!x.1)&&(backToKw cpos (keywordEach [] X.env)).all (fun x=>x.1.isSome)
  && decide (([e]:List Expr).length+([]:List Keyword).length+(if([]:List Keyword).isEmpty then 0 else 1)<30))=true
 line:(apos.endLine==cpos.line)=true
 trees:backTo cpos (starEach [e] X.env)=[(false,eval e X.env)]
structure M2 (X:Cx) (o:Expr) (m:Str) (apos:Pos) (e f:Expr) (cpos:Pos):Prop where
 base:attributeBase o m X.env (eval o X.env)=eval o X.env
 few:((backTo cpos (starEach [e,f] X.env)).all (fun x=>!x.1)&&(backToKw cpos (keywordEach [] X.env)).all (fun x=>x.1.isSome)
  && decide (([e,f]:List Expr).length+([]:List Keyword).length+(if([]:List Keyword).isEmpty then 0 else 1)<30))=true
 line:(apos.endLine==cpos.line)=true
 trees:backTo cpos (starEach [e,f] X.env)=[(false,eval e X.env),(false,eval f X.env)]
section
variable {X:Cx} {pins:List (Addr×Obj)} {σ:St} {H:Hp} {s:Shared} {a:Addr} {y d:V} {u r:Value} {o:Option V} {A:Around} {E:Value->Shared->Prop}
end
section
variable {X:Cx} {o e f:Expr} {apos cpos:Pos} {td ty tx:TE}
end
section
variable {X:Cx} {pins:List (Addr×Obj)} {σ:St} {H:Hp} {s:Shared} {a:Addr} {kvs:List (Key×V)} {A:Around} {E:Value->Shared->Prop}
end
section
variable {X:Cx} {pins:List (Addr×Obj)} {σ:St} {H:Hp} {s:Shared} {a:Addr} {y:V} {u:Value} {A:Around} {E:Value->Shared->Prop}
end
noncomputable def jc6 (kvs:List (Str×V))(z:Str):Option V:=(kvs.find? fun p=>decide (p.1=z)).map (·.2)
def jAe (p:Str×V)(e:DictEntry):Prop:=(∃t,e.key=.str p.1 t)/\ja3 p.2 e.val
structure MD (K:PySem.W.Frag) (W:World) (a:Addr) (kvs:List (Str×V)):Prop where
 ex:∃(es:Array DictEntry) (m:Nat),K.lookup a=some ⟨.type "dict",none,.dict es m,#[]⟩/\PySem.W.KeysLit W.params es.toList/\Paired jAe kvs es.toList
 lo:(a==sysModules)=false
theorem jl (z:Str):∀{kvs:List (Str×V)} {l:List DictEntry},Paired jAe kvs l->jj3 (jc6 kvs z) ((l.find? fun e=>Value.isStrOf z e.key).map (·.val))
 |_,_,.nil=>True.intro
 |p::kvs,e::l,.cons h t=>by
  obtain⟨⟨tk,hk⟩,hv⟩:=h
  have e1:Value.isStrOf z e.key=decide (p.1=z):=by rw[hk];rfl
  by_cases c:p.1=z
  ·have a1:jc6 (p::kvs) z=some p.2:=by simp[jc6,j0X,c]
   have a2:((e::l).find? fun e=>Value.isStrOf z e.key)=some e:=by rw[j0X,e1,decide_eq_true c]
   rw[a1,a2]
   exact hv
  ·have a1:jc6 (p::kvs) z=jc6 kvs z:=by simp[jc6,j0X,c]
   have a2:((e::l).find? fun e=>Value.isStrOf z e.key)=l.find? fun e=>Value.isStrOf z e.key:=by rw[j0X,e1,decide_eq_false c]
   rw[a1,a2]
   exact jl z t
section
variable {X:Cx} {pins:List (Addr×Obj)} {σ:_L2.St} {H:Hp} {s:Shared} {a:Addr} {kvs:List (Str×V)}
theorem MD.map (I:Inv X pins σ H s)(h:MD X.K X.w a kvs):∃f:Str->Option Value,s.heap.MapOf (strKind X.prog X.w) a f/\∀z,jj3 (jc6 kvs z) (f z):=by
 obtain⟨⟨es,m,hl,hk,hp⟩,_⟩:=h
 refine⟨_,PySem.W.mapOf_K (prog:=X.prog) I.kIn hl hk,fun z=>?_⟩
 obtain⟨l⟩:=es
 show jj3 (jc6 kvs z) ((Array.find? (fun e=>Value.isStrOf z e.key) l.toArray).map (·.val))
 rw[List.find?_toArray]
 exact jl z hp
theorem MD.ty (I:Inv X pins σ H s)(h:MD X.K X.w a kvs):s.TypeIs (.ref a) "dict"/\∀b,Value.ref a=.ref b->∃ob,s.heap.get? b=some ob/\ob.dict=none:=by
 obtain⟨⟨es,m,hl,_⟩,_⟩:=h
 have g:=I.kIn _ _ hl
 refine⟨⟨_,g,rfl⟩,fun b q=>?_⟩
 cases q
 exact⟨_,g,rfl⟩
end
section
variable {X:Cx}
def jy0 (K:PySem.W.Frag)(W:World):R2:=fun x y H Q=>∃a kvs z v,x=.ref a/\y=.str z/\MD K W a kvs/\jc6 kvs z=some v/\Q v H
theorem jzk:IxR X (jy0 X.K X.w):=by
 intro value slice pins s σ H x y v u Q I rx ry h hs
 obtain⟨a,kvs,z,r,rfl,rfl,hm,hl,q⟩:=h
 cases rx
 obtain⟨t,rfl⟩:=ry
 obtain⟨f,hf,hr⟩:=hm.map I
 have hz:=hr z
 rw[hl]at hz
 cases e:f z with
 |none=>rw[e]at hz;exact hz.elim
 |some w=>
  rw[e]at hz
  exact tail_any hf.typeIs slot_dict_getitem.lookup (wpAny_getItem_of (strKind_is X.prog X.w z t) hf e ⟨r,H,I.tok _,hz,q⟩) hs
def jrv (K:PySem.W.Frag)(W:World)(neg:Bool):R2:=fun x y H Q=>∃a kvs z,y=.ref a/\x=.str z/\MD K W a kvs/\Q (.bl (if neg then !(jc6 kvs z).isSome else(jc6 kvs z).isSome)) H
theorem jtw:OpR X (compareOp .In) (jrv X.K X.w false):=by
 intro pins s σ H x y v u Q I rx ry h
 obtain⟨a,kvs,z,rfl,rfl,hm,q⟩:=h
 cases ry
 obtain⟨t,rfl⟩:=rx
 obtain⟨f,hf,hr⟩:=hm.map I
 refine wpAny_in_of (strKind_is X.prog X.w z t) hm.lo hf ⟨.bl (f z).isSome,H,I.tok _,rfl,?_⟩
 rw[<- (hr z).isSome_eq]
 exact q
theorem jl7:OpR X (compareOp .NotIn) (jrv X.K X.w true):=by
 intro pins s σ H x y v u Q I rx ry h
 obtain⟨a,kvs,z,rfl,rfl,hm,q⟩:=h
 cases ry
 obtain⟨t,rfl⟩:=rx
 obtain⟨f,hf,hr⟩:=hm.map I
 refine wpAny_notIn_of (strKind_is X.prog X.w z t) hm.lo hf ⟨.bl (!(f z).isSome),H,I.tok _,rfl,?_⟩
 rw[<- (hr z).isSome_eq]
 exact q
def jxM (K:PySem.W.Frag)(W:World)(td ty tx:TE):TE:=fun σ H Q=>td σ H fun x H1=>∃a kvs,x=.ref a/\MD K W a kvs/\ty σ H1 fun y H2=>tx σ H2 fun d H3=>∃z,y=.str z/\Q ((jc6 kvs z).getD d) H3
theorem jqa {o e f:Expr}{td ty tx:TE}{apos cpos:Pos}(ho:QE X o td)(he:QE X e ty)(hf:QE X f tx)(hb:jbs o=true:=by rfl)(hst:jag [e,f]=true:=by rfl)(hline:(apos.endLine==cpos.line)=true:=by rfl) :
  QE X (.Call (.Attribute o "get" apos) [e,f] [] cpos) (jxM X.K X.w td ty tx):=by
 have h1:=hst
 unfold jag at h1
 simp only[j0S,j0a]at h1
 have htr:backTo cpos (starEach [e,f] X.env)=[(false,eval e X.env),(false,eval f X.env)]:=by
  rw[jau h1.1,jau h1.2.1]
  rfl
 refine⟨fun pins s σ H Q I h=>?_⟩
 refine wpAny_Call_method (jov hb) (jrN hst (by show 1<28;decide)) hline PySem.F.plainAttrs_dict PySem.F.slot_dict_get PySem.F.type_dict_get (thn (ho.h pins s σ H _ I h) fun u s1 ⟨x,H1,I1,rx,a,kvs,ex,hm,q1⟩=>?_)
 subst ex
 cases rx
 refine⟨(hm.ty I1).1,(hm.ty I1).2,?_⟩
 rw[htr]
 refine Calls.callWith_builtin rfl (Calls.evalArgs_plain (Calls.spliced_cons (thn (he.h pins s1 σ H1 _ I1 q1) fun iv s2 ⟨y,H2,I2,ry,q2⟩=>
  Calls.spliced_cons (thn (hf.h pins s2 σ H2 _ I2 q2) fun fv s3 ⟨d,H3,I3,rd,z,ey,q3⟩=>Calls.spliced_nil ?_))))
 subst ey
 obtain⟨t,rfl⟩:=ry
 obtain⟨g,hg,hr⟩:=hm.map I3
 exact call_meetsIn PySem.F.slot_dict_get (hm.ty I3).1 PySem.F.entry_dict_get (PySem.F.args_dict_get_3 _ _ _) (meets_dict_get_default (strKind X.prog X.w) a (strKind_is X.prog X.w z t) hm.lo fv) ⟨_,hg,_,H3,I3.tok _,(hr z).getD rd,q3⟩
def jsA:R2:=fun x y H Q=>∃a v,x=.ref a/\jvk H a y (some v)/\Q v H
theorem jzy (hu:X.A.units+1<cLine):IxR X jsA:=by
 intro value slice pins s σ H x y v u Q I rx ry h hs
 obtain⟨a,r,rfl,g,q⟩:=h
 cases rx
 exact tail_any (jkl I g) slot_dict_getitem.lookup (jna hu I g ry fun w' s' I' rw'=>⟨r,H,I',rw',q⟩) hs
def jsT (neg:Bool):R2:=fun x y H Q=>∃a o,y=.ref a/\jvk H a x o/\Q (.bl (if neg then !o.isSome else o.isSome)) H
theorem juF (hu:X.A.units+1<cLine):OpR X (compareOp .In) (jsT false):=by
 intro pins s σ H x y v u Q I rx ry h
 obtain⟨a,o,rfl,g,q⟩:=h
 cases ry
 exact jAY hu I g rx fun s' I'=>⟨.bl o.isSome,H,I',rfl,q⟩
theorem jmC (hu:X.A.units+1<cLine):OpR X (compareOp .NotIn) (jsT true):=by
 intro pins s σ H x y v u Q I rx ry h
 obtain⟨a,o,rfl,g,q⟩:=h
 cases ry
 exact ju1 hu I g rx fun s' I'=>⟨.bl (!o.isSome),H,I',rfl,q⟩
end
noncomputable abbrev jcJ (led:Bool):Obj:={cls:=.type "set",dict:=none,data:=.set #[] 0 (.fresh 0 0 led)}
section
variable {P:Program} {W:World} {B:Around} {E:Value->Shared->Prop} {s:Shared} {l:Addr} {zs:List Str} {its:List Value} {b:Bool}
theorem jsq (hh:B.handled=none)(it l:Addr)(hne:l≠it)(items:Array Value):Walks P W B it [it,l] [it] items.size (fun i v=>items[i]?=some v) (fun i h=>iAt b h it l i/\sAt b h l items):=by
 cases b
 ·exact Walks.list hh it l hne items
 ·exact Walks.tuple hh it l hne items
theorem jl8 {D:Addr}{led:Bool}{R:Result->Shared->Prop}(hh:B.handled=none)(hS:s.heap.get? D=some (jcJ led))(hl:sAt b s.heap l its.toArray)(hD:D≠l)(hi:jaR (zs.map V.str) its)(hb:zs.length+1<scanBound)
  (k:∀g tk,g.SetOf (strKind P W) D (fun y=>decide (y∈ddS zs)) (ddS zs).length->(∀c o,c≠D->s.heap.get? c=some o->g.get? c=some o)->R (.ok (.ret .none)) {s with heap:=g,toks:=tk}) :
  codeAny (model P W) B (.builtin "set.update.loop" ⟨[.ref D,.ref s.heap.objs.size],[]⟩) R {s with heap:=s.heap.push (jd9 b l)}:=by
 have hlen:=hi.length
 rw[j0f]at hlen
 have hlt:l<s.heap.objs.size:=let⟨_,e⟩:=hl.obj;j0h e
 have hDt:D<s.heap.objs.size:=j0h hS
 have W1:=jsq (P:=P) (W:=W) (b:=b) (show B.in1.handled=none by simp[hh]) s.heap.objs.size l (j0k hlt) its.toArray
 have ez:its.toArray.size=zs.length:=by rw[j0j];exact hlen.symm
 rw[ez]at W1
 refine jpH (zs:=zs) W1 D (by
   simp only[j0d,j0A,or_false,not_or]
   exact⟨j0k hDt,hD⟩) (fun i v hv=>?_) hb (zs.length - 0) 0 _ rfl (Nat.zero_le _) ⟨jge (j0o _ rfl),sAt.keep hl fun o e=>j0c _ e⟩ ?_ fun g tk' kp hS'=>k g tk' hS' fun c o hc e=>kp c o hc (by simpa using j0k (j0h e)) (j0c _ e)
 ·have hv':its[i]?=some v:=by simpa using hv
  have hi':i<zs.length:=by rw[hlen];exact(j0r.mp hv').1
  obtain⟨u',hu,t,ru⟩:=hi.get (i:=i) (x:=V.str zs[i]) (by simp[hi'])
  rw[hv']at hu
  cases hu
  exact⟨zs[i],t,by simp[hi'],ru⟩
 ·have q:=(PyProof.Rows.setObjOf_fresh (knd:=strKind P W) led).setOf (j0c (jd9 b l) hS) (by unfold scanBound;omega)
  have ef:(fun y=>decide (y∈ddS (zs.take 0)))=fun _=>false:=by
   funext y
   simp[ddS]
  rw[ef]
  exact q
theorem jl5 {D:Addr}{led:Bool}{Q:Fin->Shared->Prop}(hh:B.handled=none)(hS:s.heap.get? D=some (jcJ led))(hl:sAt b s.heap l its.toArray)(hD:D≠l)(hi:jaR (zs.map V.str) its)(hb:zs.length+1<scanBound)
  (k:∀g tk,g.SetOf (strKind P W) D (fun y=>decide (y∈ddS zs)) (ddS zs).length->(∀c o,c≠D->s.heap.get? c=some o->g.get? c=some o)->Q (.done (.ret .none)) {s with heap:=g,toks:=tk}) :
  wpAny (model P W) B (Builtin.«set.__init__» ⟨[.ref D,.ref l],[]⟩) Q E s:=by
 obtain⟨hp,g0,dr,tk,os⟩:=s
 have hT:(⟨hp,g0,dr,tk,os⟩:Shared).TypeIs (.ref D) "set":=⟨_,hS,rfl⟩
 have fin:wpAny (model P W) B (runValue (.builtin "set.update.loop" ⟨[.ref D,.ref hp.objs.size],[]⟩)) (fun _ s'=>Q (.done (.ret .none)) s') E ⟨hp.push (jd9 b l),g0,dr,tk,os⟩:=
  wpAny_runValue (jl8 (s:=⟨hp,g0,dr,tk,os⟩) (B:=B) hh hS hl hD hi hb fun g tk' hS' kp=>k g tk' hS' kp)
 have hl0:=hl
 cases b
 all_goals
  obtain⟨⟨c,dd,dt,sl⟩,hol,hc,n,hd⟩:=hl
  cases hc
  cases hd
  have f1:=F.sub_list_set
  have f2:=F.sub_list_frozenset
  have f3:(Value.type "list" ==Value.type "dict")=false:=by decide
  have f4:=F.sub_tuple_set
  have f5:=F.sub_tuple_frozenset
  have f6:(Value.type "tuple" ==Value.type "dict")=false:=by decide
  unfold Builtin.«set.__init__» noKeywords Builtin.Frozenset.updateFrom
  generalize hPI:pyIter=PI
  wp_walk
  subst hPI
  exact jjJ hl0 (wpAny_bind (wpAny_mono fin (fun _ s' q=>wpAny_pure (wpAny_pure q)) fun _ _ e=>e))
theorem jmk {Q:Value->Shared->Prop}(hh:B.handled=none)(hl:sAt b s.heap l its.toArray)(hi:jaR (zs.map V.str) its)(hb:zs.length+1<scanBound)
  (k:∀(g:Heap) (tk:Nat),g.SetOf (strKind P W) s.heap.objs.size (fun y=>decide (y∈ddS zs)) (ddS zs).length->(∀c o,s.heap.get? c=some o->g.get? c=some o)->Q (.ref s.heap.objs.size) {s with heap:=g,toks:=tk}) :
  wpAny (model P W) B (call (.type "set") [.ref l]) Q E s:=by
 have hlt:l<s.heap.objs.size:=let⟨_,e⟩:=hl.obj;j0h e
 obtain⟨c,tl,g1⟩:=F.called_set.mro
 have g2:=F.called_set.made
 have g3:=F.called_set.sub
 have g4:=F.called_set.notType
 have g5:=F.called_set.canCreate
 have g6:=F.typeCall_set_1 (.ref l)
 have body:∀(led:Bool) (C:Around),C.handled=none->codeAny (model P W) C (.call (.builtin "set.__init__") ⟨[.ref s.heap.objs.size,.ref l],[]⟩) (wants (fun r s2=>r=.none/\Q (.ref s.heap.objs.size) s2) E) {s with heap:=s.heap.push (jcJ led)}  :=fun led C hC=>by
  have hS:(s.heap.push (jcJ led)).get? s.heap.objs.size=some (jcJ led):=j0o _ rfl
  refine codeAny_call_builtin F.called_set.init.plain F.entry_set_init (check_set_init_1 (s:={s with heap:=s.heap.push (jcJ led)}) ⟨_,hS,rfl⟩ ?_)
  exact jl5 (s:={s with heap:=s.heap.push (jcJ led)}) (by simp[hC]) hS (sAt.keep hl fun o e=>j0c _ e) (Nat.ne_of_gt hlt) hi hb fun g tk hS' kp=>⟨rfl,k g tk hS' fun c o e=>kp c o (j0k (j0h e)) (j0c _ e)⟩
 refine wpAny_call (codeAny_of_tree ?_)
 show wpAny _ _ (callAny (.type "set") ⟨[.ref l],[]⟩) _ _ _
 refine wpAny_pure ⟨Code.quiet_builtin _ (by decide +kernel),codeAny_builtin F.entry_type_call ?_⟩
 rw[Around.under_plain (weight_type_call_type "set" [.ref l] []) rfl]
 wp_walk
 refine codeAny_mono (code_set_new_1 (.ref l) (E:=E) (Q₁:=fun x s1=>∃led,x=.ref s.heap.objs.size/\s1={s with heap:=s.heap.push (jcJ led)}) fun led=>⟨led,rfl,rfl⟩) fun r s1 hr=>?_
 match r,hr with
 |.error e,hr=>exact hr
 |.ok (.ret x),hr=>
  obtain⟨led,rfl,rfl⟩:=hr
  have hS:(s.heap.push (jcJ led)).get? s.heap.objs.size=some (jcJ led):=j0o _ rfl
  have hT:Shared.TypeIs {s with heap:=s.heap.push (jcJ led)} (.ref s.heap.objs.size) "set":=⟨_,hS,rfl⟩
  have i1:=F.called_set.init.lookup
  have i2:=F.called_set.init.bind (.ref s.heap.objs.size)
  wp_walk
  refine codeAny_mono (body led _ (by simp[hh])) fun r2 s2 hr2=>?_
  match r2,hr2 with
  |.error e,hr2=>exact hr2
  |.ok (.ret y),hr2=>
   obtain⟨rfl,q⟩:=hr2
   wp_walk
   exact q
end
section
variable {X:Cx}
noncomputable def jxB (K:PySem.W.Frag)(P:Program)(w:World):List V->Hp->VK->Prop:=fun xs H Q=>∃(p:Addr) (ys:List Str),xs=[.ref p]/\(SqL K H p (ys.map V.str)∨SqT K H p (ys.map V.str))/\ys.length<=1000/\∀l,H l=none->Q (.ref l) (upd H l (jv1 P w l (ddS ys).length))
theorem jnN (hc:X.calm=true):jbK X (.type "set") (jxB X.K X.prog X.w):=by
 intro pins s σ H xs us Q I r h
 obtain⟨p,ys,rfl,hq,hz,q⟩:=h
 obtain⟨u,rfl,rx⟩:=jgc r
 cases rx
 have fin:∀(b:Bool) (its:List Value),jaR (ys.map V.str) its->sAt b s.heap p its.toArray->wpAny (model X.prog X.w) X.A (call (.type "set") [.ref p]) (EP X pins σ Q) X.xe s:=fun b its rv pl=>by
  refine jmk (I.ok.hd hc) pl rv (by unfold scanBound;omega) fun h' tk hS kp=>?_
  refine⟨.ref s.heap.objs.size,_,I.laid (t':=tk) (o:=jv1 X.prog X.w s.heap.objs.size (ddS ys).length) kp (j0q _) ⟨⟨_,hS⟩,?_,?_⟩,rfl,q _ I.fresh⟩
  ·obtain⟨o,_,_,_,ho,_⟩:=hS
   exact⟨o,ho⟩
  ·rintro g1 g2 ⟨S,o,es,ep,t,ho,rest⟩ k
   exact⟨S,o,es,ep,t,k o ho,rest⟩
 rcases hq with hq|hq
 ·obtain⟨its,rv,pl,_⟩:=I.list hq
  exact fin false its rv pl.isList
 ·obtain⟨its,rv,pl,_⟩:=I.tuple hq
  exact fin true its rv pl
noncomputable def jnC (K:PySem.W.Frag)(P:Program)(w:World):List V->Hp->VK->Prop:=fun vs H Q=>jxB K P w vs H fun x H2=>∃(p:Addr) (n:Nat),[x]=[.ref p]/\H2 p=some (jv1 P w p n)/\n<=1000/\Q (.int n) H2
theorem jm2 {a:Expr} {ta:TA} {p1 p2 p3 p4:Pos} (hc:X.calm=true) (hg1:jb0 X.env.scope "len" =true) (hm1:X.mg "len" =none) (hg2:jb0 X.env.scope "set" =true) (hm2:X.mg "set" =none) (ha:PA X [a] ta) (hs:jaG a=true) :
  PE X (.Call (.Name "len" p1) [.Call (.Name "set" p2) [a] [] p3] [] p4) (fun σ H Q=>ta σ H fun vs H1=>jnC X.K X.prog X.w vs H1 Q):=by
 have h1:=(jmN (jnN hc) hg2 hm2 jw5 ⟨ha⟩ (by unfold jag;simp[hs]):QE X (.Call (.Name "set" p2) [a] [] p3) _)
 have h2:=(jqH jiB hg1 hm1 jrM (jtq h1 jx8):QE X (.Call (.Name "len" p1) [.Call (.Name "set" p2) [a] [] p3] [] p4) _)
 exact h2.h
end
section
variable {prog:Program} {w:World} {A:Around} {E:Value->Shared->Prop} {s:Shared}
theorem jpK {M:Model}{a:Addr}{o:Obj}{Q:Option Obj->Shared->Prop}(ho:s.heap.get? a=some o)(q:Q (some o) s):wpAny M A (loadIfAlive a) Q E s:=fun Γ p _=>by
 unfold loadIfAlive
 rw[Sem.wp_loadIfAlive,ho]
 exact q
def jvr (h:Heap)(z TI TO:Addr):Prop:=∃(T:Addr) (fl:Bool) (o:Obj),T≠z/\h.get? z=some {cls:=.type "zip",dict:=none,data:=.fields #[rawInt T,.bool fl,.bool false,.ref TI,.ref TO],slots:=#[]}/\h.get? T=some o
def jAP (h:Heap)(z TI TO:Addr):Prop:=IsZip h z TI TO .none∨jvr h z TI TO
theorem jlg {z TI TO:Addr}{Q:Bool->Shared->Prop}(h:jvr s.heap z TI TO)(q:∀h',jvr h' z TI TO->(∀c o,c≠z->s.heap.get? c=some o->h'.get? c=some o)->h'.objs.size=s.heap.objs.size->Q false {s with heap:=h'}) :
  wpAny (model prog w) A (Builtin.SmallTypes.ownedTupleIsFree (.ref z)) Q E s:=by
 obtain⟨T,fl,o,hne,hz,hT⟩:=h
 unfold Builtin.SmallTypes.ownedTupleIsFree
 refine wpAny_bind (wpAny_field hz rfl (x:=rawInt T) rfl ?_)
 show wpAny _ _ (loadIfAlive (T:Int).toNat >>=_) _ _ _
 rw[j1s]
 refine wpAny_bind (jpK hT ?_)
 show wpAny _ _ (field (.ref z) 1 >>=_) _ _ _
 refine wpAny_bind (wpAny_field hz rfl (x:=.bool fl) rfl ?_)
 cases fl with
 |true=>exact wpAny_pure (q s.heap ⟨T,true,o,hne,hz,hT⟩ (fun _ _ _ e=>e) rfl)
 |false=>
  refine wpAny_bind ?_
  show wpAny _ _ (setField (.ref z) 1 (.bool true)) _ _ _
  exact wpAny_setField_rec hz (by simp) fun h' hz' kz=>wpAny_pure (q h' ⟨T,true,o,hne,hz',kz.extBut _ _ hne hT⟩ (fun c o n e=>kz.extBut _ _ n e) kz.1)
theorem jtS {b1 b2:Bool}{z TI TO i1 i2 l1 l2:Addr}{i:Nat}{xs ys:Array Value}{x y:Value}{Q:Option Value->Shared->Prop}(D:ZipApart z TI TO i1 i2 l1 l2)
  (oz:jvr s.heap z TI TO) (oi:IsPair s.heap TI (.ref i1) (.ref i2)) (a1:iAt b1 s.heap i1 l1 i) (a2:iAt b2 s.heap i2 l2 i) (s1:sAt b1 s.heap l1 xs) (s2:sAt b2 s.heap l2 ys) (ex:xs[i]?=some x) (ey:ys[i]?=some y)
  (q:∀h',jvr h' z TI TO->iAt b1 h' i1 l1 (i+1)->iAt b2 h' i2 l2 (i+1)->IsPair h' s.heap.objs.size x y ->
   (∀c o,c≠z->c≠i1->c≠i2->s.heap.get? c=some o->h'.get? c=some o)->Q (some (.ref s.heap.objs.size)) {s with heap:=h'}) :
  wpAny (model prog w) A (pyNext (.ref z)) Q E s:=by
 obtain⟨T,fl,oT,hne,hz,hT⟩:=id oz
 have ty:s.TypeIs (.ref z) "zip":=⟨_,hz,rfl⟩
 unfold pyNext
 refine wpAny_bind (wpAny_attempt (wpAny_callSpecial?_slot (name:=Str.ofString "__next__") ty j1h (wpAny_call_entry j1h ty F.entry_zip_next ?_ (F.args_zip_next_1 _))))
 have fin:∀(w1:Value) (t:Shared),Q (some w1) t->wpAny (model prog w) A (pure (some w1)) Q E t:=fun _ _ z=>wpAny_pure z
 change wpAny _ _ (field (.ref z) 2 >>=_) _ _ _
 refine wpAny_bind (wpAny_field hz rfl (x:=.bool false) rfl ?_)
 change wpAny _ _ (field (.ref z) 3 >>=_) _ _ _
 refine wpAny_bind (wpAny_field hz rfl (x:=.ref TI) rfl (wpAny_bind (wpAny_seqItems oi rfl ?_)))
 change wpAny _ _ (Builtin.SmallTypes.ownedTupleIsFree (.ref z) >>=_) _ _ _
 refine wpAny_bind (jlg oz fun hA zA kA nA=>?_)
 rw[if_neg j0g]
 have a1A:iAt b1 hA i1 l1 i:=a1.keep fun o e=>kA _ _ D.i1z e
 have a2A:iAt b2 hA i2 l2 i:=a2.keep fun o e=>kA _ _ D.i2z e
 have s1A:sAt b1 hA l1 xs:=s1.keep fun o e=>kA _ _ D.l1z e
 have s2A:sAt b2 hA l2 ys:=s2.keep fun o e=>kA _ _ D.l2z e
 simp only[List.forIn_toArray,List.forIn_cons,List.forIn_nil]
 refine wpAny_bind (wpAny_bind (wpAny_bind (wpAny_holding ?_)))
 change wpAny _ _ (Builtin.SmallTypes.nextOf (.ref i1) >>=_) _ _ _
 refine wpAny_bind (jvp a1A s1A ex fun hB a1B kB=>wpAny_pure (wpAny_pure ?_))
 have a2B:iAt b2 hB i2 l2 i:=a2A.keep fun o e=>kB.extBut _ _ D.i12.symm e
 have s2B:sAt b2 hB l2 ys:=s2A.keep fun o e=>kB.extBut _ _ D.l2i1 e
 refine wpAny_bind (wpAny_bind (wpAny_holding ?_))
 change wpAny _ _ (Builtin.SmallTypes.nextOf (.ref i2) >>=_) _ _ _
 refine wpAny_bind (jvp a2B s2B ey fun hC a2C kC=>wpAny_pure (wpAny_pure (wpAny_pure ?_)))
 refine wpAny_bind (wpAny_newTuple ?_ (by show 2<=sizeLine;decide))
 have nC:hC.objs.size=s.heap.objs.size:=by rw[kC.1,kB.1,nA]
 have kAC:∀c o,c≠i1->c≠i2->hA.get? c=some o->hC.get? c=some o:=fun c o c1 c2 e=>kC.extBut _ _ c2 (kB.extBut _ _ c1 e)
 refine wpAny_pure ⟨_,rfl,fin _ _ ?_⟩
 change Q (some (.ref hC.objs.size)) {s with heap:=hC.push {cls:=.type "tuple",data:=.seq #[x,y]}}
 have new:(hC.push {cls:=.type "tuple",data:=.seq #[x,y]}).get? hC.objs.size=some {cls:=.type "tuple",data:=.seq #[x,y]}:=j0o _ rfl
 rw[nC]at new ⊢
 have up:∀c o,hC.get? c=some o->(hC.push {cls:=.type "tuple",data:=.seq #[x,y]}).get? c=some o:=fun c o e=>j0c _ e
 obtain⟨T',fl',o',hne',hz',hT'⟩:=zA
 refine q _ ?_ ((a1B.keep fun o e=>kC.extBut _ _ D.i12 e).keep fun o e=>up _ _ e) (a2C.keep fun o e=>up _ _ e) new fun c o c1 c2 c3 e=>up _ _ (kAC _ _ c2 c3 (kA _ _ c1 e))
 have zC:=up _ _ (kAC _ _ D.i1z.symm D.i2z.symm hz')
 by_cases e1:T'=i1
 ·obtain⟨o1,ho1,_⟩:=((a1B.keep fun o e=>kC.extBut _ _ D.i12 e).keep fun o e=>up _ _ e).obj
  exact⟨T',fl',o1,hne',zC,by rw[e1];exact ho1⟩
 ·by_cases e2:T'=i2
  ·obtain⟨o2,ho2,_⟩:=(a2C.keep fun o e=>up _ _ e).obj
   exact⟨T',fl',o2,hne',zC,by rw[e2];exact ho2⟩
  ·exact⟨T',fl',o',hne',zC,up _ _ (kAC _ _ e1 e2 hT')⟩
theorem jxf {b1 b2:Bool}{z TI TO i1 i2 l1 l2:Addr}{i:Nat}{xs ys:Array Value}{Q:Option Value->Shared->Prop}(hh:A.handled=none)(D:ZipApart z TI TO i1 i2 l1 l2)
  (oz:jvr s.heap z TI TO) (oi:IsPair s.heap TI (.ref i1) (.ref i2)) (a1:iAt b1 s.heap i1 l1 i) (a2:iAt b2 s.heap i2 l2 i) (s1:sAt b1 s.heap l1 xs) (s2:sAt b2 s.heap l2 ys) (ex:xs[i]?=none)
  (q:∀h',(∀c o,c≠z->c≠i1->c≠i2->s.heap.get? c=some o->h'.get? c=some o)->Q none {s with heap:=h'}) :
  wpAny (model prog w) A (pyNext (.ref z)) Q E s:=by
 obtain⟨T,fl,oT,hne,hz,hT⟩:=id oz
 have ty:s.TypeIs (.ref z) "zip":=⟨_,hz,rfl⟩
 have hh1:A.in1.handled=none:=hh
 unfold pyNext
 refine wpAny_bind (wpAny_attempt (wpAny_callSpecial?_slot (name:=Str.ofString "__next__") ty j1h (wpAny_call_entry j1h ty F.entry_zip_next ?_ (F.args_zip_next_1 _))))
 change wpAny _ _ (field (.ref z) 2 >>=_) _ _ _
 refine wpAny_bind (wpAny_field hz rfl (x:=.bool false) rfl ?_)
 change wpAny _ _ (field (.ref z) 3 >>=_) _ _ _
 refine wpAny_bind (wpAny_field hz rfl (x:=.ref TI) rfl (wpAny_bind (wpAny_seqItems oi rfl ?_)))
 change wpAny _ _ (Builtin.SmallTypes.ownedTupleIsFree (.ref z) >>=_) _ _ _
 refine wpAny_bind (jlg oz fun hA zA kA nA=>?_)
 rw[if_neg j0g]
 have a1A:iAt b1 hA i1 l1 i:=a1.keep fun o e=>kA _ _ D.i1z e
 have s1A:sAt b1 hA l1 xs:=s1.keep fun o e=>kA _ _ D.l1z e
 simp only[List.forIn_toArray,List.forIn_cons,List.forIn_nil]
 refine wpAny_bind (wpAny_bind (wpAny_bind (wpAny_holding ?_)))
 change wpAny _ _ (Builtin.SmallTypes.nextOf (.ref i1) >>=_) _ _ _
 refine wpAny_bind (jgr hh1 a1A s1A ex fun hX e kX he=>?_)
 obtain⟨o,ho,hc⟩:=he
 exact wpAny_bind (wpAny_isInstance (T:="StopIteration") (b:=true) ⟨o,ho,hc⟩ isSubtype_stop (wpAny_pure (q _ fun c o c1 c2 _ e=>kX _ _ c2 (kA _ _ c1 e))))
end
theorem jq5:typeLookup (.type "zip") "keys" =pure none:=am_miss_of_fast (by kernel_rfl)
theorem jrp:typeLookup (.type "zip") "__getattr__" =pure none:=am_miss_of_fast (by kernel_rfl)
theorem jwI:entryFor table "zip.__getattribute__" =some Builtin.«object.__getattribute__»:=entryFor_alias (id':="object.__getattribute__") (by kernel_rfl) (by decide +kernel) (by decide +kernel) (by kernel_rfl)
section
variable {prog:Program} {w:World} {A:Around} {E:Value->Shared->Prop} {s:Shared} {z:Addr} {vs:Array Value}
theorem jq6 {u:Tok} {Q:PySem.Fin->Shared->Prop} (hz:s.heap.get? z=some {cls:=.type "zip",dict:=none,data:=.fields vs,slots:=#[]}) (hh:A.handled=none)
  (q:∀h' tk e,Heap.NewAttrErr s.heap h' e (.ref z) "keys"->E (.ref e) {s with heap:=h',toks:=tk}):wpAny (model prog w) A (Builtin.«object.__getattribute__» ⟨[.ref z,.str "keys" u],[]⟩) Q E s:=by
 obtain⟨hp,g,d,tk,os⟩:=s
 have hT:(⟨hp,g,d,tk,os⟩:Shared).TypeIs (.ref z) "zip":=⟨_,hz,rfl⟩
 have f1:=jq5
 unfold Builtin.«object.__getattribute__»
 wp_walk
 exact wpAny_raiseAttrError hh q (attrMsg_fits (by decide +kernel) (by size_fits))
theorem jmb {Q:Option Value->Shared->Prop} (hz:s.heap.get? z=some {cls:=.type "zip",dict:=none,data:=.fields vs,slots:=#[]}) (hh:A.handled=none)
  (q:∀h' tk,(∀b o,s.heap.get? b=some o->h'.get? b=some o)->Q none {s with heap:=h',toks:=tk}):wpAny (model prog w) A (getAttr? (.ref z) "keys") Q E s:=by
 obtain⟨hp,g,d,tk,os⟩:=s
 have t0:(⟨hp,g,d,tk,os⟩:Shared).TypeIs (.ref z) "zip":=⟨_,hz,rfl⟩
 have t1:(⟨hp,g,d,tk+1,os⟩:Shared).TypeIs (.ref z) "zip":=⟨_,hz,rfl⟩
 have e1:=sub_AttributeError
 have e2:=F.slot_zip_getattribute.lookup
 have e3:=F.slot_zip_getattribute.bind (.ref z)
 have e4:=jrp
 unfold getAttr? getAttrBy? getAttrBy
 wp_walk
 refine codeAny_call_builtin F.slot_zip_getattribute.plain jwI (F.slot_zip_getattribute.check _ _ _ _ _ _ _ _ t1 (F.args_zip_getattribute_2 _ _) (jq6 (s:=⟨hp,g,d,tk+1,os⟩) hz (by simp[hh]) fun h' tk' e ne=>?_))
 obtain⟨t',u',he⟩:=ne.there
 change wpAny _ _ (getattributeRaised _ _ _ _ _ _ _) _ _ _
 unfold getattributeRaised hookOrError hookBehind attributeErrorLeaves
 wp_walk
 exact q _ _ ne.keeps
end
section
variable {prog:Program} {w:World} {A:Around} {R:Result->Shared->Prop}
structure ZipAt (b1 b2:Bool) (z TI TO i1 i2 l1 l2:Addr) (xs ys:Array Value) (i:Nat) (h:Heap):Prop where
 zs:jAP h z TI TO
 ti:IsPair h TI (.ref i1) (.ref i2)
 to:∃c d,IsPair h TO c d
 a1:iAt b1 h i1 l1 i
 a2:iAt b2 h i2 l2 i
 s1:sAt b1 h l1 xs
 s2:sAt b2 h l2 ys
theorem ZipAt.keep {b1 b2:Bool}{z TI TO i1 i2 l1 l2:Addr}{xs ys:Array Value}{i:Nat}{h h':Heap}{D:Addr}(Z:ZipAt b1 b2 z TI TO i1 i2 l1 l2 xs ys i h)(hz:z≠D)(h2:TI≠D)(h3:TO≠D)(h4:i1≠D)(h5:i2≠D)(h6:l1≠D)(h7:l2≠D)(hD:∃o,h'.get? D=some o)(k:∀c o,c≠D->h.get? c=some o->h'.get? c=some o):ZipAt b1 b2 z TI TO i1 i2 l1 l2 xs ys i h':=by
 refine⟨?_,k _ _ h2 Z.ti,let⟨c,d,e⟩:=Z.to;⟨c,d,k _ _ h3 e⟩,Z.a1.keep fun o e=>k _ _ h4 e,Z.a2.keep fun o e=>k _ _ h5 e,Z.s1.keep fun o e=>k _ _ h6 e,Z.s2.keep fun o e=>k _ _ h7 e⟩
 rcases Z.zs with e|⟨T,fl,o,hne,e,hT⟩
 ·exact .inl (k _ _ hz e)
 ·by_cases c:T=D
  ·obtain⟨o',ho'⟩:=hD
   exact .inr ⟨T,fl,o',hne,k _ _ hz e,by rw[c];exact ho'⟩
  ·exact .inr ⟨T,fl,o,hne,k _ _ hz e,k _ _ c hT⟩
theorem ZipAt.next {E:Value->Shared->Prop}{s:Shared}{b1 b2:Bool}{z TI TO i1 i2 l1 l2:Addr}{xs ys:Array Value}{i:Nat}{x y:Value}{Q:Option Value->Shared->Prop}(D:ZipApart z TI TO i1 i2 l1 l2)(Z:ZipAt b1 b2 z TI TO i1 i2 l1 l2 xs ys i s.heap)(ex:xs[i]?=some x)(ey:ys[i]?=some y)
  (q:∀h',ZipAt b1 b2 z TI TO i1 i2 l1 l2 xs ys (i+1) h'->IsPair h' s.heap.objs.size x y->(∀c o,c≠z->c≠TO->c≠i1->c≠i2->s.heap.get? c=some o->h'.get? c=some o)->Q (some (.ref s.heap.objs.size)) {s with heap:=h'}) :
  wpAny (model prog w) A (pyNext (.ref z)) Q E s:=by
 obtain⟨c,d,hTO⟩:=Z.to
 have hzn:s.heap.objs.size≠z:=by
  rcases Z.zs with e|⟨T,fl,o,hne,e,hT⟩<;>exact Ne.symm (j0k (j0h e))
 rcases Z.zs with e|e
 ·refine jp D e Z.ti hTO Z.a1 Z.a2 Z.s1 Z.s2 ex ey fun h' z' o' a1' a2' p' k'=>?_
  exact q h' ⟨.inr ⟨s.heap.objs.size,false,_,hzn,z',p'⟩,k' _ _ D.TIz D.TITO D.TIi1 D.TIi2 Z.ti,⟨_,_,o'⟩,a1',a2',Z.s1.keep fun o e=>k' _ _ D.l1z D.l1TO D.l1i1 D.l1i2 e,Z.s2.keep fun o e=>k' _ _ D.l2z D.l2TO D.l2i1 D.l2i2 e⟩ p' k'
 ·refine jtS D e Z.ti Z.a1 Z.a2 Z.s1 Z.s2 ex ey fun h' z' a1' a2' p' k'=>?_
  exact q h' ⟨.inr z',k' _ _ D.TIz D.TIi1 D.TIi2 Z.ti,⟨c,d,k' _ _ D.TOz D.TOi1 D.TOi2 hTO⟩,a1',a2',Z.s1.keep fun o e=>k' _ _ D.l1z D.l1i1 D.l1i2 e,Z.s2.keep fun o e=>k' _ _ D.l2z D.l2i1 D.l2i2 e⟩ p' fun c o c1 _ c3 c4 e=>k' c o c1 c3 c4 e
theorem ZipAt.stop {E:Value->Shared->Prop}{s:Shared}{b1 b2:Bool}{z TI TO i1 i2 l1 l2:Addr}{xs ys:Array Value}{i:Nat}{Q:Option Value->Shared->Prop}(hh:A.handled=none)(D:ZipApart z TI TO i1 i2 l1 l2)(Z:ZipAt b1 b2 z TI TO i1 i2 l1 l2 xs ys i s.heap)(ex:xs[i]?=none)
  (q:∀h',(∀c o,c≠z->c≠TO->c≠i1->c≠i2->s.heap.get? c=some o->h'.get? c=some o)->Q none {s with heap:=h'}) :
  wpAny (model prog w) A (pyNext (.ref z)) Q E s:=by
 obtain⟨c,d,hTO⟩:=Z.to
 rcases Z.zs with e|e
 ·exact jr4 hh D e Z.ti hTO Z.a1 Z.a2 Z.s1 Z.s2 (.inl ex) q
 ·exact jxf hh D e Z.ti Z.a1 Z.a2 Z.s1 Z.s2 ex fun h' k=>q h' fun c o c1 _ c3 c4 e=>k c o c1 c3 c4 e
theorem jjA:entryFor table "dict.update.loop" =some Builtin.«dict.update.loop»:=entryFor_of_tree (by kernel_rfl)
theorem jfw:plainId "dict.update.loop" =true:=by decide +kernel
noncomputable def jfE (ks:List Str)(us:List Value):List (Key×Value):=(ks.zip us).map fun p=>(Sum.inr p.1,p.2)
theorem jmo {kvs:List (Key×Value)}{k:Key}{v:Value}(h:k∉kvs.map (·.1)):stored kvs k v=kvs++[(k,v)]:=by
 unfold stored
 rw[if_neg]
 intro hc
 obtain⟨p,hp,e⟩:=List.any_eq_true.mp hc
 exact h (j0s.mpr ⟨p,hp,by simpa using e⟩)
theorem jiQ {b1 b2:Bool}{z TI TO i1 i2 l1 l2 Dd:Addr}{xs ys:Array Value}{ks:List Str}(D:ZipApart z TI TO i1 i2 l1 l2)(hk:∀(i:Nat) (v:Value),xs[i]?=some v->∃k t,ks[i]?=some k/\v=.str k t)(hlx:xs.size=ks.length)(hly:ys.size=ks.length)(hn:ks.Nodup)(hb:ks.length<=1000)
  (n1:z≠Dd) (n2:TI≠Dd) (n3:TO≠Dd) (n4:i1≠Dd) (n5:i2≠Dd) (n6:l1≠Dd) (n7:l2≠Dd) (hh:A.handled=none) :
  ∀(m i:Nat) (j:Int) (s:Shared),ks.length - i=m->i<=ks.length->ZipAt b1 b2 z TI TO i1 i2 l1 l2 xs ys i s.heap->s.heap.DictOf (ja6 prog w) Dd (jfE (ks.take i) (ys.toList.take i)) ->
   (∀h' tk,(∀c o,c≠Dd->c≠z->c≠TO->c≠i1->c≠i2->s.heap.get? c=some o->h'.get? c=some o)->h'.DictOf (ja6 prog w) Dd (jfE ks ys.toList)->R (.ok (.ret .none)) {s with heap:=h',toks:=tk}) ->
   codeAny (model prog w) A (.builtin "dict.update.loop" ⟨[.ref Dd,.ref z,rawInt j,.none],[]⟩) R s:=by
 intro m
 induction m with
 |zero=>
  intro i j s hm hi Z hS q
  obtain rfl:i=ks.length:=by omega
  refine codeAny_builtin jjA ?_
  rw[Around.under_plainId jfw _]
  change wpAny _ A.in1 (pyNext (.ref z) >>=_) _ _ s
  refine wpAny_bind (Z.stop (by simp[hh]) D (by simp[hlx]) fun h' k'=>?_)
  change wpAny _ A.in1 (Builtin.Dict.addKeywords Dd [] >>=_) _ _ _
  refine wpAny_bind (wpAny_pure (wpAny_pure (q h' s.toks (fun c o _ c1 c2 c3 c4 e=>k' c o c1 c2 c3 c4 e) ?_)))
  rw[List.take_length,j1k (by rw[j01];omega)]at hS
  exact hS.at fun o e=>k' _ _ n1.symm n3.symm n4.symm n5.symm e
 |succ m ih=>
  intro i j s hm hi Z hS q
  have hlt:i<ks.length:=by omega
  have hx:xs[i]?=some xs[i]:=by simp[hlx,hlt]
  have hy:ys[i]?=some ys[i]:=by simp[hly,hlt]
  obtain⟨k,t,hki,hkv⟩:=hk i _ hx
  refine codeAny_builtin jjA ?_
  rw[Around.under_plainId jfw _]
  change wpAny _ A.in1 (pyNext (.ref z) >>=_) _ _ s
  refine wpAny_bind (Z.next D hx hy fun h1 Z1 p1 k1=>?_)
  have hS1:h1.DictOf (ja6 prog w) Dd (jfE (ks.take i) (ys.toList.take i)):=hS.at fun o e=>k1 _ _ n1.symm n3.symm n4.symm n5.symm e
  rw[hkv]at p1
  change wpAny _ A.in1 (holding [Value.ref s.heap.objs.size] _ >>=_) _ _ _
  refine wpAny_bind (wpAny_holding ?_)
  have ty:Shared.TypeIs {s with heap:=h1} (.ref s.heap.objs.size) "tuple":=⟨_,p1,rfl⟩
  have prs:wpAny (model prog w) A.in1 (Builtin.Dict.pairItems (.ref s.heap.objs.size)) (fun r s'=>r=[Value.str k t,ys[i]]/\s'={s with heap:=h1}) (fun _ _=>False) {s with heap:=h1}:=by
   unfold Builtin.Dict.pairItems
   refine wpAny_bind (wpAny_typeOf ty ?_)
   rw[if_pos (by decide)]
   exact wpAny_bind (wpAny_seqItems p1 rfl (wpAny_pure ⟨rfl,rfl⟩))
  refine wpAny_bind (wpAny_tryCatch (wpAny_mono prs (fun r s' hr=>?_) fun _ _ h=>h.elim))
  obtain⟨rfl,rfl⟩:=hr
  change wpAny _ A.in1 (holding [Value.str k t,ys[i]] (dictSet Dd (.str k t) ys[i])) _ _ _
  have hsmall:(jfE (ks.take i) (ys.toList.take i)).length<=sizeLine:=by
   unfold jfE
   rw[j0f,List.length_zip,j0n,j0n]
   exact j0H (by omega:_<=1000) (by decide)
  refine wpAny_holding (wpAny_dictSet_pairs (knd:=ja6 prog w) (s:={s with heap:=h1}) (k:=Sum.inr k) (jgv prog w k t) hS1 (fun h2 hd2 sb=>?_) hsmall)
  have enew:stored (jfE (ks.take i) (ys.toList.take i)) (Sum.inr k) ys[i]=jfE (ks.take (i+1)) (ys.toList.take (i+1)):=by
   rw[jmo]
   ·unfold jfE
    have hyl:ys.toList[i]?=some ys[i]:=by simp[hly,hlt]
    rw[jju hki,jju hyl,List.zip_append (by simp only[j0n,j01,hly]),j0Q]
    rfl
   ·intro hm'
    unfold jfE at hm'
    rw[j0I]at hm'
    obtain⟨p,hp,e⟩:=j0s.mp hm'
    have e':p.1=k:=Sum.inr.inj e
    have hin:k∈ks.take i:=by rw[<- e'];exact(List.of_mem_zip hp).1
    obtain⟨i',hi',he⟩:=List.getElem_of_mem hin
    have hi2:i'<i:=by
     rw[j0n]at hi'
     omega
    have he':ks[i']?=some k:=by
     rw[<- he,List.getElem_take,List.getElem?_eq_getElem]
    have:=(List.getElem?_inj (i:=i') (j:=i) (by omega) hn).mp (he'.trans hki.symm)
    omega
  rw[enew]at hd2
  have hDl:∃o,h2.get? Dd=some o:=let⟨o,_,_,e,_⟩:=hd2;⟨o,e⟩
  refine wpAny_pure ⟨plainId_quiet jfw _,ih (i+1) (j+1) _ (by omega) hlt (Z1.keep n1 n2 n3 n4 n5 n6 n7 hDl fun c o hc e=>(sb.2 c hc).trans e) hd2 fun h' tk kp hS'=>?_⟩
  exact q h' tk (fun c o c0 c1 c2 c3 c4 e=>kp c o c0 c1 c2 c3 c4 ((sb.2 c c0).trans (k1 c o c1 c2 c3 c4 e))) hS'
end
section
variable {prog:Program} {w:World} {A:Around} {E:Value->Shared->Prop} {s:Shared}
theorem jkO {b1 b2:Bool}{z TI TO i1 i2 l1 l2:Addr}{xs ys:Array Value}{ks:List Str}{Q:Value->Shared->Prop}(hh:A.handled=none)(D:ZipApart z TI TO i1 i2 l1 l2)(hz:IsZip s.heap z TI TO .none)(hTI:IsPair s.heap TI (.ref i1) (.ref i2))(hTO:∃c d,IsPair s.heap TO c d)(a1:iAt b1 s.heap i1 l1 0)(a2:iAt b2 s.heap i2 l2 0)(s1:sAt b1 s.heap l1 xs)(s2:sAt b2 s.heap l2 ys)
  (hk:∀(i:Nat) (v:Value),xs[i]?=some v->∃k t,ks[i]?=some k/\v=.str k t) (hlx:xs.size=ks.length) (hly:ys.size=ks.length) (hn:ks.Nodup) (hb:ks.length<=1000)
  (q:∀h' tk,h'.DictOf (ja6 prog w) s.heap.objs.size (jfE ks ys.toList)->(∀c o,c≠z->c≠TO->c≠i1->c≠i2->s.heap.get? c=some o->h'.get? c=some o)->Q (.ref s.heap.objs.size) {s with heap:=h',toks:=tk}) :
  wpAny (model prog w) A (call (.type "dict") [.ref z]) Q E s:=by
 refine callType_codes (Q₁:=fun x s1=>x=.ref s.heap.objs.size/\s1={s with heap:=s.heap.push {cls:=.type "dict",data:=.dict #[]}}) F.kt_called_dict (F.kt_typeCall_dict_1 _) F.entry_dict_init (kt_code_dict_new _ ⟨rfl,rfl⟩) ?_
 rintro x s1' ⟨rfl,rfl⟩
 have hnew:(s.heap.push {cls:=.type "dict",data:=.dict #[]}).DictOf (ja6 prog w) s.heap.objs.size []:=Heap.DictOf.new s.heap
 have up:∀c o,s.heap.get? c=some o->(s.heap.push {cls:=.type "dict",data:=.dict #[]}).get? c=some o:=fun c o e=>j0c _ e
 refine⟨hnew.typeIs,F.args_dict_init_2 _ _,?_⟩
 generalize s.heap.push {cls:=.type "dict",data:=.dict #[]}=hA at hnew up
 have ne:∀{c:Addr} {o:Obj},s.heap.get? c=some o->c≠s.heap.objs.size:=fun e=>j0k (j0h e)
 unfold Builtin.«dict.__init__»
 refine wpAny_bind ?_
 unfold Builtin.Dict.selfAndRest
 refine wpAny_bind (wpAny_notOrdered_dict hnew.typeIs (wpAny_pure ?_))
 change wpAny _ _ (Builtin.Dict.updateFrom "dict.__init__" s.heap.objs.size (.ref z) [] .none) _ _ _
 unfold Builtin.Dict.updateFrom
 refine wpAny_bind (wpAny_typeOf (T:="zip") ⟨_,up _ _ hz,rfl⟩ ?_)
 rw[if_pos (by decide)]
 refine wpAny_bind (jmb (s:={s with heap:=hA}) (up _ _ hz) (by simp[hh]) fun hB tk kB=>?_)
 rw[if_pos (show(none:Option Value).isNone=true from rfl)]
 have upB:∀c o,s.heap.get? c=some o->hB.get? c=some o:=fun c o e=>kB _ _ (up _ _ e)
 refine wpAny_bind (wpAny_rule (wpAny_bind (wpAny_pyIter_zip (s:={s with heap:=hB,toks:=tk}) (upB _ _ hz) ?_)))
 obtain⟨c,d,hTO'⟩:=hTO
 obtain⟨o1,e1,_⟩:=a1.obj
 obtain⟨o2,e2,_⟩:=a2.obj
 obtain⟨o3,e3⟩:=s1.obj
 obtain⟨o4,e4⟩:=s2.obj
 have hS0:hB.DictOf (ja6 prog w) s.heap.objs.size (jfE (ks.take 0) (ys.toList.take 0)):=by
  have:=hnew.at (h':=hB) fun o e=>kB _ _ e
  simpa[jfE]using this
 refine wpAny_pure ⟨plainId_quiet jfw _,jiQ (A:=A.in1) D hk hlx hly hn hb (ne hz) (ne hTI) (ne hTO') (ne e1) (ne e2) (ne e3) (ne e4) (by simp[hh]) (ks.length - 0) 0 0 _ rfl (Nat.zero_le _) ⟨.inl (upB _ _ hz),upB _ _ hTI,⟨c,d,upB _ _ hTO'⟩,a1.keep fun o e=>upB _ _ e,a2.keep fun o e=>upB _ _ e,s1.keep fun o e=>upB _ _ e,s2.keep fun o e=>upB _ _ e⟩ hS0 fun h' tk' kp hS=>⟨rfl,q h' tk' hS fun c o c1 c2 c3 c4 e=>kp c o (ne e) c1 c2 c3 c4 (upB _ _ e)⟩⟩
end
section
variable {X:Cx}
noncomputable def jk6 (K:PySem.W.Frag):List V->Hp->VK->Prop:=fun vs H Q=>∃(p q:Addr) (b1 b2:Bool) (ks:List Str) (us:List V),vs=[.ref p,.ref q]/\SqB b1 K H p (ks.map V.str)/\SqB b2 K H q us/\us.length=ks.length/\ks.length<=1000/\ks.Nodup/\((∀l,H l=none->Q (.ref l) (upd H l (.dK ((ks.map Sum.inr).zip us))))∨∀l o es ep,H l=none->o.data=.dict es ep->Q (.ref l) (upd H l (.frz o (.dK ((ks.map Sum.inr).zip us)))))
theorem jjP:∀{ks:List Str} {us:List V} {ws:List Value},jaR us ws->KV ((ks.map Sum.inr).zip us) (jfE ks ws)
 |[],_,_,_=>.nil
 |_::_,_,_,.nil=>.nil
 |k::ks,_,_,.cons r t=>.cons ⟨rfl,r⟩ (jjP t)
theorem jl6 {a b:Expr} {ta:TA} {p1 p2 p3 p4:Pos} (hc:X.calm=true) (hg1:jb0 X.env.scope "dict" =true) (hm1:X.mg "dict" =none) (hg2:jb0 X.env.scope "zip" =true) (hm2:X.mg "zip" =none) (ha:PA X [a,b] ta) (hs:jag [a,b]=true) :
  PE X (.Call (.Name "dict" p1) [.Call (.Name "zip" p2) [a,b] [] p3] [] p4) (fun σ H Q=>ta σ H fun vs H1=>jk6 X.K vs H1 Q):=by
 have h1:=hs
 unfold jag at h1
 simp only[j0S,j0a]at h1
 have hs2:starEach [b] X.env=[(false,eval b X.env)]:=jau h1.2.1
 have hs1:starEach [a,b] X.env=[(false,eval a X.env),(false,eval b X.env)]:=by rw[jau h1.1,hs2]
 have hs0:starEach [.Call (.Name "zip" p2) [a,b] [] p3] X.env=[(false,eval (.Call (.Name "zip" p2) [a,b] [] p3) X.env)]:=jau rfl
 intro pins s σ H Q I h
 refine Call_name1 hs0 (jf I (jas hg1).1 hm1 jsS (callWith_type1 (Call_ (jf I (jas hg2).1 hm2 js (j0U (thn (ha p3 pins s σ H _ I h) fun us s1 ⟨vs,H1,I1,r1,q1⟩=>?_) (by rw[hs1,hs2]) (by rw[hs2];rfl))))))
 obtain⟨l1,l2,b1,b2,ks,ws,rfl,sq1,sq2,el,hb,hn,q⟩:=q1
 obtain⟨u1,u2,rfl,ru1,ru2⟩:=r1.two
 cases ru1
 cases ru2
 obtain⟨its1,rv1,pl1,_⟩:=I1.sqb sq1
 obtain⟨its2,rv2,pl2,_⟩:=I1.sqb sq2
 have e1:=rv1.length
 have e2:=rv2.length
 rw[j0f]at e1
 have a1:l1<s1.heap.objs.size:=by obtain⟨_,e⟩:=pl1.obj;exact j0h e
 have a2:l2<s1.heap.objs.size:=by obtain⟨_,e⟩:=pl2.obj;exact j0h e
 refine jhG pl1 pl2 fun h' hz hTI hTO i1 i2 kp=>?_
 have hsz:s1.heap.objs.size+5<=h'.objs.size:=j0h hz
 refine jkO (s:={s1 with heap:=h'}) (ks:=ks) (I1.ok.hd hc) (zipApart_new a1 a2) hz hTI ⟨_,_,hTO⟩ i1 i2 (sAt.keep pl1 fun o e=>kp _ _ e) (sAt.keep pl2 fun o e=>kp _ _ e) (fun i v hv=>?_) (by rw[j0j];omega) (by rw[j0j];omega) hn hb fun h2 tk hd kp2=>?_
 ·have hv':its1[i]?=some v:=by simpa using hv
  have hi':i<ks.length:=by rw[e1];exact(j0r.mp hv').1
  obtain⟨u',hu,t,ru⟩:=rv1.get (i:=i) (x:=V.str ks[i]) (by simp[hi'])
  rw[hv']at hu
  cases hu
  exact⟨ks[i],t,by simp[hi'],ru⟩
 ·have old:∀c o,s1.heap.get? c=some o->h2.get? c=some o:=fun c o e=>by
   have hlt:c<s1.heap.objs.size:=j0h e
   exact kp2 c o (j0k (j0m hlt (j05 _ 4))) (j0k (j0m hlt (j05 _ 3))) (j0k hlt) (j0k (j0m hlt (j05 _ 1))) (kp _ _ e)
  have hok:∀H',jb1 X.prog X.w H' h2 h'.objs.size (.dK ((ks.map Sum.inr).zip ws)):=fun H'=>jx5 (by rw[List.length_zip,j0f];exact j0H (by omega:_<=1000) (by decide)) (beq_eq_false_iff_ne.mpr (Nat.ne_of_gt (j0m I1.big (by omega)))) (jjP (ks:=ks) (by simpa using rv2)) hd
  rcases q with q|q
  ·exact⟨.ref h'.objs.size,_,I1.laid (a:=h'.objs.size) (t':=tk) (o:=.dK ((ks.map Sum.inr).zip ws)) old (by omega) (hok _),rfl,q _ (I1.hok.fresh (by omega))⟩
  ·obtain⟨o,es,ep,ho,_,hdt,_⟩:=hd
   exact⟨.ref h'.objs.size,_,I1.laid (a:=h'.objs.size) (t':=tk) (o:=.frz o (.dK ((ks.map Sum.inr).zip ws))) old (by omega) ⟨ho,hok _⟩,rfl,q _ o es ep (I1.hok.fresh (by omega)) hdt⟩
end
section
variable {X:Cx}
theorem ji7:∀l:List (Str×Tok),jaR ((l.map (·.1)).map V.str) (strValues l)
 |[]=>.nil
 |p::l=>.cons ⟨p.2,rfl⟩ (ji7 l)
noncomputable def rSplit:V->List V->Hp->VK->Prop:=fun x xs H Q=>∃z y,x=.str z/\xs=[.str y]/\(y.length==0)=false/\z.length<=100000/\∀l,H l=none->Q (.ref l) (upd H l (.lst ((Txt.split z y).map V.str)))
theorem jqZ:MtR X "str.split" rSplit:=by
 intro pins s σ H x xs v us Q I rx rv h
 obtain⟨z,y,rfl,rfl,hy,hz,q⟩:=h
 obtain⟨t,rfl⟩:=rx
 obtain⟨u,rfl,u',rfl⟩:=rv.one
 have hz':z.length<=sizeLine:=j0H hz (by decide)
 have hle:(Txt.split z y).length<=sizeLine:=j0H (split_le z y) (j0H (Nat.add_le_add_right hz 2) (by decide))
 have fin:∀(l:List (Str×Tok)) (tk:Nat),l.map (·.1)=Txt.split z y->EP X pins σ Q (.ref s.heap.objs.size) {s with heap:=s.heap.push {cls:=.type "list",data:=.seq (strValues l).toArray},toks:=tk}:=fun l tk e=>by
  have hv:=ji7 l
  rw[e]at hv
  exact⟨.ref s.heap.objs.size,_,I.lnew (t':=tk) hv (by rw[j0f];exact hle),rfl,q _ I.fresh⟩
 cases h1:(decide (z.length<y.length)||decide (PySem.Builtin.Str.strKind z<PySem.Builtin.Str.strKind y))with
 |true=>exact call_meets F.slot_str_split (typeIs_str _ _ _) F.entry_str_split (F.args_str_split_2 _ _) (meets_str_split_cannot_occur z y t u' h1) (fin [(z,t)] s.toks (if_pos h1).symm)
 |false=>
  cases h2:(PySem.Builtin.Str.occurrences z y 0 z.length (z.length+1)).isEmpty with
  |true=>exact call_meets F.slot_str_split (typeIs_str _ _ _) F.entry_str_split (F.args_str_split_2 _ _) (meets_str_split_not_found z y t u' h1 hy h2) (fin [(z,t)] s.toks ((if_neg (by rw[h1];exact j0g)).trans (if_pos h2)).symm)
  |false=>
   have e:Txt.split z y=PySem.Builtin.Str.partsBetween z (PySem.Builtin.Str.occurrences z y 0 z.length (z.length+1)) y.length:=(if_neg (by rw[h1];exact j0g)).trans (if_neg (by rw[h2];exact j0g))
   refine call_meets F.slot_str_split (typeIs_str _ _ _) F.entry_str_split (F.args_str_split_2 _ _) (meets_str_split_sep z y t u' h1 hy h2 hz' (by rw[<- e];exact hle)) ?_
   have:=fin (numbered s.toks (PySem.Builtin.Str.partsBetween z (PySem.Builtin.Str.occurrences z y 0 z.length (z.length+1)) y.length))
   rw[<- strsFrom_eq]at this
   exact this _ ((numbered_texts _ _).trans e.symm)
noncomputable def jxK:List V->Hp->VK->Prop:=fun xs H Q=>∃z n,xs=[.str z]/\PySem.intText? z=some n/\z.length<=640/\Q (.int n) H
theorem joJ:jbK X (.type "int") jxK:=by
 intro pins s σ H xs us Q I r h
 obtain⟨z,n,rfl,hn,hz,q⟩:=h
 obtain⟨u,rfl,t,rfl⟩:=jgc r
 exact PySem.W.KIN.call_text hn hz ⟨.int n,H,I.tok _,⟨_,rfl⟩,q⟩
noncomputable def jvv:List V->Hp->VK->Prop:=fun xs H Q=>∃z,xs=[.str z]/\Q (.str z) H
theorem jng:jbK X (.type "str") jvv:=by
 intro pins s σ H xs us Q I r h
 obtain⟨z,rfl,q⟩:=h
 obtain⟨u,rfl,t,rfl⟩:=jgc r
 exact PySem.P.str_of_str ⟨.str z,H,I,⟨_,rfl⟩,q⟩
end
section
variable {X:Cx}
end
section
variable {X:Cx}
noncomputable def jcz (n:Nat)(lo st:Int):List Nat:=sliceRange (max 0 (min lo n)) n st
noncomputable def jwo (K:PySem.W.Frag):V->Option Int->Option Int->Hp->VK->Prop:=fun x lo st H Q=>∃a xs i k,x=.ref a/\lo=some i/\st=some k/\0<=i/\0<k/\SqL K H a xs/\∀p,H p=none->Q (.ref p) (upd H p (.lst ((jcz xs.length i k).filterMap (xs[·]?))))
theorem jgx {xs:List V}{its:List Value}(h:jaR xs its):∀ns:List Nat,jaR (ns.filterMap (xs[·]?)) (ns.filterMap (its[·]?))
 |[]=>.nil
 |n::ns=>by
  rw[j0G,j0G]
  cases e:xs[n]? with
  |none=>
   rw[h.none_of e]
   exact jgx h ns
  |some v=>
   obtain⟨u,hu,r⟩:=h.get e
   rw[hu]
   exact .cons r (jgx h ns)
theorem jve {e a b:Expr}{te:TE}{tl ts:TO}{p2 pos:Pos}(he:PE X e te)(hl:PO X (some a) tl)(hs:PO X (some b) ts) :
  PE X (.Subscript e (.Slice (some a) none (some b) p2) pos) (fun σ H Q=>te σ H fun x H1=>tl σ H1 fun l H2=>ts σ H2 fun k H3=>jwo X.K x l k H3 Q):=by
 intro pins s σ H Q I h
 refine Subscript_ (thn (he pins s σ H _ I h) fun v s1 ⟨x,H1,I1,r1,q1⟩=>?_)
 refine wpAny_Slice (thn (hl pins s1 σ H1 _ I1 q1) fun vl s2 ⟨l,H2,I2,pl,q2⟩=>?_)
 rw[evalPart_none]
 refine wpAny_pure (thn (hs pins s2 σ H2 _ I2 q2) fun vk s3 ⟨k,H3,I3,pk,q3⟩=>?_)
 obtain⟨ad,xs,i,n,rfl,rfl,rfl,hi,hn,hq,q⟩:=q3
 cases r1
 have I4:Inv X pins σ H3 {s3 with heap:=s3.heap.push {cls:=.type "slice",data:=.fields #[vl,.none,vk]}}:=I3.kept (t':=s3.toks) fun b ob q=>j0c _ q
 obtain⟨its,rv,pl',hz⟩:=I4.list hq
 have hlen:=rv.length
 show wpAny (model X.prog X.w) X.A (subscriptTail e (.Slice (some a) none (some b) p2) (.ref ad) (.ref s3.heap.objs.size)) (EP X pins σ Q) X.xe {s3 with heap:=s3.heap.push {cls:=.type "slice",data:=.fields #[vl,.none,vk]}}
 have hsz:its.toArray.size<=sizeLine:=by rw[j0j,<- hlen];exact hz
 have hpick:slicePick its.toArray (some i) none (some n)=((jcz xs.length i n).filterMap (its[·]?)).toArray:=by
  unfold slicePick jcz sliceBounds
  have h1:¬ i<0:=by omega
  simp only[Option.getD_some,if_neg h1,if_pos hn,j0j,<- hlen]
  congr 2
  funext j
  simp
 have key:=jgx rv (jcz xs.length i n)
 have hle:((jcz xs.length i n).filterMap (xs[·]?)).length<=sizeLine:=by
  rw[key.length]
  have:=slicePick_size_le its.toArray (some i) none (some n)
  rw[hpick,j0j]at this
  omega
 refine tail_any (ops:=[.ref ad,.ref s3.heap.objs.size]) pl'.isList.typeIs slot_list_getitem.lookup (wpAny_getItem_list_slice pl'.isList (Heap.IsSliceOf.new ..) pl .none pk (by intro z;cases z;omega) ?_ hsz) (by with_unfolding_all rfl)
 rw[hpick]
 exact⟨.ref _,_,I4.lnew (t':=s3.toks) key hle,rfl,q _ I4.fresh⟩
def jwl:R2:=fun x y H Q=>∃z n,x=.str z/\y=.int n/\0<=n/\n<=1000/\z.length<=1000/\Q (.str (Txt.mul z n)) H
theorem jsD:OpR X (binaryOp .Mult) jwl:=by
 intro pins s σ H x y v u Q I rx ry h
 obtain⟨z,n,rfl,rfl,h0,h1,h2,q⟩:=h
 obtain⟨t,rfl⟩:=rx
 obtain⟨t',rfl⟩:=ry
 have hm:z.length*n.toNat<=1000*1000:=Nat.mul_le_mul h2 (by omega)
 refine PySem.SB.mul ⟨?_,fun hn _=>?_,fun _ _=>?_⟩ fun t2 k=>⟨.str _,H,I.tok _,⟨_,rfl⟩,q⟩
 ·have e1:decide (n < -(2 ^ 63:Int))=false:=decide_eq_false (by omega)
  have e2:decide (n ≥ 2 ^ 63)=false:=decide_eq_false (by omega)
  rw[e1,e2]
  rfl
 ·have hz:(z.length:Int)*n<=2 ^ 63 - 1:=by
   have e:(z.length:Int)*n=((z.length*n.toNat:Nat):Int):=by rw[Int.natCast_mul,Int.toNat_of_nonneg h0]
   rw[e]
   omega
  have:=Int.le_ediv_of_mul_le (show(0:Int)<n by omega) hz
  omega
 ·refine decide_eq_false ?_
  have:(1000*1000:Nat)<=sizeLine:=by decide
  omega
end
structure Fly (P:Program) (w:World) (outer:List Env) (H:Hp) (s:Shared) (B:Heap) (a0:Value) (a:Addr) (cls:Value) (H':Hp) (s':Shared):Prop where
 os:s'.os=s.os
 bare:AllBare s'.gens
 fly:Heap.FlyingW B outer a cls a0 s'.heap
 hok:HOk P w H' B
 keep:∀b o,s.heap.get? b=some o->H b=none->b∉frs outer->B.get? b=some o
 slot:∀b o,s.heap.get? b=some o->b∈frs outer->∃sl,s'.heap.get? b=some {o with slots:=sl}
 free:∀b o,s.heap.get? b=some o->H b=none->H' b=none
 there:∀b o,s.heap.get? b=some o->b∉frs outer->∃o',B.get? b=some o'
 tups:∀b xs,H b=some (.tup xs)->H' b=some (.tup xs)
 frzs:∀b o u,H b=some (.frz o u)->H' b=some (.frz o u)
 tbls:∀b ps,H b=some (.tbl ps)->∃more,H' b=some (.tbl (ps++more))
noncomputable def CX1 (P:Program)(w:World):CXT:=fun outer H s E e s'=>∃B a0 a C H',e=.ref a/\Fly P w outer H s B a0 a (.ref C) H' s'/\E (.ref C) none H'
section
variable {P:Program} {w:World} {outer:List Env} {H H':Hp} {s s':Shared} {B:Heap} {a0 cls:Value} {a:Addr}
theorem Fly.un (f:Fly P w outer H s B a0 a cls H' s'):Un (frs outer) [] H H' s.heap s'.heap where
 keep:=fun b o e n hb _=>f.fly.1 b o (f.keep b o e n hb)
 slot:=fun b o e _ hb _=>f.slot b o e hb
 free:=fun b o e n _=>f.free b o e n
 there:=fun b o e _=>by
  by_cases hb:b∈frs outer
  ·obtain⟨sl,q⟩:=f.slot b o e hb
   exact⟨_,q⟩
  ·obtain⟨o',q⟩:=f.there b o e hb
   exact⟨o',f.fly.1 b o' q⟩
 tups:=f.tups
 frzs:=f.frzs
 tbls:=f.tbls
theorem Fly.hok' (f:Fly P w outer H s B a0 a cls H' s'):HOk P w H' s'.heap:=f.hok.kept fun b u e=>f.fly.1 b u e
end
section
variable {X:Cx} {pins:List (Addr×Obj)} {σ:St} {H H':Hp} {s s':Shared} {B:Heap} {a0 cls:Value} {a:Addr}
theorem Fly.inv (f:Fly X.prog X.w X.stack H s B a0 a cls H' s')(I:Inv X pins σ H s):Inv X pins σ H' s':=
 I.call' f.os f.un f.hok' f.bare (fun b z=>absurd z (by simp))
end
theorem jnF {P:Program}{w:World}{K:PySem.W.Frag}{mg:Str->Option Value}{base:Heap}{N:List Str}{qual:Str}{scope:Scope}{f:Addr}{cd:Value}{A:Around}{outer:List Env}{s0:Shared}{H0:Hp}{E:XK}{pins:List (Addr×Obj)}{σ:St}{H H':Hp}{s s':Shared}{B B' h':Heap}{a0:Value}{a C:Addr}
  (I:Inv (jiu (CX1 P w) P w K mg base N qual scope f cd A outer s0 H0 E) pins σ H s) (fl:Fly P w (envOfC qual scope s0.heap.objs.size f cd::outer) H s B a0 a (.ref C) H' s') (hE:E (.ref C) none H')
  (hB:∀b o,b<s0.heap.objs.size->B.get? b=some o->B'.get? b=some o) (hk:HOk P w H' B') (hfl:Heap.FlyingW B' outer a (.ref C) a0 h') (hsm:∀b o,b<s0.heap.objs.size->s'.heap.get? b=some o->(∀vs,o.data≠.fields vs)->∃sl,h'.get? b=some {o with slots:=sl}) :
  CX1 P w outer H0 s0 E (.ref a) {s' with heap:=h'}:=by
 have hlt:∀b o,s0.heap.get? b=some o->b≠s0.heap.objs.size:=fun b o e=>j0k (j0h e)
 have hst:∀b o,s0.heap.get? b=some o->b∉frs outer->b∉frs (envOfC qual scope s0.heap.objs.size f cd::outer):=fun b o e hb hm=>by
  rcases j0d.mp (show b∈s0.heap.objs.size::frs outer from hm)with q|q
  ·exact hlt b o e q
  ·exact hb q
 refine⟨B',a0,a,C,H',rfl,⟨fl.os.trans I.os,fl.bare,hfl,hk,fun b o e n hb=>?_,fun b o e hb=>?_,fun b o e n=>?_,fun b o e hb=>?_,fun b xs e=>?_,fun b o u e=>?_,fun b ps e=>?_⟩,hE⟩
 ·exact hB b o (j0h e) (fl.keep b o (I.base.keep b o e n hb (by intro z;cases z)) (I.base.free b o e n (by intro z;cases z)) (hst b o e hb))
 ·obtain⟨sl,q⟩:=I.base.slot b o e (I.ok.frf b hb) hb (by intro z;cases z)
  obtain⟨sl2,q2⟩:=fl.slot b _ q (show b∈s0.heap.objs.size::frs outer from .tail _ hb)
  have nf:∀vs,({o with slots:=sl}:Obj).data≠.fields vs:=by
   obtain⟨_,o',q',nf⟩:=I.ok.funs.mem hb
   have q2:s0.heap.get? b=some o':=q'
   rw[e]at q2
   cases q2
   exact nf
  obtain⟨sl3,q3⟩:=hsm b _ (j0h e) q2 nf
  exact⟨sl3,q3⟩
 ·obtain⟨o',q⟩:=I.base.there b o e (by intro z;cases z)
  have n':=I.base.free b o e n (by intro z;cases z)
  exact fl.free b o' q n'
 ·obtain⟨o',q⟩:=I.base.there b o e (by intro z;cases z)
  obtain⟨o2,q2⟩:=fl.there b o' q (hst b o e hb)
  exact⟨o2,hB b o2 (j0h e) q2⟩
 ·exact fl.tups b xs (I.base.tups b xs e)
 ·exact fl.frzs b o u (I.base.frzs b o u e)
 ·obtain⟨m1,q1⟩:=I.base.tbls b ps e
  obtain⟨m2,q2⟩:=fl.tbls b _ q1
  exact⟨m1++m2,by rw[q2,Array.append_assoc]⟩
theorem jwN {P:Program}{w:World}{K:PySem.W.Frag}{mg:Str->Option Value}{base:Heap}{N:List Str}{qual:Str}{scope:Scope}{f:Addr}{cd:Value}{A:Around}{outer:List Env}{s0:Shared}{H0:Hp}{E:XK} :
  jhH (CX1 P w) (jiu (CX1 P w) P w K mg base N qual scope f cd A outer s0 H0 E) E:=by
 intro pins σ H s e s' I hx
 obtain⟨B,a0,a,C,H',rfl,fl,hE⟩:=hx
 show wpAny _ _ (leaving _ (.ref a)) _ _ s'
 exact wpAny_leaves_onW I.ok.frames rfl fl.fly fun h' hfl hsm=>jnF I fl hE (fun _ _ _ e=>e) fl.hok hfl fun b o _=>hsm b o
noncomputable abbrev jw9:List Value:=[.type "ValueError",.type "Exception",.type "BaseException",.type "object"]
structure ExcC (K:PySem.W.Frag) (C:Addr):Prop where
 ex:∃(tl:List Value) (N:Addr) (nm q:Str) (bs:List Value) (hd:Bool) (sn:List Str) (sub:List Value) (ab:Bool) (col:Option Bool) (dd:Option Addr) (k0 k1 k2 k3 k5:Option Value),
  K.lookup C=some (excClassObj nm q C N bs tl hd sn sub ab col dd k0 k1 k2 k3 k5 "ValueError.__new__")/\PySem.W.tailIn K jw9 tl=true/\PySem.W.nsOkIn K N=true/\PySem.W.nsIn K N "__init__" =some none
theorem jhQ {P:Program}{w:World}{H:Hp}{h:Heap}{l:List Addr}(ok:HOk P w H h)(hl:∀b∈l,H b=none):HOk P w H (PySem.W.hideAll h l):=fun a o e=>
 (ok a o e).stay (fun b u hb q=>j1v l q fun hm=>by
  have:=hl b hm
  rcases hb with rfl|hb
  ·rw[e]at this;cases this
  ·rw[hb]at this;cases this) (fun _ q=>q) fun _ _ q=>q
section
variable {P:Program} {w:World} {K:PySem.W.Frag} {mg:Str->Option Value} {base:Heap} {N:List Str} {qual:Str} {scope:Scope} {f:Addr} {cd:Value} {A:Around} {outer:List Env} {s0:Shared} {H0:Hp} {E:XK}
theorem js5 {pins:List (Addr×Obj)}{σ:St}{H:Hp}{s:Shared}{C e:Addr}{vs:List Value}{h1:Heap}(I:Inv (jiu (CX1 P w) P w K mg base N qual scope f cd A outer s0 H0 E) pins σ H s)
  (mk:Heap.MadeExcOf s.heap h1 e (.ref C) vs) (hE:E (.ref C) none H):(jiu (CX1 P w) P w K mg base N qual scope f cd A outer s0 H0 E).xe (.ref e) {s with heap:=h1}:=by
 show wpAny _ _ (leaving _ (.ref e)) _ _ _
 have hlt:∀b o,s0.heap.get? b=some o->b≠s0.heap.objs.size:=fun b o e=>j0k (j0h e)
 have hst:∀b o,s0.heap.get? b=some o->b∉frs outer->b∉frs (envOfC qual scope s0.heap.objs.size f cd::outer):=fun b o e hb hm=>by
  rcases j0d.mp (show b∈s0.heap.objs.size::frs outer from hm)with q|q
  ·exact hlt b o e q
  ·exact hb q
 have hin:∀env∈(envOfC qual scope s0.heap.objs.size f cd::outer),∀b,env.frame=some b->b∈frs (envOfC qual scope s0.heap.objs.size f cd::outer):=fun env he b hb=>j1w.mpr ⟨env,he,hb⟩
 refine wpAny_leaves_madeW (base:=PySem.W.hideAll s.heap (frs (envOfC qual scope s0.heap.objs.size f cd::outer))) I.ok.frames rfl (fun b o q=>PySem.W.of_hideAll _ q) (PySem.W.funFrames_hide I.stack hin) mk fun h' t fl _ _ sm=>?_
 refine⟨_,_,e,C,H,rfl,⟨I.os,I.bare,fl,jhQ I.hok I.stkFree,fun b o q n hb=>?_,fun b o q hb=>?_,fun b o q n=>?_,fun b o q hb=>?_,I.base.tups,I.base.frzs,I.base.tbls⟩,hE⟩
 ·exact j1v _ (I.base.keep b o q n hb (by intro z;cases z)) (hst b o q hb)
 ·obtain⟨sl,q1⟩:=I.base.slot b o q (I.ok.frf b hb) hb (by intro z;cases z)
  have nf:∀vs,({o with slots:=sl}:Obj).data≠.fields vs:=by
   obtain⟨_,o',q',nf⟩:=I.ok.funs.mem hb
   have q2:s0.heap.get? b=some o':=q'
   rw[q]at q2
   cases q2
   exact nf
  obtain⟨sl3,q3⟩:=sm b _ (mk.keeps b _ q1) nf
  exact⟨sl3,q3⟩
 ·exact I.base.free b o q n (by intro z;cases z)
 ·obtain⟨o',q'⟩:=I.base.there b o q (by intro z;cases z)
  exact⟨o',j1v _ q' (hst b o q hb)⟩
theorem jqX {x:Str}{C:Addr}{np cpos pos:Pos}{e:Expr}{es:List Expr}{t:TA}(hC:ExcC K C)(hg:Gl (jiu (CX1 P w) P w K mg base N qual scope f cd A outer s0 H0 E) x)(hm:mg x=some (.ref C))
  (ha:PA (jiu (CX1 P w) P w K mg base N qual scope f cd A outer s0 H0 E) (e::es) t) (hdb:(x==("__debug__" : Str))=false:=by decide)
  (he:starEach (e::es) (envOfC qual scope s0.heap.objs.size f cd)=(false,eval e (envOfC qual scope s0.heap.objs.size f cd))::starEach es (envOfC qual scope s0.heap.objs.size f cd):=by rfl)
  (hpl:(backTo cpos (starEach es (envOfC qual scope s0.heap.objs.size f cd))).any (·.1)=false:=by rfl) :
  PS (jiu (CX1 P w) P w K mg base N qual scope f cd A outer s0 H0 E) (.Raise (some (.Call (.Name x np) (e::es) [] cpos)) none pos) (fun _ σ H=>t σ H fun vs H1=>vs.length<=sizeLine/\E (.ref C) none H1):=by
 intro pins s σ H D I h
 obtain⟨tl,Nc,nm,q,bs,hd,sn,sub,ab,col,dd,k0,k1,k2,k3,k5,lk,ht,hok,hni⟩:=hC.ex
 have KX:=I.kIn
 have T:=PySem.W.tail_of_in KX ht
 refine wpAny_Raise_call_subT (C:=C) (nm:=nm) (q:=q) (N:=Nc) (bs:=bs) (bm:=tl) (hdct:=hd) (sn:=sn) (sub:=sub) (ab:=ab) (col:=col) (dd:=dd) (k0:=k0) (k1:=k1) (k2:=k2) (k3:=k3) (k5:=k5)
  PySem.F.excBase_ValueError (mN:=base.nsMap Nc) (T.hasType (by decide +kernel)) (I.ok.hd rfl)
  (by show(backTo cpos (starEach (e::es) (envOfC qual scope s0.heap.objs.size f cd))).any (·.1)=false;rw[he];show(false||(backTo cpos (starEach es (envOfC qual scope s0.heap.objs.size f cd))).any (·.1))=false;rw[hpl];rfl)
  (PySem.W.nsMap_none_of_in I.mod.kin hok hni) (jgK I hg hm ⟨rfl,?_⟩ hdb)
 have ha':=ha cpos pins s σ H _ I h
 show wpAny _ _ (evalArgs (.ref C) true (backTo cpos (starEach (e::es) (envOfC qual scope s0.heap.objs.size f cd))) []) _ _ s
 replace ha':wpAny _ _ (spliced (backTo cpos (starEach (e::es) (envOfC qual scope s0.heap.objs.size f cd)))) _ _ s:=ha'
 rw[he]at ha' ⊢
 refine Calls.evalArgs_plain (thn ha' fun us s1 hu=>?_)
 obtain⟨vs,H1,I1,r,hz,hE⟩:=hu
 have K1:=I1.kIn
 exact⟨rfl,by rw[<- r.length];exact hz,K1 _ _ lk,Heap.Ns.keeps (.of_isNs (PySem.W.isNs_of_in I.mod.kin hok)) I1.bk,PySem.W.tail_of_in K1 ht,fun h' e mk=>js5 I1 mk hE⟩
end
end _L2
namespace _L2
open PySem PySem.W PySem.Spec PySem.Calls PyProof.Rows Builtin Builtin.ObjectAttr Builtin.Getset_descriptor
structure ExcA (K:Frag) (C:Addr):Prop where
 ga:findIn K (.ref C) "__getattribute__" =some (some (.builtin "BaseException.__getattribute__"))
 gt:findIn K (.ref C) "__getattr__" =some none
 cl:findIn K (.ref C) "__class__" =some (some (.builtin "object.__class__"))
 gs:specialIn K (.builtin "object.__class__") "__get__" =some (some (.builtin "getset_descriptor.__get__"))
 tk:takesIn K (.builtin "object.__class__")=some true
 mo:mroIn K C (.type "object")=some true
 mb:mroIn K C (.type "BaseException")=some true
section
variable {prog:Program} {w:World} {A:Around} {E:Value->Shared->Prop} {s:Shared} {K:Frag} {x C:Addr} {o:Obj}
theorem jea {M:Model}{h:Heap}(e:h.get? x=some o)(hc:o.cls=.ref C):Looks M h (typeOf (.ref x)) (.ref C):=hc▸(Looks.ld e).andThen .now
theorem ju8 {R:Result->Shared->Prop}(X:K.In s.heap)(he:s.heap.get? x=some o)(hc:o.cls=.ref C)(a:ExcA K C)(h:R (.ok (.ret (.ref C))) s) :
  codeAny (model prog w) A (.call (.builtin "getset_descriptor.__get__") ⟨[.builtin "object.__class__",.ref x,.ref C],[]⟩) R s:=by
 have LT:=jea (M:=model prog w) he hc
 have LM:=looks_mroIn (M:=model prog w) X a.mo
 obtain⟨hp,g,d,t,os⟩:=s
 refine codeAny_call_builtin KF.slot_gs.plain KF.entry_gs ?_
 refine KF.slot_gs.check _ _ _ _ _ _ _ _ KF.type_class (KF.args_gs _ _ _) ?_
 unfold Builtin.«getset_descriptor.__get__»
 unfold descrGet
 rw[dga_obj]
 refine wpAny_bind (wpAny_pure ?_)
 unfold descrGetter
 unfold descrCheckInstance
 unfold descrNameAndClass
 unfold isInstance
 simp only[KF.owner_class]
 repeat lk
 refine⟨Code.quiet_builtin _ (by decide +kernel),?_⟩
 refine codeAny_builtin KF.entry_class ?_
 unfold Builtin.«object.__class__»
 unfold shownTypeOf
 repeat lk
 exact h
theorem jkC {M:Model} {h:Heap} {v:Value} {r:Option Value} (X:K.In h) (e:specialIn K v "__get__" =some r):Looks M h (getOf (some v)) r:=looks_specialIn X e
theorem jrs {M:Model}{h:Heap}(X:K.In h)(a:ExcA K C):Looks M h (find (.ref x) (.ref C) "__class__") (.bind (.builtin "getset_descriptor.__get__") (.builtin "object.__class__")):=by
 have L1:=looks_findIn (M:=M) X a.cl
 have _L2:=jkC (M:=M) X a.gs
 have _L3:=looks_takesIn (M:=M) X a.tk
 intro A' Q' E' s' k q
 have L1:=L1.keeps k
 have _L2:=_L2.keeps k
 have _L3:=_L3.keeps k
 obtain⟨hp,g,d,t,os⟩:=s'
 unfold find
 refine wpAny_bind (L1.here ?_)
 refine wpAny_bind (_L2.here ?_)
 unfold dataDescriptor?
 refine wpAny_bind (wpAny_bind (_L3.here ?_))
 repeat lk
 exact q
theorem jwt {R:Result->Shared->Prop}{tk:Tok}(X:K.In s.heap)(he:s.heap.get? x=some o)(hc:o.cls=.ref C)(a:ExcA K C)(h:R (.ok (.ret (.ref C))) s) :
  codeAny (model prog w) A (.call (.builtin "BaseException.__getattribute__") ⟨[.ref x,.str "__class__" tk],[]⟩) R s:=by
 have LT:=jea (M:=model prog w) he hc
 have LB:=looks_mroIn (M:=model prog w) X a.mb
 have LF:=jrs (x:=x) (M:=model prog w) X a
 have hk:builtinKind "BaseException.__getattribute__" =some .slot:=by decide +kernel
 have hs:splitId "BaseException.__getattribute__" =some ("BaseException","__getattribute__"):=by decide +kernel
 have hp:∀Q:Unit->Shared->Prop,Q () s->wpAny (model prog w) A.in1 (checkBuiltinCall "BaseException.__getattribute__" ⟨[.ref x,.str "__class__" tk],[]⟩) Q (fun e s'=>R (.error e) s') s:=by
  intro Q q
  have ha:=PySem.F.args_bexc_ga (.ref x) (.str "__class__" tk)
  obtain⟨hh,g,d,t,os⟩:=s
  simp only[checkBuiltinCall,hk,hs]
  unfold isInstance
  repeat lk
  exact q
 refine codeAny_call_builtin PySem.F.excAttr_ValueError.ga.plain PySem.F.entry_bexc_ga (hp _ ?_)
 obtain⟨hh,g,d,t,os⟩:=s
 unfold Builtin.«object.__getattribute__»
 refine wpAny_bind (wpAny_pure ?_)
 refine wpAny_bind (wpAny_pure ?_)
 refine wpAny_bind (LT.here ?_)
 refine wpAny_bind (LF.here ?_)
 refine wpAny_bind (wpAny_holding (wpAny_call (ju8 X he hc a ?_)))
 exact wpAny_pure h
theorem jnE {Q:Option Value->Shared->Prop}(X:K.In s.heap)(he:s.heap.get? x=some o)(hc:o.cls=.ref C)(a:ExcA K C)(h:Q (some (.ref C)) {s with toks:=s.toks+1}) :
  wpAny (model prog w) A (getAttr? (.ref x) "__class__") Q E s:=by
 have LT:=jea (M:=model prog w) he hc
 have LG:=looks_findIn (M:=model prog w) X a.ga
 have LH:=looks_findIn (M:=model prog w) X a.gt
 have hb:=PySem.F.excAttr_ValueError.ga.bind (.ref x)
 have hn:(onTheHeap (.ref C)&&Value.builtin "BaseException.__getattribute__" ==Value.builtin "object.__getattribute__")=false:=by rw[show(Value.builtin "BaseException.__getattribute__" ==Value.builtin "object.__getattribute__")=false from by decide +kernel];rfl
 obtain⟨hh,g,d,t,os⟩:=s
 unfold getAttr? getAttrBy? getAttrBy
 refine wpAny_bind (wpAny_mkText (wpAny_bind (wpAny_attempt (wpAny_holding (wpAny_bind (LT.at (wpAny_bind (LG.at ?_))))))))
 dsimp only
 rw[hn]
 simp only[j0e,if_false]
 unfold getAttrByItsOwn hookBefore
 rw[if_pos (show onTheHeap (.ref C)=true from rfl)]
 refine wpAny_bind (LH.at ?_)
 unfold callGetattribute boundAndCalled
 rw[if_neg (by simp),hb]
 refine wpAny_bind (wpAny_attempt (wpAny_holding (wpAny_bind (wpAny_pure (wpAny_call (jwt (s:=⟨hh,g,d,t+1,os⟩) X he hc a ?_))))))
 exact wpAny_pure (wpAny_pure h)
end
theorem jlE {K:PySem.W.Frag}{x C:Addr}(c:ExcC K C)(a:ExcA K C)(it:PySem.W.kitCls K (.ref C) (.ref C)=some true):PySem.W.KitX K (.ref x) (.ref C) (fun h=>∃o,h.get? x=some o/\o.cls=.ref C) where
 ty:=fun _ _ _ ⟨_,e,hc⟩=>jea e hc
 it:=fun M _ X _=>(PySem.W.kit_cls (M:=M) X it).2.1
 ne:=fun h tp dd its n sl X htp=>by
  obtain⟨tl,Nc,nm,q,bs,hd,sn,sub,ab,col,dd',k0,k1,k2,k3,k5,lk,_⟩:=c.ex
  refine Bool.eq_false_iff.mpr fun q=>?_
  have e:C=tp:=Value.ref.inj (beq_iff_eq.mp q)
  subst e
  have z:=congrArg Obj.data (j0w ((X _ _ lk).symm.trans htp))
  exact Data.noConfusion z
 ca:=fun X ⟨_,e,hc⟩ k=>jnE X e hc a k
section
variable {X:Cx} {pins:List (Addr×Obj)} {σ:St} {H:Hp} {s:Shared}
noncomputable def jyo:V->Option Value
 |.ref a=>some (.ref a)
 |.ty n=>some (.type n)
 |_=>none
theorem jlq {v:V}{u c:Value}(h:jyo v=some c)(r:ja3 v u):u=c:=by
 cases v<;>first|(cases h;done)|(cases h;exact r)
theorem jpL {a C:Addr}{oe:Obj}(hp:(a,oe)∈X.pn)(hc:oe.cls=.ref C)(c:ExcC X.K C)(ea:ExcA X.K C)(it:PySem.W.kitCls X.K (.ref C) (.ref C)=some true) :
  jbK X (.builtin "isinstance") (fun xs H Q=>∃v u b,xs=[.ref a,v]/\jyo v=some u/\PySem.W.kitOne X.K (.ref C) u=some b/\Q (.bl b) H):=by
 intro pins s σ H xs us Q I r h
 obtain⟨v,u,b,rfl,hv,hk,q⟩:=h
 obtain⟨u1,u2,rfl,r1,r2⟩:=jq8 r
 cases(show u1=Value.ref a from r1)
 cases jlq hv r2
 have he:=(I.pin (a,oe) (j1a _ hp)).1
 exact j0P (jlE c ea it) I.kIn ⟨oe,he,hc⟩ hk (by intro q;cases q) fun tk=>⟨.bl b,H,I.tok tk,rfl,q⟩
theorem jkY:∀{cs:List V} {us ts:List Value},cs.mapM jyo=some ts->jaR cs us->us=ts
 |[],_,ts,e,.nil=>by
  rw[List.mapM_nil]at e
  exact(j0w e)
 |c::cs,_,ts,e,.cons r t=>by
  rw[List.mapM_cons]at e
  obtain⟨u,h1,e⟩:=Option.bind_eq_some_iff.mp e
  obtain⟨us',h2,e⟩:=Option.bind_eq_some_iff.mp e
  cases j0w e
  rw[jkY h2 t,jlq h1 r]
theorem joo {a C:Addr}{oe:Obj}(hp:(a,oe)∈X.pn)(hc:oe.cls=.ref C)(c:ExcC X.K C)(ea:ExcA X.K C)(it:PySem.W.kitCls X.K (.ref C) (.ref C)=some true) :
  jbK X (.builtin "isinstance") (fun xs H Q=>∃(p:Addr) (cs:List V) (ts:List Value) (b:Bool),xs=[.ref a,.ref p]/\SqT X.K H p cs/\cs.mapM jyo=some ts/\PySem.W.kitAny X.K (.ref C) ts=some b/\Q (.bl b) H):=by
 intro pins s σ H xs us Q I r h
 obtain⟨p,cs,ts,b,rfl,hsq,hv,hk,q⟩:=h
 obtain⟨u1,u2,rfl,r1,r2⟩:=jq8 r
 cases(show u1=Value.ref a from r1)
 cases(show u2=Value.ref p from r2)
 have he:=(I.pin (a,oe) (j1a _ hp)).1
 obtain⟨its,rv,ht,_⟩:=I.tuple hsq
 cases jkY hv rv
 obtain⟨⟨cc,d,dt,sl⟩,ho,hcc,n,hd⟩:=ht
 simp only at hcc hd
 subst hcc hd
 exact PySem.W.kia_tup (jlE c ea it) I.kIn ⟨oe,he,hc⟩ ho hk (by intro q;cases q) fun tk=>⟨.bl b,H,I.tok tk,rfl,q⟩
end
theorem jb1.here {P:Program}{w:World}{H:Hp}{h:Heap}{a:Addr}{o:HO}(x:jb1 P w H h a o):∃u,h.get? a=some u:=by
 induction o with
 |lst xs=>obtain⟨_,_,_,_,e⟩:=x;exact⟨_,e⟩
 |tup xs=>obtain⟨_,_,_,_,e,_⟩:=x;exact⟨_,e⟩
 |dK kvs=>obtain⟨_,_,_,_,_,_,_,e,_⟩:=x;exact⟨_,e⟩
 |dT kvs=>obtain⟨_,_,_,_,_,_,_,e,_⟩:=x;exact⟨_,e⟩
 |set S n=>obtain⟨_,_,_,_,e,_⟩:=x;exact⟨_,e⟩
 |ins C dx fs=>obtain⟨_,_,_,e,_⟩:=x;exact⟨_,e⟩
 |own y=>obtain⟨_,e⟩:=x;exact⟨_,e⟩
 |xd fs=>obtain⟨_,⟨_,_,_,e,_⟩,_⟩:=x;exact⟨_,e⟩
 |rng lo hi=>obtain⟨_,_,_,e⟩:=x;exact⟨_,e⟩
 |frz ob u _=>obtain⟨e,_⟩:=x;exact⟨_,e⟩
 |tbl ps=>exact⟨_,show h.get? a=some _ from x⟩
 |met f y=>exact⟨_,show h.get? a=some _ from x⟩
 |ext φ=>obtain⟨_,e,_⟩:=x;exact e
noncomputable abbrev Cx.hand (X:Cx) (a:Addr) (oe:Obj):Cx:={X with A:=X.A.mark (some (.ref a)),calm:=false,pn:=(a,oe)::X.pn,xe:=fun _ _=>False}
section
variable {X:Cx} {pins:List (Addr×Obj)} {σ:St} {H H':Hp} {s s':Shared} {B:Heap} {a0:Value} {a:Addr} {oe:Obj}
theorem Inv.hand (I:Inv X pins σ H s)(e:s.heap.get? a=some oe)(n:H a=none)(nl:a≠X.env.locals)(nf:a∉X.fs)(nc:∀v,oe.data≠.cell v):Inv (X.hand a oe) pins σ H s:=by
 obtain⟨ok,os,bare,base,loc,cell,free,freeC,pin,hok,len⟩:=I
 refine⟨⟨ok.mod,ok.kind,ok.glob,ok.blt,ok.above,ok.inj,ok.has,ok.cab,(by intro z;cases z),ok.frames,ok.stk,ok.exf,ok.bs,ok.bsz,ok.noex,ok.exfs,ok.funs,ok.frf⟩,os,bare,base,loc,cell,free,freeC,fun p hp=>?_,hok,len⟩
 rcases j0d.mp (show p∈(a,oe)::(X.pn++pins)from hp)with rfl|hp
 ·exact⟨e,n,nl,nf,nc⟩
 ·exact pin p hp
theorem Inv.unhand (I:Inv (X.hand a oe) pins σ H s)(ok:X.Ok):Inv X pins σ H s:=
 ⟨ok,I.os,I.bare,I.base,I.loc,I.cell,I.free,I.freeC,fun p hp=>I.pin p (show p∈(a,oe)::(X.pn++pins)from .tail _ hp),I.hok,I.len⟩
theorem Fly.later {outer:List Env}{P:Program}{w:World}{cls:Value}{h5:Heap}(f:Fly P w outer H s B a0 a cls H' s')(nf:∀b o,s.heap.get? b=some o->b∈frs outer->∀vs,o.data≠.fields vs)
  (fl:Heap.FlyingW B outer a cls a0 h5) (sm:s'.heap.UpToSlots h5):Fly P w outer H s B a0 a cls H' {s' with heap:=h5}:=
 ⟨f.os,f.bare,fl,f.hok,f.keep,fun b o e hb=>by
  obtain⟨sl,q⟩:=f.slot b o e hb
  obtain⟨sl2,q2⟩:=sm b _ q (nf b o e hb)
  exact⟨sl2,q2⟩,f.free,f.there,f.tups,f.frzs,f.tbls⟩
theorem Inv.unbound {i:Nat}{n:Str}{v:Option Value}{m:Str->Option Value}{h':Heap}{t':Nat}(I:Inv X pins σ H s)(hN:X.N.Nodup)(hi:X.N[i]?=some n)
  (hn:s.heap.Ns X.env.locals m) (hl:∀(i:Nat) (x:Str) (v:V),X.N[i]?=some x->σ[i]?=some (some v)->Vis X.env.scope x->∃u,ja3 v u/\jAi X.env s.heap m x u)
  (hn':h'.Ns X.env.locals (fun y=>if y=n then v else m y)) (hs:Heap.SameBut X.env.locals s.heap h'):Inv X pins (σ.set i none) H {s with heap:=h',toks:=t'}:=by
 have lt:∀b o,X.s₀.heap.get? b=some o->b≠X.env.locals:=fun b o e=>j0k (j0m (j0h e) I.ok.above)
 refine⟨I.ok,I.os,I.bare,⟨fun b o e n hb hx=>?_,fun b o e n hb hx=>?_,I.base.free,fun b o e hx=>?_,I.base.tups,I.base.frzs,I.base.tbls⟩,⟨_,hn',fun j y v' e1 e2 e3=>?_⟩,fun y c e=>?_,I.free,I.freeC,fun p hp=>?_,fun b ob e=>?_,by simpa using I.len⟩
 ·exact(hs.2 b (lt b o e)).trans (I.base.keep b o e n hb hx)
 ·obtain⟨sl,e1⟩:=I.base.slot b o e n hb hx
  exact⟨sl,(hs.2 b (lt b o e)).trans e1⟩
 ·obtain⟨o',e1⟩:=I.base.there b o e hx
  exact⟨o',(hs.2 b (lt b o e)).trans e1⟩
 ·by_cases hj:j=i
  ·subst hj
   rw[List.getElem?_set_self' ]at e2
   cases q:σ[j]? with
   |none=>rw[q]at e2;cases e2
   |some z=>rw[q]at e2;cases e2
  ·rw[j1b (Ne.symm hj)]at e2
   obtain⟨u',r',q⟩:=hl j y v' e1 e2 e3
   refine⟨u',r',?_⟩
   rcases q with⟨k,e⟩|⟨k,c,e,z⟩
   ·refine .inl ⟨k,?_⟩
    have:y≠n:=fun e=>hj (jih hN e1 (e▸hi))
    simp[this,e]
   ·exact .inr ⟨k,c,e,z.sameBut hs (I.cne y c e)⟩
 ·obtain⟨w',z⟩:=I.cell y c e
  exact⟨w',z.sameBut hs (I.cne y c e)⟩
 ·obtain⟨e,n,ne,nf,d⟩:=I.pin p hp
  exact⟨(hs.2 p.1 ne).trans e,n,ne,nf,d⟩
 ·refine(I.hok b ob e).stay (fun c w' hc q=>(hs.2 c ?_).trans q) (fun _ q=>q) fun _ _ q=>q
  rintro rfl
  have hf:=I.free
  rcases hc with rfl|hc
  ·rw[hf]at e;cases e
  ·rw[hf]at hc;cases hc
theorem jq9 {k:Nat}{f:Addr}{fd:FuncData}{ps:List Str}{sp:Sp}{E:XK}{x:Str}{p pos:Pos}{e:Expr}{es:List Expr}{t:TA}{Q:VK}(F:FnOk X.prog X.w X.K X.mg X.base (CX1 X.prog X.w) k f fd ps sp)(hr:Room k X.A)(hg:Gl X x)(hm:X.mg x=some (.ref f))
  (hk:PySem.W.keepIn X.K (.ref f)=true) (hb:jfR X.K fd ps []) (ha:PA X.nox (e::es) t) (I:Inv X pins σ H s) (h:t σ H fun vs H1=>sp vs H1 Q E)
  (hdb:(x==("__debug__" : Str))=false:=by decide) (he:starEach (e::es) X.env=(false,eval e X.env)::starEach es X.env:=by rfl) (hpl:(backTo pos (starEach es X.env)).any (·.1)=false:=by rfl) :
  wpAny (model X.prog X.w) X.A (eval (.Call (.Name x p) (e::es) [] pos) X.env) (EP X pins σ Q) (fun v s'=>∃H1 s1,Inv X pins σ H1 s1/\CX1 X.prog X.w X.stack H1 s1 E v s') s:=by
 refine wpAny_Call_Name_kw (jgK I hg hm ?_ hdb)
 refine PySem.W.callWith_K (h₀:=X.base) I.ok.mod.kin hk (wpAny_mono (ha pos pins s σ H _ (I.wish _) h) (fun us s1 hu=>?_) fun _ _ z=>z.elim) he hpl
 obtain⟨vs,H1,I1',r,q⟩:=hu
 have I1:Inv X pins σ H1 s1:=I1'.unwish
 refine⟨I1.kIn,?_⟩
 have hl:us.length=ps.length:=by rw[<- r.length];exact F.len _ _ _ _ q
 have hb':=hb s1 us I1.kIn (by rw[j0l];exact hl)
 rw[j0l]at hb'
 refine wpAny_call (codeAny_mono (F.run X.A X.stack s1 H1 ⟨us,[]⟩ us vs Q E hr I1.env0 hb' r q) fun r s' hq=>?_)
 cases r with
 |error e=>exact⟨H1,s1,I1,hq⟩
 |ok fl=>
  cases fl with
  |ret u=>exact I1.after hq
  |next=>exact False.elim hq
  |brk=>exact False.elim hq
  |cont=>exact False.elim hq
theorem jnc {C T:Addr}{i:Nat}{x n:Str}{np hpos:Pos}{b₀:Stmt}{suite:List Stmt}{ts:TS}{Q:Flow->Shared->Prop}{E:Value->Shared->Prop}(I:Inv X pins σ H s)(fl:Fly X.prog X.w X.stack H s B a0 a (.ref C) H' s')
  (hstk:X.stack=X.env::X.outer) (hfr:X.env.frame=some X.env.locals) (hN:X.N.Nodup) (hi:X.N[i]?=some n) (hn:X.env.scope.names.lookup n=some .local) (hg:Gl X x) (hm:X.mg x=some (.ref T)) (hx:PySem.W.exmOne X.K (.ref C) (.ref T)=some true)
  {W:St->Hp->Prop} (hs:∀oe:Obj,oe.cls=.ref C->PSs (X.hand a oe) (b₀::suite) ts) (hW:∀σ' H'' s4,Inv X pins σ' H'' s4->W σ' H''->Q .next s4)
  (ht:ts {nx:=fun σ' H''=>W (σ'.set i none) H'',rt:=fun _ _=>False} (σ.set i (some (.ref a))) H')
  (hdb:(x==("__debug__" : Str))=false:=by decide) :
  wpAny (model X.prog X.w) X.A (noteFrame (.ref a) X.env) (fun _ s₂=>wpAny (model X.prog X.w) X.A (setFlight (.ref a) none) (fun _ s₃=>
   wpAny (model X.prog X.w) X.A (handleBy (.ref a) X.env [.ExceptHandler (some (.Name x np)) (some n) (b₀::suite) hpos]) Q E s₃) E s₂) E s':=by
 have hfl:=fl.fly
 have nff:∀b o,s.heap.get? b=some o->b∈frs X.stack->∀vs,o.data≠.fields vs:=fun b o e hb=>by
  obtain⟨_,o',q',nf⟩:=I.stack.mem hb
  rw[e]at q'
  cases q'
  exact nf
 have hA:X.A.frames=some (X.env::X.outer):=by rw[I.ok.frames,hstk]
 rw[hstk]at hfl
 refine wpAny_looks_onW hA hfr hfl fun h4 held4 sm4=>?_
 refine wpAny_landsW held4 fun h5 fly5 sm5=>?_
 rw[<- hstk]at fly5
 have f5:=fl.later nff fly5 (sm4.trans sm5)
 have I5:=f5.inv I
 have inB:∀b,B.get? b=none->H' b=none:=fun b hb=>by
  cases q:H' b with
  |none=>rfl
  |some o=>
   obtain⟨u,e⟩:=(fl.hok b o q).here
   rw[hb]at e
   cases e
 have hand:∀{h:Heap},Heap.FlyingW B X.stack a (.ref C) a0 h->Inv X pins σ H' {s' with heap:=h}->∃oe,oe.cls=.ref C/\h.get? a=some oe/\Inv (X.hand a oe) pins σ H' {s' with heap:=h}:=fun {h} ff II=>by
  obtain⟨oe,vs,he,hc,hd,_⟩:=ff.first
  refine⟨oe,hc,he,II.hand he (inB a ff.2.1) ?_ ?_ fun v q=>?_⟩
  ·intro z
   obtain⟨m,hns,_⟩:=II.loc
   obtain⟨oL,_,_,hoL,hdL,_⟩:=hns
   rw[<- z]at hoL
   have:=j0w (he.symm.trans hoL)
   rw[<- this,hd]at hdL
   cases hdL
  ·intro z
   have hz:a∈frs X.stack:=by rw[hstk];exact(show a∈frs (X.env::X.outer)from by unfold frs;rw[j0G,hfr];exact .tail _ z)
   obtain⟨_,o',q',nf⟩:=II.stack.mem hz
   have:=j0w (he.symm.trans q')
   rw[<- this]at nf
   exact nf vs hd
  ·rw[hd]at q;cases q
 obtain⟨oe5,hc5,he5,J5⟩:=hand fly5 I5
 refine wpAny_handleBy_cons (codeAny_handlers_test ?_) (by intro q;cases q)
 refine jgK J5 hg hm ?_ hdb
 refine(PySem.W.exm_one J5.kIn (jea he5 hc5) hx).here ?_
 show codeAny (model X.prog X.w) (X.A.mark (some (.ref a))) (.handlers (.ref a) [.ExceptHandler none (some n) (b₀::suite) hpos] X.env) _ _
 refine codeAny_handlers_suite_as ?_
 refine lands_againW fly5 fun h6 fly6 sm6=>?_
 have f6:=f5.later nff fly6 sm6
 have I6:=f6.inv I
 obtain⟨oe6,hc6,he6,J6⟩:=hand fly6 I6
 refine jh6 (X:=X.hand a oe6) (v:=.ref a) J6 hN hi (.inl hn) rfl (fun s7 J7=>?_) (.inr hn)
 refine wpAny_mono (hs oe6 hc6 pins s7 _ _ _ J7 ht) (fun f s8 h8=>?_) fun _ _ z=>z.elim
 cases f with
 |next=>
  obtain⟨σ',H'',J8,q⟩:=h8
  have I8:=J8.unhand I.ok
  obtain⟨m,hns,hl⟩:=I8.loc
  refine wpAny_nameGoes_keeps hn hns (by rw[I.ok.kind];rfl) fun h' v hn' hsame=>?_
  exact hW _ _ _ (I8.unbound hN hi hns hl hn' hsame) q
 |brk=>obtain⟨_,_,_,z⟩:=h8;exact z.elim
 |cont=>obtain⟨_,_,_,z⟩:=h8;exact z.elim
 |ret u=>obtain⟨_,_,_,_,_,z⟩:=h8;exact z.elim
theorem jtA {k:Nat}{f:Addr}{fd:FuncData}{ps:List Str}{sp:Sp}{g x n:Str}{T:Addr}{i:Nat}{p cpos epos np hpos pos:Pos}{e:Expr}{es:List Expr}{t:TA}{b₀:Stmt}{suite:List Stmt}{PC:Addr->Prop}{ts:Addr->Addr->TS}
  (F:FnOk X.prog X.w X.K X.mg X.base (CX1 X.prog X.w) k f fd ps sp) (hr:Room k X.A) (hgg:Gl X g) (hmg:X.mg g=some (.ref f)) (hk:PySem.W.keepIn X.K (.ref f)=true) (hb:jfR X.K fd ps []) (ha:PA X.nox (e::es) t)
  (hstk:X.stack=X.env::X.outer) (hfr:X.env.frame=some X.env.locals) (hN:X.N.Nodup) (hi:X.N[i]?=some n) (hn:X.env.scope.names.lookup n=some .local) (hg:Gl X x) (hm:X.mg x=some (.ref T))
  (hs:∀(C a:Addr) (oe:Obj),PC C->oe.cls=.ref C->PSs (X.hand a oe) (b₀::suite) (ts C a))
  (hdb:(x==("__debug__" : Str))=false:=by decide) (hdg:(g==("__debug__" : Str))=false:=by decide)
  (he:starEach (e::es) X.env=(false,eval e X.env)::starEach es X.env:=by rfl) (hpl:(backTo cpos (starEach es X.env)).any (·.1)=false:=by rfl)
  (hsw:swapsWith (.Call (.Name g p) (e::es) [] cpos) none epos.line X.env=pure false:=by rfl) :
  PS X (.Try [.Expr (.Call (.Name g p) (e::es) [] cpos) epos] [.ExceptHandler (some (.Name x np)) (some n) (b₀::suite) hpos] [] [] pos)
   (fun D σ H=>t σ H fun vs H1=>sp vs H1 (fun _ H'=>D.nx σ H') (fun cls _ H'=>∃C,cls=.ref C/\PC C/\PySem.W.exmOne X.K (.ref C) (.ref T)=some true /\
    ∀a,ts C a {nx:=fun σ' H''=>D.nx (σ'.set i none) H'',rt:=fun _ _=>False} (σ.set i (some (.ref a))) H')):=by
 intro pins s σ H D I h
 refine wpAny_Try_except ?_
 have hq:interactive X.env=false:=I.quiet
 refine wpAny_execs_cons (wpAny_Expr_any (wpAny_mono (jq9 F hr hgg hmg hk hb ha I h hdg he hpl) (fun v s1 h1=>?_) fun v s' h1=>?_) hq hsw)
 ·obtain⟨x1,H1,I1,_,q⟩:=h1
  exact wpAny_execs_nil (wpAny_execs_nil ⟨σ,H1,I1,q⟩)
 ·obtain⟨H1,s1,I1,B,a0,a,C,H',rfl,fl,C',hC,hP,hx,hw⟩:=h1
  cases hC
  exact jnc (W:=D.nx) I1 fl hstk hfr hN hi hn hg hm hx (fun oe hc=>hs C a oe hP hc) (fun σ' H'' s4 I4 q=>⟨σ',H'',I4,q⟩) (hw a) hdb
end
theorem jg2 {h h' B B':Heap}(hb:∀b,B.get? b=none->B'.get? b=none/\h'.get? b=h.get? b):∀{l:List Env},h.FunFrames B l->h'.FunFrames B' l
 |[],_=>trivial
 |_::_,⟨k,⟨L,o,e,n,q⟩,r⟩=>⟨k,⟨L,o,e,(hb L n).1,(hb L n).2.trans q.1,q.2⟩,jg2 hb r⟩
section
variable {M:Model} {A:Around} {E:Value->Shared->Prop} {s:Shared}
def jyF (B:Heap)(l:List Env)(e:Addr)(cls a0 v:Value)(h:Heap):Prop:=B.StaysIn h/\B.get? e=none/\h.FunFrames B l/\h.TracedAtW B e cls a0 v
theorem jk3 {B:Heap}{l:List Env}{e:Addr}{cls a0 v u:Value}{h:Heap}(x:jyF B l e cls a0 v h):∃(oe:Obj) (vs:Array Value) (T:Addr) (oT:Obj) (ts:Array Value),h.get? e=some oe/\oe.cls=cls/\oe.data=.fields vs/\vs[0]?=some a0/\vs[1]?=some (.ref T)/\h.get? T=some oT/\oT.data=.fields ts/\ts[3]?=some v /\
  jyF B l e cls a0 u (h.update T (Obj.mapFields (·.setIfInBounds 3 u)))/\(h.update T (Obj.mapFields (·.setIfInBounds 3 u))).get? e=some oe/\∀b o,h.get? b=some o->(∀vs,o.data≠.fields vs)->(h.update T (Obj.mapFields (·.setIfInBounds 3 u))).get? b=some o:=by
 obtain⟨st,n,fr,oe,vs,T,oT,ts,g1,⟨c1,c2⟩,d1,d2,nT,ne,g2,d3,d4⟩:=x
 have far:∀{b:Addr},b≠T->(h.update T (Obj.mapFields (·.setIfInBounds 3 u))).get? b=h.get? b:=fun {b} hb=>Heap.get?_update_other _ _ (Ne.symm hb)
 have nr:∀b o,h.get? b=some o->(∀vs,o.data≠.fields vs)->b≠T:=fun b o q z hb=>by
  subst hb
  rw[g2]at q
  cases q
  exact z ts d3
 have lt3:3<ts.size:=(j1n.mp d4).1
 refine⟨oe,vs,T,oT,ts,g1,c1,d1,c2,d2,g2,d3,d4,⟨fun b o q=>(far ?_).trans (st b o q),n,fr.of_keeps fun b o q z=>⟨o,(far (nr b o q z)).trans q,rfl⟩,oe,vs,T,_,_,(far (Ne.symm ne)).trans g1,⟨c1,c2⟩,d1,d2,nT,ne,
  Heap.get?_update_self _ g2 (Obj.isFreed_of_fields (Obj.data_mapFields d3 _)),Obj.data_mapFields d3 _,by simp[lt3]⟩,(far (Ne.symm ne)).trans g1,fun b o q z=>(far (nr b o q z)).trans q⟩
 rintro rfl
 rw[nT]at q
 cases q
theorem jma {B:Heap}{env:Env}{outer:List Env}{L e:Addr}{cls a0 v:Value}{Q:Unit->Shared->Prop}(hfr:A.frames=some (env::outer))(hf:env.frame=some L)(x:jyF B (env::outer) e cls a0 v s.heap)
  (hQ:∀h',Heap.FlyingW B outer e cls a0 h'->s.heap.UpToSlots h'->Q () {s with heap:=h'}):wpAny M A (leaving env (.ref e)) Q E s:=by
 by_cases hv:v=rawInt L
 ·subst hv
  exact wpAny_bind (wpAny_noteFrame_againW hf x.2.2.2 (wpAny_landsW x fun h' f up=>hQ h' ⟨f.1,f.2.1,f.2.2.1.2.2,f.2.2.2⟩ up))
 ·obtain⟨oe,vs,T,oT,ts,g1,rfl,d1,c2,d2,g2,d3,d4,y,g3,kp⟩:=jk3 (u:=.none) x
  unfold leaving noteFrame
  simp only[hf]
  refine wpAny_bind (wpAny_bind (wpAny_field g1 d1 d2 ?_))
  rw[if_pos (by simp)]
  refine wpAny_bind (wpAny_field g2 d3 d4 ?_)
  rw[if_neg (by simpa using hv)]
  refine wpAny_bind (wpAny_setField g2 d3 (j1n.mp d4).1 ?_)
  exact wpAny_newEntryW hfr y.2.2.1 hf g3 y.1 y.2.1 d1 (j1n.mp d2).1 c2 fun h' l=>hQ h' ⟨l.1,y.2.1,l.2.1.2.2,l.2.2.1⟩ fun b o q z=>l.2.2.2 b o (kp b o q z) z
end
noncomputable def cxe (E:XK)(X:Cx)(N':List Str)(scope:Scope)(C:Addr)(fp:List Addr)(s₂:Shared)(H₂:Hp):Value->Shared->Prop:=fun v s'=>
 ∃pins σ H s,Inv (jaO X N' scope C fp s₂ H₂) pins σ H s/\CX1 X.prog X.w X.stack H s E v s'
theorem jpB {E:XK}{X:Cx}{N':List Str}{scope:Scope}{C:Addr}{fp:List Addr}{s₂:Shared}{H₂:Hp}:jhH (CX1 X.prog X.w) ((jaO X N' scope C fp s₂ H₂).wish (cxe E X N' scope C fp s₂ H₂)) E:=
 fun pins σ H s e s' I h=>⟨pins,σ,H,s,I.unwish,h⟩
section
variable {P:Program} {w:World} {K:PySem.W.Frag} {mg:Str->Option Value} {base:Heap} {N:List Str} {qual:Str} {scope0:Scope} {f:Addr} {cd:Value} {A:Around} {outer:List Env} {s0:Shared} {H0:Hp} {E:XK}
theorem jp9 {X:Cx}(hX:X=jiu (CX1 P w) P w K mg base N qual scope0 f cd A outer s0 H0 E){N':List Str}{scope:Scope}{C D:Addr}{fp:List Addr}{s₂ s':Shared}{H₂:Hp}{pins:List (Addr×Obj)}{σ:St}{v:Value}{cl:List (Str×Addr)}{use:Option (Value->Sem Unit)}{Q:Value->Shared->Prop}
  (I:Inv X pins σ H₂ s₂) (hf:∀b∈fp,jpd X pins H₂ b) (hC:s₂.heap.objs.size<=C) (h:cxe E X N' scope C fp s₂ H₂ v s') :
  notedBy (model X.prog X.w) X.A (compEnvC scope cl C X.env) (fun x s''=>compPost (model X.prog X.w) X.A X.xe use Q (.ref D) C (.error x) s'') v s':=by
 subst hX
 obtain⟨pins',σ',H,s,I',B,a0,a,C',H',rfl,fl,hE⟩:=h
 have IX:=I.call' I'.os I'.base I'.hok I'.bare fun b hb=>by
  obtain⟨f0,f1,f2,f3,f4,f5⟩:=hf b hb
  exact⟨f3,f1,f4,f5⟩
 obtain⟨mC,⟨oC,es,ep,eC,rC⟩,_⟩:=I'.loc
 have nC:C∉frs (envOfC qual scope0 s0.heap.objs.size f cd::outer):=fun z=>by
  rcases j0d.mp (I.stkSub C z)with q|q
  ·exact jfx I.lt hC q.symm
  ·exact I.nofs hC q
 have bC:B.get? C=some oC:=fl.keep C oC eC I'.free nC
 have s0C:s0.heap.objs.size<=C:=j0H I.sz hC
 show wpAny _ _ (noteFrame (.ref a) (envOfC qual scope0 s0.heap.objs.size f cd)) _ _ s'
 refine wpAny_looks_onW I.ok.frames rfl fl.fly fun h1 hd1 up1=>?_
 refine⟨mC,⟨oC,es,ep,hd1.1 C oC bC,rC⟩,fun h2 sb cenv _=>?_⟩
 have apart:∀{b:Addr},B.get? b=none->b≠C:=fun {b} q z=>by
  subst z
  rw[q]at bC
  cases bC
 have hid:∀b,B.get? b=none->(PySem.W.hideAll B [C]).get? b=none:=fun b q=>by
  cases z:(PySem.W.hideAll B [C]).get? b with
  |none=>rfl
  |some o=>rw[PySem.W.of_hideAll _ z]at q;cases q
 have lies:jyF (PySem.W.hideAll B [C]) (envOfC qual scope0 s0.heap.objs.size f cd::outer) a (.ref C') a0 (rawInt s0.heap.objs.size) h2:=by
  obtain⟨st,n,fr,oe,vs,T,oT,ts,g1,c,d1,d2,nT,ne,g2,d3,d4⟩:=hd1
  refine⟨fun b o q=>?_,hid a n,jg2 (fun b q=>⟨hid b q,sb.2 b (apart q)⟩) fr,oe,vs,T,oT,ts,(sb.2 a (apart n)).trans g1,c,d1,d2,hid T nT,ne,(sb.2 T (apart nT)).trans g2,d3,d4⟩
  have nb:b≠C:=fun z=>by
   subst z
   rw[PySem.W.hideAll_none _ (.head _)]at q
   cases q
  exact(sb.2 b nb).trans (st b o (PySem.W.of_hideAll _ q))
 obtain⟨oe,vs,T,oT,ts,g1,c1,d1,c2,d2,g2,d3,d4,y,g3,kp⟩:=jk3 (u:=cenv.frame.elim .none fun f=>rawInt f) lies
 unfold PySem.passOn
 refine wpAny_bind (wpAny_field g1 d1 d2 ?_)
 rw[if_neg (by simp)]
 unfold setFlight
 refine wpAny_bind (wpAny_bind (wpAny_field g1 d1 d2 ?_))
 rw[if_pos (by simp)]
 refine wpAny_setField g2 d3 (j1n.mp d4).1 (wpAny_throw ?_)
 show wpAny _ _ (leaving (envOfC qual scope0 s0.heap.objs.size f cd) (.ref a)) _ _ _
 refine jma I.ok.frames rfl y fun h4 f4 up4=>jnF (s':=s') (h':=h4) IX fl hE (fun b o hb q=>j1v _ q fun z=>?_) (jhQ fl.hok fun b hb=>?_) f4 fun b o hb q z=>?_
 ·rcases j0d.mp z with rfl|z
  ·exact ju7 hb s0C
  ·cases z
 ·rcases j0d.mp hb with rfl|hb
  ·exact fl.free b oC eC I'.free
  ·cases hb
 ·obtain⟨s1,q1⟩:=up1 b o q z
  have q2:=kp b _ ((sb.2 b (fun e=>ju7 hb (e▸s0C))).trans q1) z
  obtain⟨s2,q3⟩:=up4 b {o with slots:=s1} q2 z
  exact⟨s2,q3⟩
theorem jqr {X:Cx}(hX:X=jiu (CX1 P w) P w K mg base N qual scope0 f cd A outer s0 H0 E){own N':List Str}{scope:Scope}{elt tg iter:Expr}{ifs:List Expr}{pos:Pos}{wi:TI}{g:TG}{tt:TT}{te:TE}(S:CompScope X own N' scope)(hi:PI X tg iter wi)
  (hg:∀C fp s H,PG ((jaO X N' scope C fp s H).wish (cxe E X N' scope C fp s H)) tg g) (ht:∀C fp s H,PTs ((jaO X N' scope C fp s H).wish (cxe E X N' scope C fp s H)) ifs tt) (he:∀C fp s H,PE ((jaO X N' scope C fp s H).wish (cxe E X N' scope C fp s H)) elt te)
  (hs:∀x,foldedSetIterable iter X.env x=pure x:=by intro _;rfl):PE X (.ListComp elt [⟨tg,iter,ifs,0⟩] scope pos) (jqU own.length wi g tt te):=by
 intro pins s σ H Q I h
 rw[eval_ListComp]
 refine wpAny_comprehension_free (use:=none) rfl hs (jfI S I) S.kind S.names (thn (hi pins s σ H _ I h) fun v s1 h1=>thn h1 fun itv s2 h2=>?_)
 obtain⟨it,fp,tn,J,H2,e,I2,T,st2,f2,W,⟨m0,w0⟩,turn⟩:=h2
 subst e
 refine jfO (xe:=cxe E X N' scope) (RR:=fun acc C=>compPost (model X.prog X.w) X.A X.xe none (EP X pins σ Q) acc C) (by rw[hX];rfl) S (fun C s H=>hg C fp s H) (fun C s H=>ht C fp s H) (fun C s H=>he C fp s H) I2 T st2 f2 W m0 w0 turn ?_ fun D C v s' hC hx=>jp9 hX I2 f2 hC hx
 intro D C s' H' m' I' q' hn hC h1 h2' h3 h4
 exact⟨m',hn,fun h' hsb=>⟨.ref D,H',I'.turned (t':=s'.toks) (it:=C) (fun b o hb e=>hsb.extBut b o hb e) hC h1 (.inr h2') h3 h4,rfl,q'⟩⟩
end
noncomputable def KP:List Str->List Value->List (Value×Value)->Prop
 |[],[],[]=>True
 |k::ks,u::us,(kv,v)::r=>(∃t,kv=.str k t)/\v=u/\KP ks us r
 |_,_,_=>False
theorem KP.len:∀{ks:List Str} {us:List Value} {r:List (Value×Value)},KP ks us r->us.length=ks.length
 |[],[],[],_=>rfl
 |k::ks,u::us,(kv,v)::r,h=>congrArg Nat.succ (KP.len h.2.2)
 |[],[],_::_,h=>h.elim
 |[],_::_,_,h=>h.elim
 |_::_,[],_,h=>h.elim
 |_::_,_::_,[],h=>h.elim
section
variable {X:Cx}
end
end _L2
namespace HT
open PySem PySem.Spec PyProof.Rows
section
variable {prog:Program} {w:World} {A:Around} {E:Value->Shared->Prop} {s:Shared}
theorem getItem_whole {t sl:Addr}{items:Array Value}{vl vu:Value}{lo hi:Option Int}{Q:Value->Shared->Prop}(ht:IsTup s.heap t items)(hs:s.heap.IsSliceOf sl vl vu .none)(pl:IsPart vl lo)(pu:IsPart vu hi)
  (hw:sIx items.size 0 lo=0/\sIx items.size items.size hi=items.size) (h:Q (.ref t) s):wpAny (model prog w) A (getItem (.ref t) (.ref sl)) Q E s:=by
 obtain⟨os,hos,hcs,hds⟩:=id hs
 have hTs:s.TypeIs (.ref sl) "slice":=⟨os,hos,hcs⟩
 unfold getItem
 try with_reducible refine wpAny_holding ?_
 first|refine wpAny_bind (wpAny_pure ?_)|skip
 refine wpAny_bind (wpAny_sequenceKey ht.typeIs (by decide) ?_)
 refine wpAny_bind (wpAny_callSpecial?_slot (name:=Str.ofString "__getitem__") ht.typeIs j08
  (wpAny_call_entry j08 ht.typeIs entry_tuple_getitem ?_ (args_tuple_getitem _ _)))
 show wpAny _ _ (Builtin.Tuple.tupleItemsOf (.ref t) >>=_) _ _ s
 refine wpAny_bind (tupleItemsOf_ ht ?_)
 refine wpAny_bind (wpAny_typeOf hTs ?_)
 rw[if_pos (by decide)]
 refine wpAny_bind (jdK hs pl pu ?_)
 have hyes:(((sIx items.size 0 lo:Nat):Int)==0&&(1:Int)==1&&(sIx items.size items.size hi - sIx items.size 0 lo)==items.size)=true:=by
  rw[hw.1,hw.2];simp
 show wpAny _ _ (if(((sIx items.size 0 lo:Nat):Int)==0&&(1:Int)==1&&(sIx items.size items.size hi - sIx items.size 0 lo)==items.size)=true then _ else _) _ _ s
 rw[if_pos hyes]
 have hT:=ht.typeIs
 unfold Builtin.Tuple.tupleIsExact
 refine wpAny_bind (wpAny_bind (wpAny_typeOf hT (wpAny_pure ?_)))
 rw[if_pos (by decide)]
 first
  |exact wpAny_bind (wpAny_rule (wpAny_pure ⟨_,rfl,wpAny_pure h⟩))
  |exact wpAny_bind (wpAny_pure (wpAny_pure ⟨_,rfl,wpAny_pure h⟩))
end
end HT
namespace _L2
open PySem PySem.Spec PyProof.Rows
section
variable {X:Cx}
noncomputable def jAo (K:PySem.W.Frag):V->Option Int->Option Int->Hp->VK->Prop:=fun x lo hi H Q=>∃a xs,x=.ref a/\SqT K H a xs/\(HT.sIx xs.length 0 lo=0/\HT.sIx xs.length xs.length hi=xs.length)/\Q (.ref a) H
theorem jpW:SlR X (jAo X.K):=by
 intro pins s σ H x v vl vu lo hi sl Q I rx hs pl pu h
 obtain⟨a,xs,rfl,hx,hw,q⟩:=h
 cases rx
 obtain⟨its,r,ht,hz⟩:=I.tuple hx
 have hlen:its.toArray.size=xs.length:=by rw[j0j];exact r.length.symm
 refine⟨"tuple",_,PyProof.Rows.slot_tuple_getitem.lookup,ht.typeIs,?_⟩
 exact HT.getItem_whole ht hs pl pu (by rw[hlen];exact hw) ⟨.ref a,H,I,rfl,q⟩
end
theorem jjT {α β:Type}{F:α->β->Prop}:∀{xs:List α} {ys:List β},xs.length=ys.length->(∀(i:Nat) (a:α) (b:β),xs[i]?=some a->ys[i]?=some b->F a b)->Paired F xs ys
 |[],[],_,_=>.nil
 |[],_::_,h,_=>by cases h
 |_::_,[],h,_=>by cases h
 |a::xs,b::ys,h,k=>.cons (k 0 a b rfl rfl) (jjT (by simpa using h) fun i a b h1 h2=>k (i+1) a b (by simpa using h1) (by simpa using h2))
section
variable {X:Cx}
def jzx (neg:Bool):R2:=fun x y H Q=>∃i j,x=.str i/\y=.str j/\Q (.bl (if neg then !Txt.contains j i else Txt.contains j i)) H
theorem jv3:OpR X (compareOp .In) (jzx false):=by
 intro pins s σ H x y v u Q I rx ry h
 obtain⟨i,j,rfl,rfl,q⟩:=h
 obtain⟨t,rfl⟩:=rx
 obtain⟨t',rfl⟩:=ry
 exact PySem.P.in_str ⟨.bl _,H,I,rfl,q⟩
theorem juz:OpR X (compareOp .NotIn) (jzx true):=by
 intro pins s σ H x y v u Q I rx ry h
 obtain⟨i,j,rfl,rfl,q⟩:=h
 obtain⟨t,rfl⟩:=rx
 obtain⟨t',rfl⟩:=ry
 exact PySem.P.notIn_str ⟨.bl _,H,I,rfl,q⟩
def jvG (K:PySem.W.Frag):R2:=fun x y H Q=>∃a xs k,x=.ref a/\y=.int k/\SqL K H a xs/\xs≠[]/\xs.length<=1000/\0<=k/\k<1000/\∀p,H p=none->Q (.ref p) (upd H p (.lst (List.replicate k.toNat xs).flatten))
theorem jtm:OpR X (binaryOp .Mult) (jvG X.K):=by
 intro pins s σ H x y v u Q I rx ry h
 obtain⟨a,xs,k,rfl,rfl,ha,hne,hl,h1,h2,q⟩:=h
 cases rx
 obtain⟨t,rfl⟩:=ry
 obtain⟨its,r,pl,z⟩:=I.list ha
 have hlen:=r.length
 obtain⟨⟨cls,dd,data,sl⟩,n,ho,hc,_,hd⟩:=pl
 simp only at hc hd
 subst hc hd
 have hT:s.TypeIs (.ref a) "list":=⟨_,ho,rfl⟩
 have hm:its.length*k.toNat<=1000*1000:=Nat.mul_le_mul (by rw[<- hlen];exact hl) (by omega)
 have hm2:its.toArray.size*k.toNat<=1000*1000:=by rw[j0j];exact hm
 have hem:its.toArray.isEmpty=false:=by
  cases its with
  |nil=>exact absurd (r.nil_iff.mp rfl) hne
  |cons _ _=>rfl
 refine wpAny_binaryOp_repeat_ref (T:="list") (U:="int") (by decide) hT (fun s'=>typeIs_int s' k t) noFill_list_mul PySem.F.fills_int_mul PySem.F.slot_int_rmul repeat_list PySem.F.slot_int_index.lookup
  (call_meets PySem.F.slot_int_rmul (typeIs_int s k t) PySem.F.entry_int_rmul (PySem.F.args_int_rmul_2 _ _) (lm_int_rmul_list_any k t a its.toArray n dd sl) ⟨ho,rfl,hT,
   call_meets PySem.F.slot_list_mul hT PySem.F.entry_list_mul (PySem.F.args_list_mul_2 _ _) (lm_list_mul_any a its.toArray n dd sl k t (by simp[Builtin.List.listFitsIndex];omega) (by omega) (by simp[Builtin.List.listTooLong,sizeLine];omega)) ⟨ho,?_⟩⟩)
 have e:=_L2.foldl_rep its k.toNat []
 rw[j1y]at e
 replace e:(List.foldl (fun x1 x2=>x1++x2) #[] (List.replicate k.toNat its.toArray))=(List.replicate k.toNat its).flatten.toArray:=e
 rw[if_neg (by rw[hem];exact j0g),e]
 refine⟨.ref s.heap.objs.size,_,I.laid (t':=s.toks) (o:=.lst (List.replicate k.toNat xs).flatten) (fun b ob q=>j0c _ q) (j0q _) ?_,rfl,q _ (I.hok.fresh (j0q _))⟩
 refine⟨?_,_,0,r.rep k.toNat,j0o _ rfl⟩
 rw[ju9,sizeLine_eq]
 have h4:k.toNat*xs.length<=1000*1000:=Nat.mul_le_mul (by omega) hl
 omega
theorem jmz (hc:X.calm=true):jbK X (.type "list") (fun xs H Q=>∃z:Str,xs=[.str z]/\z.cps.size<=1000/\∀l,H l=none->Q (.ref l) (upd H l (.lst (z.cps.toList.map fun c=>V.str ⟨#[c]⟩)))):=by
 intro pins s σ H xs us Q I r h
 obtain⟨z,rfl,hz,q⟩:=h
 obtain⟨u,rfl,t,rfl⟩:=r.one
 refine call_list_str (I.ok.hd hc) z t (fun h' tk acc c' k g it=>?_) (by rw[sizeLine_eq];omega)
 obtain⟨ez,ei⟩:=it
 refine⟨.ref s.heap.objs.size,_,I.laid (o:=.lst (z.cps.toList.map fun c=>V.str ⟨#[c]⟩)) (fun b o g'=>k b o g') (j0q _) ⟨?_,acc.toList,c',?_,by rw[Array.toArray_toList];exact g⟩,rfl,q _ (I.hok.fresh (j0q _))⟩
 ·rw[j0f,j01,sizeLine_eq]
  omega
 ·refine jjT (by rw[j0f,j01,j01,ez]) fun i x v h1 h2=>?_
  obtain⟨c,u,e1,rfl⟩:=ei i v (by simpa using h2)
  rw[j1g,Array.getElem?_toList,e1]at h1
  cases h1
  exact⟨u,rfl⟩
end
end _L2
namespace _L3
open PySem PySem.Spec PyProof.Rows _L2
set_option genInjectivity true in
inductive D where
 |non|bl (b:Bool)|int (i:Int)|str (x:Str)|ty (n:String)
 |tup (ds:List D)|lst (ds:List D)|scr (ds:List D)
 |dK (ks:List Key) (vs:List D)|dT (ks:List (List Key)) (vs:List D)|dF (ks:List Key) (vs:List D)
 |obj (C:Addr) (fs:List Str) (ds:List D)
 |cel (n:Nat)
inductive Cl where
 |lst (ds:List D)
 |dK (ks:List Key) (vs:List D)|dT (ks:List (List Key)) (vs:List D)
 |obj (C:Addr) (fs:List Str) (ds:List D)
noncomputable abbrev M:=List (Option Cl)
set_option genInjectivity true in
inductive Out (α:Type) where
 |ok (a:α) (μ:M)|exc (x:D) (μ:M)|bad
noncomputable def Out.bind {α β:Type}(o:Out α)(f:α->M->Out β):Out β:=
 match o with
 |.ok a μ=>f a μ
 |.exc x μ=>.exc x μ
 |.bad=>.bad
theorem Out.bind_ok {α β:Type}{o:Out α}{f:α->M->Out β}{b:β}{μ:M}(h:o.bind f=.ok b μ):∃a μ1,o=.ok a μ1/\f a μ1=.ok b μ:=by
 cases o with
 |ok a μ1=>exact⟨a,μ1,rfl,h⟩
 |exc x μ1=>cases h
 |bad=>cases h
structure Wd where
 Z:Hp
 γ:Nat->Addr
section
variable (K:PySem.W.Frag) (w:Wd) (n:Nat)
mutual
noncomputable def Den:D->V->Prop
 |.non,v=>v=.non
 |.bl b,v=>v=.bl b
 |.int i,v=>v=.int i
 |.str x,v=>v=.str x
 |.ty t,v=>v=.ty t
 |.tup ds,v=>∃a xs,v=.ref a/\SqT K w.Z a xs/\DenL ds xs
 |.lst ds,v=>∃a xs,v=.ref a/\w.Z a=some (.lst xs)/\DenL ds xs
 |.scr ds,v=>∃a xs,v=.ref a/\SqL K w.Z a xs/\DenL ds xs
 |.dK ks vs,v=>∃a xs,v=.ref a/\ks.length=vs.length/\w.Z a=some (.dK (ks.zip xs))/\DenL vs xs
 |.dT ks vs,v=>∃a xs,v=.ref a/\ks.length=vs.length/\w.Z a=some (.dT (ks.zip xs))/\DenL vs xs
 |.dF ks vs,v=>∃a o es ep xs,v=.ref a/\ks.length=vs.length/\o.data=.dict es ep/\w.Z a=some (.frz o (.dK (ks.zip xs)))/\DenL vs xs
 |.obj C fs ds,v=>∃a dx xs,v=.ref a/\fs.length=ds.length/\w.Z a=some (.ins C dx (fs.zip xs))/\DenL ds xs
 |.cel k,v=>k<n/\v=.ref (w.γ k)
noncomputable def DenL:List D->List V->Prop
 |[],vs=>vs=[]
 |d::ds,vs=>∃v ws,vs=v::ws/\Den d v/\DenL ds ws
end
noncomputable def Holds (H:Hp)(a:Addr):Cl->Prop
 |.lst ds=>∃xs,H a=some (.lst xs)/\DenL K w n ds xs
 |.dK ks vs=>∃xs,ks.length=vs.length/\H a=some (.dK (ks.zip xs))/\DenL K w n vs xs
 |.dT ks vs=>∃xs,ks.length=vs.length/\H a=some (.dT (ks.zip xs))/\DenL K w n vs xs
 |.obj C fs ds=>∃dx xs,fs.length=ds.length/\H a=some (.ins C dx (fs.zip xs))/\DenL K w n ds xs
end
structure Ext (w w':Wd) (n n':Nat):Prop where
 z:jfA w.Z w'.Z
 g:∀i,i<n->w'.γ i=w.γ i
 le:n<=n'
theorem Ext.refl (w:Wd)(n:Nat):Ext w w n n:=⟨jfA.refl _,fun _ _=>rfl,j0q _⟩
theorem Ext.trans {w w1 w2:Wd}{n n1 n2:Nat}(a:Ext w w1 n n1)(b:Ext w1 w2 n1 n2):Ext w w2 n n2:=
 ⟨a.z.trans b.z,fun i hi=>(b.g i (j0m hi a.le)).trans (a.g i hi),j0H a.le b.le⟩
section
variable {K:PySem.W.Frag} {w w':Wd} {n n':Nat}
theorem jaT:∀{ds:List D} {xs:List V},DenL K w n ds xs↔Paired (Den K w n) ds xs
 |[],xs=>by
  unfold DenL
  exact⟨fun h=>by subst h;exact .nil,fun h=>by cases h;rfl⟩
 |d::ds,xs=>by
  unfold DenL
  constructor
  ·rintro⟨v,ws,rfl,h1,h2⟩
   exact .cons h1 (jaT.mp h2)
  ·intro h
   cases h with
   |cons h1 h2=>exact⟨_,_,rfl,h1,jaT.mpr h2⟩
mutual
theorem Den.mono (e:Ext w w' n n'):∀{d:D} {v:V},Den K w n d v->Den K w' n' d v
 |.non,_,h=>by unfold Den at h ⊢;exact h
 |.bl _,_,h=>by unfold Den at h ⊢;exact h
 |.int _,_,h=>by unfold Den at h ⊢;exact h
 |.str _,_,h=>by unfold Den at h ⊢;exact h
 |.ty _,_,h=>by unfold Den at h ⊢;exact h
 |.tup ds,_,h=>by
  unfold Den at h ⊢
  obtain⟨a,xs,h1,h2,h3⟩:=h
  exact⟨a,xs,h1,e.z.tup h2,DenL.mono e h3⟩
 |.lst ds,_,h=>by
  unfold Den at h ⊢
  obtain⟨a,xs,h1,h2,h3⟩:=h
  exact⟨a,xs,h1,e.z _ _ h2,DenL.mono e h3⟩
 |.scr ds,_,h=>by
  unfold Den at h ⊢
  obtain⟨a,xs,h1,h2,h3⟩:=h
  exact⟨a,xs,h1,e.z.seq h2,DenL.mono e h3⟩
 |.dK ks vs,_,h=>by
  unfold Den at h ⊢
  obtain⟨a,xs,h1,h2,h3,h4⟩:=h
  exact⟨a,xs,h1,h2,e.z _ _ h3,DenL.mono e h4⟩
 |.dT ks vs,_,h=>by
  unfold Den at h ⊢
  obtain⟨a,xs,h1,h2,h3,h4⟩:=h
  exact⟨a,xs,h1,h2,e.z _ _ h3,DenL.mono e h4⟩
 |.dF ks vs,_,h=>by
  unfold Den at h ⊢
  obtain⟨a,o,es,ep,xs,h1,h2,h3,h4,h5⟩:=h
  exact⟨a,o,es,ep,xs,h1,h2,h3,e.z _ _ h4,DenL.mono e h5⟩
 |.obj C fs ds,_,h=>by
  unfold Den at h ⊢
  obtain⟨a,dx,xs,h1,h2,h3,h4⟩:=h
  exact⟨a,dx,xs,h1,h2,e.z _ _ h3,DenL.mono e h4⟩
 |.cel k,_,h=>by
  unfold Den at h ⊢
  exact⟨j0m h.1 e.le,by rw[e.g k h.1];exact h.2⟩
theorem DenL.mono (e:Ext w w' n n'):∀{ds:List D} {xs:List V},DenL K w n ds xs->DenL K w' n' ds xs
 |[],_,h=>by unfold DenL at h ⊢;exact h
 |d::ds,_,h=>by
  unfold DenL at h ⊢
  obtain⟨v,ws,h1,h2,h3⟩:=h
  exact⟨v,ws,h1,Den.mono e h2,DenL.mono e h3⟩
end
theorem Holds.mono {H H':Hp}{a:Addr}{c:Cl}(e:Ext w w' n n')(ha:H' a=H a)(h:Holds K w n H a c):Holds K w' n' H' a c:=by
 cases c with
 |lst ds=>obtain⟨xs,h1,h2⟩:=h;exact⟨xs,ha.trans h1,h2.mono e⟩
 |dK ks vs=>obtain⟨xs,h0,h1,h2⟩:=h;exact⟨xs,h0,ha.trans h1,h2.mono e⟩
 |dT ks vs=>obtain⟨xs,h0,h1,h2⟩:=h;exact⟨xs,h0,ha.trans h1,h2.mono e⟩
 |obj C fs ds=>obtain⟨dx,xs,h0,h1,h2⟩:=h;exact⟨dx,xs,h0,ha.trans h1,h2.mono e⟩
theorem Holds.some {H:Hp}{a:Addr}{c:Cl}(h:Holds K w n H a c):∃o,H a=some o:=by
 cases c with
 |lst ds=>obtain⟨xs,h1,h2⟩:=h;exact⟨_,h1⟩
 |dK ks vs=>obtain⟨xs,h0,h1,h2⟩:=h;exact⟨_,h1⟩
 |dT ks vs=>obtain⟨xs,h0,h1,h2⟩:=h;exact⟨_,h1⟩
 |obj C fs ds=>obtain⟨dx,xs,h0,h1,h2⟩:=h;exact⟨_,h1⟩
end
structure Rep (K:PySem.W.Frag) (w:Wd) (μ:M) (H:Hp):Prop where
 sub:jfA w.Z H
 liv:∀k c,μ[k]?=some (some c)->w.Z (w.γ k)=none/\Holds K w μ.length H (w.γ k) c
 inj:∀i j ci cj,μ[i]?=some (some ci)->μ[j]?=some (some cj)->w.γ i=w.γ j->i=j
section
variable {K:PySem.W.Frag} {w:Wd} {μ:M} {H:Hp}
theorem Rep.znone (R:Rep K w μ H){p:Addr}(hp:H p=none):w.Z p=none:=R.sub.free hp
theorem Rep.ne (R:Rep K w μ H){p:Addr}(hp:H p=none){k:Nat}{c:Cl}(h:μ[k]?=some (some c)):w.γ k≠p:=fun e=>by
 obtain⟨o,ho⟩:=(R.liv k c h).2.some
 rw[e,hp]at ho
 cases ho
theorem Rep.frz (R:Rep K w μ H){p:Addr}(hp:H p=none)(o:HO):Rep K ⟨upd w.Z p o,w.γ⟩ μ (upd H p o)/\Ext w ⟨upd w.Z p o,w.γ⟩ μ.length μ.length:=by
 have ex:Ext w ⟨upd w.Z p o,w.γ⟩ μ.length μ.length:=⟨(jfA.refl _).upd (R.znone hp),fun _ _=>rfl,j0q _⟩
 refine⟨⟨fun b u h=>?_,fun k c h=>?_,R.inj⟩,ex⟩
 ·replace h:upd w.Z p o b=some u:=h
  by_cases e:b=p
  ·subst e
   rw[jaF]at h ⊢
   exact h
  ·rw[jar e]at h ⊢
   exact R.sub _ _ h
 ·have hne:=R.ne hp h
  exact⟨by show upd w.Z p o (w.γ k)=none;rw[jar hne];exact(R.liv k c h).1,(R.liv k c h).2.mono ex (jar hne)⟩
theorem Rep.cell (R:Rep K w μ H){p:Addr}(hp:H p=none)(o:HO)(c:Cl)(hc:∀w':Wd,Ext w w' μ.length (μ.length+1)->Holds K w' (μ.length+1) (upd H p o) p c) :
  ∃w':Wd,Rep K w' (μ++[some c]) (upd H p o)/\Ext w w' μ.length (μ.length+1)/\w'.γ μ.length=p:=by
 have ex:Ext w ⟨w.Z,fun i=>if i=μ.length then p else w.γ i⟩ μ.length (μ.length+1):=⟨jfA.refl _,fun i hi=>if_neg (j0k hi),Nat.le_succ _⟩
 have hcases:∀(k:Nat) (d:Cl),(μ++[some c])[k]?=some (some d)->(k<μ.length/\μ[k]?=some (some d))∨(k=μ.length/\d=c):=fun k d h=>by
  by_cases hk:k<μ.length
  ·exact .inl ⟨hk,by rwa [j0Z hk]at h⟩
  ·rw[j1l (by omega)]at h
   have hk0:k - μ.length=0:=by
    cases e:k - μ.length with
    |zero=>rfl
    |succ m=>rw[e]at h;simp at h
   rw[hk0]at h
   exact .inr ⟨by omega,by simpa using h.symm⟩
 refine⟨_,⟨?_,?_,?_⟩,ex,if_pos rfl⟩
 ·intro b u h
  have hb:b≠p:=jaq (R.sub _ _ h) hp
  rw[jar hb]
  exact R.sub _ _ h
 ·intro k d h
  have hlen:(μ++[some c]).length=μ.length+1:=by simp
  rw[hlen]
  rcases hcases k d h with⟨hk,h'⟩|⟨rfl,rfl⟩
  ·have hne:=R.ne hp h'
   have hg:(if k=μ.length then p else w.γ k)=w.γ k:=if_neg (j0k hk)
   show w.Z (if k=μ.length then p else w.γ k)=none/\Holds K _ _ _ (if k=μ.length then p else w.γ k) d
   rw[hg]
   exact⟨(R.liv k d h').1,(R.liv k d h').2.mono ex (jar hne)⟩
  ·show w.Z (if μ.length=μ.length then p else w.γ μ.length)=none/\Holds K _ _ _ (if μ.length=μ.length then p else w.γ μ.length) d
   rw[if_pos rfl]
   exact⟨R.znone hp,hc _ ex⟩
 ·intro i j ci cj hi hj e
  have e':(if i=μ.length then p else w.γ i)=(if j=μ.length then p else w.γ j):=e
  rcases hcases i ci hi with⟨hi',h1⟩|⟨rfl,_⟩<;>rcases hcases j cj hj with⟨hj',h2⟩|⟨rfl,_⟩
  ·rw[if_neg (j0k hi'),if_neg (j0k hj')]at e'
   exact R.inj i j ci cj h1 h2 e'
  ·rw[if_neg (j0k hi'),if_pos rfl]at e'
   exact absurd e' (R.ne hp h1)
  ·rw[if_pos rfl,if_neg (j0k hj')]at e'
   exact absurd e'.symm (R.ne hp h2)
  ·rfl
theorem Rep.put (R:Rep K w μ H){k:Nat}{c0 c:Cl}(hk:μ[k]?=some (some c0))(o:HO)(hc:Holds K w μ.length (upd H (w.γ k) o) (w.γ k) c):Rep K w (μ.set k (some c)) (upd H (w.γ k) o):=by
 have hkl:k<μ.length:=(j0r.mp hk).1
 have hz:=(R.liv k c0 hk).1
 have hcases:∀(j:Nat) (d:Cl),(μ.set k (some c))[j]?=some (some d)->(j=k/\d=c)∨(j≠k/\μ[j]?=some (some d)):=fun j d h=>by
  by_cases e:j=k
  ·subst e
   rw[j1j hkl]at h
   exact .inl ⟨rfl,by simpa using h.symm⟩
  ·rw[j1b (fun z=>e z.symm)]at h
   exact .inr ⟨e,h⟩
 refine⟨fun b u h=>?_,fun j d h=>?_,fun i j ci cj hi hj e=>?_⟩
 ·have hb:b≠w.γ k:=fun z=>by rw[z,hz]at h;cases h
  rw[jar hb]
  exact R.sub _ _ h
 ·rw[List.length_set]
  rcases hcases j d h with⟨rfl,rfl⟩|⟨hne,h'⟩
  ·exact⟨hz,hc⟩
  ·have:w.γ j≠w.γ k:=fun z=>hne (R.inj j k d c0 h' hk z)
   exact⟨(R.liv j d h').1,(R.liv j d h').2.mono (Ext.refl _ _) (jar this)⟩
 ·have l1:∃c',μ[i]?=some (some c'):=by
   rcases hcases i ci hi with⟨rfl,_⟩|⟨_,h⟩
   ·exact⟨_,hk⟩
   ·exact⟨_,h⟩
  have l2:∃c',μ[j]?=some (some c'):=by
   rcases hcases j cj hj with⟨rfl,_⟩|⟨_,h⟩
   ·exact⟨_,hk⟩
   ·exact⟨_,h⟩
  exact R.inj i j _ _ l1.choose_spec l2.choose_spec e
end
noncomputable abbrev S3:=List (Option D)
def jAF (K:PySem.W.Frag)(w:Wd)(n:Nat)(o:Option D)(x:Option V):Prop:=∀d,o=some d->∃v,x=some v/\Den K w n d v
abbrev jch (K:PySem.W.Frag) (w:Wd) (n:Nat) (ρ:S3) (σ:_L2.St):Prop:=Paired (jAF K w n) ρ σ
section
variable {K:PySem.W.Frag} {w w':Wd} {n n':Nat}
theorem jch.mono (e:Ext w w' n n'):∀{ρ:S3} {σ:_L2.St},jch K w n ρ σ->jch K w' n' ρ σ
 |_,_,.nil=>.nil
 |_,_,.cons h t=>.cons (fun d hd=>let⟨v,h1,h2⟩:=h d hd;⟨v,h1,h2.mono e⟩) (jch.mono e t)
theorem jch.get:∀{ρ:S3} {σ:_L2.St} {i:Nat} {d:D},jch K w n ρ σ->ρ[i]?=some (some d)->∃v,σ[i]?=some (some v)/\Den K w n d v
 |_,_,0,d,.cons h t,e=>by
  obtain⟨v,h1,h2⟩:=h d (by simpa using e)
  exact⟨v,by simp[h1],h2⟩
 |_,_,i+1,d,.cons h t,e=>by
  obtain⟨v,h1,h2⟩:=jch.get (i:=i) (d:=d) t (by simpa using e)
  exact⟨v,by simpa using h1,h2⟩
 |_,_,_,_,.nil,e=>by simp at e
theorem jch.set {d:D}{v:V}(hd:Den K w n d v):∀{ρ:S3} {σ:_L2.St} (i:Nat),jch K w n ρ σ->jch K w n (ρ.set i (some d)) (σ.set i (some v))
 |_,_,_,.nil=>.nil
 |_,_,0,.cons _ t=>.cons (fun d' e=>by cases e;exact⟨v,rfl,hd⟩) t
 |_,_,i+1,.cons h t=>.cons h (jch.set hd i t)
theorem jch.drop1:∀{ρ:S3} {σ:_L2.St} (i:Nat),jch K w n ρ σ->jch K w n (ρ.set i none) σ
 |_,_,_,.nil=>.nil
 |_,_,0,.cons _ t=>.cons (fun d' e=>by cases e) t
 |_,_,i+1,.cons h t=>.cons h (jch.drop1 i t)
noncomputable def forget (fg:List Nat)(ρ:S3):S3:=fg.foldl (fun r i=>r.set i none) ρ
theorem jch.forget:∀(fg:List Nat) {ρ:S3} {σ:_L2.St},jch K w n ρ σ->jch K w n (forget fg ρ) σ
 |[],_,_,h=>h
 |i::fg,_,_,h=>jch.forget fg (h.drop1 i)
theorem jch.blank:∀(k:Nat) {ρ:S3} {σ:_L2.St},jch K w n ρ σ->jch K w n (List.replicate k none++ρ) (List.replicate k none++σ)
 |0,_,_,h=>h
 |k+1,_,_,h=>by
  rw[j0W,j0W]
  exact .cons (fun d e=>by cases e) (jch.blank k h)
theorem jch.start {vs:List V}{ds:List D}(h:DenL K w n ds vs)(m:Nat):jch K w n (ds.map some++List.replicate m none) (vs.map some++List.replicate m none):=by
 have h':=jaT.mp h
 clear h
 induction h' with
 |nil=>
  have:=jch.blank (K:=K) (w:=w) (n:=n) m (Paired.nil:jch K w n [] [])
  simpa using this
 |cons r t ih=>exact .cons (fun d e=>by cases e;exact⟨_,rfl,r⟩) ih
end
def T3E (K:PySem.W.Frag)(r:S3->M->Out D):TE:=fun σ H Q=>∃(w:Wd) (μ:M) (ρ:S3) (d:D) (μ':M),Rep K w μ H/\jch K w μ.length ρ σ/\r ρ μ=.ok d μ'/\∀w' H' v,Ext w w' μ.length μ'.length->Rep K w' μ' H'->Den K w' μ'.length d v->Q v H'
def T3T (K:PySem.W.Frag)(r:S3->M->Out Bool):TT:=fun σ H Q=>∃(w:Wd) (μ:M) (ρ:S3) (b:Bool) (μ':M),Rep K w μ H/\jch K w μ.length ρ σ/\r ρ μ=.ok b μ'/\∀w' H',Ext w w' μ.length μ'.length->Rep K w' μ' H'->Q b H'
def T3A (K:PySem.W.Frag)(r:S3->M->Out (List D)):TA:=fun σ H Q=>∃(w:Wd) (μ:M) (ρ:S3) (ds:List D) (μ':M),Rep K w μ H/\jch K w μ.length ρ σ/\r ρ μ=.ok ds μ'/\∀w' H' vs,Ext w w' μ.length μ'.length->Rep K w' μ' H'->DenL K w' μ'.length ds vs->Q vs H'
set_option genInjectivity true in
inductive Fl where
 |nx (ρ:S3)|rt (d:D)|bk (ρ:S3)|ct (ρ:S3)
noncomputable def jyK (K:PySem.W.Frag)(w:Wd)(n:Nat)(H:Hp)(E:Ends):Fl->Prop
 |.nx ρ=>∀σ,jch K w n ρ σ->E.nx σ H
 |.rt d=>∀v,Den K w n d v->E.rt v H
 |.bk ρ=>∀σ,jch K w n ρ σ->E.bk σ H
 |.ct ρ=>∀σ,jch K w n ρ σ->E.ct σ H
def T3S (K:PySem.W.Frag)(r:S3->M->Out Fl):TS:=fun E σ H=>∃(w:Wd) (μ:M) (ρ:S3) (fl:Fl) (μ':M),Rep K w μ H/\jch K w μ.length ρ σ/\r ρ μ=.ok fl μ'/\∀w' H',Ext w w' μ.length μ'.length->Rep K w' μ' H'->jyK K w' μ'.length H' E fl
noncomputable abbrev Fn:=List D->M->Out D
noncomputable def jmL (K:PySem.W.Frag)(np:Nat)(F:Fn):Sp:=fun vs H Q _=>vs.length=np/\∃(w:Wd) (μ:M) (ds:List D) (d:D) (μ':M),Rep K w μ H/\DenL K w μ.length ds vs/\F ds μ=.ok d μ'/\∀w' H' v,Ext w w' μ.length μ'.length->Rep K w' μ' H'->Den K w' μ'.length d v->Q v H'
inductive Tg where|nm (i:Nat)|tp (is:List Nat)
inductive IK where|seq|enm|zip|rng1|rng2|str|items
inductive Md where|raw|frz|new
inductive Bi where|len|sum|min2|max2|list|tuple|int|all|isT (n:String)|isT2 (n m:String)|listRange|str|lenSet|dictZip
inductive Mt where|append|extend|join|split
inductive E where
 |var (i:Nat)|cst (d:D)
 |bin (op:Operator) (m:Bool) (a b:E)
 |neg (a:E)|not_ (a:E)|and_ (a b:E)|or_ (a b:E)
 |cmp (op:CmpOp) (a b:E)|chain (o1 o2:CmpOp) (a b c:E)
 |isN (a:E)|notN (a:E)
 |ife (c a b:E)
 |tup (es:List E)|lst (m:Bool) (es:List E)
 |ix (a b:E)|sl (m:Bool) (a:E) (lo hi:List E)|stp (m:Bool) (a:E) (lo st:List E)
 |fld (a:E) (i:Nat) (f:Str)
 |call (f:Nat) (md:Md) (es:List E)
 |bi (b:Bi) (m:Bool) (es:List E)
 |mt (b:Mt) (o:E) (es:List E)
 |comp (m:Bool) (own:Nat) (tg:Tg) (ik:IK) (es:List E) (ifs:List E) (elt:E)
 |gl (f:Nat)|gget (f:Nat) (a d:E)|gin (neg:Bool) (f:Nat) (a:E)|gix (f:Nat) (a:E)
inductive S where
 |asg (tg:Tg) (e:E)|par (i j:Nat) (a b:E)|unp (is:List Nat) (e:E)|setF (o:E) (i:Nat) (f:Str) (e:E)|setI (o i e:E)|ex (e:E)
 |ite (c:E) (a b:List S)
 |for_ (tg:Tg) (ik:IK) (es:List E) (body:List S) (fg:List Nat)
 |ret (e:E)|retN|pass|never
inductive Dat where
 |cst (d:D)|dct (kvs:List (Str×D))|cls (C:Addr) (k:Nat) (fs:List Str)
structure FnE where
 name:Str
 ps:List Str
 lv:Nat
 F:Fn
 dat:Option Dat
noncomputable def jgW (μ:M):D->Option (List D)
 |.lst ds=>some ds
 |.scr ds=>some ds
 |.cel k=>match μ[k]? with
  |some (some (.lst ds))=>some ds
  |_=>none
 |_=>none
noncomputable def jfb (μ:M):D->Option (List D)
 |.tup ds=>some ds
 |d=>jgW μ d
noncomputable def mkL (m:Bool)(ds:List D)(μ:M):Out D:=if m then .ok (.cel μ.length) (μ++[some (.lst ds)])else .ok (.lst ds) μ
noncomputable def cutD (ds:List D)(lo hi:Option Int):List D:=(ds.drop (HT.sIx ds.length 0 lo)).take (HT.sIx ds.length ds.length hi - HT.sIx ds.length 0 lo)
noncomputable def jhv:D->Option V
 |.non=>some .non
 |.bl b=>some (.bl b)
 |.int i=>some (.int i)
 |.str x=>some (.str x)
 |_=>none
abbrev jpZ (i j:Int):Prop:=(-18446744073709551616<i/\i<18446744073709551616)∨(-18446744073709551616<j/\j<18446744073709551616)
abbrev jwZ (_ j:Int):Prop:=0<j/\j<18446744073709551616
abbrev jzK (_ j:Int):Prop:=0<j
abbrev jwE (i j:Int):Prop:=0<=j/\j<=1000000/\i.natAbs<18446744073709551616
noncomputable def jvt (C:Int->Int->Prop)(f:Int->Int->Int)(a b:D)(μ:M):Out D:=
 match a,b with
 |.int i,.int j=>@ite _ (C i j) (Classical.propDecidable _) (.ok (.int (f i j)) μ) .bad
 |_,_=>.bad
noncomputable def jyM (m:Bool)(a b:D)(μ:M):Out D:=
 match a,b with
 |.int i,.int j=>.ok (.int (i+j)) μ
 |.str x,.str y=>@ite _ (x.length+y.length<=sizeLine) (Classical.propDecidable _) (.ok (.str (x++y)) μ) .bad
 |a,b=>match jgW μ a,jgW μ b with
  |some xs,some ys=>@ite _ (xs.length+ys.length<=sizeLine) (Classical.propDecidable _) (mkL m (xs++ys) μ) .bad
  |_,_=>.bad
noncomputable def jyV (a b:D)(μ:M):Out D:=
 match a,b with
 |.int i,.int j=>@ite _ (jpZ i j) (Classical.propDecidable _) (.ok (.int (i*j)) μ) .bad
 |.str z,.int n=>if 0<=n/\n<=1000/\z.length<=1000 then .ok (.str (Txt.mul z n)) μ else .bad
 |.lst ds,.int n=>if 0<=n/\n<1000/\ds≠[]/\ds.length<=1000 then .ok (.lst (List.replicate n.toNat ds).flatten) μ else .bad
 |_,_=>.bad
noncomputable def jg0 (op:Operator)(m:Bool):D->D->M->Out D:=
 match op with
 |.Add=>jyM m
 |.Sub=>jvt (fun _ _=>True) (· - ·)
 |.Mult=>jyV
 |.FloorDiv=>jvt jwZ (· / ·)
 |.Mod=>jvt jzK (· % ·)
 |.Pow=>jvt jwE (fun i j=>i ^ j.toNat)
 |_=>fun _ _ _=>.bad
noncomputable def jlM (f:D->D->Option Bool):List D->List D->Option Bool
 |x::xs,y::ys=>match f x y,jlM f xs ys with
  |some a,some b=>some (a&&b)
  |_,_=>none
 |_,_=>some true
noncomputable def eqN (f:D->D->Option Bool)(μ:M)(a b:D):Option Bool:=
 match a,b with
 |.tup xs,.tup ys=>(jlM f xs ys).map (· && xs.length==ys.length)
 |_,_=>none
noncomputable def eqD (μ:M):Nat->D->D->Option Bool
 |0,_,_=>none
 |n+1,a,b=>match jhv a,jhv b with
  |some x,some y=>some (eqV x y)
  |_,_=>eqN (eqD μ n) μ a b
noncomputable def jkR (μ:M)(a b:D):Option Bool:=
 match jhv a,jhv b with
 |some x,some y=>if jyz x y=true then some (decide (x=y))else none
 |_,_=>eqN (eqD μ 8) μ a b
noncomputable def jvh (x:V):List D->Option Bool
 |[]=>some false
 |d::ds=>match jhv d,jvh x ds with
  |some y,some r=>some (eqV y x||r)
  |_,_=>none
noncomputable def jzh:D->Option Key
 |.int i=>some (.inl i)
 |.str x=>some (.inr x)
 |_=>none
noncomputable def jkd (μ:M):D->Option (List Key×List D)
 |.dK ks vs=>some (ks,vs)
 |.dF ks vs=>some (ks,vs)
 |.cel c=>match μ[c]? with
  |some (some (.dK ks vs))=>some (ks,vs)
  |_=>none
 |_=>none
noncomputable def jev (k:Key):List Key->List D->Option D
 |g::ks,d::ds=>if g=k then some d else jev k ks ds
 |_,_=>none
noncomputable def inD (μ:M)(a b:D):Option Bool:=
 match jfb μ b with
 |some ds=>match jhv a with
  |some x=>jvh x ds
  |none=>none
 |none=>match jzh a,jkd μ b with
  |some k,some (ks,vs)=>some (jev k ks vs).isSome
  |_,_=>match a,b with
   |.str x,.str y=>some (Txt.contains y x)
   |_,_=>none
noncomputable def jpl (op:CmpOp)(a b:D)(μ:M):Option Bool:=
 match op with
 |.Eq=>jkR μ a b
 |.NotEq=>(jkR μ a b).map (!·)
 |.Lt=>match a,b with
  |.int i,.int j=>some (decide (i<j))
  |_,_=>none
 |.LtE=>match a,b with
  |.int i,.int j=>some (decide (i<=j))
  |.str i,.str j=>some (!decide (j.cps.toList<i.cps.toList))
  |_,_=>none
 |.Gt=>match a,b with
  |.int i,.int j=>some (decide (j<i))
  |_,_=>none
 |.GtE=>match a,b with
  |.int i,.int j=>some (decide (j<=i))
  |_,_=>none
 |.In=>inD μ a b
 |.NotIn=>(inD μ a b).map (!·)
 |.Is=>none
 |.IsNot=>none
noncomputable def jdM (op:CmpOp)(a b:D)(μ:M):Out D:=
 match jpl op a b μ with
 |some r=>.ok (.bl r) μ
 |none=>.bad
noncomputable def jyA (μ:M):D->Option Bool
 |.bl b=>some b
 |_=>none
noncomputable def jvl (a:D)(k:Key)(μ:M):Out D:=
 match jkd μ a with
 |some (ks,vs)=>match jev k ks vs with
  |some d=>.ok d μ
  |none=>.bad
 |none=>.bad
noncomputable def ixD (a b:D)(μ:M):Out D:=
 match b with
 |.int i=>match a with
  |.str z=>@ite _ (z.length<=sizeLine) (Classical.propDecidable _) (match atI z.cps.toList i with
    |some c=>.ok (.str ⟨#[c]⟩) μ
    |none=>.bad) .bad
  |a=>match jfb μ a with
   |some ds=>match atI ds i with
    |some d=>.ok d μ
    |none=>.bad
   |none=>jvl a (.inl i) μ
 |.str k=>jvl a (.inr k) μ
 |_=>.bad
noncomputable def slD (m:Bool)(a:D)(lo hi:Option Int)(μ:M):Out D:=
 match a with
 |.str z=>@ite _ (z.length<=sizeLine) (Classical.propDecidable _) (.ok (.str (Txt.slice z lo hi)) μ) .bad
 |.tup ds=>.ok (.tup (cutD ds lo hi)) μ
 |a=>match jgW μ a with
  |some ds=>mkL m (cutD ds lo hi) μ
  |none=>.bad
noncomputable def jr0 (m:Bool)(a:D)(lo st:Option Int)(μ:M):Out D:=
 match lo,st with
 |some i,some k=>if 0<=i/\0<k then match jgW μ a with
   |some ds=>mkL m ((jcz ds.length i k).filterMap (ds[·]?)) μ
   |none=>.bad
  else .bad
 |_,_=>.bad
noncomputable def jyT (f:Str):List Str->List D->Option D
 |g::fs,d::ds=>if f=g then some d else jyT f fs ds
 |_,_=>none
open Classical in
noncomputable def jAH (C:Addr)(f:Str)(a:D)(μ:M):Out D:=
 match a with
 |.obj C' fs ds=>match(if C'=C then jyT f fs ds else none)with
  |some d=>.ok d μ
  |none=>.bad
 |.cel k=>match μ[k]? with
  |some (some (.obj C' fs ds))=>match(if C'=C then jyT f fs ds else none)with
   |some d=>.ok d μ
   |none=>.bad
  |_=>.bad
 |_=>.bad
noncomputable def jyb (f:Str):List Str->List Str
 |[]=>[f]
 |g::r=>if g=f then g::r else g::jyb f r
noncomputable def jx1 {α:Type}(f:Str)(d:α):List Str->List α->List α
 |[],_=>[d]
 |g::r,x::xs=>if g=f then d::xs else x::jx1 f d r xs
 |_::_,[]=>[]
open Classical in
noncomputable def jAy (C:Addr)(f:Str)(d x:D)(μ:M):Option M:=
 match x with
 |.cel k=>match μ[k]? with
  |some (some (.obj C' fs ds))=>if C'=C/\fs.length<1000 then some (μ.set k (some (.obj C' (jyb f fs) (jx1 f d fs ds))))else none
  |_=>none
 |_=>none
noncomputable def jsF:List D->Option (List Bool)
 |[]=>some []
 |.bl i::ds=>(jsF ds).map (i :: ·)
 |_=>none
noncomputable def jiU:List D->Option (List Str)
 |[]=>some []
 |.str i::ds=>(jiU ds).map (i :: ·)
 |_=>none
noncomputable def tyD (μ:M):D->Option String
 |.int _=>some "int"
 |.str _=>some "str"
 |.tup _=>some "tuple"
 |_=>none
noncomputable def jvq (n t:String):Option Bool:=
 if n = "int" then some (t = "int" ||t = "bool")
 else if n = "bool"∨n = "str"∨n = "tuple" then some (t=n)
 else none
noncomputable def jza (ds:List D)(μ:M):Out D:=
 match ds with
 |[.str z]=>@ite _ (z.length<=sizeLine) (Classical.propDecidable _) (.ok (.int z.length) μ) .bad
 |[d]=>match jfb μ d with
  |some xs=>.ok (.int xs.length) μ
  |none=>.bad
 |_=>.bad
noncomputable def jyO (ds:List D)(μ:M):Out D:=
 match ds with
 |[.int i,.int j]=>.ok (.int (if j<i then j else i)) μ
 |_=>.bad
noncomputable def jyY (ds:List D)(μ:M):Out D:=
 match ds with
 |[.int i,.int j]=>.ok (.int (if j > i then j else i)) μ
 |_=>.bad
noncomputable def jt8 (m:Bool)(ds:List D)(μ:M):Out D:=
 match ds with
 |[d]=>match jfb μ d with
  |some xs=>mkL m xs μ
  |none=>match d with
   |.str z=>if z.cps.size<=1000 then mkL m (z.cps.toList.map fun c=>.str ⟨#[c]⟩) μ else .bad
   |_=>.bad
 |_=>.bad
noncomputable def tupleD (ds:List D)(μ:M):Out D:=
 match ds with
 |[d]=>match jfb μ d with
  |some xs=>.ok (.tup xs) μ
  |none=>.bad
 |_=>.bad
noncomputable def jkU (ds:List D)(μ:M):Out D:=
 match ds with
 |[.int i]=>.ok (.int i) μ
 |[.bl k]=>.ok (.int (if k then 1 else 0)) μ
 |[.str z]=>match PySem.intText? z with
  |some n=>if z.length<=640 then .ok (.int n) μ else .bad
  |none=>.bad
 |_=>.bad
noncomputable def jyG (ds:List D)(μ:M):Out D:=
 match ds with
 |[d]=>match jgW μ d with
  |some xs=>match jsF xs with
   |some bs=>.ok (.bl (bs.all id)) μ
   |none=>.bad
  |none=>.bad
 |_=>.bad
noncomputable def jyH (n:String)(ds:List D)(μ:M):Out D:=
 match ds with
 |[d]=>match tyD μ d with
  |some t=>match jvq n t with
   |some r=>.ok (.bl r) μ
   |none=>.bad
  |none=>.bad
 |_=>.bad
noncomputable def jzR (n m t:String):Option Bool:=
 match jvq n t with
 |some true=>some true
 |some false=>jvq m t
 |none=>none
noncomputable def jy2 (n m:String)(ds:List D)(μ:M):Out D:=
 match ds with
 |[d]=>match tyD μ d with
  |some t=>match jzR n m t with
   |some b=>.ok (.bl b) μ
   |none=>.bad
  |none=>.bad
 |_=>.bad
noncomputable def jzb (ds:List D)(μ:M):Out D:=
 match ds with
 |[.int i]=>@ite _ (i.natAbs.log2<1920) (Classical.propDecidable _) (.ok (.str (toString i)) μ) .bad
 |[.str z]=>.ok (.str z) μ
 |_=>.bad
noncomputable def jiL (ds:List D)(μ:M):Out D:=
 match ds with
 |[d]=>match jfb μ d with
  |some xs=>match jiU xs with
   |some zs=>if zs.length<=1000 then .ok (.int (ddS zs).length) μ else .bad
   |none=>.bad
  |none=>.bad
 |_=>.bad
noncomputable def jgi (m:Bool)(ds:List D)(μ:M):Out D:=
 match ds with
 |[a,b]=>match jfb μ a,jfb μ b with
  |some xs,some ys=>match jiU xs with
   |some zs=>if zs.length=ys.length/\zs.length<=1000/\zs.Nodup then(if m then .ok (.cel μ.length) (μ++[some (.dK (zs.map .inr) ys)])else .ok (.dF (zs.map .inr) ys) μ)else .bad
   |none=>.bad
  |_,_=>.bad
 |_=>.bad
noncomputable def biD (b:Bi)(m:Bool):List D->M->Out D:=
 match b with
 |.len=>jza
 |.sum=>fun _ _=>.bad
 |.min2=>jyO
 |.max2=>jyY
 |.list=>jt8 m
 |.tuple=>tupleD
 |.int=>jkU
 |.all=>jyG
 |.isT n=>jyH n
 |.isT2 n m=>jy2 n m
 |.listRange=>fun _ _=>.bad
 |.str=>jzb
 |.lenSet=>jiL
 |.dictZip=>jgi m
noncomputable def jmF (b:Mt)(o:D)(μ:M):Bool:=
 match b,o with
 |.join,.str _=>true
 |.join,_=>false
 |.split,.str _=>true
 |.split,_=>false
 |_,.cel k=>match μ[k]? with
  |some (some (.lst _))=>true
  |_=>false
 |_,_=>false
noncomputable def jmJ (o:D)(ds:List D)(μ:M):Out D:=
 match o,ds with
 |.cel k,[d]=>match μ[k]? with
  |some (some (.lst xs))=>@ite _ (xs.length<sizeLine) (Classical.propDecidable _) (.ok .non (μ.set k (some (.lst (xs++[d]))))) .bad
  |_=>.bad
 |_,_=>.bad
noncomputable def jp3 (o:D)(ds:List D)(μ:M):Out D:=
 match o,ds with
 |.str z,[d]=>match jgW μ d with
  |some xs=>match jiU xs with
   |some ys=>@ite _ ((ys.map (·.length)).sum+ys.length*z.length<=16777216) (Classical.propDecidable _) (.ok (.str (Txt.join z ys)) μ) .bad
   |none=>.bad
  |none=>.bad
 |_,_=>.bad
noncomputable def jpb (o:D)(ds:List D)(μ:M):Out D:=
 match o,ds with
 |.str z,[.str y]=>@ite _ ((y.length==0)=false/\z.length<=100000) (Classical.propDecidable _) (.ok (.lst ((Txt.split z y).map .str)) μ) .bad
 |_,_=>.bad
noncomputable def mtD (b:Mt):D->List D->M->Out D:=
 match b with
 |.append=>jmJ
 |.extend=>fun _ _ _=>.bad
 |.join=>jp3
 |.split=>jpb
noncomputable def jnt:List Nat->List D->S3->Option S3
 |[],[],ρ=>some ρ
 |i::is,d::ds,ρ=>jnt is ds (ρ.set i (some d))
 |_,_,_=>none
noncomputable def jl2 (tg:Tg)(d:D)(ρ:S3):Option S3:=
 match tg,d with
 |.nm i,d=>some (ρ.set i (some d))
 |.tp is,.tup ds=>jnt is ds ρ
 |_,_=>none
noncomputable def jgs:List D->List D->List D
 |x::xs,y::ys=>.tup [x,y]::jgs xs ys
 |_,_=>[]
noncomputable def jj7:Nat->List D->List D
 |k,x::xs=>.tup [.int (k:Int),x]::jj7 (k+1) xs
 |_,[]=>[]
noncomputable def jzN (ds:List D)(μ:M):Option (List D):=
 match ds with
 |[d]=>jfb μ d
 |_=>none
noncomputable def ju (ds:List D)(μ:M):Option (List D):=
 match ds with
 |[d]=>(jfb μ d).map (jj7 0)
 |_=>none
noncomputable def jmW (ds:List D)(μ:M):Option (List D):=
 match ds with
 |[d,d']=>match jfb μ d,jfb μ d' with
  |some xs,some ys=>some (jgs xs ys)
  |_,_=>none
 |_=>none
noncomputable def jlw (ds:List D)(_:M):Option (List D):=
 match ds with
 |[.int j]=>@ite _ (-(2 ^ 62)<=j/\j<2 ^ 62) (Classical.propDecidable _) (some ((List.range j.toNat).map fun(k:Nat)=>.int (k:Int))) none
 |_=>none
noncomputable def jnI (ds:List D)(_:M):Option (List D):=
 match ds with
 |[.int i,.int j]=>@ite _ (-(2 ^ 62)<=i/\i<2 ^ 62/\-(2 ^ 62)<=j/\j<2 ^ 62) (Classical.propDecidable _) (some ((List.range (j - i).toNat).map fun(k:Nat)=>.int (i+(k:Int)))) none
 |_=>none
noncomputable def juY (ds:List D)(_:M):Option (List D):=
 match ds with
 |[.str z]=>some (z.cps.toList.map fun c=>.str ⟨#[c]⟩)
 |_=>none
noncomputable def jwv:Key->D
 |.inl i=>.int i
 |.inr x=>.str x
noncomputable def jz1:List Key->List D->List D
 |k::ks,d::ds=>.tup [jwv k,d]::jz1 ks ds
 |_,_=>[]
noncomputable def jtl (ds:List D)(_:M):Option (List D):=
 match ds with
 |[.dF ks vs]=>some (jz1 ks vs)
 |_=>none
noncomputable def itD (ik:IK):List D->M->Option (List D):=
 match ik with
 |.seq=>jzN
 |.enm=>ju
 |.zip=>jmW
 |.rng1=>jlw
 |.rng2=>jnI
 |.str=>juY
 |.items=>jtl
noncomputable def jcv (ik:IK)(ds:List D)(xs:List D)(μ:M):Bool:=@decide (itD ik ds μ=some xs) (Classical.propDecidable _)
noncomputable def jdO (ok:M->Bool)(tg:Tg)(cond:S3->M->Out Bool)(elt:S3->M->Out D)(ρ:S3):List D->M->Out (List D)
 |[],μ=>if ok μ then .ok [] μ else .bad
 |d::ds,μ=>if ok μ then match jl2 tg d ρ with
   |some ρ1=>(cond ρ1 μ).bind fun b μ1=>if b then(elt ρ1 μ1).bind fun y μ2=>(jdO ok tg cond elt ρ ds μ2).bind fun ys μ3=>.ok (y::ys) μ3 else jdO ok tg cond elt ρ ds μ1
   |none=>.bad
  else .bad
noncomputable def jds (ok:M->Bool)(tg:Tg)(body:S3->M->Out Fl)(fg:List Nat):List D->S3->M->Out Fl
 |[],ρ,μ=>if ok μ then .ok (.nx (forget fg ρ)) μ else .bad
 |d::ds,ρ,μ=>if ok μ then match jl2 tg d ρ with
   |some ρ1=>match body ρ1 μ with
    |.ok (.nx ρ2) μ2=>jds ok tg body fg ds (forget fg ρ2) μ2
    |.ok (.ct ρ2) μ2=>jds ok tg body fg ds (forget fg ρ2) μ2
    |.ok (.bk ρ2) μ2=>.ok (.nx (forget fg ρ2)) μ2
    |.ok (.rt d) μ2=>.ok (.rt d) μ2
    |.exc x μ2=>.exc x μ2
    |.bad=>.bad
   |none=>.bad
  else .bad
mutual
noncomputable def jcs (h:Nat->Option D):D->Option D
 |.tup ds=>(frzGs h ds).map .tup
 |.lst ds=>(frzGs h ds).map .lst
 |.scr ds=>(frzGs h ds).map .scr
 |.dK ks vs=>(frzGs h vs).map (.dK ks)
 |.dT ks vs=>(frzGs h vs).map (.dT ks)
 |.dF ks vs=>(frzGs h vs).map (.dF ks)
 |.obj C fs ds=>(frzGs h ds).map (.obj C fs)
 |.cel k=>h k
 |.non=>some .non
 |.bl b=>some (.bl b)
 |.int i=>some (.int i)
 |.str x=>some (.str x)
 |.ty n=>some (.ty n)
noncomputable def frzGs (h:Nat->Option D):List D->Option (List D)
 |[]=>some []
 |d::ds=>match jcs h d,frzGs h ds with
  |some e,some es=>some (e::es)
  |_,_=>none
end
noncomputable def jku (μ:M)(n0:Nat)(keep:List Nat):Nat->Nat->Option D
 |f,k=>if k<n0 then some (.cel k)else if k∈keep then none else
  match f with
  |0=>none
  |f+1=>match μ[k]? with
   |some (some (.lst ds))=>(frzGs (jku μ n0 keep f) ds).map .lst
   |some (some (.dK ks vs))=>(frzGs (jku μ n0 keep f) vs).map (.dK ks)
   |some (some (.dT ks vs))=>(frzGs (jku μ n0 keep f) vs).map (.dT ks)
   |some (some (.obj C fs ds))=>(frzGs (jku μ n0 keep f) ds).map (.obj C fs)
   |_=>none
noncomputable def jrm (μ:M)(n0:Nat)(d:D):Option D:=jcs (jku μ n0 [] 4) d
noncomputable def jvn:D->List Nat
 |.cel k=>[k]
 |.tup ds=>ds.filterMap fun d=>match d with
  |.cel k=>some k
  |_=>none
 |_=>[]
noncomputable def jqh (n0:Nat)(ks:List Nat)(k:Nat):Option D:=(ks.idxOf? k).map fun j=>.cel (n0+j)
noncomputable def jmm (μ:M)(n0:Nat)(ks:List Nat):List Nat->Option (List (List D))
 |[]=>some []
 |k::r=>match μ[k]? with
  |some (some (.lst ds))=>match frzGs (jku μ n0 ks 4) ds,jmm μ n0 ks r with
   |some c,some cs=>some (c::cs)
   |_,_=>none
  |_=>none
noncomputable def jzu (μ:M)(n0:Nat)(ks:List Nat):D->Option D
 |.cel k=>jqh n0 ks k
 |d=>jcs (jku μ n0 ks 4) d
noncomputable def jrP (μ:M)(n0:Nat)(ks:List Nat):List D->Option (List D)
 |[]=>some []
 |d::ds=>match jzu μ n0 ks d,jrP μ n0 ks ds with
  |some e,some es=>some (e::es)
  |_,_=>none
noncomputable def jAt (μ:M)(n0:Nat)(d:D):Option (D×List (List D)):=
 if(jvn d).Nodup/\∀k∈jvn d,n0<=k then
  match jmm μ n0 (jvn d) (jvn d)with
  |some cs=>match d with
   |.cel k=>(jqh n0 (jvn d) k).map fun d'=>(d',cs)
   |.tup ds=>(jrP μ n0 (jvn d) ds).map fun es=>(.tup es,cs)
   |_=>none
  |none=>none
 else none
open Classical in
noncomputable def jah (md:Md)(F:Fn)(ds:List D)(μ:M):Out D:=
 match md with
 |.raw=>F ds μ
 |.frz=>match F ds μ with
  |.ok d μ'=>if μ'.take μ.length=μ then match jrm μ' μ.length d with
    |some d'=>.ok d' μ
    |none=>.bad
   else .bad
  |.exc x μ'=>if μ'.take μ.length=μ then match jrm μ' μ.length x with
    |some x'=>.exc x' μ
    |none=>.bad
   else .bad
  |.bad=>.bad
 |.new=>match(Out.bad:Out D)with
  |.ok d μ'=>if μ'.take μ.length=μ then match jAt μ' μ.length d with
    |some (d',cs)=>.ok d' (μ++cs.map fun xs=>some (.lst xs))
    |none=>.bad
   else .bad
  |.exc x μ'=>if μ'.take μ.length=μ then match jrm μ' μ.length x with
    |some x'=>.exc x' μ
    |none=>.bad
   else .bad
  |.bad=>.bad
noncomputable def jhi (G:List FnE)(f:Nat):Option Dat:=(G[f]?).bind (·.dat)
noncomputable def jbb (z:Str):List (Str×D)->Option D
 |[]=>none
 |p::r=>if p.1=z then some p.2 else jbb z r
noncomputable def glD (o:Option Dat)(μ:M):Out D:=
 match o with
 |some (.cst d)=>.ok d μ
 |_=>.bad
noncomputable def jAc (o:Option Dat)(f:Str)(x:D)(μ:M):Out D:=
 match o with
 |some (.cls C _ _)=>jAH C f x μ
 |_=>.bad
noncomputable def jz8 (o:Option Dat)(f:Str)(d x:D)(μ:M):Option M:=
 match o with
 |some (.cls C _ _)=>jAy C f d x μ
 |_=>none
noncomputable def jm5 (o:Option Dat)(x y:D)(μ:M):Out D:=
 match o,x with
 |some (.dct kvs),.str z=>.ok ((jbb z kvs).getD y) μ
 |_,_=>.bad
noncomputable def jxb (neg:Bool)(o:Option Dat)(x:D)(μ:M):Out D:=
 match o,x with
 |some (.dct kvs),.str z=>.ok (.bl (if neg then !(jbb z kvs).isSome else(jbb z kvs).isSome)) μ
 |_,_=>.bad
noncomputable def jwA (o:Option Dat)(x:D)(μ:M):Out D:=
 match o,x with
 |some (.dct kvs),.str z=>match jbb z kvs with
  |some d=>.ok d μ
  |none=>.bad
 |_,_=>.bad
noncomputable def jic (G:List FnE)(f:Nat)(md:Md)(ds:List D)(μ:M):Out D:=
 match G[f]? with
 |some g=>jah md g.F ds μ
 |none=>.bad
noncomputable def jjg (o:Out (List D)):Out (Option Int):=o.bind fun ds μ=>match ds with
 |[]=>.ok none μ
 |[.int i]=>.ok (some i) μ
 |_=>.bad
noncomputable def toB (r:S3->M->Out D)(ρ:S3)(μ:M):Out Bool:=(r ρ μ).bind fun d μ1=>match jyA μ1 d with
 |some b=>.ok b μ1
 |none=>.bad
structure Ev where
 v:S3->M->Out D
 t:S3->M->Out Bool
noncomputable def Ev.of (v:S3->M->Out D):Ev:=⟨v,toB v⟩
noncomputable section
variable (G:List FnE)
mutual
noncomputable def ev:E->Ev
 |.var i=>.of fun ρ μ=>match ρ[i]? with
  |some (some d)=>.ok d μ
  |_=>.bad
 |.cst d=>.of fun _ μ=>.ok d μ
 |.bin op m a b=>.of fun ρ μ=>((ev a).v ρ μ).bind fun x μ1=>((ev b).v ρ μ1).bind fun y μ2=>jg0 op m x y μ2
 |.neg a=>.of fun ρ μ=>((ev a).v ρ μ).bind fun x μ1=>match x with
  |.int i=>.ok (.int (-i)) μ1
  |_=>.bad
 |.not_ a=>⟨fun ρ μ=>((ev a).v ρ μ).bind fun x μ1=>match x with
  |.bl c=>.ok (.bl (!c)) μ1
  |_=>.bad,fun ρ μ=>((ev a).t ρ μ).bind fun c μ1=>.ok (!c) μ1⟩
 |.and_ a b=>⟨fun ρ μ=>((ev a).v ρ μ).bind fun x μ1=>match x with
  |.bl c=>if c then(ev b).v ρ μ1 else .ok (.bl false) μ1
  |_=>.bad,fun ρ μ=>((ev a).t ρ μ).bind fun c μ1=>if c then(ev b).t ρ μ1 else .ok false μ1⟩
 |.or_ a b=>⟨fun ρ μ=>((ev a).v ρ μ).bind fun x μ1=>match x with
  |.bl c=>if c then .ok (.bl true) μ1 else(ev b).v ρ μ1
  |_=>.bad,fun ρ μ=>((ev a).t ρ μ).bind fun c μ1=>if c then .ok true μ1 else(ev b).t ρ μ1⟩
 |.cmp op a b=>.of fun ρ μ=>((ev a).v ρ μ).bind fun x μ1=>((ev b).v ρ μ1).bind fun y μ2=>jdM op x y μ2
 |.chain o1 o2 a b c=>.of fun ρ μ=>((ev a).v ρ μ).bind fun x μ1=>((ev b).v ρ μ1).bind fun y μ2=>(jdM o1 x y μ2).bind fun z μ3=>match z with
  |.bl k=>if k then((ev c).v ρ μ3).bind fun u μ4=>jdM o2 y u μ4 else .ok (.bl false) μ3
  |_=>.bad
 |.isN a=>.of fun ρ μ=>((ev a).v ρ μ).bind fun x μ1=>match x with
  |.non=>.ok (.bl true) μ1
  |_=>.ok (.bl false) μ1
 |.notN a=>.of fun ρ μ=>((ev a).v ρ μ).bind fun x μ1=>match x with
  |.non=>.ok (.bl false) μ1
  |_=>.ok (.bl true) μ1
 |.ife c a b=>.of fun ρ μ=>((ev c).t ρ μ).bind fun k μ1=>if k then(ev a).v ρ μ1 else(ev b).v ρ μ1
 |.tup es=>.of fun ρ μ=>(evL es ρ μ).bind fun ds μ1=>if ds.length<=sizeLine then .ok (.tup ds) μ1 else .bad
 |.lst m es=>.of fun ρ μ=>(evL es ρ μ).bind fun ds μ1=>if ds.length<=sizeLine then mkL m ds μ1 else .bad
 |.ix a b=>.of fun ρ μ=>((ev a).v ρ μ).bind fun x μ1=>((ev b).v ρ μ1).bind fun y μ2=>ixD x y μ2
 |.sl m a lo hi=>.of fun ρ μ=>((ev a).v ρ μ).bind fun x μ1=>(jjg (evL lo ρ μ1)).bind fun l μ2=>(jjg (evL hi ρ μ2)).bind fun h μ3=>slD m x l h μ3
 |.stp m a lo st=>.of fun ρ μ=>((ev a).v ρ μ).bind fun x μ1=>(jjg (evL lo ρ μ1)).bind fun l μ2=>(jjg (evL st ρ μ2)).bind fun h μ3=>jr0 m x l h μ3
 |.fld a i f=>.of fun ρ μ=>((ev a).v ρ μ).bind fun x μ1=>jAc (jhi G i) f x μ1
 |.call f md es=>.of fun ρ μ=>(evL es ρ μ).bind fun ds μ1=>jic G f md ds μ1
 |.bi b m es=>.of fun ρ μ=>(evL es ρ μ).bind fun ds μ1=>biD b m ds μ1
 |.mt b o es=>.of fun ρ μ=>((ev o).v ρ μ).bind fun x μ1=>if jmF b x μ1 then(evL es ρ μ1).bind fun ds μ2=>mtD b x ds μ2 else .bad
 |.comp m own tg ik es ifs elt=>.of fun ρ μ=>(evL es ρ μ).bind fun ds μ1=>match itD ik ds μ1 with
  |some xs=>if xs.length<=sizeLine then(jdO (jcv ik ds xs) tg (evTs ifs) (ev elt).v (List.replicate own none++ρ) xs μ1).bind fun ys μ2=>mkL m ys μ2 else .bad
  |none=>.bad
 |.gl f=>.of fun _ μ=>glD (jhi G f) μ
 |.gget f a d=>.of fun ρ μ=>((ev a).v ρ μ).bind fun x μ1=>((ev d).v ρ μ1).bind fun y μ2=>jm5 (jhi G f) x y μ2
 |.gin neg f a=>.of fun ρ μ=>((ev a).v ρ μ).bind fun x μ1=>jxb neg (jhi G f) x μ1
 |.gix f a=>.of fun ρ μ=>((ev a).v ρ μ).bind fun x μ1=>jwA (jhi G f) x μ1
noncomputable def evL:List E->S3->M->Out (List D)
 |[],_,μ=>.ok [] μ
 |e::es,ρ,μ=>((ev e).v ρ μ).bind fun d μ1=>(evL es ρ μ1).bind fun ds μ2=>.ok (d::ds) μ2
noncomputable def evTs:List E->S3->M->Out Bool
 |[],_,μ=>.ok true μ
 |[e],ρ,μ=>(ev e).t ρ μ
 |_,_,_=>.bad
end
mutual
noncomputable def run:S->S3->M->Out Fl
 |.asg tg e,ρ,μ=>((ev G e).v ρ μ).bind fun d μ1=>match jl2 tg d ρ with
  |some ρ1=>.ok (.nx ρ1) μ1
  |none=>.bad
 |.par i j a b,ρ,μ=>((ev G a).v ρ μ).bind fun x μ1=>((ev G b).v ρ μ1).bind fun y μ2=>.ok (.nx ((ρ.set i (some x)).set j (some y))) μ2
 |.unp is e,ρ,μ=>((ev G e).v ρ μ).bind fun d μ1=>match(jgW μ1 d).bind fun ds=>jnt is ds ρ with
  |some ρ1=>.ok (.nx ρ1) μ1
  |none=>.bad
 |.setF o i f e,ρ,μ=>((ev G e).v ρ μ).bind fun d μ1=>((ev G o).v ρ μ1).bind fun x μ2=>match jz8 (jhi G i) f d x μ2 with
  |some μ3=>.ok (.nx ρ) μ3
  |none=>.bad
 |.setI o i e,ρ,μ=>.bad
 |.ex e,ρ,μ=>((ev G e).v ρ μ).bind fun _ μ1=>.ok (.nx ρ) μ1
 |.ite c a b,ρ,μ=>((ev G c).t ρ μ).bind fun k μ1=>if k then runs a ρ μ1 else runs b ρ μ1
 |.for_ tg ik es body fg,ρ,μ=>(evL G es ρ μ).bind fun ds μ1=>match itD ik ds μ1 with
  |some xs=>jds (jcv ik ds xs) tg (runs body) fg xs ρ μ1
  |none=>.bad
 |.ret e,ρ,μ=>((ev G e).v ρ μ).bind fun d μ1=>.ok (.rt d) μ1
 |.retN,_,μ=>.ok (.rt .non) μ
 |.pass,ρ,μ=>.ok (.nx ρ) μ
 |.never,_,_=>.bad
noncomputable def runs:List S->S3->M->Out Fl
 |[],ρ,μ=>.ok (.nx ρ) μ
 |s::ss,ρ,μ=>match run s ρ μ with
  |.ok (.nx ρ1) μ1=>runs ss ρ1 μ1
  |r=>r
end
noncomputable def fnOf (np nl:Nat)(body:List S):Fn:=fun ds μ=>if ds.length=np then match runs G body (ds.map some++List.replicate nl none) μ with
  |.ok (.rt d) μ1=>.ok d μ1
  |.ok (.nx _) μ1=>.ok .non μ1
  |.ok _ _=>.bad
  |.exc x μ1=>.exc x μ1
  |.bad=>.bad
 else .bad
end
section
variable {K:PySem.W.Frag} {w:Wd} {μ:M} {H:Hp} {n:Nat}
theorem jcY {d:D}{v x:V}(h:Den K w n d v)(e:jhv d=some x):v=x/\jer v=true:=by
 cases d<;>simp only[jhv,j0v]at e<;>first|(subst e;unfold Den at h;subst h;exact⟨rfl,rfl⟩)|cases e
theorem jco {d:D}{v:V}{ds:List D}(R:Rep K w μ H)(h:Den K w μ.length d v)(e:jgW μ d=some ds):∃a xs,v=.ref a/\SqL K H a xs/\DenL K w μ.length ds xs:=by
 cases d with
 |lst xs=>
  simp only[jgW,j0v]at e
  subst e
  unfold Den at h
  obtain⟨a,xs,h1,h2,h3⟩:=h
  exact⟨a,xs,h1,SqL.of (R.sub _ _ h2),h3⟩
 |scr xs=>
  simp only[jgW,j0v]at e
  subst e
  unfold Den at h
  obtain⟨a,xs,h1,h2,h3⟩:=h
  exact⟨a,xs,h1,R.sub.seq h2,h3⟩
 |cel k=>
  simp only[jgW]at e
  split at e
  ·rename_i ys hk
   cases e
   unfold Den at h
   obtain⟨xs,h1,h2⟩:=(R.liv k _ hk).2
   exact⟨_,xs,h.2,SqL.of h1,h2⟩
  ·cases e
 |_=>cases e
theorem jdL {ds:List D}{v:V}(R:Rep K w μ H)(h:Den K w μ.length (.tup ds) v):∃a xs,v=.ref a/\SqT K H a xs/\DenL K w μ.length ds xs:=by
 unfold Den at h
 obtain⟨a,xs,h1,h2,h3⟩:=h
 exact⟨a,xs,h1,R.sub.tup h2,h3⟩
theorem jeG {d:D}{v:V}{ds:List D}(R:Rep K w μ H)(h:Den K w μ.length d v)(e:jfb μ d=some ds):∃a xs,v=.ref a/\(SqL K H a xs∨SqT K H a xs)/\DenL K w μ.length ds xs:=by
 unfold jfb at e
 split at e
 ·cases e
  obtain⟨a,xs,h1,h2,h3⟩:=jdL R h
  exact⟨a,xs,h1,.inr h2,h3⟩
 ·obtain⟨a,xs,h1,h2,h3⟩:=jco R h e
  exact⟨a,xs,h1,.inl h2,h3⟩
theorem jai {ds:List D}{xs:List V}(h:DenL K w n ds xs):ds.length=xs.length:=(jaT.mp h).length
theorem jdx:∀{ds:List D} {xs:List V} {i:Nat} {d:D},DenL K w n ds xs->ds[i]?=some d->∃v,xs[i]?=some v/\Den K w n d v:=by
 intro ds xs i d h e
 have h':=jaT.mp h
 clear h
 induction h' generalizing i with
 |nil=>simp at e
 |cons r t ih=>
  cases i with
  |zero=>
   simp only[j0F,j0v]at e
   subst e
   exact⟨_,rfl,r⟩
  |succ i=>simpa using ih (i:=i) (by simpa using e)
theorem je5 {α β:Type}{F:α->β->Prop}:∀{us ws:List α} {xs ys:List β},Paired F us xs->Paired F ws ys->Paired F (us++ws) (xs++ys)
 |_,_,_,_,.nil,s=>s
 |_,_,_,_,.cons r t,s=>.cons r (je5 t s)
theorem jgI {α β:Type}{F:α->β->Prop}:∀{us:List α} {xs:List β} (k:Nat),Paired F us xs->Paired F (us.take k) (xs.take k)
 |_,_,0,_=>by simp;exact .nil
 |_,_,_+1,.nil=>.nil
 |_,_,k+1,.cons r t=>.cons r (jgI k t)
theorem jh {α β:Type}{F:α->β->Prop}:∀{us:List α} {xs:List β} (k:Nat),Paired F us xs->Paired F (us.drop k) (xs.drop k)
 |_,_,0,h=>h
 |_,_,_+1,.nil=>.nil
 |_,_,k+1,.cons r t=>jh k t
theorem DenL.append {ds es:List D}{xs ys:List V}(h:DenL K w n ds xs)(k:DenL K w n es ys):DenL K w n (ds++es) (xs++ys):=jaT.mpr (je5 (jaT.mp h) (jaT.mp k))
theorem DenL.cut {ds:List D}{xs:List V}(h:DenL K w n ds xs)(lo hi:Option Int):DenL K w n (cutD ds lo hi) (jrB xs lo hi):=by
 unfold cutD jrB
 rw[jai h]
 exact jaT.mpr (jgI _ (jh _ (jaT.mp h)))
theorem DenL.one {d:D}{v:V}(h:Den K w n d v):DenL K w n [d] [v]:=jaT.mpr (.cons h .nil)
theorem jlc:∀{ds:List D} {xs:List V} {ns:List Bool},DenL K w n ds xs->jsF ds=some ns->xs=ns.map V.bl
 |[],xs,ns,h,e=>by
  cases e
  unfold DenL at h
  exact h
 |.bl i::ds,xs,ns,h,e=>by
  unfold DenL at h
  obtain⟨v,ws,rfl,h1,h2⟩:=h
  unfold Den at h1
  unfold jsF at e
  cases e2:jsF ds with
  |none=>rw[e2]at e;cases e
  |some ms=>
   rw[e2]at e
   cases e
   rw[h1,jlc h2 e2]
   rfl
 |.non::_,_,_,_,e|.int _::_,_,_,_,e|.str _::_,_,_,_,e|.ty _::_,_,_,_,e|.tup _::_,_,_,_,e|.lst _::_,_,_,_,e|.scr _::_,_,_,_,e|.dK _ _::_,_,_,_,e|.dT _ _::_,_,_,_,e|.dF _ _::_,_,_,_,e|.obj _ _ _::_,_,_,_,e|.cel _::_,_,_,_,e=>by cases e
theorem jeZ:∀{ds:List D} {xs:List V} {ns:List Str},DenL K w n ds xs->jiU ds=some ns->xs=ns.map V.str
 |[],xs,ns,h,e=>by
  cases e
  unfold DenL at h
  exact h
 |.str i::ds,xs,ns,h,e=>by
  unfold DenL at h
  obtain⟨v,ws,rfl,h1,h2⟩:=h
  unfold Den at h1
  unfold jiU at e
  cases e2:jiU ds with
  |none=>rw[e2]at e;cases e
  |some ms=>
   rw[e2]at e
   cases e
   rw[h1,jeZ h2 e2]
   rfl
 |.non::_,_,_,_,e|.bl _::_,_,_,_,e|.int _::_,_,_,_,e|.ty _::_,_,_,_,e|.tup _::_,_,_,_,e|.lst _::_,_,_,_,e|.scr _::_,_,_,_,e|.dK _ _::_,_,_,_,e|.dT _ _::_,_,_,_,e|.dF _ _::_,_,_,_,e|.obj _ _ _::_,_,_,_,e|.cel _::_,_,_,_,e=>by cases e
abbrev jgf (K:PySem.W.Frag) (w:Wd) (n:Nat) (d:D) (μ':M) (Q:VK):Prop:=∀w' H' v,Ext w w' n μ'.length->Rep K w' μ' H'->Den K w' μ'.length d v->Q v H'
theorem jel {Q:VK}{d:D}{p:Addr}{o:HO}(R:Rep K w μ H)(q:jgf K w μ.length d μ Q)(hp:H p=none)(hd:∀w',Ext w w' μ.length μ.length->w'.Z p=some o->Den K w' μ.length d (.ref p)):Q (.ref p) (upd H p o):=by
 obtain⟨R',x⟩:=R.frz hp o
 exact q _ _ _ x R' (hd _ x jaF)
theorem jaj {Q:VK}{d:D}{v:V}(R:Rep K w μ H)(q:jgf K w μ.length d μ Q)(h:Den K w μ.length d v):Q v H:=q w H v (Ext.refl _ _) R h
theorem jdD {m:Bool}{ds:List D}{xs:List V}{d:D}{μ':M}{Q:VK}(R:Rep K w μ H)(h:DenL K w μ.length ds xs)(e:mkL m ds μ=.ok d μ')(q:jgf K w μ.length d μ' Q):∀p,H p=none->Q (.ref p) (upd H p (.lst xs)):=by
 intro p hp
 cases m with
 |false=>
  simp only[mkL,j0e,if_false]at e
  cases e
  exact jel R q hp fun w' x hz=>by unfold Den;exact⟨p,xs,rfl,hz,h.mono x⟩
 |true=>
  simp only[mkL,if_true]at e
  cases e
  obtain⟨w',R',x,hg⟩:=R.cell hp (.lst xs) (.lst ds) (fun w' x=>⟨xs,jaF,h.mono x⟩)
  have hl:(μ++[some (Cl.lst ds)]).length=μ.length+1:=by simp
  refine q w' _ _ (by rw[hl];exact x) R' ?_
  unfold Den
  exact⟨by rw[hl];exact Nat.lt_succ_self _,by rw[hg]⟩
end
theorem imE {X:Cx}{e:Expr}{t t':TE}(h:PE X e t)(k:∀σ H Q,t' σ H Q->t σ H Q):PE X e t':=fun pins s σ H Q I hw=>h pins s σ H Q I (k σ H Q hw)
theorem imT {X:Cx}{e:Expr}{t t':TT}(h:PT X e t)(k:∀σ H Q,t' σ H Q->t σ H Q):PT X e t':=fun pins s σ H Q I hw=>h pins s σ H Q I (k σ H Q hw)
theorem imW {X:Cx}{e:Expr}{t t':TT}(h:PW X e t)(k:∀σ H Q,t' σ H Q->t σ H Q):PW X e t':=fun wh pins s σ H Q I hw=>h wh pins s σ H Q I (k σ H Q hw)
theorem imA {X:Cx}{e:List Expr}{t t':TA}(h:PA X e t)(k:∀σ H Q,t' σ H Q->t σ H Q):PA X e t':=fun pos pins s σ H Q I hw=>h pos pins s σ H Q I (k σ H Q hw)
theorem imS {X:Cx}{e:Stmt}{t t':TS}(h:PS X e t)(k:∀E σ H,t' E σ H->t E σ H):PS X e t':=fun pins s σ H Q I hw=>h pins s σ H Q I (k Q σ H hw)
theorem jx6 {X:Cx}{e:List Stmt}{t t':TS}(h:PSs X e t)(k:∀E σ H,t' E σ H->t E σ H):PSs X e t':=fun pins s σ H Q I hw=>h pins s σ H Q I (k Q σ H hw)
section
variable {K:PySem.W.Frag}
def jnq (K:PySem.W.Frag)(f:D->D->M->Out D)(r:R2):Prop:=∀(w:Wd) (μ:M) (H:Hp) (d1 d2 d:D) (μ':M) (v1 v2:V) (Q:VK),Rep K w μ H->Den K w μ.length d1 v1->Den K w μ.length d2 v2->f d1 d2 μ=.ok d μ'->jgf K w μ.length d μ' Q->r v1 v2 H Q
theorem jqL {f:D->D->M->Out D}{r:R2}{ra rb:S3->M->Out D}(hs:jnq K f r){σ:_L2.St}{H:Hp}{Q:VK} :
  T3E K (fun ρ μ=>(ra ρ μ).bind fun x μ1=>(rb ρ μ1).bind fun y μ2=>f x y μ2) σ H Q->tOp r (T3E K ra) (T3E K rb) σ H Q:=by
 rintro⟨w,μ,ρ,d,μ',R,S,e,q⟩
 obtain⟨x,μ1,e1,e⟩:=Out.bind_ok e
 obtain⟨y,μ2,e2,e⟩:=Out.bind_ok e
 exact⟨w,μ,ρ,x,μ1,R,S,e1,fun w1 H1 v1 x1 R1 d1=>⟨w1,μ1,ρ,y,μ2,R1,S.mono x1,e2,fun w2 H2 v2 x2 R2 d2=>hs w2 μ2 H2 x y d μ' v1 v2 Q R2 (d1.mono x2) d2 e fun w3 H3 v x3 R3 d3=>q w3 H3 v ((x1.trans x2).trans x3) R3 d3⟩⟩
theorem jwe {f:D->M->Out D}{r:V->Hp->VK->Prop}{ra:S3->M->Out D}(hs:∀(w:Wd) (μ:M) (H:Hp) (d1 d:D) (μ':M) (v1:V) (Q:VK),Rep K w μ H->Den K w μ.length d1 v1->f d1 μ=.ok d μ'->jgf K w μ.length d μ' Q->r v1 H Q){σ:_L2.St}{H:Hp}{Q:VK} :
  T3E K (fun ρ μ=>(ra ρ μ).bind fun x μ1=>f x μ1) σ H Q->T3E K ra σ H fun x H1=>r x H1 Q:=by
 rintro⟨w,μ,ρ,d,μ',R,S,e,q⟩
 obtain⟨x,μ1,e1,e⟩:=Out.bind_ok e
 exact⟨w,μ,ρ,x,μ1,R,S,e1,fun w1 H1 v1 x1 R1 d1=>hs w1 μ1 H1 x d μ' v1 Q R1 d1 e fun w3 H3 v x3 R3 d3=>q w3 H3 v (x1.trans x3) R3 d3⟩
end
section
variable {K:PySem.W.Frag} {X:Cx}
theorem jie {C:Int->Int->Prop}{f:Int->Int->Int}:jnq K (jvt C f) (rI C fun i j=>.int (f i j)):=by
 intro w μ H d1 d2 d μ' v1 v2 Q R h1 h2 e q
 unfold jvt at e
 split at e
 ·split at e
  ·rename_i hc
   cases e
   unfold Den at h1 h2
   exact⟨_,_,h1,h2,hc,jaj R q (by unfold Den;rfl)⟩
  ·cases e
 ·cases e
def jw2 (K:PySem.W.Frag):R2:=fun x y H Q=>rI0 (fun i j=>.int (i+j)) x y H Q∨(∃i j,x=.str i/\y=.str j/\i.length+j.length<=sizeLine/\Q (.str (i++j)) H)∨jxi K x y H Q
theorem jt:OpR X (binaryOp .Add) (jw2 X.K):=jvA.or (jmc.or jtD)
theorem juU {m:Bool}:jnq K (jyM m) (jw2 K):=by
 intro w μ H d1 d2 d μ' v1 v2 Q R h1 h2 e q
 unfold jyM at e
 split at e
 ·cases e
  unfold Den at h1 h2
  exact .inl ⟨_,_,h1,h2,jaj R q (by unfold Den;rfl)⟩
 ·split at e
  ·rename_i hc
   cases e
   unfold Den at h1 h2
   exact .inr (.inl ⟨_,_,h1,h2,hc,jaj R q (by unfold Den;rfl)⟩)
  ·cases e
 ·split at e
  ·rename_i xs ys e1 e2
   split at e
   ·rename_i hc
    obtain⟨a,us,rfl,s1,l1⟩:=jco R h1 e1
    obtain⟨b,ws,rfl,s2,l2⟩:=jco R h2 e2
    exact .inr (.inr ⟨a,b,us,ws,rfl,rfl,s1,s2,by rw[<- jai l1,<- jai l2];exact hc,jdD R (l1.append l2) e q⟩)
   ·cases e
  ·cases e
def jzq (K:PySem.W.Frag):R2:=fun x y H Q=>rI jpZ (fun i j=>.int (i*j)) x y H Q∨jwl x y H Q∨jvG K x y H Q
theorem jlv {w:Wd}{n:Nat}{ds:List D}{xs:List V}(h:DenL K w n ds xs):∀k:Nat,DenL K w n (List.replicate k ds).flatten (List.replicate k xs).flatten
 |0=>by unfold DenL;rfl
 |k+1=>by
  rw[j0W,j0W,j1t,j1t]
  exact h.append (jlv h k)
theorem jti:jnq K jyV (jzq K):=by
 intro w μ H d1 d2 d μ' v1 v2 Q R h1 h2 e q
 unfold jyV at e
 split at e
 ·split at e
  ·rename_i hc
   cases e
   unfold Den at h1 h2
   exact .inl ⟨_,_,h1,h2,hc,jaj R q (by unfold Den;rfl)⟩
  ·cases e
 ·split at e
  ·rename_i hc
   cases e
   unfold Den at h1 h2
   exact .inr (.inl ⟨_,_,h1,h2,hc.1,hc.2.1,hc.2.2,jaj R q (by unfold Den;rfl)⟩)
  ·cases e
 ·split at e
  ·rename_i hc
   obtain⟨a,us,rfl,s1,l1⟩:=jco R h1 rfl
   unfold Den at h2
   refine .inr (.inr ⟨a,us,_,rfl,h2,s1,fun z=>?_,by rw[<- jai l1];exact hc.2.2.2,hc.1,hc.2.1,jdD (m:=false) R (jlv l1 _) e q⟩)
   subst z
   cases jaT.mp l1
   exact hc.2.2.1 rfl
  ·cases e
 ·cases e
theorem jot:OpR X (binaryOp .FloorDiv) (rI jwZ fun i j=>.int (i / j)):=opI fun i j _ _ _ _ _ hc q=>by
 have h1:(0:Int)<j:=hc.1
 have h2:j<18446744073709551616:=hc.2
 have h3:j.natAbs.log2<64:=(Nat.log2_lt (by omega)).mpr (by omega)
 exact floordiv_int (by omega) (by rw[Int.fdiv_eq_ediv_of_nonneg i (by omega)];exact q) (.inl (PyProof.noPylong_of_log2 (by omega)))
theorem jkg {f:Value->Value->Sem Value}{r r':R2}(h:OpR X f r)(k:∀x y H Q,r' x y H Q->r x y H Q):OpR X f r':=fun pins s σ H x y v u Q I rx ry q=>h pins s σ H x y v u Q I rx ry (k _ _ _ _ q)
theorem jrr:OpR X (binaryOp .Mult) (rI jpZ fun i j=>.int (i*j)):=jkg jvV fun x y H Q ⟨i,j,h1,h2,hc,q⟩=>⟨i,j,h1,h2,by unfold jpZ at hc;unfold jyB;omega,q⟩
theorem jqo:OpR X (binaryOp .Pow) (rI jwE fun i j=>.int (i ^ j.toNat)):=jkg jwX fun x y H Q ⟨i,j,h1,h2,hc,q⟩=>⟨i,j,h1,h2,⟨hc.1,hc.2.1,by have:=hc.2.2;omega⟩,q⟩
theorem jxZ {op:Operator}{m:Bool}:∃r,OpR X (binaryOp op) r/\jnq X.K (jg0 op m) r:=by
 cases op with
 |Add=>exact⟨_,jt,juU⟩
 |Sub=>exact⟨_,jkg jw3 fun x y H Q ⟨i,j,h1,h2,_,q⟩=>⟨i,j,h1,h2,q⟩,jie⟩
 |Mult=>exact⟨_,(jrr).or (jsD.or jtm),jti⟩
 |FloorDiv=>exact⟨_,jot,jie⟩
 |Mod=>exact⟨_,jxH,jie⟩
 |Pow=>exact⟨_,jqo,jie⟩
 |_=>exact⟨fun _ _ _ _=>False,fun _ _ _ _ _ _ _ _ _ _ _ _ h=>h.elim,fun _ _ _ _ _ _ _ _ _ _ _ _ _ e _=>by cases e⟩
theorem jvi {A:Around}{s:Shared}{w:Wd}{n:Nat}{f:D->D->Option Bool}(hf:∀d1 d2 x y u v b,Den K w n d1 x->Den K w n d2 y->ja3 x u->ja3 y v->f d1 d2=some b->SeqAt.EqAt A s u v b) :
  ∀{ds es:List D} {xs ys:List V} {us vs:List Value} {b:Bool},DenL K w n ds xs->DenL K w n es ys->jaR xs us->jaR ys vs->jlM f ds es=some b ->
   ∃g:Nat->Bool,(∀(j:Nat) (h1:j<us.length) (h2:j<vs.length),SeqAt.EqAt A s us[j] vs[j] (g j))/\(List.range (min us.length vs.length)).all g=b:=by
 intro ds es xs ys us vs b h1 h2 r1 r2
 have p1:=jaT.mp h1
 have p2:=jaT.mp h2
 clear h1 h2
 induction p1 generalizing es ys us vs b with
 |nil=>
  intro e
  cases r1
  simp only[jlM,j0v]at e
  subst e
  exact⟨fun _=>true,fun j h=>absurd h (by simp),by simp⟩
 |cons k1 t1 ih=>
  intro e
  cases p2 with
  |nil=>
   cases r2
   simp only[jlM,j0v]at e
   subst e
   exact⟨fun _=>true,fun j _ h=>absurd h (by simp),by simp⟩
  |cons k2 t2=>
   cases r1 with
   |cons q1 q1'=>
    cases r2 with
    |cons q2 q2'=>
     simp only[jlM]at e
     split at e
     ·rename_i a c ea ec
      cases e
      obtain⟨g,hg,hb⟩:=ih q1' q2' t2 ec
      refine⟨fun j=>match j with|0=>a|j+1=>g j,fun j j1 j2=>?_,?_⟩
      ·cases j with
       |zero=>exact hf _ _ _ _ _ _ _ k1 k2 q1 q2 ea
       |succ j=>exact hg j (Nat.lt_of_succ_lt_succ j1) (Nat.lt_of_succ_lt_succ j2)
      ·rw[<- hb,j0b,j0b,Nat.add_min_add_right,List.range_succ_eq_map,j0S,j1u]
       rfl
     ·cases e
section
variable {pins:List (Addr×Obj)} {σ:_L2.St} {H:Hp} {s:Shared} {w:Wd} {μ:M}
theorem ju0 (I:Inv X pins σ H s){a:Addr}{xs ys:List V}(h:SqT X.K H a xs)(k:SqT X.K H a ys):xs=ys:=by
 obtain⟨its,rv,p,_⟩:=I.tuple h
 obtain⟨its2,rv2,p2,_⟩:=I.tuple k
 obtain⟨o,g1,_,n1,d1⟩:=p
 obtain⟨o2,g2,_,n2,d2⟩:=p2
 rw[g1]at g2
 cases g2
 rw[d1]at d2
 have e:its=its2:=by
  injection d2 with e _
  simpa using e
 subst e
 exact jaR.inj rv rv2
theorem jnM {f:D->D->Option Bool}{n:Nat}(hf:∀d1 d2 x b,Den X.K w n d1 x->Den X.K w n d2 x->f d1 d2=some b->b=true):∀{ds es:List D} {xs:List V} {b:Bool},DenL X.K w n ds xs->DenL X.K w n es xs->jlM f ds es=some b->b=true:=by
 intro ds es xs b h1 h2
 have p1:=jaT.mp h1
 have p2:=jaT.mp h2
 clear h1 h2
 induction p1 generalizing es b with
 |nil=>
  intro e
  simp only[jlM,j0v]at e
  exact e.symm
 |cons k1 t1 ih=>
  intro e
  cases p2 with
  |cons k2 t2=>
   simp only[jlM]at e
   split at e
   ·rename_i a c ea ec
    cases e
    rw[hf _ _ _ _ k1 k2 ea,ih t2 ec]
    rfl
   ·cases e
theorem jlj (I:Inv X pins σ H s)(R:Rep X.K w μ H){f:D->D->Option Bool}(hf:∀d1 d2 x b,Den X.K w μ.length d1 x->Den X.K w μ.length d2 x->f d1 d2=some b->b=true){d1 d2:D}{x:V}{b:Bool}(h1:Den X.K w μ.length d1 x)(h2:Den X.K w μ.length d2 x)(e:eqN f μ d1 d2=some b):b=true:=by
 unfold eqN at e
 split at e
 ·rename_i xs ys
  obtain⟨a,us,e1,s1,l1⟩:=jdL R h1
  obtain⟨c,ws,e2,s2,l2⟩:=jdL R h2
  rw[e1]at e2
  cases e2
  have:=ju0 I s1 s2
  subst this
  cases e3:jlM f xs ys with
  |none=>rw[e3]at e;cases e
  |some k=>
   rw[e3]at e
   cases e
   rw[jnM hf l1 l2 e3,jai l1,jai l2]
   simp
 ·cases e
theorem jlS (I:Inv X pins σ H s)(R:Rep X.K w μ H):∀(n:Nat) (d1 d2:D) (x:V) (b:Bool),Den X.K w μ.length d1 x->Den X.K w μ.length d2 x->eqD μ n d1 d2=some b->b=true
 |0,_,_,_,_,_,_,e=>by cases e
 |n+1,d1,d2,x,b,h1,h2,e=>by
  unfold eqD at e
  split at e
  ·rename_i x' y' e1 e2
   cases e
   obtain⟨q1,f1⟩:=jcY h1 e1
   obtain⟨q2,f2⟩:=jcY h2 e2
   rw[<- q1,<- q2]
   exact jiS f1
  ·exact jlj I R (jlS I R n) h1 h2 e
theorem joj (I:Inv X pins σ H s)(R:Rep X.K w μ H){A:Around}{f:D->D->Option Bool}(hu:A.units<cLine)(hf:∀d1 d2 x y u v b,Den X.K w μ.length d1 x->Den X.K w μ.length d2 y->ja3 x u->ja3 y v->f d1 d2=some b->SeqAt.EqAt A.in1 s u v b)
  {d1 d2:D} {x y:V} {b:Bool} (h1:Den X.K w μ.length d1 x) (h2:Den X.K w μ.length d2 y) (e:eqN f μ d1 d2=some b) :
  ∃a c,x=.ref a/\y=.ref c/\SeqAt.RcAt A s (.ref a) (.ref c) b/\SeqAt.RcNeAt A s (.ref a) (.ref c) (!b):=by
 unfold eqN at e
 split at e
 ·rename_i xs ys
  obtain⟨a,us,rfl,s1,l1⟩:=jdL R h1
  obtain⟨c,ws,rfl,s2,l2⟩:=jdL R h2
  cases e3:jlM f xs ys with
  |none=>rw[e3]at e;cases e
  |some k=>
   rw[e3]at e
   cases e
   obtain⟨its,rv,p,_⟩:=I.tuple s1
   obtain⟨its2,rv2,p2,_⟩:=I.tuple s2
   obtain⟨g,hg,hk⟩:=jvi hf l1 l2 rv rv2 e3
   have hj:∀j (h1:j<its.toArray.size) (h2:j<its2.toArray.size),SeqAt.EqAt A.in1 s its.toArray[j] its2.toArray[j] (g j):=fun j h1 h2=>by
    have:=hg j (by simpa using h1) (by simpa using h2)
    simpa using this
   have t1:=SeqAt.RcAt.tuples (A:=A) (e:=g) (show s.heap.IsTuple a its.toArray from p) (show s.heap.IsTuple c its2.toArray from p2) hu hj
   have t2:=SeqAt.RcNeAt.tuples (A:=A) (e:=g) (show s.heap.IsTuple a its.toArray from p) (show s.heap.IsTuple c its2.toArray from p2) hu hj
   have el:(its.toArray.size==its2.toArray.size)=(xs.length==ys.length):=by
    rw[j0j,j0j,<- rv.length,<- rv2.length,jai l1,jai l2]
   have ek:(List.range (min its.toArray.size its2.toArray.size)).all g=k:=by simpa using hk
   rw[el,ek]at t1 t2
   exact⟨a,c,rfl,rfl,t1,t2⟩
 ·cases e
theorem jno (I:Inv X pins σ H s)(R:Rep X.K w μ H):∀(n:Nat) {A:Around} (d1 d2:D) (x y:V) (u v:Value) (b:Bool),A.units+n<cLine ->
  Den X.K w μ.length d1 x->Den X.K w μ.length d2 y->ja3 x u->ja3 y v->eqD μ n d1 d2=some b->SeqAt.EqAt A s u v b
 |0,A,d1,d2,x,y,u,v,b,hu,h1,h2,r1,r2,e=>by cases e
 |n+1,A,d1,d2,x,y,u,v,b,hu,h1,h2,r1,r2,e=>by
  have hu1:A.units<cLine:=by omega
  unfold eqD at e
  split at e
  ·rename_i x' y' e1 e2
   cases e
   obtain⟨rfl,f1⟩:=jcY h1 e1
   obtain⟨rfl,f2⟩:=jcY h2 e2
   exact jo2 r1 r2 f1 f2
  ·obtain⟨a,c,rfl,rfl,t1,_⟩:=joj I R hu1 (fun d1 d2 x y u v b=>jno I R n (A:=A.in1) d1 d2 x y u v b (by rw[j1p];omega)) h1 h2 e
   cases r1
   cases r2
   by_cases hne:a=c
   ·subst hne
    rw[jlj I R (jlS I R n) h1 h2 e]
    exact SeqAt.EqAt.same _
   ·exact SeqAt.EqAt.of_refs hne t1
end
def jyU (K:PySem.W.Frag)(ne:Bool):R2:=fun x y H Q=>(jyz x y=true/\Q (.bl (if ne then !decide (x=y)else decide (x=y))) H)∨∃w μ d1 d2 b,Rep K w μ H/\Den K w μ.length d1 x/\Den K w μ.length d2 y/\eqN (eqD μ 8) μ d1 d2=some b/\Q (.bl (if ne then !b else b)) H
theorem jwC (hu:X.A.units+16<cLine):OpR X (compareOp .Eq) (jyU X.K false):=by
 intro pins s σ H x y v u Q I rx ry h
 rcases h with⟨hs,q⟩|⟨w,μ,d1,d2,b,R,h1,h2,e,q⟩
 ·exact jzG pins s σ H x y v u Q I rx ry ⟨hs,q⟩
 ·obtain⟨a,c,rfl,rfl,t1,_⟩:=joj I R (A:=X.A) (by omega) (fun d1 d2 x y u v b=>jno I R 8 (A:=X.A.in1) d1 d2 x y u v b (by rw[j1p];omega)) h1 h2 e
  cases rx
  cases ry
  exact t1 _ _ _ _ ⟨.bl b,H,I,rfl,q⟩
theorem jx4 (hu:X.A.units+16<cLine):OpR X (compareOp .NotEq) (jyU X.K true):=by
 intro pins s σ H x y v u Q I rx ry h
 rcases h with⟨hs,q⟩|⟨w,μ,d1,d2,b,R,h1,h2,e,q⟩
 ·exact jzM pins s σ H x y v u Q I rx ry ⟨hs,q⟩
 ·obtain⟨a,c,rfl,rfl,_,t2⟩:=joj I R (A:=X.A) (by omega) (fun d1 d2 x y u v b=>jno I R 8 (A:=X.A.in1) d1 d2 x y u v b (by rw[j1p];omega)) h1 h2 e
  cases rx
  cases ry
  exact t2 _ _ _ _ ⟨.bl (!b),H,I,rfl,q⟩
theorem jfQ {op:CmpOp}{a b d:D}{μ μ':M}(e:jdM op a b μ=.ok d μ'):∃r,jpl op a b μ=some r/\d=.bl r/\μ'=μ:=by
 unfold jdM at e
 split at e
 ·rename_i r hr
  cases e
  exact⟨r,hr,rfl,rfl⟩
 ·cases e
theorem jw {w:Wd}{n:Nat}{x:V}:∀{ds:List D} {xs:List V} {b:Bool},DenL K w n ds xs->jvh x ds=some b->xs.all jer=true/\inV x xs=b:=by
 intro ds xs b h
 have p:=jaT.mp h
 clear h
 induction p generalizing b with
 |nil=>
  intro e
  cases e
  exact⟨rfl,rfl⟩
 |cons k t ih=>
  intro e
  simp only[jvh]at e
  split at e
  ·rename_i y r e1 e2
   cases e
   obtain⟨q,f⟩:=jcY k e1
   obtain⟨i1,i2⟩:=ih e2
   refine⟨by rw[j0S,f,i1];rfl,?_⟩
   unfold inV at i2 ⊢
   rw[List.any_cons,i2,q]
  ·cases e
theorem jlN {w:Wd}{μ:M}{H:Hp}{d:D}{v:V}{ks:List Key}{vs:List D}(R:Rep K w μ H)(h:Den K w μ.length d v)(e:jkd μ d=some (ks,vs)):∃a xs,v=.ref a/\ks.length=vs.length/\Rd H a (.dK (ks.zip xs))/\DenL K w μ.length vs xs:=by
 cases d with
 |dK ks' vs'=>
  simp only[jkd,j0v,Prod.mk.injEq]at e
  obtain⟨rfl,rfl⟩:=e
  unfold Den at h
  obtain⟨a,xs,h1,h2,h3,h4⟩:=h
  exact⟨a,xs,h1,h2,.inl (R.sub _ _ h3),h4⟩
 |dF ks' vs'=>
  simp only[jkd,j0v,Prod.mk.injEq]at e
  obtain⟨rfl,rfl⟩:=e
  unfold Den at h
  obtain⟨a,o,es,ep,xs,h1,h2,h3,h4,h5⟩:=h
  exact⟨a,xs,h1,h2,.inr ⟨o,R.sub _ _ h4⟩,h5⟩
 |cel k=>
  simp only[jkd]at e
  split at e
  ·rename_i ks' vs' hk
   simp only[j0v,Prod.mk.injEq]at e
   obtain⟨rfl,rfl⟩:=e
   unfold Den at h
   obtain⟨xs,h0,h1,h2⟩:=(R.liv k _ hk).2
   exact⟨_,xs,h.2,h0,.inl h1,h2⟩
  ·cases e
 |_=>cases e
theorem jh8 {w:Wd}{n:Nat}(k:Key):∀{ks:List Key} {vs:List D} {xs:List V},DenL K w n vs xs->ks.length=vs.length->(∀d,jev k ks vs=some d->∃v,jmK (ks.zip xs) k=some v/\Den K w n d v)/\(jev k ks vs=none->jmK (ks.zip xs) k=none)
 |[],vs,xs,h,hl=>⟨fun d e=>(by cases e),fun _=>rfl⟩
 |g::ks,[],xs,h,hl=>by cases hl
 |g::ks,d::vs,xs,h,hl=>by
  unfold DenL at h
  obtain⟨v,ws,rfl,h1,h2⟩:=h
  obtain⟨i1,i2⟩:=jh8 k h2 (by simpa using hl)
  rw[List.zip_cons_cons]
  by_cases c:g=k
  ·have a1:jev k (g::ks) (d::vs)=some d:=by unfold jev;rw[if_pos c]
   rw[a1,jiN (p:=(g,v)) c]
   exact⟨fun d' e=>by cases e;exact⟨v,rfl,h1⟩,fun e=>by cases e⟩
  ·have a1:jev k (g::ks) (d::vs)=jev k ks vs:=by rw[jev,if_neg c]
   rw[a1,jiz (p:=(g,v)) c]
   exact⟨i1,i2⟩
theorem jwQ {w:Wd}{n:Nat}{d:D}{v:V}{k:Key}(h:Den K w n d v)(e:jzh d=some k):v=kV k:=by
 cases d<;>simp only[jzh,j0v]at e<;>first|(subst e;unfold Den at h;exact h)|cases e
theorem jr3 {neg:Bool}:jnq K (fun a b μ=>match(inD μ a b).map (fun r=>if neg then !r else r)with
  |some r=>.ok (.bl r) μ
  |none=>.bad) (fun x y H Q=>rIn K neg x y H Q∨jsT neg x y H Q∨jzx neg x y H Q):=by
 intro w μ H d1 d2 d μ' v1 v2 Q R h1 h2 e q
 dsimp only at e
 cases e0:inD μ d1 d2 with
 |none=>rw[e0]at e;cases e
 |some r=>
  rw[e0]at e
  cases e
  unfold inD at e0
  split at e0
  ·rename_i ds e2
   split at e0
   ·rename_i x e1
    obtain⟨q1,f1⟩:=jcY h1 e1
    obtain⟨a,xs,rfl,s2,l2⟩:=jeG R h2 e2
    obtain⟨i1,i2⟩:=jw l2 e0
    exact .inl ⟨a,xs,rfl,s2,f1,i1,by rw[q1,i2];exact jaj R q (by unfold Den;rfl)⟩
   ·cases e0
  ·split at e0
   ·rename_i k ks vs e1 e2
    cases e0
    obtain⟨a,xs,rfl,hl,hz,l2⟩:=jlN R h2 e2
    obtain⟨i1,i2⟩:=jh8 k l2 hl
    have es:(jmK (ks.zip xs) k).isSome=(jev k ks vs).isSome:=by
     cases hg:jev k ks vs with
     |none=>rw[i2 hg];rfl
     |some d=>
      obtain⟨v,hv,_⟩:=i1 d hg
      rw[hv]
      rfl
    exact .inr (.inl ⟨a,_,rfl,.inl ⟨_,k,hz,jwQ h1 e1,rfl⟩,by rw[es];exact jaj R q (by unfold Den;rfl)⟩)
   ·split at e0
    ·cases e0
     unfold Den at h1 h2
     exact .inr (.inr ⟨_,_,h1,h2,jaj R q (by unfold Den;rfl)⟩)
    ·cases e0
theorem jen {f:D->D->M->Out D}{r:R2}(h:∀(w:Wd) (μ:M) (H:Hp) (d1 d2:D) (b:Bool) (v1 v2:V) (Q:VK),Rep K w μ H->Den K w μ.length d1 v1->Den K w μ.length d2 v2->f d1 d2 μ=.ok (.bl b) μ->Q (.bl b) H->r v1 v2 H Q)(hb:∀d1 d2 d μ μ',f d1 d2 μ=.ok d μ'->∃b,d=.bl b/\μ'=μ):jnq K f r:=by
 intro w μ H d1 d2 d μ' v1 v2 Q R h1 h2 e q
 obtain⟨b,rfl,rfl⟩:=hb _ _ _ _ _ e
 exact h w μ' H d1 d2 b v1 v2 Q R h1 h2 e (jaj R q (by unfold Den;rfl))
theorem jeY {op:CmpOp}:∀d1 d2 d μ μ',jdM op d1 d2 μ=.ok d μ'->∃b,d=.bl b/\μ'=μ:=fun _ _ _ _ _ e=>let⟨r,_,h1,h2⟩:=jfQ e;⟨r,h1,h2⟩
theorem jhR {op:CmpOp}{a b:D}{μ:M}{r:Bool}(e:jdM op a b μ=.ok (.bl r) μ):jpl op a b μ=some r:=by
 obtain⟨r',h,h1,_⟩:=jfQ e
 cases h1
 exact h
theorem joq {w:Wd}{μ:M}{H:Hp}{d1 d2:D}{b:Bool}{v1 v2:V}{Q:VK}(ne:Bool)(R:Rep K w μ H)(h1:Den K w μ.length d1 v1)(h2:Den K w μ.length d2 v2)(e:jkR μ d1 d2=some b)(q:Q (.bl (if ne then !b else b)) H):jyU K ne v1 v2 H Q:=by
 unfold jkR at e
 split at e
 ·rename_i x y e1 e2
  split at e
  ·rename_i hs
   cases e
   obtain⟨rfl,_⟩:=jcY h1 e1
   obtain⟨rfl,_⟩:=jcY h2 e2
   exact .inl ⟨hs,q⟩
  ·cases e
 ·exact .inr ⟨w,μ,d1,d2,b,R,h1,h2,e,q⟩
theorem joa {op:CmpOp}(hu:X.A.units+16<cLine):∃r,OpR X (compareOp op) r/\jnq X.K (jdM op) r:=by
 cases op with
 |Eq=>exact⟨_,jwC hu,jen (fun w μ H d1 d2 b v1 v2 Q R h1 h2 e q=>joq false R h1 h2 (jhR e) q) jeY⟩
 |NotEq=>
  refine⟨_,jx4 hu,jen (fun w μ H d1 d2 b v1 v2 Q R h1 h2 e q=>?_) jeY⟩
  have e':(jkR μ d1 d2).map (!·)=some b:=jhR e
  cases e2:jkR μ d1 d2 with
  |none=>rw[e2]at e';cases e'
  |some c=>
   rw[e2]at e'
   cases e'
   exact joq true R h1 h2 e2 q
 |Lt=>
  refine⟨_,jyS,jen (fun w μ H d1 d2 b v1 v2 Q R h1 h2 e q=>?_) jeY⟩
  have e':=jhR e
  simp only[jpl]at e'
  split at e'
  ·cases e'
   unfold Den at h1 h2
   exact⟨_,_,h1,h2,q⟩
  ·cases e'
 |LtE=>
  refine⟨_,(jzv.or joK),jen (fun w μ H d1 d2 b v1 v2 Q R h1 h2 e q=>?_) jeY⟩
  have e':=jhR e
  simp only[jpl]at e'
  split at e'
  ·cases e'
   unfold Den at h1 h2
   exact .inl ⟨_,_,h1,h2,q⟩
  ·cases e'
   unfold Den at h1 h2
   exact .inr ⟨_,_,h1,h2,q⟩
  ·cases e'
 |Gt=>
  refine⟨_,jzU,jen (fun w μ H d1 d2 b v1 v2 Q R h1 h2 e q=>?_) jeY⟩
  have e':=jhR e
  simp only[jpl]at e'
  split at e'
  ·cases e'
   unfold Den at h1 h2
   exact⟨_,_,h1,h2,q⟩
  ·cases e'
 |GtE=>
  refine⟨_,jzJ,jen (fun w μ H d1 d2 b v1 v2 Q R h1 h2 e q=>?_) jeY⟩
  have e':=jhR e
  simp only[jpl]at e'
  split at e'
  ·cases e'
   unfold Den at h1 h2
   exact⟨_,_,h1,h2,q⟩
  ·cases e'
 |In=>
  refine⟨_,jm8.or ((juF (by omega)).or jv3),fun w μ H d1 d2 d μ' v1 v2 Q R h1 h2 e q=>jr3 (neg:=false) w μ H d1 d2 d μ' v1 v2 Q R h1 h2 ?_ q⟩
  obtain⟨r,hr,h3,h4⟩:=jfQ e
  have hr':inD μ d1 d2=some r:=hr
  dsimp only
  rw[hr',h3,h4]
  rfl
 |NotIn=>
  refine⟨_,jjv.or ((jmC (by omega)).or juz),fun w μ H d1 d2 d μ' v1 v2 Q R h1 h2 e q=>jr3 (neg:=true) w μ H d1 d2 d μ' v1 v2 Q R h1 h2 ?_ q⟩
  obtain⟨r,hr,h3,h4⟩:=jfQ e
  have hr':(inD μ d1 d2).map (!·)=some r:=hr
  dsimp only
  rw[h3,h4]
  cases e2:inD μ d1 d2 with
  |none=>rw[e2]at hr';cases hr'
  |some c=>
   rw[e2]at hr'
   cases hr'
   rfl
 |Is=>exact⟨fun _ _ _ _=>False,fun _ _ _ _ _ _ _ _ _ _ _ _ h=>h.elim,fun _ _ _ _ _ _ _ _ _ _ _ _ _ e _=>by obtain⟨r,hr,_⟩:=jfQ e;cases hr⟩
 |IsNot=>exact⟨fun _ _ _ _=>False,fun _ _ _ _ _ _ _ _ _ _ _ _ h=>h.elim,fun _ _ _ _ _ _ _ _ _ _ _ _ _ e _=>by obtain⟨r,hr,_⟩:=jfQ e;cases hr⟩
theorem jrj {w:Wd}{n:Nat}{ds:List D}{xs:List V}{i:Int}{d:D}(h:DenL K w n ds xs)(e:atI ds i=some d):∃v,atI xs i=some v/\Den K w n d v:=by
 unfold atI at e ⊢
 rw[jai h]at e
 cases e2:ixN xs.length i with
 |none=>rw[e2]at e;cases e
 |some j=>
  rw[e2]at e
  exact jdx h e
theorem jny {w:Wd}{μ μ':M}{H:Hp}{d1 d:D}{v1 v2:V}{k:Key}{Q:VK}(R:Rep K w μ H)(h1:Den K w μ.length d1 v1)(hk:v2=kV k)(e:jvl d1 k μ=.ok d μ')(q:jgf K w μ.length d μ' Q):jsA v1 v2 H Q:=by
 unfold jvl at e
 split at e
 ·rename_i ks vs e2
  split at e
  ·rename_i d' hd
   obtain⟨a,xs,rfl,hl,hz,l2⟩:=jlN R h1 e2
   obtain⟨v,hv,hdv⟩:=(jh8 k l2 hl).1 d' hd
   cases e
   exact⟨a,v,rfl,.inl ⟨_,k,hz,hk,hv.symm⟩,jaj R q hdv⟩
  ·cases e
 ·cases e
theorem jyZ:jnq K ixD (fun x y H Q=>rIx K x y H Q∨jsA x y H Q):=by
 intro w μ H d1 d2 d μ' v1 v2 Q R h1 h2 e q
 unfold ixD at e
 split at e
 ·rename_i i
  unfold Den at h2
  split at e
  ·rename_i z
   unfold Den at h1
   split at e
   ·rename_i hz
    split at e
    ·rename_i c hc
     cases e
     exact .inl (.inr (.inr ⟨z,i,c,h1,h2,hz,hc,jaj R q (by unfold Den;rfl)⟩))
    ·cases e
   ·cases e
  ·split at e
   ·rename_i ds hs
    split at e
    ·rename_i d' hd
     cases e
     obtain⟨a,xs,rfl,s1,l1⟩:=jeG R h1 hs
     obtain⟨v,e1,e2⟩:=jrj l1 hd
     rcases s1 with s1|s1
     ·exact .inl (.inl ⟨a,xs,i,v,rfl,h2,s1,e1,jaj R q e2⟩)
     ·exact .inl (.inr (.inl ⟨a,xs,i,v,rfl,h2,s1,e1,jaj R q e2⟩))
    ·cases e
   ·exact .inr (jny R h1 (k:=.inl i) h2 e q)
 ·rename_i k
  unfold Den at h2
  exact .inr (jny R h1 (k:=.inr k) h2 e q)
 ·cases e
noncomputable def jz3 (K:PySem.W.Frag):V->Option Int->Option Int->Hp->VK->Prop:=fun x lo hi H Q=>jz9 x lo hi H Q∨(jAo K x lo hi H Q∨jz0 K x lo hi H Q)∨jz6 K x lo hi H Q
theorem jvK:SlR X (jz3 X.K):=jvU.or ((jpW.or jyf).or juP)
theorem jvJ {m:Bool}{w:Wd}{μ μ':M}{H:Hp}{d1 d:D}{v1:V}{lo hi:Option Int}{Q:VK}(R:Rep K w μ H)(h1:Den K w μ.length d1 v1)(e:slD m d1 lo hi μ=.ok d μ')(q:jgf K w μ.length d μ' Q):jz3 K v1 lo hi H Q:=by
 unfold slD at e
 split at e
 ·split at e
  ·rename_i hz
   cases e
   unfold Den at h1
   exact .inl ⟨_,h1,hz,jaj R q (by unfold Den;rfl)⟩
  ·cases e
 ·cases e
  obtain⟨a,us,rfl,s1,l1⟩:=jdL R h1
  by_cases hw:HT.sIx us.length 0 lo=0/\HT.sIx us.length us.length hi=us.length
  ·refine .inr (.inl (.inl ⟨a,us,rfl,s1,hw,jaj R q ?_⟩))
   have hw':=hw
   rw[<- jai l1]at hw'
   unfold cutD
   rw[hw'.1,hw'.2,j1f,Nat.sub_zero,List.take_length]
   exact h1
  ·refine .inr (.inl (.inr ⟨a,us,rfl,s1,hw,fun p hp=>?_⟩))
   exact jel R q hp fun w' x hz=>by unfold Den;exact⟨p,_,rfl,SqT.of hz,(l1.cut lo hi).mono x⟩
 ·split at e
  ·rename_i ds hs
   obtain⟨a,us,rfl,s1,l1⟩:=jco R h1 hs
   exact .inr (.inr ⟨a,us,rfl,s1,jdD R (l1.cut lo hi) e q⟩)
  ·cases e
theorem jtQ {w:Wd}{μ:M}{H:Hp}{d:D}{v:V}{b:Bool}(R:Rep K w μ H)(h:Den K w μ.length d v)(e:jyA μ d=some b):jwV K v H b:=by
 unfold jyA at e
 split at e
 ·cases e;unfold Den at h;subst h;rfl
 ·cases e
end
section
variable {K:PySem.W.Frag} {X:Cx}
theorem jxs {σ:_L2.St}{H:Hp}{Q:List V->Hp->Prop}:T3A K (fun _ μ=>.ok [] μ) σ H Q->jAh σ H Q:=by
 rintro⟨w,μ,ρ,ds,μ',R,S,e,q⟩
 cases e
 exact q w H [] (Ext.refl _ _) R (by unfold DenL;rfl)
theorem jth {r1:S3->M->Out D}{r2:S3->M->Out (List D)}{σ:_L2.St}{H:Hp}{Q:List V->Hp->Prop} :
  T3A K (fun ρ μ=>(r1 ρ μ).bind fun d μ1=>(r2 ρ μ1).bind fun ds μ2=>.ok (d::ds) μ2) σ H Q->jnT (T3E K r1) (T3A K r2) σ H Q:=by
 rintro⟨w,μ,ρ,d,μ',R,S,e,q⟩
 obtain⟨x,μ1,e1,e⟩:=Out.bind_ok e
 obtain⟨ys,μ2,e2,e⟩:=Out.bind_ok e
 cases e
 exact⟨w,μ,ρ,x,μ1,R,S,e1,fun w1 H1 v1 x1 R1 d1=>⟨w1,μ1,ρ,ys,_,R1,S.mono x1,e2,fun w2 H2 vs x2 R2 d2=>q w2 H2 (v1::vs) (x1.trans x2) R2 (by unfold DenL;exact⟨v1,vs,rfl,d1.mono x2,d2⟩)⟩⟩
def jkj (K:PySem.W.Frag)(f:List D->M->Out D)(r:List V->Hp->VK->Prop):Prop:=∀(w:Wd) (μ:M) (H:Hp) (ds:List D) (d:D) (μ':M) (vs:List V) (Q:VK),Rep K w μ H->DenL K w μ.length ds vs->f ds μ=.ok d μ'->jgf K w μ.length d μ' Q->r vs H Q
theorem jfD {f:List D->M->Out D}{r:List V->Hp->VK->Prop}{rl:S3->M->Out (List D)}(hs:jkj K f r){σ:_L2.St}{H:Hp}{Q:VK} :
  T3E K (fun ρ μ=>(rl ρ μ).bind fun ds μ1=>f ds μ1) σ H Q->T3A K rl σ H fun vs H1=>r vs H1 Q:=by
 rintro⟨w,μ,ρ,d,μ',R,S,e,q⟩
 obtain⟨ds,μ1,e1,e⟩:=Out.bind_ok e
 exact⟨w,μ,ρ,ds,μ1,R,S,e1,fun w1 H1 vs x1 R1 d1=>hs w1 μ1 H1 ds d μ' vs Q R1 d1 e fun w3 H3 v x3 R3 d3=>q w3 H3 v (x1.trans x3) R3 d3⟩
theorem jif {w:Wd}{n:Nat}{d:D}{vs:List V}(h:DenL K w n [d] vs):∃v,vs=[v]/\Den K w n d v:=by
 unfold DenL at h
 obtain⟨v,ws,rfl,h1,h2⟩:=h
 unfold DenL at h2
 subst h2
 exact⟨v,rfl,h1⟩
theorem jyd {w:Wd}{n:Nat}{d e:D}{vs:List V}(h:DenL K w n [d,e] vs):∃v u,vs=[v,u]/\Den K w n d v/\Den K w n e u:=by
 unfold DenL at h
 obtain⟨v,ws,rfl,h1,h2⟩:=h
 obtain⟨u,rfl,h3⟩:=jif h2
 exact⟨v,u,rfl,h1,h3⟩
theorem joO:jkj K (fun ds μ=>if ds.length<=sizeLine then .ok (.tup ds) μ else .bad) (fun xs H Q=>xs.length<=sizeLine/\∀p,H p=none->Q (.ref p) (upd H p (.tup xs))):=by
 intro w μ H ds d μ' vs Q R h e q
 dsimp only at e
 split at e
 ·rename_i hl
  cases e
  refine⟨by rw[<- jai h];exact hl,fun p hp=>?_⟩
  exact jel R q hp fun w' x hz=>by unfold Den;exact⟨p,_,rfl,SqT.of hz,h.mono x⟩
 ·cases e
theorem ju3 {m:Bool}:jkj K (fun ds μ=>if ds.length<=sizeLine then mkL m ds μ else .bad) (fun xs H Q=>xs.length<=sizeLine/\∀p,H p=none->Q (.ref p) (upd H p (.lst xs))):=by
 intro w μ H ds d μ' vs Q R h e q
 dsimp only at e
 split at e
 ·rename_i hl
  exact⟨by rw[<- jai h];exact hl,jdD R h e q⟩
 ·cases e
noncomputable abbrev jyL (K:PySem.W.Frag):List V->Hp->VK->Prop:=fun xs H Q=>(∃p ys,xs=[.ref p]/\(SqL K H p ys∨SqT K H p ys)/\Q (.int ys.length) H)∨∃z,xs=[.str z]/\z.length<=sizeLine/\Q (.int z.length) H
theorem jvb:jkj K jza (jyL K):=by
 intro w μ H ds d μ' vs Q R h e q
 unfold jza at e
 split at e
 ·split at e
  ·rename_i hz
   cases e
   obtain⟨v,rfl,h1⟩:=jif h
   unfold Den at h1
   subst h1
   exact .inr ⟨_,rfl,hz,jaj R q (by unfold Den;rfl)⟩
  ·cases e
 ·split at e
  ·rename_i xs hs
   cases e
   obtain⟨v,rfl,h1⟩:=jif h
   obtain⟨a,ys,rfl,s1,l1⟩:=jeG R h1 hs
   exact .inl ⟨a,ys,rfl,s1,by rw[<- jai l1];exact jaj R q (by unfold Den;rfl)⟩
  ·cases e
 ·cases e
theorem jtv:jkj K jyO (fun xs H Q=>∃i j,xs=[.int i,.int j]/\Q (.int (if j<i then j else i)) H):=by
 intro w μ H ds d μ' vs Q R h e q
 unfold jyO at e
 split at e
 ·cases e
  obtain⟨v,u,rfl,h1,h2⟩:=jyd h
  unfold Den at h1 h2
  subst h1 h2
  exact⟨_,_,rfl,jaj R q (by unfold Den;rfl)⟩
 ·cases e
theorem jtn:jkj K jyY (fun xs H Q=>∃i j,xs=[.int i,.int j]/\Q (.int (if j > i then j else i)) H):=by
 intro w μ H ds d μ' vs Q R h e q
 unfold jyY at e
 split at e
 ·cases e
  obtain⟨v,u,rfl,h1,h2⟩:=jyd h
  unfold Den at h1 h2
  subst h1 h2
  exact⟨_,_,rfl,jaj R q (by unfold Den;rfl)⟩
 ·cases e
theorem jhy {w:Wd}{n:Nat}:∀cs:List Nat,DenL K w n (cs.map fun c=>D.str ⟨#[c]⟩) (cs.map fun c=>V.str ⟨#[c]⟩)
 |[]=>by unfold DenL;rfl
 |c::cs=>by rw[j0i,j0i];unfold DenL;exact⟨_,_,rfl,by unfold Den;rfl,jhy cs⟩
theorem jp7 {m:Bool}:jkj K (jt8 m) (fun xs H Q=>(∃p ys,xs=[.ref p]/\(SqL K H p ys∨SqT K H p ys)/\∀l,H l=none->Q (.ref l) (upd H l (.lst ys)))∨(∃z:Str,xs=[.str z]/\z.cps.size<=1000/\∀l,H l=none->Q (.ref l) (upd H l (.lst (z.cps.toList.map fun c=>V.str ⟨#[c]⟩))))):=by
 intro w μ H ds d μ' vs Q R h e q
 unfold jt8 at e
 split at e
 ·split at e
  ·rename_i xs hs
   obtain⟨v,rfl,h1⟩:=jif h
   obtain⟨a,ys,rfl,s1,l1⟩:=jeG R h1 hs
   exact .inl ⟨a,ys,rfl,s1,jdD R l1 e q⟩
  ·split at e
   ·split at e
    ·rename_i hz
     obtain⟨v,rfl,h1⟩:=jif h
     unfold Den at h1
     subst h1
     exact .inr ⟨_,rfl,hz,jdD R (jhy _) e q⟩
    ·cases e
   ·cases e
 ·cases e
theorem jjF:jkj K tupleD (fun xs H Q=>∃p ys,xs=[.ref p]/\((SqL K H p ys/\∀l,H l=none->Q (.ref l) (upd H l (.tup ys)))∨(SqT K H p ys/\Q (.ref p) H))):=by
 intro w μ H ds d μ' vs Q R h e q
 unfold tupleD at e
 split at e
 ·rename_i d0
  split at e
  ·rename_i xs hs
   cases e
   obtain⟨v,rfl,h1⟩:=jif h
   unfold jfb at hs
   split at hs
   ·cases hs
    obtain⟨a,ys,rfl,s1,l1⟩:=jdL R h1
    exact⟨a,ys,rfl,.inr ⟨s1,jaj R q h1⟩⟩
   ·obtain⟨a,ys,rfl,s1,l1⟩:=jco R h1 hs
    exact⟨a,ys,rfl,.inl ⟨s1,fun p hp=>jel R q hp fun w' x hz=>by unfold Den;exact⟨p,_,rfl,SqT.of hz,l1.mono x⟩⟩⟩
  ·cases e
 ·cases e
theorem jn8:jkj K jkU (fun xs H Q=>((∃i,xs=[.int i]/\Q (.int i) H)∨∃k,xs=[.bl k]/\Q (.int (if k then 1 else 0)) H)∨jxK xs H Q):=by
 intro w μ H ds d μ' vs Q R h e q
 unfold jkU at e
 split at e
 ·cases e
  obtain⟨v,rfl,h1⟩:=jif h
  unfold Den at h1
  subst h1
  exact .inl (.inl ⟨_,rfl,jaj R q (by unfold Den;rfl)⟩)
 ·cases e
  obtain⟨v,rfl,h1⟩:=jif h
  unfold Den at h1
  subst h1
  exact .inl (.inr ⟨_,rfl,jaj R q (by unfold Den;rfl)⟩)
 ·split at e
  ·rename_i n hn
   split at e
   ·rename_i hz
    cases e
    obtain⟨v,rfl,h1⟩:=jif h
    unfold Den at h1
    subst h1
    exact .inr ⟨_,n,rfl,hn,hz,jaj R q (by unfold Den;rfl)⟩
   ·cases e
  ·cases e
 ·cases e
theorem juv (hc:X.calm=true):jkj X.K jyG (fun xs H Q=>X.calm=true/\∃(p:Addr) (bs:List Bool),xs=[.ref p]/\SqL X.K H p (bs.map V.bl)/\Q (.bl (bs.all id)) H):=by
 intro w μ H ds d μ' vs Q R h e q
 unfold jyG at e
 split at e
 ·split at e
  ·rename_i xs hs
   split at e
   ·rename_i ns hn
    cases e
    obtain⟨v,rfl,h1⟩:=jif h
    obtain⟨a,ys,rfl,s1,l1⟩:=jco R h1 hs
    have:=jlc l1 hn
    subst this
    exact⟨hc,a,ns,rfl,s1,jaj R q (by unfold Den;rfl)⟩
   ·cases e
  ·cases e
 ·cases e
theorem ju5:jkj K jzb (fun xs H Q=>(∃i,xs=[.int i]/\i.natAbs.log2<1920/\Q (.str (toString i)) H)∨jvv xs H Q):=by
 intro w μ H ds d μ' vs Q R h e q
 unfold jzb at e
 split at e
 ·split at e
  ·rename_i hz
   cases e
   obtain⟨v,rfl,h1⟩:=jif h
   unfold Den at h1
   subst h1
   exact .inl ⟨_,rfl,hz,jaj R q (by unfold Den;rfl)⟩
  ·cases e
 ·cases e
  obtain⟨v,rfl,h1⟩:=jif h
  unfold Den at h1
  subst h1
  exact .inr ⟨_,rfl,jaj R q (by unfold Den;rfl)⟩
 ·cases e
theorem jpV {μ:M}{d:D}{t:String}(e:tyD μ d=some t):(∃i,d=.int i/\t = "int")∨(∃x,d=.str x/\t = "str")∨(∃ds,d=.tup ds/\t = "tuple"):=by
 cases d with
 |int i=>cases e;exact .inl ⟨i,rfl,rfl⟩
 |str x=>cases e;exact .inr (.inl ⟨x,rfl,rfl⟩)
 |tup ds=>cases e;exact .inr (.inr ⟨ds,rfl,rfl⟩)
 |_=>cases e
theorem jxc {n t:String} {b:Bool} (ht:t = "int"∨t = "str"∨t = "tuple") (e:jvq n t=some b):PySem.W.kitOne K (.type t) (.type n)=some b:=by
 unfold jvq at e
 split at e
 ·rename_i hn
  subst hn
  rcases ht with rfl|rfl|rfl<;>(cases e;rfl)
 ·split at e
  ·rename_i hn
   rcases hn with rfl|rfl|rfl<;>rcases ht with rfl|rfl|rfl<;>(cases e;rfl)
  ·cases e
noncomputable def jzO (K:PySem.W.Frag)(n:String):List V->Hp->VK->Prop:=fun xs H Q=>∃(x:V) (w:Wd) (μ:M) (d:D) (t:String) (b:Bool),xs=[x,.ty n]/\Rep K w μ H/\Den K w μ.length d x/\tyD μ d=some t/\jvq n t=some b/\Q (.bl b) H
theorem jpO {n:String}:jbK X (.builtin "isinstance") (jzO X.K n):=by
 intro pins s σ H xs us Q I r h
 obtain⟨x,w,μ,d,t,b,rfl,R,hd,ht,hb,q⟩:=h
 obtain⟨u,u2,rfl,ru,ru2⟩:=r.two
 cases(show u2=Value.type n from ru2)
 have hk:∀hh,PySem.W.kitOne X.K (.type t) (.type n)=some b:=fun hh=>jxc hh hb
 have fin:∀tk,EP X pins σ Q (.bool b) {s with toks:=tk}:=fun tk=>⟨.bl b,H,I.tok tk,rfl,q⟩
 rcases jpV ht with⟨i,rfl,rfl⟩|⟨y,rfl,rfl⟩|⟨ds,rfl,rfl⟩
 ·unfold Den at hd
  subst hd
  exact jjZ I ru (.int i) (hk (.inl rfl)) fin
 ·unfold Den at hd
  subst hd
  exact jjZ I ru (.str y) (hk (.inr (.inl rfl))) fin
 ·obtain⟨a,xs,rfl,s1,_⟩:=jdL R hd
  cases ru
  obtain⟨its,_,p,_⟩:=I.tuple s1
  obtain⟨o,h1,h2,_⟩:=p
  exact j0P PySem.W.kitx_tuple I.kIn ⟨o,h1,h2⟩ (hk (.inr (.inr rfl))) (fun z=>nomatch z) fin
theorem juq {n:String}{w:Wd}{μ μ':M}{H:Hp}{ds:List D}{d:D}{vs:List V}{Q:VK}(R:Rep K w μ H)(h:DenL K w μ.length ds vs)(e:jyH n ds μ=.ok d μ')(q:jgf K w μ.length d μ' Q):jzO K n (vs++[.ty n]) H Q:=by
 unfold jyH at e
 split at e
 ·rename_i d0
  split at e
  ·rename_i t ht
   split at e
   ·rename_i r hr
    cases e
    obtain⟨v,rfl,h1⟩:=jif h
    exact⟨v,w,μ,d0,t,r,rfl,R,h1,ht,hr,jaj R q (by unfold Den;rfl)⟩
   ·cases e
  ·cases e
 ·cases e
def jyq (K:PySem.W.Frag)(f:D->List D->M->Out D)(r:V->List V->Hp->VK->Prop):Prop:=∀(w:Wd) (μ:M) (H:Hp) (o:D) (x:V) (ds:List D) (d:D) (μ':M) (vs:List V) (Q:VK),Rep K w μ H->Den K w μ.length o x->DenL K w μ.length ds vs->f o ds μ=.ok d μ'->jgf K w μ.length d μ' Q->r x vs H Q
theorem Rep.putL {w:Wd}{μ:M}{H:Hp}{k:Nat}{ds es:List D}{ys:List V}(R:Rep K w μ H)(hk:μ[k]?=some (some (.lst ds)))(h:DenL K w μ.length es ys):Rep K w (μ.set k (some (.lst es))) (upd H (w.γ k) (.lst ys)):=R.put hk (.lst ys) ⟨ys,jaF,h⟩
theorem jqc {w:Wd}{μ:M}{H':Hp}{k:Nat}{c:Cl}{d:D}{v:V}{Q:VK}(R:Rep K w (μ.set k (some c)) H')(q:jgf K w μ.length d (μ.set k (some c)) Q)(h:Den K w μ.length d v):Q v H':=by
 have hl:(μ.set k (some c)).length=μ.length:=List.length_set
 exact q w H' v (by rw[hl];exact Ext.refl _ _) R (by rw[hl];exact h)
theorem jpe:jyq K jmJ rAppend:=by
 intro w μ H o x ds d μ' vs Q R h1 h2 e q
 unfold jmJ at e
 split at e
 ·rename_i k d0
  split at e
  ·rename_i xs hk
   split at e
   ·rename_i hz
    cases e
    obtain⟨v,rfl,h3⟩:=jif h2
    unfold Den at h1
    obtain⟨ys,g1,g2⟩:=(R.liv k _ hk).2
    refine⟨w.γ k,ys,v,h1.2,rfl,g1,by rw[<- jai g2];exact hz,?_⟩
    exact jqc (R.putL hk (g2.append (DenL.one h3))) q (by unfold Den;rfl)
   ·cases e
  ·cases e
 ·cases e
theorem jqf:jyq K jp3 (jxP K):=by
 intro w μ H o x ds d μ' vs Q R h1 h2 e q
 unfold jp3 at e
 split at e
 ·split at e
  ·rename_i xs hs
   split at e
   ·rename_i ys hy
    split at e
    ·rename_i hz
     cases e
     obtain⟨v,rfl,h3⟩:=jif h2
     unfold Den at h1
     obtain⟨a,us,rfl,s1,l1⟩:=jco R h3 hs
     have:=jeZ l1 hy
     subst this
     exact⟨_,a,ys,h1,rfl,s1,hz,jaj R q (by unfold Den;rfl)⟩
    ·cases e
   ·cases e
  ·cases e
 ·cases e
theorem jf8 {w:Wd}{n:Nat}:∀zs:List Str,DenL K w n (zs.map D.str) (zs.map V.str)
 |[]=>by unfold DenL;rfl
 |z::zs=>by rw[j0i,j0i];unfold DenL;exact⟨_,_,rfl,by unfold Den;rfl,jf8 zs⟩
theorem jnZ:jyq K jpb rSplit:=by
 intro w μ H o x ds d μ' vs Q R h1 h2 e q
 unfold jpb at e
 split at e
 ·rename_i z y
  split at e
  ·rename_i hz
   cases e
   obtain⟨v,rfl,h3⟩:=jif h2
   unfold Den at h1 h3
   subst h3
   exact⟨z,y,h1,rfl,hz.1,hz.2,fun p hp=>jel R q hp fun w' x hz=>by unfold Den;exact⟨p,_,rfl,hz,jf8 _⟩⟩
  ·cases e
 ·cases e
theorem jkf {f:D->List D->M->Out D}{ok:D->M->Bool}{T:String}{r:V->List V->Hp->VK->Prop}{ro:S3->M->Out D}{rl:S3->M->Out (List D)}(hs:jyq K f r)(ht:∀(w:Wd) (μ:M) (H:Hp) (o:D) (x:V),Rep K w μ H->Den K w μ.length o x->ok o μ=true->tyV K T x H){σ:_L2.St}{H:Hp}{Q:VK} :
  T3E K (fun ρ μ=>(ro ρ μ).bind fun x μ1=>if ok x μ1 then(rl ρ μ1).bind fun ds μ2=>f x ds μ2 else .bad) σ H Q->tBM K T r (T3E K ro) (T3A K rl) σ H Q:=by
 rintro⟨w,μ,ρ,d,μ',R,S,e,q⟩
 obtain⟨x,μ1,e1,e⟩:=Out.bind_ok e
 split at e
 ·rename_i hok
  obtain⟨ds,μ2,e2,e⟩:=Out.bind_ok e
  exact⟨w,μ,ρ,x,μ1,R,S,e1,fun w1 H1 v1 x1 R1 d1=>⟨ht w1 μ1 H1 x v1 R1 d1 hok,⟨w1,μ1,ρ,ds,μ2,R1,S.mono x1,e2,fun w2 H2 vs x2 R2 d2=>hs w2 μ2 H2 x v1 ds d μ' vs Q R2 (d1.mono x2) d2 e fun w3 H3 v x3 R3 d3=>q w3 H3 v ((x1.trans x2).trans x3) R3 d3⟩⟩⟩
 ·cases e
theorem jjD {b:Mt}{w:Wd}{μ:M}{H:Hp}{o:D}{x:V}(hb:b=.append∨b=.extend)(R:Rep K w μ H)(h:Den K w μ.length o x)(e:jmF b o μ=true):tyV K "list" x H:=by
 cases o with
 |cel k=>
  have e':(match μ[k]? with|some (some (.lst _))=>true|_=>false)=true:=by
   rcases hb with rfl|rfl<;>exact e
  split at e'
  ·rename_i ds hk
   unfold Den at h
   obtain⟨ys,g1,g2⟩:=(R.liv k _ hk).2
   rw[h.2]
   exact .inl ⟨rfl,ys,SqL.of g1⟩
  ·cases e'
 |_=>rcases hb with rfl|rfl<;>cases e
theorem jkc {w:Wd}{μ:M}{H:Hp}{o:D}{x:V}(h:Den K w μ.length o x)(e:jmF .split o μ=true):tyV K "str" x H:=by
 cases o with
 |str z=>
  unfold Den at h
  subst h
  rfl
 |_=>cases e
theorem jqI {w:Wd}{μ:M}{H:Hp}{o:D}{x:V}(h:Den K w μ.length o x)(e:jmF .join o μ=true):tyV K "str" x H:=by
 cases o with
 |str z=>
  unfold Den at h
  subst h
  rfl
 |_=>cases e
end
section
variable {K:PySem.W.Frag} {X:Cx}
def jAw (K:PySem.W.Frag)(tl:TE):TI:=fun σ H R=>tl σ H fun x H1=>∃a,x=.ref a/\((∃xs,SqL K H1 a xs/\R (Itl K a) H1)∨∃xs,SqT K H1 a xs/\R (Itt K a) H1)
theorem jwj {tg e:Expr}{te:TE}(h:PE X e te):PI X tg e (jAw X.K te):=by
 intro pins s σ H R I hw
 refine thn (h pins s σ H _ I hw) fun v s1 ⟨x,H1,I1,r1,q1⟩=>?_
 obtain⟨a,e,q⟩:=q1
 subst e
 cases r1
 rcases q with⟨xs,hq,q⟩|⟨xs,hq,q⟩
 ·obtain⟨its,rv,p,hz⟩:=I1.list hq
  refine wpAny_pyIter_list p.isList ?_
  refine⟨s1.heap.objs.size,[s1.heap.objs.size],_,_,H1,rfl,I1.kept (t':=s1.toks) fun b o e=>j0c _ e,joc a _,⟨_,j0o _ rfl,rfl,rfl⟩,fun b hb=>?_,q⟩
  have e:b=s1.heap.objs.size:=by simpa using hb
  subst e
  exact I1.fpOk (j0q _) (I1.hok.fresh (j0q _))
 ·obtain⟨its,rv,p,hz⟩:=I1.tuple hq
  refine wpAny_pyIter_tuple (show s1.heap.IsTuple a its.toArray from p) ?_
  refine⟨s1.heap.objs.size,[s1.heap.objs.size],_,_,H1,rfl,I1.kept (t':=s1.toks) fun b o e=>j0c _ e,jmf a _,⟨_,j0o _ rfl,rfl,rfl⟩,fun b hb=>?_,q⟩
  have e:b=s1.heap.objs.size:=by simpa using hb
  subst e
  exact I1.fpOk (j0q _) (I1.hok.fresh (j0q _))
theorem imI {tg it:Expr}{t t':TI}(h:PI X tg it t)(k:∀σ H R,t' σ H R->t σ H R):PI X tg it t':=fun pins s σ H R I hw=>h pins s σ H R I (k σ H R hw)
def jrK (K:PySem.W.Frag)(w:Wd)(n:Nat)(ok:M->Bool)(xs:List D)(J:It):Prop:=∀(w2:Wd) (μ2:M) (H2:Hp),Ext w w2 n μ2.length->Rep K w2 μ2 H2->ok μ2=true ->
 J.stop xs.length H2/\∀i d,xs[i]?=some d->J.go i H2/\∀x H3,J.yld i H2 x H3->∃w3,Ext w2 w3 μ2.length μ2.length/\Rep K w3 μ2 H3/\Den K w3 μ2.length d x
def T3I (K:PySem.W.Frag)(ik:IK)(r:S3->M->Out (List D)):TI:=fun σ H R=>∃(w:Wd) (μ:M) (ρ:S3) (ds:List D) (μ1:M) (xs:List D),Rep K w μ H/\jch K w μ.length ρ σ/\r ρ μ=.ok ds μ1/\itD ik ds μ1=some xs /\
 ∀w' H' J,Ext w w' μ.length μ1.length->Rep K w' μ1 H'->jrK K w' μ1.length (jcv ik ds xs) xs J->R J H'
theorem jeV {ik:IK}{ds xs:List D}{μ:M}:jcv ik ds xs μ=true↔itD ik ds μ=some xs:=by
 unfold jcv
 exact @decide_eq_true_iff _ (Classical.propDecidable _)
theorem jxW {w:Wd}{n:Nat}{ok:M->Bool}{xs:List D}{a:Addr}(h:∀(w2:Wd) (μ2:M) (H2:Hp),Ext w w2 n μ2.length->Rep K w2 μ2 H2->ok μ2=true->∃ys,SqL K H2 a ys/\DenL K w2 μ2.length xs ys):jrK K w n ok xs (Itl K a):=by
 intro w2 μ2 H2 x2 R2 hk
 obtain⟨ys,s1,l1⟩:=h w2 μ2 H2 x2 R2 hk
 refine⟨⟨ys,s1,by rw[<- jai l1];exact j0q _⟩,fun i d hd=>?_⟩
 obtain⟨v,e1,e2⟩:=jdx l1 hd
 refine⟨⟨ys,v,s1,e1⟩,fun x H3 y=>?_⟩
 obtain⟨rfl,y⟩:=y
 have:=y ys s1
 rw[e1]at this
 cases this
 exact⟨w2,Ext.refl _ _,R2,e2⟩
theorem jv8 {w:Wd}{n:Nat}{ok:M->Bool}{xs:List D}{a:Addr}(h:∀(w2:Wd) (μ2:M) (H2:Hp),Ext w w2 n μ2.length->Rep K w2 μ2 H2->ok μ2=true->∃ys,SqT K H2 a ys/\DenL K w2 μ2.length xs ys):jrK K w n ok xs (Itt K a):=by
 intro w2 μ2 H2 x2 R2 hk
 obtain⟨ys,s1,l1⟩:=h w2 μ2 H2 x2 R2 hk
 refine⟨⟨ys,s1,by rw[<- jai l1];exact j0q _⟩,fun i d hd=>?_⟩
 obtain⟨v,e1,e2⟩:=jdx l1 hd
 refine⟨⟨ys,v,s1,e1⟩,fun x H3 y=>?_⟩
 obtain⟨rfl,y⟩:=y
 have:=y ys s1
 rw[e1]at this
 cases this
 exact⟨w2,Ext.refl _ _,R2,e2⟩
theorem jsk {r:S3->M->Out D}{ρ:S3}{μ μ1:M}{ds:List D}(e:((r ρ μ).bind fun d μ1=>(Out.ok [] μ1).bind fun ds μ2=>.ok (d::ds) μ2)=.ok ds μ1):∃d,ds=[d]/\r ρ μ=.ok d μ1:=by
 obtain⟨d,μ2,e1,e⟩:=Out.bind_ok e
 cases e
 exact⟨d,rfl,e1⟩
theorem jst {tg it:Expr}{r:S3->M->Out D}(h:PE X it (T3E X.K r)):PI X tg it (T3I X.K .seq (fun ρ μ=>(r ρ μ).bind fun d μ1=>(Out.ok [] μ1).bind fun ds μ2=>.ok (d::ds) μ2)):=by
 refine imI (jwj h) fun σ H R=>?_
 rintro⟨w,μ,ρ,ds,μ1,xs,Rp,S,e,ei,q⟩
 obtain⟨d,rfl,e1⟩:=jsk e
 refine⟨w,μ,ρ,d,μ1,Rp,S,e1,fun w1 H1 v x1 R1 d1=>?_⟩
 have ei':jfb μ1 d=some xs:=ei
 by_cases ht:∃ds,d=.tup ds
 ·obtain⟨ds,rfl⟩:=ht
  cases ei'
  obtain⟨a,ys,rfl,s1,l1⟩:=jdL R1 d1
  refine⟨a,rfl,.inr ⟨ys,s1,q w1 H1 _ x1 R1 (jv8 fun w2 μ2 H2 x2 R2 hk=>?_)⟩⟩
  obtain⟨a',ys',ea,s2,l2⟩:=jdL R2 (d1.mono x2)
  cases ea
  exact⟨ys',s2,l2⟩
 ·have hL:∀μ,jfb μ d=jgW μ d:=fun μ=>by
   cases d with
   |tup ds=>exact absurd ⟨ds,rfl⟩ ht
   |_=>rfl
  rw[hL]at ei'
  obtain⟨a,ys,rfl,s1,l1⟩:=jco R1 d1 ei'
  refine⟨a,rfl,.inl ⟨ys,s1,q w1 H1 _ x1 R1 (jxW fun w2 μ2 H2 x2 R2 hk=>?_)⟩⟩
  have e2:jfb μ2 d=some xs:=jeV.mp hk
  rw[hL]at e2
  obtain⟨a',ys',ea,s2,l2⟩:=jco R2 (d1.mono x2) e2
  cases ea
  exact⟨ys',s2,l2⟩
theorem jnH:∀{ds:List D} {k i:Nat} {d:D},(jj7 k ds)[i]?=some d->∃x,ds[i]?=some x/\d=.tup [.int ((k+i:Nat):Int),x]
 |[],_,_,_,e=>by simp[jj7]at e
 |x::ds,k,0,d,e=>by
  simp only[jj7,j0F,j0v]at e
  exact⟨x,rfl,e.symm⟩
 |x::ds,k,i+1,d,e=>by
  simp only[jj7,j0O]at e
  obtain⟨y,h1,h2⟩:=jnH e
  exact⟨y,by simpa using h1,by rw[h2];congr 4;omega⟩
theorem jo3:∀(ds:List D) (k:Nat),(jj7 k ds).length=ds.length
 |[],_=>rfl
 |x::ds,k=>by simp[jj7,jo3 ds]
noncomputable def jAm:D->Bool
 |.tup _=>true
 |_=>false
theorem jfK {w:Wd}{μ:M}{H:Hp}{d:D}{v:V}{ds:List D}(R:Rep K w μ H)(h:Den K w μ.length d v)(e:jfb μ d=some ds):∃a xs,v=.ref a/\SqB (jAm d) K H a xs/\DenL K w μ.length ds xs:=by
 by_cases ht:∃ds,d=.tup ds
 ·obtain⟨es,rfl⟩:=ht
  cases e
  exact jdL R h
 ·have hL:jfb μ d=jgW μ d/\jAm d=false:=by
   cases d with
   |tup ds=>exact absurd ⟨ds,rfl⟩ ht
   |_=>exact⟨rfl,rfl⟩
  rw[hL.1]at e
  rw[hL.2]
  exact jco R h e
theorem jta {elts:List Expr} {x1:Nat} {tpos p pos:Pos} {a:Expr} {r:S3->M->Out (List D)} (hg:jb0 X.env.scope "enumerate" =true) (hm:X.mg "enumerate" =none) (ha:PA X [a] (T3A X.K r)) (hs:jaG a=true) :
  PI X (.Tuple elts x1 tpos) (.Call (.Name "enumerate" p) [a] [] pos) (T3I X.K .enm r):=by
 refine imI (jp5 (jas hg).1 hm ha (jau hs)) fun σ H R=>?_
 rintro⟨w,μ,ρ,ds,μ1,xs,Rp,S,e,ei,q⟩
 refine⟨w,μ,ρ,ds,μ1,Rp,S,e,fun w1 H1 vs x1 R1 d1=>?_⟩
 replace ei:ju ds μ1=some xs:=ei
 unfold ju at ei
 split at ei
 case h_2=>cases ei
 rename_i d
 cases e0:jfb μ1 d with
 |none=>rw[e0]at ei;cases ei
 |some ys0=>
  rw[e0]at ei
  cases ei
  obtain⟨v,rfl,h1⟩:=jif d1
  obtain⟨a,ys,rfl,s1,l1⟩:=jfK R1 h1 e0
  refine⟨a,_,rfl,⟨ys,s1⟩,q w1 H1 _ x1 R1 ?_⟩
  intro w2 μ2 H2 x2 R2 hk
  have e2:(jfb μ2 d).map (jj7 0)=some (jj7 0 ys0):=jeV.mp hk
  cases e3:jfb μ2 d with
  |none=>rw[e3]at e2;cases e2
  |some zs=>
   rw[e3]at e2
   have hz:jj7 0 zs=jj7 0 ys0:=by simpa using e2
   obtain⟨a',ys',ea,s2,l2⟩:=jfK R2 (h1.mono x2) e3
   cases ea
   rw[<- hz]
   refine⟨⟨ys',s2,by rw[<- jai l2,<- jo3 zs 0]⟩,fun i d' hd=>?_⟩
   obtain⟨x0,g1,rfl⟩:=jnH hd
   obtain⟨u,u1,u2⟩:=jdx l2 g1
   refine⟨⟨ys',u,s2,u1⟩,fun x H3 y=>?_⟩
   obtain⟨p,y0,rfl,hn,rfl,y⟩:=y
   have:=y ys' s2
   rw[u1]at this
   cases this
   obtain⟨R3,x3⟩:=R2.frz hn (.tup [.int (i:Int),u])
   refine⟨_,x3,R3,?_⟩
   unfold Den
   refine⟨p,_,rfl,SqT.of jaF,?_⟩
   unfold DenL
   exact⟨_,_,rfl,by unfold Den;simp,DenL.one (u2.mono x3)⟩
theorem jnS:∀{xs ys:List D} {i:Nat} {d:D},(jgs xs ys)[i]?=some d->∃x y,xs[i]?=some x/\ys[i]?=some y/\d=.tup [x,y]
 |[],_,_,_,e=>by simp[jgs]at e
 |_::_,[],_,_,e=>by simp[jgs]at e
 |x::xs,y::ys,0,d,e=>by
  simp only[jgs,j0F,j0v]at e
  exact⟨x,y,rfl,rfl,e.symm⟩
 |x::xs,y::ys,i+1,d,e=>by
  simp only[jgs,j0O]at e
  obtain⟨a,b,h1,h2,h3⟩:=jnS e
  exact⟨a,b,by simpa using h1,by simpa using h2,h3⟩
theorem jo4:∀(xs ys:List D),(jgs xs ys).length=min xs.length ys.length
 |[],_=>by simp[jgs]
 |_::_,[]=>by simp[jgs]
 |x::xs,y::ys=>by simp only[jgs,j0b,jo4 xs ys,Nat.add_min_add_right]
theorem jt4 {elts:List Expr} {x1:Nat} {tpos p pos:Pos} {a b:Expr} {r:S3->M->Out (List D)} (hg:jb0 X.env.scope "zip" =true) (hm:X.mg "zip" =none) (ha:PA X [a,b] (T3A X.K r)) (hs:jag [a,b]=true) :
  PI X (.Tuple elts x1 tpos) (.Call (.Name "zip" p) [a,b] [] pos) (T3I X.K .zip r):=by
 refine imI (jsw hg hm ⟨ha⟩ hs).h fun σ H R=>?_
 rintro⟨w,μ,ρ,ds,μ1,xs,Rp,S,e,ei,q⟩
 refine⟨w,μ,ρ,ds,μ1,Rp,S,e,fun w1 H1 vs x1 R1 d1=>?_⟩
 replace ei:jmW ds μ1=some xs:=ei
 unfold jmW at ei
 split at ei
 case h_2=>cases ei
 rename_i d d'
 split at ei
 case h_2=>cases ei
 rename_i us ws e1 e2
 cases ei
 obtain⟨v,u,rfl,h1,h2⟩:=jyd d1
 obtain⟨a,ys,rfl,s1,l1⟩:=jfK R1 h1 e1
 obtain⟨b,zs,rfl,s2,l2⟩:=jfK R1 h2 e2
 refine⟨a,b,_,_,rfl,⟨ys,s1⟩,⟨zs,s2⟩,q w1 H1 _ x1 R1 ?_⟩
 intro w2 μ2 H2 x2 R2 hk
 have e3:jmW [d,d'] μ2=some (jgs us ws):=jeV.mp hk
 simp only[jmW]at e3
 split at e3
 case h_2=>cases e3
 rename_i us' ws' e4 e5
 have hz:jgs us' ws'=jgs us ws:=by simpa using e3
 obtain⟨a',ys',ea,s3,l3⟩:=jfK R2 (h1.mono x2) e4
 obtain⟨b',zs',eb,s4,l4⟩:=jfK R2 (h2.mono x2) e5
 cases ea
 cases eb
 rw[<- hz]
 refine⟨⟨ys',zs',s3,s4,?_⟩,fun i d' hd=>?_⟩
 ·rw[jo4,jai l3,jai l4]
  omega
 ·obtain⟨x0,y0,g1,g2,rfl⟩:=jnS hd
  obtain⟨p1,p2,p3⟩:=jdx l3 g1
  obtain⟨q1,q2,q3⟩:=jdx l4 g2
  refine⟨⟨ys',zs',p1,q1,s3,s4,p2,q2⟩,fun x H3 y=>?_⟩
  obtain⟨p,u0,v0,rfl,hn,rfl,y1,y2⟩:=y
  have t1:=y1 ys' s3
  have t2:=y2 zs' s4
  rw[p2]at t1
  rw[q2]at t2
  cases t1
  cases t2
  obtain⟨R3,x3⟩:=R2.frz hn (.tup [p1,q1])
  refine⟨_,x3,R3,?_⟩
  unfold Den
  refine⟨p,_,rfl,SqT.of jaF,?_⟩
  unfold DenL
  exact⟨_,_,rfl,p3.mono x3,DenL.one (q3.mono x3)⟩
theorem jr5 {w:Wd}{n:Nat}{ok:M->Bool}{lo:Int}{m:Nat}:jrK K w n ok ((List.range m).map fun(k:Nat)=>.int (lo+(k:Int))) (Itr lo m):=by
 intro w2 μ2 H2 x2 R2 hk
 refine⟨(by show m<=_;simp),fun i d hd=>?_⟩
 have hi:i<m:=by
  have:=(j0r.mp hd).1
  simpa using this
 have ed:d=.int (lo+(i:Int)):=by
  have:((List.range m).map fun(k:Nat)=>D.int (lo+(k:Int)))[i]?=some (.int (lo+(i:Int))):=by simp[hi]
  rw[this]at hd
  exact(j0w hd).symm
 subst ed
 refine⟨hi,fun x H3 y=>?_⟩
 obtain⟨rfl,rfl⟩:=y
 exact⟨w2,Ext.refl _ _,R2,by unfold Den;rfl⟩
theorem jtx {tg:Expr} {p pos:Pos} {a:Expr} {r:S3->M->Out (List D)} (hg:jb0 X.env.scope "range" =true) (hm:X.mg "range" =none) (ha:PA X [a] (T3A X.K r)) (hs:jaG a=true) :
  PI X tg (.Call (.Name "range" p) [a] [] pos) (T3I X.K .rng1 r):=by
 refine imI (jmI hg hm ha hs) fun σ H R=>?_
 rintro⟨w,μ,ρ,ds,μ1,xs,Rp,S,e,ei,q⟩
 refine⟨w,μ,ρ,ds,μ1,Rp,S,e,fun w1 H1 vs x1 R1 d1=>?_⟩
 replace ei:jlw ds μ1=some xs:=ei
 unfold jlw at ei
 split at ei
 case h_2=>cases ei
 rename_i j
 split at ei
 case isFalse=>cases ei
 rename_i hj
 obtain⟨v,rfl,h1⟩:=jif d1
 unfold Den at h1
 subst h1
 have e0:xs=(List.range j.toNat).map fun(k:Nat)=>D.int (0+(k:Int)):=by
  have:=j0w ei
  rw[<- this]
  congr 1
  funext k
  rw[Int.zero_add]
 refine⟨j,rfl,hj.1,hj.2,q w1 H1 _ x1 R1 ?_⟩
 rw[e0]
 exact jr5
theorem jsL {tg:Expr} {p pos:Pos} {a b:Expr} {r:S3->M->Out (List D)} (hg:jb0 X.env.scope "range" =true) (hm:X.mg "range" =none) (ha:PA X [a,b] (T3A X.K r)) (hs:jag [a,b]=true) :
  PI X tg (.Call (.Name "range" p) [a,b] [] pos) (T3I X.K .rng2 r):=by
 refine imI (jmn hg hm ha hs) fun σ H R=>?_
 rintro⟨w,μ,ρ,ds,μ1,xs,Rp,S,e,ei,q⟩
 refine⟨w,μ,ρ,ds,μ1,Rp,S,e,fun w1 H1 vs x1 R1 d1=>?_⟩
 replace ei:jnI ds μ1=some xs:=ei
 unfold jnI at ei
 split at ei
 case h_2=>cases ei
 rename_i i j
 split at ei
 case isFalse=>cases ei
 rename_i hj
 obtain⟨v,u,rfl,h1,h2⟩:=jyd d1
 unfold Den at h1 h2
 subst h1 h2
 cases ei
 exact⟨i,j,rfl,hj,q w1 H1 _ x1 R1 jr5⟩
theorem jtF {tg it:Expr}{r:S3->M->Out D}(h:PE X it (T3E X.K r)):PI X tg it (T3I X.K .str (fun ρ μ=>(r ρ μ).bind fun d μ1=>(Out.ok [] μ1).bind fun ds μ2=>.ok (d::ds) μ2)):=by
 refine imI (jvy h) fun σ H R=>?_
 rintro⟨w,μ,ρ,ds,μ1,xs,Rp,S,e,ei,q⟩
 obtain⟨d,rfl,e1⟩:=jsk e
 refine⟨w,μ,ρ,d,μ1,Rp,S,e1,fun w1 H1 v x1 R1 d1=>?_⟩
 replace ei:juY [d] μ1=some xs:=ei
 unfold juY at ei
 split at ei
 case h_2=>cases ei
 rename_i z hz
 cases hz
 cases ei
 unfold Den at d1
 subst d1
 refine⟨z,rfl,q w1 H1 _ x1 R1 ?_⟩
 intro w2 μ2 H2 x2 R2 hk
 refine⟨?_,fun i d hd=>?_⟩
 ·show z.cps.size<=_
  simp
 ·have hd':(z.cps.toList.map fun c=>D.str ⟨#[c]⟩)[i]?=some d:=hd
  rw[j1g]at hd'
  cases e2:z.cps.toList[i]? with
  |none=>rw[e2]at hd';cases hd'
  |some c=>
   rw[e2]at hd'
   cases hd'
   have hi:i<z.cps.size:=by
    have:=(j0r.mp e2).1
    simpa using this
   refine⟨hi,fun x H3 y=>?_⟩
   obtain⟨rfl,c',hc',rfl⟩:=y
   have:z.cps[i]?=some c:=by
    rw[<- Array.getElem?_toList]
    exact e2
   rw[this]at hc'
   cases hc'
   exact⟨w2,Ext.refl _ _,R2,by unfold Den;rfl⟩
def jrZ (K:PySem.W.Frag)(tg:Tg)(g:TG):Prop:=∀(w:Wd) (μ:M) (H:Hp) (ρ ρ':S3) (σ:_L2.St) (d:D) (v:V) (Q:_L2.St->Hp->Prop),Rep K w μ H->jch K w μ.length ρ σ->Den K w μ.length d v->jl2 tg d ρ=some ρ'->(∀σ',jch K w μ.length ρ' σ'->Q σ' H)->g v σ H Q
theorem je4 {α:Type}{xs:List α}{i:Nat}(h:i<xs.length):∃d,xs[i]?=some d/\xs.drop i=d::xs.drop (i+1):=⟨xs[i],by simp[h],List.drop_eq_getElem_cons h⟩
theorem jqB {ok:M->Bool}{tg:Tg}{cond:S3->M->Out Bool}{elt:S3->M->Out D}{ρ:S3}{xs ys:List D}{μ μ':M}(e:jdO ok tg cond elt ρ xs μ=.ok ys μ'):ok μ=true:=by
 cases xs<;>(unfold jdO at e;split at e<;>first|assumption|cases e)
def jzp (K:PySem.W.Frag)(w1:Wd)(n1:Nat)(ok:M->Bool)(tg:Tg)(cond:S3->M->Out Bool)(elt:S3->M->Out D)(ρ:S3)(xs ys:List D)(μ2:M)(i:Nat)(vs:List V)(H:Hp):Prop:=
 i<=xs.length/\vs.length<=i/\∃(w2:Wd) (μ:M) (acc rest:List D),Ext w1 w2 n1 μ.length/\Rep K w2 μ H/\DenL K w2 μ.length acc vs/\jdO ok tg cond elt ρ (xs.drop i) μ=.ok rest μ2/\acc++rest=ys
theorem jpR {ok:M->Bool}{tg:Tg}{g:TG}{cond:S3->M->Out Bool}{elt:S3->M->Out D}{ρ:S3}{σ:_L2.St}{J:It}{k:Nat}{m:Bool}{xs ys:List D}{w1:Wd}{μ1 μ2 μ3:M}{H1:Hp}{d:D}{Q:VK}(hT:jrZ K tg g)(R1:Rep K w1 μ1 H1)(S1:jch K w1 μ1.length ρ σ)
  (hJ:jrK K w1 μ1.length ok xs J) (hz:xs.length<=sizeLine) (e:jdO ok tg cond elt (List.replicate k none++ρ) xs μ1=.ok ys μ2) (em:mkL m ys μ2=.ok d μ3) (q:jgf K w1 μ1.length d μ3 Q):Cmp J k g (T3T K cond) (T3E K elt) σ Q H1:=by
 refine⟨fun i n ys' H=>n=xs.length - i/\jzp K w1 μ1.length ok tg cond elt (List.replicate k none++ρ) xs ys μ2 i ys' H,
  ⟨xs.length,by simp,Nat.zero_le _,j0q _,w1,μ1,[],ys,Ext.refl _ _,R1,by unfold DenL;rfl,e,rfl⟩,?_⟩
 rintro i n ys' H ⟨rfl,hi,hy,w2,μ,acc,rest,x2,R2,l2,ec,ea⟩
 have hok:=jqB ec
 obtain⟨hstop,hgo⟩:=hJ w2 μ H x2 R2 hok
 by_cases hlt:i<xs.length
 ·obtain⟨d0,hd0,hdr⟩:=je4 hlt
  obtain⟨g1,g2⟩:=hgo i d0 hd0
  rw[hdr]at ec
  unfold jdO at ec
  rw[if_pos hok]at ec
  split at ec
  ·rename_i ρ1 has
   obtain⟨b,μa,eb,ec⟩:=Out.bind_ok ec
   refine .inr ⟨g1,by omega,fun y H'=>jzp K w1 μ1.length ok tg cond elt (List.replicate k none++ρ) xs ys μ2 (i+1) (ys'++[y]) H',jzp K w1 μ1.length ok tg cond elt (List.replicate k none++ρ) xs ys μ2 (i+1) ys',
    fun y H' r=>⟨xs.length - (i+1),by omega,rfl,r⟩,fun H' r=>⟨xs.length - (i+1),by omega,rfl,r⟩,fun x H3 hyl=>?_⟩
   obtain⟨w3,x3,R3,d3⟩:=g2 x H3 hyl
   refine hT w3 μ H3 _ ρ1 _ d0 x _ R3 ((S1.mono (x2.trans x3)).blank k) d3 has fun σ2 S2=>?_
   refine⟨w3,μ,ρ1,b,μa,R3,S2,eb,fun w4 H4 x4 R4=>?_⟩
   have x14:=(x2.trans x3).trans x4
   dsimp only
   cases b with
   |false=>
    rw[if_neg j0g]
    rw[if_neg j0g]at ec
    exact⟨hlt,by omega,w4,μa,acc,rest,x14,R4,l2.mono (x3.trans x4),ec,ea⟩
   |true=>
    rw[if_pos rfl]
    rw[if_pos rfl]at ec
    obtain⟨y,μb,ey,ec⟩:=Out.bind_ok ec
    obtain⟨zs,μc,ez,ec⟩:=Out.bind_ok ec
    cases ec
    refine⟨w4,μa,ρ1,y,μb,R4,S2.mono x4,ey,fun w5 H5 v5 x5 R5 d5=>?_⟩
    exact⟨hlt,by simp;omega,w5,μb,acc++[y],zs,x14.trans x5,R5,(l2.mono ((x3.trans x4).trans x5)).append (DenL.one d5),ez,by rw[j0J];exact ea⟩
  ·cases ec
 ·have ei:i=xs.length:=by omega
  subst ei
  rw[List.drop_length]at ec
  unfold jdO at ec
  rw[if_pos hok]at ec
  cases ec
  rw[j0l]at ea
  subst ea
  exact .inl ⟨hstop,jdD R2 l2 em fun w3 H3 v x3 R3 d3=>q w3 H3 v (x2.trans x3) R3 d3⟩
theorem jtI {ok:M->Bool}{tg:Tg}{body:S3->M->Out Fl}{fg:List Nat}{xs:List D}{ρ:S3}{μ μ':M}{fl:Fl}(e:jds ok tg body fg xs ρ μ=.ok fl μ'):ok μ=true:=by
 cases xs<;>(unfold jds at e;split at e<;>first|assumption|cases e)
def jzY (K:PySem.W.Frag)(w1:Wd)(n1:Nat)(ok:M->Bool)(tg:Tg)(body:S3->M->Out Fl)(fg:List Nat)(xs:List D)(fl:Fl)(μ2:M)(i:Nat)(σ:_L2.St)(H:Hp):Prop:=
 i<=xs.length/\∃(w2:Wd) (μ:M) (ρ':S3),Ext w1 w2 n1 μ.length/\Rep K w2 μ H/\jch K w2 μ.length ρ' σ/\jds ok tg body fg (xs.drop i) ρ' μ=.ok fl μ2
theorem jt9 {ok:M->Bool}{tg:Tg}{g:TG}{body:S3->M->Out Fl}{fg:List Nat}{ρ:S3}{σ:_L2.St}{J:It}{xs:List D}{w1:Wd}{μ1 μ2:M}{H1:Hp}{fl:Fl}{E:Ends}(hT:jrZ K tg g)(R1:Rep K w1 μ1 H1)(S1:jch K w1 μ1.length ρ σ)
  (hJ:jrK K w1 μ1.length ok xs J) (e:jds ok tg body fg xs ρ μ1=.ok fl μ2) (q:∀w' H',Ext w1 w' μ1.length μ2.length->Rep K w' μ2 H'->jyK K w' μ2.length H' E fl):Lop J g (T3S K body) E σ H1:=by
 refine⟨fun i n σ' H=>n=xs.length - i/\jzY K w1 μ1.length ok tg body fg xs fl μ2 i σ' H,
  ⟨xs.length,by simp,Nat.zero_le _,w1,μ1,ρ,Ext.refl _ _,R1,S1,e⟩,?_⟩
 rintro i n σ' H ⟨rfl,hi,w2,μ,ρ',x2,R2,S2,ef⟩
 have hok:=jtI ef
 obtain⟨hstop,hgo⟩:=hJ w2 μ H x2 R2 hok
 by_cases hlt:i<xs.length
 ·obtain⟨d0,hd0,hdr⟩:=je4 hlt
  obtain⟨g1,g2⟩:=hgo i d0 hd0
  rw[hdr]at ef
  unfold jds at ef
  rw[if_pos hok]at ef
  split at ef
  ·rename_i ρ1 has
   refine .inr ⟨g1,jzY K w1 μ1.length ok tg body fg xs fl μ2 (i+1),
    fun σ'' H' r=>⟨xs.length - (i+1),by omega,rfl,r⟩,fun x H3 hyl=>?_⟩
   obtain⟨w3,x3,R3,d3⟩:=g2 x H3 hyl
   refine hT w3 μ H3 _ ρ1 _ d0 x _ R3 (S2.mono x3) d3 has fun σ2 S3'=>?_
   split at ef
   ·rename_i ρ2 μa eb
    refine⟨w3,μ,ρ1,.nx ρ2,μa,R3,S3',eb,fun w4 H4 x4 R4 σ4 S4=>?_⟩
    exact⟨hlt,w4,μa,_,(x2.trans x3).trans x4,R4,S4.forget fg,ef⟩
   ·rename_i ρ2 μa eb
    refine⟨w3,μ,ρ1,.ct ρ2,μa,R3,S3',eb,fun w4 H4 x4 R4 σ4 S4=>?_⟩
    exact⟨hlt,w4,μa,_,(x2.trans x3).trans x4,R4,S4.forget fg,ef⟩
   ·rename_i ρ2 μa eb
    cases ef
    refine⟨w3,μ,ρ1,.bk ρ2,_,R3,S3',eb,fun w4 H4 x4 R4 σ4 S4=>?_⟩
    exact q w4 H4 ((x2.trans x3).trans x4) R4 σ4 (S4.forget fg)
   ·rename_i d μa eb
    cases ef
    refine⟨w3,μ,ρ1,.rt d,_,R3,S3',eb,fun w4 H4 x4 R4 v4 d4=>?_⟩
    exact q w4 H4 ((x2.trans x3).trans x4) R4 v4 d4
   ·cases ef
   ·cases ef
  ·cases ef
 ·have ei:i=xs.length:=by omega
  subst ei
  rw[List.drop_length]at ef
  unfold jds at ef
  rw[if_pos hok]at ef
  cases ef
  exact .inl ⟨hstop,q w2 H x2 R2 σ' (S2.forget fg)⟩
end
mutual
noncomputable def Bel (n:Nat):D->Prop
 |.tup ds=>BelL n ds
 |.lst ds=>BelL n ds
 |.scr ds=>BelL n ds
 |.dK _ vs=>BelL n vs
 |.dT _ vs=>BelL n vs
 |.dF _ vs=>BelL n vs
 |.obj _ _ ds=>BelL n ds
 |.cel k=>k<n
 |.non=>True
 |.bl _=>True
 |.int _=>True
 |.str _=>True
 |.ty _=>True
noncomputable def BelL (n:Nat):List D->Prop
 |[]=>True
 |d::ds=>Bel n d/\BelL n ds
end
section
variable {K:PySem.W.Frag}
mutual
theorem juA {w:Wd}{n:Nat}:∀{d:D} {v:V},Den K w n d v->Bel n d
 |.non,_,_=>by unfold Bel;trivial
 |.bl _,_,_=>by unfold Bel;trivial
 |.int _,_,_=>by unfold Bel;trivial
 |.str _,_,_=>by unfold Bel;trivial
 |.ty _,_,_=>by unfold Bel;trivial
 |.tup ds,_,h=>by unfold Den at h;unfold Bel;obtain⟨_,_,_,_,h⟩:=h;exact denL_bel h
 |.lst ds,_,h=>by unfold Den at h;unfold Bel;obtain⟨_,_,_,_,h⟩:=h;exact denL_bel h
 |.scr ds,_,h=>by unfold Den at h;unfold Bel;obtain⟨_,_,_,_,h⟩:=h;exact denL_bel h
 |.dK _ ds,_,h=>by unfold Den at h;unfold Bel;obtain⟨_,_,_,_,_,h⟩:=h;exact denL_bel h
 |.dT _ ds,_,h=>by unfold Den at h;unfold Bel;obtain⟨_,_,_,_,_,h⟩:=h;exact denL_bel h
 |.dF _ ds,_,h=>by unfold Den at h;unfold Bel;obtain⟨_,_,_,_,_,_,_,_,_,h⟩:=h;exact denL_bel h
 |.obj _ _ ds,_,h=>by unfold Den at h;unfold Bel;obtain⟨_,_,_,_,_,_,h⟩:=h;exact denL_bel h
 |.cel k,_,h=>by unfold Den at h;unfold Bel;exact h.1
theorem denL_bel {w:Wd}{n:Nat}:∀{ds:List D} {vs:List V},DenL K w n ds vs->BelL n ds
 |[],_,_=>by unfold BelL;trivial
 |d::ds,_,h=>by unfold DenL at h;unfold BelL;obtain⟨_,_,_,h1,h2⟩:=h;exact⟨juA h1,denL_bel h2⟩
end
section
variable {w' w'':Wd} {n' n0 n'':Nat} (hz:jfA w'.Z w''.Z) (hg:∀i,i<n0->w''.γ i=w'.γ i) (hn:n0<=n'')
include hz hg hn
mutual
theorem jum:∀{d:D} {v:V},Den K w' n' d v->Bel n0 d->Den K w'' n'' d v
 |.non,_,h,_=>by unfold Den at h ⊢;exact h
 |.bl _,_,h,_=>by unfold Den at h ⊢;exact h
 |.int _,_,h,_=>by unfold Den at h ⊢;exact h
 |.str _,_,h,_=>by unfold Den at h ⊢;exact h
 |.ty _,_,h,_=>by unfold Den at h ⊢;exact h
 |.tup ds,_,h,b=>by unfold Den at h ⊢;unfold Bel at b;obtain⟨a,xs,h1,h2,h3⟩:=h;exact⟨a,xs,h1,hz.tup h2,denL_shr h3 b⟩
 |.lst ds,_,h,b=>by unfold Den at h ⊢;unfold Bel at b;obtain⟨a,xs,h1,h2,h3⟩:=h;exact⟨a,xs,h1,hz _ _ h2,denL_shr h3 b⟩
 |.scr ds,_,h,b=>by unfold Den at h ⊢;unfold Bel at b;obtain⟨a,xs,h1,h2,h3⟩:=h;exact⟨a,xs,h1,hz.seq h2,denL_shr h3 b⟩
 |.dK _ ds,_,h,b=>by unfold Den at h ⊢;unfold Bel at b;obtain⟨a,xs,h1,h2,h3,h4⟩:=h;exact⟨a,xs,h1,h2,hz _ _ h3,denL_shr h4 b⟩
 |.dT _ ds,_,h,b=>by unfold Den at h ⊢;unfold Bel at b;obtain⟨a,xs,h1,h2,h3,h4⟩:=h;exact⟨a,xs,h1,h2,hz _ _ h3,denL_shr h4 b⟩
 |.dF _ ds,_,h,b=>by unfold Den at h ⊢;unfold Bel at b;obtain⟨a,o,es,ep,xs,h1,h2,h3,h4,h5⟩:=h;exact⟨a,o,es,ep,xs,h1,h2,h3,hz _ _ h4,denL_shr h5 b⟩
 |.obj _ _ ds,_,h,b=>by unfold Den at h ⊢;unfold Bel at b;obtain⟨a,dx,xs,h1,h2,h3,h4⟩:=h;exact⟨a,dx,xs,h1,h2,hz _ _ h3,denL_shr h4 b⟩
 |.cel k,_,h,b=>by unfold Den at h ⊢;unfold Bel at b;exact⟨j0m b hn,by rw[hg k b];exact h.2⟩
theorem denL_shr:∀{ds:List D} {vs:List V},DenL K w' n' ds vs->BelL n0 ds->DenL K w'' n'' ds vs
 |[],_,h,_=>by unfold DenL at h ⊢;exact h
 |d::ds,_,h,b=>by unfold DenL at h ⊢;unfold BelL at b;obtain⟨v,ws,h1,h2,h3⟩:=h;exact⟨v,ws,h1,jum h2 b.1,denL_shr h3 b.2⟩
end
end
theorem ja1 {α β:Type}{o:Option α}{f:α->β}{b:β}(h:o.map f=some b):∃a,o=some a/\b=f a:=by
 cases o with
 |none=>cases h
 |some a=>exact⟨a,rfl,by cases h;rfl⟩
section
variable {w' w'':Wd} {n' n'':Nat} {h:Nat->Option D} (hz:jfA w'.Z w''.Z) (hk:∀k d',h k=some d'->k<n'->Den K w'' n'' d' (.ref (w'.γ k)))
include hz hk
mutual
theorem jlm:∀{d d':D} {v:V},jcs h d=some d'->Den K w' n' d v->Den K w'' n'' d' v
 |.non,_,_,e,q=>by unfold jcs at e;cases e;unfold Den at q ⊢;exact q
 |.bl _,_,_,e,q=>by unfold jcs at e;cases e;unfold Den at q ⊢;exact q
 |.int _,_,_,e,q=>by unfold jcs at e;cases e;unfold Den at q ⊢;exact q
 |.str _,_,_,e,q=>by unfold jcs at e;cases e;unfold Den at q ⊢;exact q
 |.ty _,_,_,e,q=>by unfold jcs at e;cases e;unfold Den at q ⊢;exact q
 |.tup ds,_,_,e,q=>by
  unfold jcs at e
  obtain⟨es,e1,rfl⟩:=ja1 e
  unfold Den at q ⊢
  obtain⟨a,xs,h1,h2,h3⟩:=q
  exact⟨a,xs,h1,hz.tup h2,frzGs_den e1 h3⟩
 |.lst ds,_,_,e,q=>by
  unfold jcs at e
  obtain⟨es,e1,rfl⟩:=ja1 e
  unfold Den at q ⊢
  obtain⟨a,xs,h1,h2,h3⟩:=q
  exact⟨a,xs,h1,hz _ _ h2,frzGs_den e1 h3⟩
 |.scr ds,_,_,e,q=>by
  unfold jcs at e
  obtain⟨es,e1,rfl⟩:=ja1 e
  unfold Den at q ⊢
  obtain⟨a,xs,h1,h2,h3⟩:=q
  exact⟨a,xs,h1,hz.seq h2,frzGs_den e1 h3⟩
 |.dK ks ds,_,_,e,q=>by
  unfold jcs at e
  obtain⟨es,e1,rfl⟩:=ja1 e
  unfold Den at q ⊢
  obtain⟨a,xs,h1,h2,h3,h4⟩:=q
  have h5:=frzGs_den e1 h4
  exact⟨a,xs,h1,by rw[h2,jai h4,jai h5],hz _ _ h3,h5⟩
 |.dT ks ds,_,_,e,q=>by
  unfold jcs at e
  obtain⟨es,e1,rfl⟩:=ja1 e
  unfold Den at q ⊢
  obtain⟨a,xs,h1,h2,h3,h4⟩:=q
  have h5:=frzGs_den e1 h4
  exact⟨a,xs,h1,by rw[h2,jai h4,jai h5],hz _ _ h3,h5⟩
 |.dF ks ds,_,_,e,q=>by
  unfold jcs at e
  obtain⟨es,e1,rfl⟩:=ja1 e
  unfold Den at q ⊢
  obtain⟨a,o,es,ep,xs,h1,h2,h3,h4,h5⟩:=q
  have h6:=frzGs_den e1 h5
  exact⟨a,o,es,ep,xs,h1,by rw[h2,jai h5,jai h6],h3,hz _ _ h4,h6⟩
 |.obj C fs ds,_,_,e,q=>by
  unfold jcs at e
  obtain⟨es,e1,rfl⟩:=ja1 e
  unfold Den at q ⊢
  obtain⟨a,dx,xs,h1,h2,h3,h4⟩:=q
  have h5:=frzGs_den e1 h4
  exact⟨a,dx,xs,h1,by rw[h2,jai h4,jai h5],hz _ _ h3,h5⟩
 |.cel k,_,_,e,q=>by
  unfold jcs at e
  unfold Den at q
  rw[q.2]
  exact hk k _ e q.1
theorem frzGs_den:∀{ds es:List D} {vs:List V},frzGs h ds=some es->DenL K w' n' ds vs->DenL K w'' n'' es vs
 |[],_,_,e,q=>by unfold frzGs at e;cases e;unfold DenL at q ⊢;exact q
 |d::ds,_,_,e,q=>by
  unfold frzGs at e
  split at e
  ·rename_i e1 es1 q1 q2
   cases e
   unfold DenL at q ⊢
   obtain⟨v,ws,h1,h2,h3⟩:=q
   exact⟨v,ws,h1,jlm q1 h2,frzGs_den q2 h3⟩
  ·cases e
end
end
theorem jnO {w:Wd}{n:Nat}{H:Hp}{a:Addr}{c:Cl}(h:Holds K w n H a c):(match c with|.lst ds=>BelL n ds|.dK _ vs=>BelL n vs|.dT _ vs=>BelL n vs|.obj _ _ ds=>BelL n ds):=by
 cases c with
 |lst ds=>obtain⟨_,_,h⟩:=h;exact denL_bel h
 |dK ks vs=>obtain⟨_,_,_,h⟩:=h;exact denL_bel h
 |dT ks vs=>obtain⟨_,_,_,h⟩:=h;exact denL_bel h
 |obj C fs ds=>obtain⟨_,_,_,_,h⟩:=h;exact denL_bel h
theorem jj2 {μ:M}{n0:Nat}{ks:List Nat}:∀{r:List Nat} {cs:List (List D)},jmm μ n0 ks r=some cs->r.length=cs.length/\∀(j k:Nat),r[j]?=some k->∃ds c,μ[k]?=some (some (.lst ds))/\frzGs (jku μ n0 ks 4) ds=some c/\cs[j]?=some c
 |[],_,e=>by unfold jmm at e;cases e;exact⟨rfl,fun j k h=>by simp at h⟩
 |k::r,_,e=>by
  unfold jmm at e
  split at e
  ·rename_i ds hk
   split at e
   ·rename_i c cs e1 e2
    cases e
    obtain⟨i1,i2⟩:=jj2 e2
    refine⟨by rw[j0b,j0b,i1],fun j k' h=>?_⟩
    cases j with
    |zero=>
     simp only[j0F,j0v]at h
     subst h
     exact⟨ds,c,hk,e1,rfl⟩
    |succ j=>
     obtain⟨ds',c',g1,g2,g3⟩:=i2 j k' (by simpa using h)
     exact⟨ds',c',g1,g2,by simpa using g3⟩
   ·cases e
  ·cases e
theorem jlY:∀{l:List Nat} {i j k:Nat},l.Nodup->l[i]?=some k->l[j]?=some k->i=j
 |[],_,_,_,_,h,_=>by simp at h
 |x::l,0,0,_,_,_,_=>rfl
 |x::l,0,j+1,k,nd,h1,h2=>by
  simp only[j0F,j0v]at h1
  subst h1
  exact absurd (j0C (by simpa using h2)) (j1r.mp nd).1
 |x::l,i+1,0,k,nd,h1,h2=>by
  simp only[j0F,j0v]at h2
  subst h2
  exact absurd (j0C (by simpa using h1)) (j1r.mp nd).1
 |x::l,i+1,j+1,k,nd,h1,h2=>congrArg (· + 1) (jlY (i:=i) (j:=j) (k:=k) (j1r.mp nd).2 (by simpa using h1) (by simpa using h2))
open Classical in
theorem jrR {w w':Wd}{μ μ':M}{H H':Hp}{keep:List Nat}{cs:List (List D)}(R:Rep K w μ H)(x:Ext w w' μ.length μ'.length)(R':Rep K w' μ' H')(ht:μ'.take μ.length=μ)(nd:keep.Nodup)(ge:∀k∈keep,μ.length<=k)
  (hc:jmm μ' μ.length keep keep=some cs):∃w'':Wd,Ext w w'' μ.length (μ++cs.map fun xs=>some (Cl.lst xs)).length/\Rep K w'' (μ++cs.map fun xs=>some (Cl.lst xs)) H' /\
   (∀d d' v,Den K w' μ'.length d v->jcs (jku μ' μ.length keep 4) d=some d'->Den K w'' (μ++cs.map fun xs=>some (Cl.lst xs)).length d' v) /\
   (∀k d',k<μ'.length->jqh μ.length keep k=some d'->Den K w'' (μ++cs.map fun xs=>some (Cl.lst xs)).length d' (.ref (w'.γ k)))/\jfA w'.Z w''.Z:=by
 obtain⟨kl,kg⟩:=jj2 hc
 have hlen:(μ++cs.map fun xs=>some (Cl.lst xs)).length=μ.length+cs.length:=by simp
 have hpre:∀i,i<μ.length->μ'[i]?=μ[i]?:=fun i hi=>by
  have:=congrArg (fun l=>l[i]?) ht
  simp only[List.getElem?_take,hi,if_true]at this
  exact this
 have hg:∀i,(if i<μ.length then w'.γ i else w'.γ (keep.getD (i - μ.length) 0))=(fun i=>if i<μ.length then w'.γ i else w'.γ (keep.getD (i - μ.length) 0)) i:=fun _=>rfl
 generalize hw:(⟨fun a=>match w'.Z a with
   |some o=>some o
   |none=>if(∃k c,μ.length<=k/\k∉keep/\μ'[k]?=some (some c)/\w'.γ k=a)then H' a else none,fun i=>if i<μ.length then w'.γ i else w'.γ (keep.getD (i - μ.length) 0)⟩:Wd)=w''
 have gLo:∀i,i<μ.length->w''.γ i=w'.γ i:=fun i hi=>by subst hw;exact if_pos hi
 have gHi:∀j k,keep[j]?=some k->w''.γ (μ.length+j)=w'.γ k:=fun j k hj=>by
  subst hw
  show(if μ.length+j<μ.length then _ else w'.γ (keep.getD (μ.length+j - μ.length) 0))=_
  rw[if_neg (by omega),Nat.add_sub_cancel_left]
  simp[hj]
 have zs:jfA w'.Z w''.Z:=fun a o h=>by
  subst hw
  show(match w'.Z a with|some o=>some o|none=>_)=some o
  rw[h]
 have zH:∀a o,w''.Z a=some o->H' a=some o:=fun a o h=>by
  subst hw
  replace h:(match w'.Z a with|some o=>some o|none=>if(∃k c,μ.length<=k/\k∉keep/\μ'[k]?=some (some c)/\w'.γ k=a)then H' a else none)=some o:=h
  cases e:w'.Z a with
  |some o'=>
   rw[e]at h
   cases h
   exact R'.sub _ _ e
  |none=>
   rw[e]at h
   dsimp only at h
   split at h
   ·exact h
   ·cases h
 have zF:∀k c,μ.length<=k->k∉keep->μ'[k]?=some (some c)->w''.Z (w'.γ k)=H' (w'.γ k):=fun k c h1 h2 h3=>by
  subst hw
  show(match w'.Z (w'.γ k)with|some o=>some o|none=>if(∃k' c,μ.length<=k'/\k'∉keep/\μ'[k']?=some (some c)/\w'.γ k'=w'.γ k)then H' (w'.γ k)else none)=_
  rw[(R'.liv k c h3).1]
  exact if_pos ⟨k,c,h1,h2,h3,rfl⟩
 have zN:∀j c,(j<μ.length∨j∈keep)->μ'[j]?=some (some c)->w''.Z (w'.γ j)=none:=fun j c h1 h3=>by
  subst hw
  show(match w'.Z (w'.γ j)with|some o=>some o|none=>if(∃k' c,μ.length<=k'/\k'∉keep/\μ'[k']?=some (some c)/\w'.γ k'=w'.γ j)then H' (w'.γ j)else none)=_
  rw[(R'.liv j c h3).1]
  refine if_neg ?_
  rintro⟨k,c',g1,g2,g3,g4⟩
  have:=R'.inj k j c' c g3 h3 g4
  subst this
  rcases h1 with h1|h1
  ·omega
  ·exact g2 h1
 have nle:μ.length<=(μ++cs.map fun xs=>some (Cl.lst xs)).length:=by rw[hlen];exact j05 _ _
 have fK:∀(f k:Nat) (d':D),jku μ' μ.length keep f k=some d'->k<μ'.length->Den K w'' (μ++cs.map fun xs=>some (Cl.lst xs)).length d' (.ref (w'.γ k)):=by
  intro f
  induction f with
  |zero=>
   intro k d' e hk
   unfold jku at e
   split at e
   ·rename_i h0
    cases e
    unfold Den
    exact⟨j0m h0 nle,by rw[gLo k h0]⟩
   ·split at e
    ·cases e
    ·cases e
  |succ f ih=>
   intro k d' e hk
   unfold jku at e
   split at e
   ·rename_i h0
    cases e
    unfold Den
    exact⟨j0m h0 nle,by rw[gLo k h0]⟩
   ·rename_i h0
    split at e
    ·cases e
    ·rename_i h1
     dsimp only at e
     split at e
     ·rename_i ds hk'
      obtain⟨es,e1,rfl⟩:=ja1 e
      obtain⟨xs,g1,g2⟩:=(R'.liv k _ hk').2
      have g3:=frzGs_den zs ih e1 g2
      unfold Den
      exact⟨_,xs,rfl,(zF k _ (by omega) h1 hk').trans g1,g3⟩
     ·rename_i ks ds hk'
      obtain⟨es,e1,rfl⟩:=ja1 e
      obtain⟨xs,g0,g1,g2⟩:=(R'.liv k _ hk').2
      have g3:=frzGs_den zs ih e1 g2
      unfold Den
      exact⟨_,xs,rfl,by rw[g0,jai g2,jai g3],(zF k _ (by omega) h1 hk').trans g1,g3⟩
     ·rename_i ks ds hk'
      obtain⟨es,e1,rfl⟩:=ja1 e
      obtain⟨xs,g0,g1,g2⟩:=(R'.liv k _ hk').2
      have g3:=frzGs_den zs ih e1 g2
      unfold Den
      exact⟨_,xs,rfl,by rw[g0,jai g2,jai g3],(zF k _ (by omega) h1 hk').trans g1,g3⟩
     ·rename_i C fs ds hk'
      obtain⟨es,e1,rfl⟩:=ja1 e
      obtain⟨dx,xs,g0,g1,g2⟩:=(R'.liv k _ hk').2
      have g3:=frzGs_den zs ih e1 g2
      unfold Den
      exact⟨_,dx,xs,rfl,by rw[g0,jai g2,jai g3],(zF k _ (by omega) h1 hk').trans g1,g3⟩
     ·cases e
 have hcell:∀(i:Nat) (c:Cl),(μ++cs.map fun xs=>some (Cl.lst xs))[i]?=some (some c)->(i<μ.length/\μ'[i]?=some (some c))∨∃j k ds es,i=μ.length+j/\keep[j]?=some k/\μ'[k]?=some (some (.lst ds))/\frzGs (jku μ' μ.length keep 4) ds=some es/\c=.lst es:=fun i c h=>by
  by_cases hi:i<μ.length
  ·rw[j0Z hi]at h
   exact .inl ⟨hi,by rw[hpre i hi];exact h⟩
  ·rw[j1l (by omega),j1g]at h
   cases e:cs[i - μ.length]? with
   |none=>rw[e]at h;cases h
   |some es=>
    rw[e]at h
    have hj:i - μ.length<keep.length:=by
     rw[kl]
     exact(j0r.mp e).1
    obtain⟨ds,es',g1,g2,g3⟩:=kg (i - μ.length) keep[i - μ.length] (by simp[hj])
    rw[e]at g3
    cases g3
    exact .inr ⟨i - μ.length,_,ds,es,by omega,by simp[hj],g1,g2,by simpa using h.symm⟩
 refine⟨w'',⟨x.z.trans zs,fun i hi=>(gLo i hi).trans (x.g i hi),nle⟩,⟨fun a o h=>zH a o h,fun i c h=>?_,fun i j ci cj hi hj e=>?_⟩,fun d d' v hd e=>jlm zs (fK 4) e hd,fun k d' hk e=>?_,zs⟩
 ·rcases hcell i c h with⟨hi,h'⟩|⟨j,k,ds,es,rfl,g1,g2,g3,rfl⟩
  ·rw[gLo i hi]
   refine⟨zN i c (.inl hi) h',?_⟩
   have b:=jnO (R.liv i c (by rw[<- hpre i hi];exact h')).2
   have hh:=(R'.liv i c h').2
   cases c with
   |lst ds=>obtain⟨xs,g1,g2⟩:=hh;exact⟨xs,g1,denL_shr zs gLo nle g2 b⟩
   |dK ks vs=>obtain⟨xs,g0,g1,g2⟩:=hh;exact⟨xs,g0,g1,denL_shr zs gLo nle g2 b⟩
   |dT ks vs=>obtain⟨xs,g0,g1,g2⟩:=hh;exact⟨xs,g0,g1,denL_shr zs gLo nle g2 b⟩
   |obj C fs ds=>obtain⟨dx,xs,g0,g1,g2⟩:=hh;exact⟨dx,xs,g0,g1,denL_shr zs gLo nle g2 b⟩
  ·rw[gHi j k g1]
   have hk:k∈keep:=j0C g1
   obtain⟨xs,q1,q2⟩:=(R'.liv k _ g2).2
   exact⟨zN k _ (.inr hk) g2,xs,q1,frzGs_den zs (fK 4) g3 q2⟩
 ·rcases hcell i ci hi with⟨hi',h1⟩|⟨j1,k1,ds1,es1,rfl,a1,a2,_,_⟩<;>rcases hcell j cj hj with⟨hj',h2⟩|⟨j2,k2,ds2,es2,rfl,b1,b2,_,_⟩
  ·rw[gLo i hi',gLo j hj']at e
   exact R'.inj i j _ _ h1 h2 e
  ·rw[gLo i hi',gHi j2 k2 b1]at e
   have:=R'.inj i k2 _ _ h1 b2 e
   have:=ge k2 (j0C b1)
   omega
  ·rw[gHi j1 k1 a1,gLo j hj']at e
   have:=R'.inj k1 j _ _ a2 h2 e
   have:=ge k1 (j0C a1)
   omega
  ·rw[gHi j1 k1 a1,gHi j2 k2 b1]at e
   have hk:=R'.inj k1 k2 _ _ a2 b2 e
   subst hk
   rw[jlY nd a1 b1]
 ·unfold jqh at e
  obtain⟨j,e1,rfl⟩:=ja1 e
  have hj:keep[j]?=some k:=by
   have:=List.idxOf?_eq_some_iff.mp e1
   obtain⟨h1,h2,_⟩:=this
   exact j0r.mpr ⟨h1,by simpa using h2⟩
  unfold Den
  refine⟨?_,by rw[gHi j k hj]⟩
  rw[hlen,<- kl]
  have:=(j0r.mp hj).1
  omega
end
structure Stt where
 N:List Str
 sc:Scope
 cmp:Bool
noncomputable def jdP:List Str:=["len","sum","min","max","list","tuple","int","all","isinstance","range","str","enumerate","zip","bool","dict","set"]
noncomputable def jjm (c:Stt)(i:Nat)(e:Expr):Bool:=
 match e with
 |.Name x _=>if c.cmp then jpN c.N c.sc i x else jgP c.N c.sc i x
 |_=>false
noncomputable def jqn (c:Stt):List Nat->List Expr->Bool
 |[],[]=>true
 |i::is,e::es=>jjm c i e&&jqn c is es
 |_,_=>false
noncomputable def jdU (c:Stt)(tg:Tg)(e:Expr):Bool:=
 match tg,e with
 |.nm i,e=>jjm c i e
 |.tp is,.Tuple es _ _=>jqn c is es&&jag es
 |_,_=>false
noncomputable def jsf:Expr->Bool
 |.Tuple ..=>true
 |_=>false
noncomputable def jew:Expr->Option Str
 |.Name x _=>some x
 |_=>none
theorem jdT {e:Expr}{x:Str}(h:jew e=some x):∃p,e=.Name x p:=by
 unfold jew at h
 split at h
 ·cases h
  exact⟨_,rfl⟩
 ·cases h
noncomputable def jeA:Expr->Option (Str×List Expr)
 |.Call f as ks _=>match ks with
  |[]=>match jew f with
   |some x=>some (x,as)
   |none=>none
  |_=>none
 |_=>none
theorem jcc {e:Expr}{x:Str}{as:List Expr}(h:jeA e=some (x,as)):∃p q,e=.Call (.Name x p) as [] q:=by
 unfold jeA at h
 split at h
 ·split at h
  ·split at h
   ·rename_i y hy
    cases h
    obtain⟨p,rfl⟩:=jdT hy
    exact⟨p,_,rfl⟩
   ·cases h
  ·cases h
 ·cases h
noncomputable def jlL:Expr->Option (Expr×Expr×Expr)
 |.Subscript x y _=>match y with
  |.Slice l u s _=>match l,u,s with
   |some a,none,some b=>some (x,a,b)
   |_,_,_=>none
  |_=>none
 |_=>none
theorem jnj {e x a b:Expr}(h:jlL e=some (x,a,b)):∃p q,e=.Subscript x (.Slice (some a) none (some b) p) q:=by
 unfold jlL at h
 split at h
 ·split at h
  ·split at h
   ·cases h
    exact⟨_,_,rfl⟩
   ·cases h
  ·cases h
 ·cases h
noncomputable def jcW (c:Stt)(ik:IK)(tg it:Expr):Option (List Expr):=
 match ik with
 |.seq=>some [it]
 |.str=>some [it]
 |.items=>none
 |.enm=>match jeA it with
  |some (x,[a])=>if x == "enumerate" && jb0 c.sc "enumerate" && jaG a&&jsf tg then some [a]else none
  |_=>none
 |.zip=>match jeA it with
  |some (x,[a,b])=>if x == "zip" && jb0 c.sc "zip" && jag [a,b]&&jsf tg then some [a,b]else none
  |_=>none
 |.rng1=>match jeA it with
  |some (x,[a])=>if x == "range" && jb0 c.sc "range" && jaG a then some [a]else none
  |_=>none
 |.rng2=>match jeA it with
  |some (x,[a,b])=>if x == "range" && jb0 c.sc "range" && jag [a,b]then some [a,b]else none
  |_=>none
noncomputable def jk2:Bi->Str
 |.len=>"len" |.sum=>"sum" |.min2=>"min" |.max2=>"max" |.list=>"list" |.tuple=>"tuple" |.int=>"int" |.all=>"all" |.isT _=>"isinstance" |.isT2 _ _=>"isinstance" |.listRange=>"list" |.str=>"str" |.lenSet=>"len" |.dictZip=>"dict"
noncomputable def jf2 (c:Stt)(b:Bi)(as:List Expr):Option (List Expr):=
 match b with
 |.isT n=>match as with
  |[a,t]=>match jew t with
   |some x=>if x==Str.ofString n&&jb0 c.sc x&&isTn n&&jaG a then some [a]else none
   |none=>none
  |_=>none
 |.isT2 _ _=>none
 |.listRange=>none
 |.lenSet=>match as with
  |[e]=>match jeA e with
   |some (x,[a])=>if x == "set" && jb0 c.sc "set" && jaG a then some [a]else none
   |_=>none
  |_=>none
 |.dictZip=>match as with
  |[e]=>match jeA e with
   |some (x,[a,b])=>if x == "zip" && jb0 c.sc "zip" && jag [a,b]then some [a,b]else none
   |_=>none
  |_=>none
 |_=>some as
where isTn (n:String):Bool:=n == "int" ||n == "bool" ||n == "str" ||n == "tuple"
noncomputable def jlU:Mt->Str
 |.append=>"append" |.extend=>"extend" |.join=>"join" |.split=>"split"
noncomputable def jbj:Expr->List Str
 |.Name x _=>[x]
 |.Tuple es _ _=>es.filterMap fun e=>match e with
  |.Name x _=>some x
  |_=>none
 |_=>[]
noncomputable def jdW (own N:List Str):List Str:=own++N.map fun x=>if own.contains x then Str.ofString "?" ++ x else x
noncomputable def jez (c:Stt)(tg:Expr)(scope:Scope):Stt:=⟨jdW (jbj tg) c.N,jgg scope c.sc,true⟩
noncomputable def tst:Expr->Bool
 |.IfExp ..=>false
 |_=>true
noncomputable def jzw (d:D)(k:Const):Bool:=
 match d,k with
 |.int i,.int j=>i==j
 |.bl a,.bool b=>a==b
 |.non,.none=>true
 |.str x,.str y=>x==y
 |_,_=>false
noncomputable def jdo:Expr->Bool
 |.Slice ..=>false
 |_=>true
theorem jhg {b:Expr}(h:jdo b=true):jnd b:=by
 intro o i
 cases b<;>first|rfl|cases h
theorem jlK {P:Str->Pos->Bool}{e:Expr}(h:(match e with
  |.Name x p=>P x p
  |_=>false)=true):∃x p,e=.Name x p/\P x p=true:=by
 split at h
 ·exact⟨_,_,rfl,h⟩
 ·cases h
theorem jo6 {P:Const->Nat->Pos->Bool}{e:Expr}(h:(match e with
  |.Constant k n p=>P k n p
  |_=>false)=true):∃k n p,e=.Constant k n p/\P k n p=true:=by
 split at h
 ·exact⟨_,_,_,rfl,h⟩
 ·cases h
theorem juJ {P:Expr->Operator->Expr->Pos->Bool}{e:Expr}(h:(match e with
  |.BinOp x o y p=>P x o y p
  |_=>false)=true):∃x o y p,e=.BinOp x o y p/\P x o y p=true:=by
 split at h
 ·exact⟨_,_,_,_,rfl,h⟩
 ·cases h
theorem jtJ {P:Expr->Bool}{e:Expr}(h:(match e with
  |.UnaryOp .USub x _=>P x
  |_=>false)=true):∃x p,e=.UnaryOp .USub x p/\P x=true:=by
 split at h
 ·exact⟨_,_,rfl,h⟩
 ·cases h
theorem juj {P:Expr->Bool}{e:Expr}(h:(match e with
  |.UnaryOp .Not x _=>P x
  |_=>false)=true):∃x p,e=.UnaryOp .Not x p/\P x=true:=by
 split at h
 ·exact⟨_,_,rfl,h⟩
 ·cases h
theorem jus {P:Expr->Expr->Bool}{R:Expr->Expr->Expr->List Expr->Pos->Bool}{e:Expr}(h:(match e with
  |.BoolOp .And [x,y] _=>P x y
  |.BoolOp .And (x::y::z::rest) p=>R x y z rest p
  |_=>false)=true):(∃x y p,e=.BoolOp .And [x,y] p/\P x y=true)∨∃x y z rest p,e=.BoolOp .And (x::y::z::rest) p/\R x y z rest p=true:=by
 split at h
 ·exact .inl ⟨_,_,_,rfl,h⟩
 ·exact .inr ⟨_,_,_,_,_,rfl,h⟩
 ·cases h
theorem jw7 {P:Expr->Expr->Bool}{R:Expr->Expr->Expr->List Expr->Pos->Bool}{e:Expr}(h:(match e with
  |.BoolOp .Or [x,y] _=>P x y
  |.BoolOp .Or (x::y::z::rest) p=>R x y z rest p
  |_=>false)=true):(∃x y p,e=.BoolOp .Or [x,y] p/\P x y=true)∨∃x y z rest p,e=.BoolOp .Or (x::y::z::rest) p/\R x y z rest p=true:=by
 split at h
 ·exact .inl ⟨_,_,_,rfl,h⟩
 ·exact .inr ⟨_,_,_,_,_,rfl,h⟩
 ·cases h
theorem jmU {P:Expr->CmpOp->Expr->Bool}{e:Expr}(h:(match e with
  |.Compare x [o] [y] _=>P x o y
  |_=>false)=true):∃x o y p,e=.Compare x [o] [y] p/\P x o y=true:=by
 split at h
 ·exact⟨_,_,_,_,rfl,h⟩
 ·cases h
theorem joP {P:Expr->CmpOp->CmpOp->Expr->Expr->Bool}{e:Expr}(h:(match e with
  |.Compare x [p,q] [y,z] _=>P x p q y z
  |_=>false)=true):∃x p q y z r,e=.Compare x [p,q] [y,z] r/\P x p q y z=true:=by
 split at h
 ·exact⟨_,_,_,_,_,_,rfl,h⟩
 ·cases h
theorem jut {P:Expr->Expr->Expr->Bool}{e:Expr}(h:(match e with
  |.IfExp z x y _=>P z x y
  |_=>false)=true):∃z x y p,e=.IfExp z x y p/\P z x y=true:=by
 split at h
 ·exact⟨_,_,_,_,rfl,h⟩
 ·cases h
theorem jtt {P:List Expr->Bool}{e:Expr}(h:(match e with
  |.Tuple xs _ _=>P xs
  |_=>false)=true):∃xs k p,e=.Tuple xs k p/\P xs=true:=by
 split at h
 ·exact⟨_,_,_,rfl,h⟩
 ·cases h
theorem juB {P:List Expr->Bool}{e:Expr}(h:(match e with
  |.List xs _=>P xs
  |_=>false)=true):∃xs p,e=.List xs p/\P xs=true:=by
 split at h
 ·exact⟨_,_,rfl,h⟩
 ·cases h
theorem jnv {P:Expr->Expr->Bool}{e:Expr}(h:(match e with
  |.Subscript x y _=>P x y
  |_=>false)=true):∃x y p,e=.Subscript x y p/\P x y=true:=by
 split at h
 ·exact⟨_,_,_,rfl,h⟩
 ·cases h
theorem jx {P:Expr->Option Expr->Option Expr->Bool}{e:Expr}(h:(match e with
  |.Subscript x (.Slice l u none _) _=>P x l u
  |_=>false)=true):∃x l u p q,e=.Subscript x (.Slice l u none p) q/\P x l u=true:=by
 split at h
 ·exact⟨_,_,_,_,_,rfl,h⟩
 ·cases h
theorem jii {P:Str->Pos->Expr->List Expr->Pos->Bool}{e:Expr}(h:(match e with
  |.Call (.Name x q) (y::ys) [] p=>P x q y ys p
  |_=>false)=true):∃x q y ys p,e=.Call (.Name x q) (y::ys) [] p/\P x q y ys p=true:=by
 split at h
 ·exact⟨_,_,_,_,_,rfl,h⟩
 ·cases h
theorem jsj {P:Expr->Str->Pos->Expr->List Expr->Pos->Bool}{e:Expr}(h:(match e with
  |.Call (.Attribute z n q) (y::ys) [] p=>P z n q y ys p
  |_=>false)=true):∃z n q y ys p,e=.Call (.Attribute z n q) (y::ys) [] p/\P z n q y ys p=true:=by
 split at h
 ·exact⟨_,_,_,_,_,_,rfl,h⟩
 ·cases h
theorem jlh {P:Expr->Comprehension->Scope->Bool}{e:Expr}(h:(match e with
  |.ListComp el [g] scope _=>P el g scope
  |_=>false)=true):∃el g scope p,e=.ListComp el [g] scope p/\P el g scope=true:=by
 split at h
 ·exact⟨_,_,_,_,rfl,h⟩
 ·cases h
noncomputable def nmG (G:List FnE)(c:Stt)(f:Nat)(x:Str):Bool:=
 match G[f]? with
 |some g=>g.name==x&&jb0 c.sc x
 |none=>false
section
variable (G:List FnE) (j:Nat)
mutual
noncomputable def chk:E->Stt->Expr->Bool
 |.var i,c,e=>match e with
  |.Name x _=>jip c.N c.sc i x
  |_=>false
 |.cst d,_,e=>match e with
  |.Constant k _ _=>jzw d k
  |_=>false
 |.bin op _ a b,c,e=>match e with
  |.BinOp x o y _=>o==op&&chk a c x&&chk b c y
  |_=>false
 |.neg a,c,e=>match e with
  |.UnaryOp .USub x _=>chk a c x
  |_=>false
 |.not_ a,c,e=>match e with
  |.UnaryOp .Not x _=>chk a c x&&tst x
  |_=>false
 |.and_ a b,c,e=>match e with
  |.BoolOp .And [x,y] _=>chk a c x&&tst x&&(chk b c y&&tst y)
  |.BoolOp .And (x::y::z::rest) p=>chk a c x&&tst x&&chk b c (.BoolOp .And (y::z::rest) p)
  |_=>false
 |.or_ a b,c,e=>match e with
  |.BoolOp .Or [x,y] _=>chk a c x&&tst x&&(chk b c y&&tst y)
  |.BoolOp .Or (x::y::z::rest) p=>chk a c x&&tst x&&chk b c (.BoolOp .Or (y::z::rest) p)
  |_=>false
 |.cmp op a b,c,e=>match e with
  |.Compare x [o] [y] _=>o==op&&chk a c x&&chk b c y&&!(behindInMarks o y)
  |_=>false
 |.chain o1 o2 a b d,c,e=>match e with
  |.Compare x [p,q] [y,z] _=>p==o1&&q==o2&&chk a c x&&chk b c y&&chk d c z&&!(lastMarks [p,q] [y,z])
  |_=>false
 |.isN _,_,_=>false
 |.notN _,_,_=>false
 |.ife k a b,c,e=>match e with
  |.IfExp z x y _=>chk k c z&&tst z&&chk a c x&&chk b c y
  |_=>false
 |.tup es,c,e=>match e with
  |.Tuple xs _ _=>chkL es c xs&&jag xs
  |_=>false
 |.lst _ es,c,e=>match e with
  |.List xs _=>chkL es c xs&&jag xs
  |_=>false
 |.ix a b,c,e=>match e with
  |.Subscript x y _=>chk a c x&&chk b c y&&jdo y
  |_=>false
 |.sl _ a lo hi,c,e=>match e with
  |.Subscript x (.Slice l h none _) _=>chk a c x&&chkL lo c l.toList&&chkL hi c h.toList
  |_=>false
 |.stp _ a lo st,c,e=>match jlL e with
  |some (x,l,s)=>chk a c x&&chkL lo c [l]&&chkL st c [s]
  |none=>false
 |.fld _ _ _,_,_=>false
 |.call f _ es,c,e=>match e with
  |.Call (.Name x _) (y::ys) [] _=>(match G[f]? with
   |some g=>g.name==x&&jb0 c.sc x&&es.length==g.ps.length&&decide (g.lv<=j)
   |none=>false)&&chkL es c (y::ys)&&jag (y::ys)
  |_=>false
 |.bi b _ es,c,e=>match e with
  |.Call (.Name x _) (y::ys) [] _=>jk2 b==x&&jb0 c.sc x&&jag (y::ys)&&(match jf2 c b (y::ys)with
   |some as=>chkL es c as
   |none=>false)
  |_=>false
 |.mt b o es,c,e=>match e with
  |.Call (.Attribute z name apos) (y::ys) [] cpos=>jlU b==name&&chk o c z&&jbs z&&jag (y::ys)&&decide (ys.length<28)&&(apos.endLine==cpos.line)&&chkL es c (y::ys)
  |_=>false
 |.comp _ own tg ik es ifs elt,c,e=>match e with
  |.ListComp el [g] scope _=>g.is_async==0&&own==(jbj g.target).length&&jyD c.N c.sc (jbj g.target) (jdW (jbj g.target) c.N) scope&&decide (jdW (jbj g.target) c.N).Nodup&&jei g.iter&&(match jcW c ik g.target g.iter with
   |some as=>chkL es c as
   |none=>false)&&jdU (jez c g.target scope) tg g.target&&chkTs ifs (jez c g.target scope) g.ifs&&chk elt (jez c g.target scope) el
  |_=>false
 |.gl f,c,e=>match e with
  |.Name x _=>nmG G c f x
  |_=>false
 |.gget f a d,c,e=>match e with
  |.Call (.Attribute z0 name apos) (y::ys) [] cpos=>name == "get" && (match jew z0,ys with
   |some x,[z]=>nmG G c f x&&chk d c z&&jag [y,z]
   |_,_=>false)&&chk a c y&&jbs z0&&(apos.endLine==cpos.line)
  |_=>false
 |.gin neg f a,c,e=>match e with
  |.Compare x [o] [z] _=>o==(if neg then .NotIn else .In)&&(match jew z with
   |some y=>nmG G c f y
   |none=>false)&&chk a c x&&!(behindInMarks o z)
  |_=>false
 |.gix f a,c,e=>match e with
  |.Subscript z y _=>(match jew z with
   |some x=>nmG G c f x
   |none=>false)&&chk a c y&&jdo y
  |_=>false
noncomputable def chkL:List E->Stt->List Expr->Bool
 |[],_,[]=>true
 |e::es,c,x::xs=>chk e c x&&jaG x&&chkL es c xs
 |_,_,_=>false
noncomputable def chkTs:List E->Stt->List Expr->Bool
 |[],_,[]=>true
 |[e],c,[x]=>chk e c x&&tst x
 |_,_,_=>false
end
end
noncomputable def jjq (K:PySem.W.Frag)(W:World)(mg:Str->Option Value)(x:Str):Dat->Prop
 |.cst d=>∃u v,mg x=some u/\ja3 v u/\∀wd n,Den K wd n d v
 |.dct kvs=>∃a xs,mg x=some (.ref a)/\MD K W a ((kvs.map (·.1)).zip xs)/\∀wd n,DenL K wd n (kvs.map (·.2)) xs
 |.cls C _ fs=>mg x=some (.ref C)/\Cls K C/\∀f∈fs,jwS K C f
structure Ok (G:List FnE) (j:Nat) (c:Stt) (X:Cx):Prop where
 hN:X.N=c.N
 nd:c.N.Nodup
 sc:X.env.scope=c.sc
 calm:X.calm=true
 room:Room j X.A
 mg:∀x∈jdP,X.mg x=none
 fns:∀(i:Nat) (g:FnE),G[i]?=some g->g.lv<=j->Callee X.prog X.w X.K X.mg X.base g.lv g.name g.ps (jmL X.K g.ps.length g.F)
 dts:∀(i:Nat) (g:FnE) (d:Dat),G[i]?=some g->g.dat=some d->jjq X.K X.w X.mg g.name d
 fn:c.cmp=false->∀x,X.fn x=true
noncomputable def jAr:Expr->Bool
 |.BoolOp ..=>true
 |_=>false
structure Snd (G:List FnE) (X:Cx) (ir:E) (e:Expr):Prop where
 v:PE X e (T3E X.K (ev G ir).v)
 t:tst e=true->PT X e (T3T X.K (ev G ir).t)
 w:jAr e=true->PW X e (T3T X.K (ev G ir).t)
section
variable {K:PySem.W.Frag} {X:Cx} {G:List FnE} {j:Nat} {c:Stt}
theorem jvW {r:S3->M->Out D}{σ:_L2.St}{H:Hp}{Q:Bool->Hp->Prop}:T3T K (toB r) σ H Q->T3E K r σ H fun x H'=>∃k,jwV K x H' k/\Q k H':=by
 rintro⟨w,μ,ρ,b,μ',R,S,e,q⟩
 obtain⟨d,μ1,e1,e⟩:=Out.bind_ok e
 split at e
 ·rename_i b' hb
  cases e
  exact⟨w,μ,ρ,d,_,R,S,e1,fun w1 H1 v x1 R1 d1=>⟨b,jtQ R1 d1 hb,q w1 H1 x1 R1⟩⟩
 ·cases e
theorem jav {e:Expr}{r:S3->M->Out D}(v:PE X e (T3E X.K r))(h:jn7 e=true):(tst e=true->PT X e (T3T X.K (toB r)))/\(jAr e=true->PW X e (T3T X.K (toB r))):=
 ⟨fun _=>imT (jxR ⟨v⟩ h).h fun σ H Q q=>jvW q,fun hb=>by cases e<;>first|(cases hb;done)|(cases h;done)⟩
theorem jvg {r:S3->M->Out D}(hb:∀ρ μ d μ',r ρ μ=.ok d μ'->∃b,d=.bl b){σ:_L2.St}{H:Hp}{Q:Bool->Hp->Prop}:T3T K (toB r) σ H Q->T3E K r σ H fun x H'=>∃k,x=.bl k/\Q k H':=by
 rintro⟨w,μ,ρ,b,μ',R,S,e,q⟩
 obtain⟨d,μ1,e1,e⟩:=Out.bind_ok e
 obtain⟨b',rfl⟩:=hb _ _ _ _ e1
 have e':Out.ok b' μ1=.ok b μ':=e
 cases e'
 refine⟨w,μ,ρ,.bl b,_,R,S,e1,fun w1 H1 v x1 R1 d1=>?_⟩
 unfold Den at d1
 exact⟨b,d1,q w1 H1 x1 R1⟩
theorem jpy (o:Ok G j c X):X.A.units+16<cLine:=by
 have:=o.room.un
 omega
noncomputable def jo:D->Bool
 |.non=>true
 |_=>false
theorem jsv {i:Nat}{e:Expr}(o:Ok G j c X)(h:chk G j (.var i) c e=true):Snd G X (.var i) e:=by
 have hh:=jlK (P:=fun x _=>jip c.N c.sc i x) h
 clear h
 obtain⟨x,pos,rfl,h⟩:=hh
 ·have hv:PE X (.Name x pos) (T3E X.K (ev G (.var i)).v):=by
   refine imE (pvk i (by rw[o.hN,o.sc];exact h)) fun σ H Q=>?_
   rintro⟨w,μ,ρ,d,μ',R,S,e,q⟩
   have e':(match ρ[i]? with|some (some d)=>Out.ok d μ|_=>.bad)=.ok d μ':=e
   split at e'
   ·rename_i d' hd
    cases e'
    obtain⟨v,h1,h2⟩:=S.get hd
    exact⟨v,h1,jaj R q h2⟩
   ·cases e'
  exact⟨hv,(jav hv rfl).1,(jav hv rfl).2⟩
theorem juD {d:D}{e:Expr}(h:chk G j (.cst d) c e=true):Snd G X (.cst d) e:=by
 have hh:=jo6 (P:=fun k _ _=>jzw d k) h
 clear h
 obtain⟨k,kk,pos,rfl,h⟩:=hh
 ·have key:∀v:V,(∀w n,Den X.K w n d v)->PE X (.Constant k kk pos) (nC v)->Snd G X (.cst d) (.Constant k kk pos):=fun v hd hp=>by
   have hv:PE X (.Constant k kk pos) (T3E X.K (ev G (.cst d)).v):=by
    refine imE hp fun σ H Q=>?_
    rintro⟨w,μ,ρ,d',μ',R,S,e,q⟩
    have e':Out.ok d μ=.ok d' μ':=e
    cases e'
    exact jaj R q (hd _ _)
   exact⟨hv,(jav hv rfl).1,(jav hv rfl).2⟩
  unfold jzw at h
  split at h
  ·have:=eq_of_beq h
   subst this
   exact key _ (fun w n=>by unfold Den;rfl) (jwf).h
  ·have:=eq_of_beq h
   subst this
   exact key _ (fun w n=>by unfold Den;rfl) (jy7).h
  ·exact key _ (fun w n=>by unfold Den;rfl) (jwL).h
  ·have:=eq_of_beq h
   subst this
   exact key _ (fun w n=>by unfold Den;rfl) (jxY).h
  ·cases h
theorem jtX {op:Operator}{m:Bool}{a b:E}{x y:Expr}{pos:Pos}(ha:Snd G X a x)(hb:Snd G X b y):Snd G X (.bin op m a b) (.BinOp x op y pos):=by
 obtain⟨r,ho,hs⟩:=jxZ (X:=X) (op:=op) (m:=m)
 have hv:PE X (.BinOp x op y pos) (T3E X.K (ev G (.bin op m a b)).v):=imE (jyN ho ha.v hb.v) fun σ H Q q=>jqL hs q
 exact⟨hv,(jav hv rfl).1,(jav hv rfl).2⟩
theorem jt1 {a:E}{x:Expr}{pos:Pos}(ha:Snd G X a x):Snd G X (.neg a) (.UnaryOp .USub x pos):=by
 have hv:PE X (.UnaryOp .USub x pos) (T3E X.K (ev G (.neg a)).v):=by
  refine imE (jzd jw4 ⟨ha.v⟩).h fun σ H Q q=>jwe (r:=rU fun i=>.int (-i)) (fun w μ H d1 d μ' v1 Q R h e q=>?_) q
  split at e
  ·cases e
   unfold Den at h
   exact⟨_,h,jaj R q (by unfold Den;rfl)⟩
  ·cases e
 exact⟨hv,(jav hv rfl).1,(jav hv rfl).2⟩
theorem juT {a:E}{x:Expr}{pos:Pos}(ht:tst x=true)(ha:Snd G X a x):Snd G X (.not_ a) (.UnaryOp .Not x pos):=by
 refine⟨?_,fun _=>?_,fun h=>by cases h⟩
 ·refine imE (jxA ⟨ha.v⟩).h fun σ H Q q=>jwe (r:=fun x H Q=>∃c,x=.bl c/\Q (.bl (!c)) H) (fun w μ H d1 d μ' v1 Q R h e q=>?_) q
  split at e
  ·cases e
   unfold Den at h
   exact⟨_,h,jaj R q (by unfold Den;rfl)⟩
  ·cases e
 ·refine imT (jv6 ⟨ha.t ht⟩).h fun σ H Q=>?_
  rintro⟨w,μ,ρ,b,μ',R,S,e,q⟩
  obtain⟨k,μ1,e1,e⟩:=Out.bind_ok e
  cases e
  exact⟨w,μ,ρ,k,_,R,S,e1,q⟩
theorem jxh {a b:E}{σ:_L2.St}{H:Hp}{Q:VK}:T3E K (ev G (.and_ a b)).v σ H Q->jtU (T3E K (ev G a).v) (T3E K (ev G b).v) σ H Q:=by
 rintro⟨w,μ,ρ,d,μ',R,S,e,q⟩
 obtain⟨x,μ1,e1,e⟩:=Out.bind_ok e
 split at e
 ·rename_i k
  refine⟨w,μ,ρ,_,μ1,R,S,e1,fun w1 H1 v x1 R1 d1=>?_⟩
  unfold Den at d1
  refine⟨k,d1,?_⟩
  cases k with
  |true=>
   rw[if_pos rfl]at e ⊢
   exact⟨w1,μ1,ρ,d,μ',R1,S.mono x1,e,fun w2 H2 v2 x2 R2 d2=>q w2 H2 v2 (x1.trans x2) R2 d2⟩
  |false=>
   rw[if_neg j0g]at e ⊢
   cases e
   exact q w1 H1 _ x1 R1 (by unfold Den;rfl)
 ·cases e
theorem jAn {a b:E}{σ:_L2.St}{H:Hp}{Q:VK}:T3E K (ev G (.or_ a b)).v σ H Q->jzT (T3E K (ev G a).v) (T3E K (ev G b).v) σ H Q:=by
 rintro⟨w,μ,ρ,d,μ',R,S,e,q⟩
 obtain⟨x,μ1,e1,e⟩:=Out.bind_ok e
 split at e
 ·rename_i k
  refine⟨w,μ,ρ,_,μ1,R,S,e1,fun w1 H1 v x1 R1 d1=>?_⟩
  unfold Den at d1
  refine⟨k,d1,?_⟩
  cases k with
  |true=>
   rw[if_pos rfl]at e ⊢
   cases e
   exact q w1 H1 _ x1 R1 (by unfold Den;rfl)
  |false=>
   rw[if_neg j0g]at e ⊢
   exact⟨w1,μ1,ρ,d,μ',R1,S.mono x1,e,fun w2 H2 v2 x2 R2 d2=>q w2 H2 v2 (x1.trans x2) R2 d2⟩
 ·cases e
theorem jx0 {a b:E}{σ:_L2.St}{H:Hp}{Q:Bool->Hp->Prop}:T3T K (ev G (.and_ a b)).t σ H Q->jzc (T3T K (ev G a).t) (T3T K (ev G b).t) σ H Q:=by
 rintro⟨w,μ,ρ,d,μ',R,S,e,q⟩
 obtain⟨k,μ1,e1,e⟩:=Out.bind_ok e
 refine⟨w,μ,ρ,k,μ1,R,S,e1,fun w1 H1 x1 R1=>?_⟩
 dsimp only
 cases k with
 |true=>
  rw[if_pos rfl]at e ⊢
  exact⟨w1,μ1,ρ,d,μ',R1,S.mono x1,e,fun w2 H2 x2 R2=>q w2 H2 (x1.trans x2) R2⟩
 |false=>
  rw[if_neg j0g]at e ⊢
  cases e
  exact q w1 H1 x1 R1
theorem jzX {a b:E}{σ:_L2.St}{H:Hp}{Q:Bool->Hp->Prop}:T3T K (ev G (.or_ a b)).t σ H Q->tOr (T3T K (ev G a).t) (T3T K (ev G b).t) σ H Q:=by
 rintro⟨w,μ,ρ,d,μ',R,S,e,q⟩
 obtain⟨k,μ1,e1,e⟩:=Out.bind_ok e
 refine⟨w,μ,ρ,k,μ1,R,S,e1,fun w1 H1 x1 R1=>?_⟩
 dsimp only
 cases k with
 |true=>
  rw[if_pos rfl]at e ⊢
  cases e
  exact q w1 H1 x1 R1
 |false=>
  rw[if_neg j0g]at e ⊢
  exact⟨w1,μ1,ρ,d,μ',R1,S.mono x1,e,fun w2 H2 x2 R2=>q w2 H2 (x1.trans x2) R2⟩
theorem jpp {a b:E}{x y:Expr}{pos:Pos}(h1:tst x=true)(h2:tst y=true)(ha:Snd G X a x)(hb:Snd G X b y):Snd G X (.and_ a b) (.BoolOp .And [x,y] pos):=by
 have hw:PW X (.BoolOp .And [x,y] pos) (T3T X.K (ev G (.and_ a b)).t):=imW (jse ⟨ha.t h1⟩ (jsG ⟨hb.t h2⟩)).h fun σ H Q q=>jx0 q
 exact⟨imE (jrI ⟨ha.v⟩ (jrQ ⟨hb.v⟩)).h fun σ H Q q=>jxh q,fun _=>hw.pt,fun _=>hw⟩
theorem jpM {a b:E}{x y:Expr}{rest:List Expr}{pos:Pos}(h1:tst x=true)(ha:Snd G X a x)(hb:Snd G X b (.BoolOp .And (y::rest) pos)):Snd G X (.and_ a b) (.BoolOp .And (x::y::rest) pos):=by
 have hw:PW X (.BoolOp .And (x::y::rest) pos) (T3T X.K (ev G (.and_ a b)).t):=imW (jse ⟨ha.t h1⟩ ⟨hb.w rfl⟩).h fun σ H Q q=>jx0 q
 exact⟨imE (jrI ⟨ha.v⟩ ⟨hb.v⟩).h fun σ H Q q=>jxh q,fun _=>hw.pt,fun _=>hw⟩
theorem js3 {a b:E}{x y:Expr}{pos:Pos}(h1:tst x=true)(h2:tst y=true)(ha:Snd G X a x)(hb:Snd G X b y):Snd G X (.or_ a b) (.BoolOp .Or [x,y] pos):=by
 have hw:PW X (.BoolOp .Or [x,y] pos) (T3T X.K (ev G (.or_ a b)).t):=imW (jwp ⟨ha.t h1⟩ (jvS ⟨hb.t h2⟩)).h fun σ H Q q=>jzX q
 exact⟨imE (jvu ⟨ha.v⟩ (jrQ ⟨hb.v⟩)).h fun σ H Q q=>jAn q,fun _=>hw.pt,fun _=>hw⟩
theorem juu {a b:E}{x y:Expr}{rest:List Expr}{pos:Pos}(h1:tst x=true)(ha:Snd G X a x)(hb:Snd G X b (.BoolOp .Or (y::rest) pos)):Snd G X (.or_ a b) (.BoolOp .Or (x::y::rest) pos):=by
 have hw:PW X (.BoolOp .Or (x::y::rest) pos) (T3T X.K (ev G (.or_ a b)).t):=imW (jwp ⟨ha.t h1⟩ ⟨hb.w rfl⟩).h fun σ H Q q=>jzX q
 exact⟨imE (jvu ⟨ha.v⟩ ⟨hb.v⟩).h fun σ H Q q=>jAn q,fun _=>hw.pt,fun _=>hw⟩
theorem jsX {op:CmpOp}{a b:E}{x y:Expr}{pos:Pos}(o:Ok G j c X)(hm:behindInMarks op y=false)(ha:Snd G X a x)(hb:Snd G X b y):Snd G X (.cmp op a b) (.Compare x [op] [y] pos):=by
 obtain⟨r,ho,hs⟩:=joa (X:=X) (op:=op) (jpy o)
 refine⟨imE (jrX ho ⟨ha.v⟩ ⟨hb.v⟩ hm).h fun σ H Q q=>jqL hs q,fun _=>?_,fun h=>by cases h⟩
 refine imT (jsd ho ⟨ha.v⟩ ⟨hb.v⟩ hm).h fun σ H Q q=>jqL hs (jvg (fun ρ μ d μ' e=>?_) q)
 obtain⟨_,_,_,e⟩:=Out.bind_ok e
 obtain⟨_,_,_,e⟩:=Out.bind_ok e
 obtain⟨b,h,_⟩:=jeY _ _ _ _ _ e
 exact⟨b,h⟩
theorem joh {o1 o2:CmpOp}{a b d:E}{r r':R2}(hs:jnq K (jdM o1) r)(hs':jnq K (jdM o2) r'){σ:_L2.St}{H:Hp}{Q:VK}:T3E K (ev G (.chain o1 o2 a b d)).v σ H Q->jiX r r' (T3E K (ev G a).v) (T3E K (ev G b).v) (T3E K (ev G d).v) σ H Q:=by
 rintro⟨w,μ,ρ,d0,μ',R,S,e,q⟩
 obtain⟨x,μ1,e1,e⟩:=Out.bind_ok e
 obtain⟨y,μ2,e2,e⟩:=Out.bind_ok e
 obtain⟨z,μ3,e3,eB⟩:=Out.bind_ok e
 clear e
 obtain⟨k,rfl,rfl⟩:=jeY _ _ _ _ _ e3
 refine⟨w,μ,ρ,x,μ1,R,S,e1,fun w1 H1 v1 x1 R1 d1=>⟨w1,μ1,ρ,y,μ3,R1,S.mono x1,e2,fun w2 H2 v2 x2 R2 d2=>?_⟩⟩
 refine hs w2 μ3 H2 x y (.bl k) μ3 v1 v2 _ R2 (d1.mono x2) d2 e3 fun w3 H3 v3 x3 R3 d3=>?_
 unfold Den at d3
 refine⟨k,d3,?_⟩
 have e':(if k then((ev G d).v ρ μ3).bind fun u μ4=>jdM o2 y u μ4 else Out.ok (.bl false) μ3)=.ok d0 μ':=eB
 cases k with
 |true=>
  rw[if_pos rfl]at e' ⊢
  obtain⟨u,μ4,e4,e'⟩:=Out.bind_ok e'
  exact⟨w3,μ3,ρ,u,μ4,R3,S.mono ((x1.trans x2).trans x3),e4,fun w4 H4 v4 x4 R4 d4=>hs' w4 μ4 H4 y u d0 μ' v2 v4 Q R4 (d2.mono (x3.trans x4)) d4 e' fun w5 H5 v5 x5 R5 d5=>q w5 H5 v5 ((((x1.trans x2).trans x3).trans x4).trans x5) R5 d5⟩
 |false=>
  rw[if_neg j0g]at e' ⊢
  cases e'
  exact q w3 H3 _ ((x1.trans x2).trans x3) R3 (by unfold Den;rfl)
theorem joA {o1 o2:CmpOp}{a b d:E}{x y z:Expr}{pos:Pos}(o:Ok G j c X)(hm:lastMarks [o1,o2] [y,z]=false)(ha:Snd G X a x)(hb:Snd G X b y)(hd:Snd G X d z):Snd G X (.chain o1 o2 a b d) (.Compare x [o1,o2] [y,z] pos):=by
 obtain⟨r,ho,hs⟩:=joa (X:=X) (op:=o1) (jpy o)
 obtain⟨r',ho',hs'⟩:=joa (X:=X) (op:=o2) (jpy o)
 refine⟨imE (jqG ho ho' ⟨ha.v⟩ ⟨hb.v⟩ ⟨hd.v⟩ hm).h fun σ H Q q=>joh hs hs' q,fun _=>?_,fun h=>by cases h⟩
 refine imT (jqN ho ho' ⟨ha.v⟩ ⟨hb.v⟩ ⟨hd.v⟩ hm).h fun σ H Q q=>joh hs hs' (jvg (fun ρ μ d μ' e=>?_) q)
 obtain⟨_,_,_,e⟩:=Out.bind_ok e
 obtain⟨_,_,_,e⟩:=Out.bind_ok e
 obtain⟨z,_,e3,e⟩:=Out.bind_ok e
 split at e
 ·split at e
  ·obtain⟨_,_,_,e⟩:=Out.bind_ok e
   obtain⟨b,h,_⟩:=jeY _ _ _ _ _ e
   exact⟨b,h⟩
  ·cases e
   exact⟨_,rfl⟩
 ·cases e
theorem jtH {k a b:E}{z x y:Expr}{pos:Pos}(ht:tst z=true)(hk:Snd G X k z)(ha:Snd G X a x)(hb:Snd G X b y):Snd G X (.ife k a b) (.IfExp z x y pos):=by
 refine⟨imE (jqe ⟨hk.t ht⟩ ⟨ha.v⟩ ⟨hb.v⟩).h fun σ H Q=>?_,(fun h=>by cases h),(fun h=>by cases h)⟩
 rintro⟨w,μ,ρ,d,μ',R,S,e,q⟩
 obtain⟨k',μ1,e1,e⟩:=Out.bind_ok e
 refine⟨w,μ,ρ,k',μ1,R,S,e1,fun w1 H1 x1 R1=>?_⟩
 dsimp only
 cases k' with
 |true=>
  rw[if_pos rfl]at e ⊢
  exact⟨w1,μ1,ρ,d,μ',R1,S.mono x1,e,fun w2 H2 v2 x2 R2 d2=>q w2 H2 v2 (x1.trans x2) R2 d2⟩
 |false=>
  rw[if_neg j0g]at e ⊢
  exact⟨w1,μ1,ρ,d,μ',R1,S.mono x1,e,fun w2 H2 v2 x2 R2 d2=>q w2 H2 v2 (x1.trans x2) R2 d2⟩
theorem jra {es:List E}{xs:List Expr}{k:Nat}{pos:Pos}(h:PA X xs (T3A X.K (evL G es))):Snd G X (.tup es) (.Tuple xs k pos):=by
 have hv:PE X (.Tuple xs k pos) (T3E X.K (ev G (.tup es)).v):=imE (jow h) fun σ H Q q=>jfD joO q
 exact⟨hv,(jav hv rfl).1,(jav hv rfl).2⟩
theorem jp1 {m:Bool}{es:List E}{xs:List Expr}{pos:Pos}(h:PA X xs (T3A X.K (evL G es))):Snd G X (.lst m es) (.List xs pos):=by
 have hv:PE X (.List xs pos) (T3E X.K (ev G (.lst m es)).v):=imE (jle h) fun σ H Q q=>jfD ju3 q
 exact⟨hv,(jav hv rfl).1,(jav hv rfl).2⟩
theorem jxy {a b:E}{x y:Expr}{pos:Pos}(o:Ok G j c X)(hp:jdo y=true)(ha:Snd G X a x)(hb:Snd G X b y):Snd G X (.ix a b) (.Subscript x y pos):=by
 have hv:PE X (.Subscript x y pos) (T3E X.K (ev G (.ix a b)).v):=imE (jyj (jwF.or (jzy (by have:=jpy o;omega))) ha.v hb.v (jhg hp)) fun σ H Q q=>jqL jyZ q
 exact⟨hv,(jav hv rfl).1,(jav hv rfl).2⟩
end
section
variable {K:PySem.W.Frag} {X:Cx} {G:List FnE} {j:Nat} {c:Stt}
noncomputable def T3O (K:PySem.W.Frag)(r:S3->M->Out (Option Int)):TO:=fun σ H Q=>∃(w:Wd) (μ:M) (ρ:S3) (o:Option Int) (μ':M),Rep K w μ H/\jch K w μ.length ρ σ/\r ρ μ=.ok o μ'/\∀w' H',Ext w w' μ.length μ'.length->Rep K w' μ' H'->Q o H'
theorem imO {e:Option Expr}{t t':TO}(h:PO X e t)(k:∀σ H Q,t' σ H Q->t σ H Q):PO X e t':=fun pins s σ H Q I hw=>h pins s σ H Q I (k σ H Q hw)
theorem jrA {es:List E}{l:Option Expr}(h:∀e x,es=[e]->l=some x->PE X x (T3E X.K (ev G e).v))(hl:es.length=l.toList.length):PO X l (T3O X.K fun ρ μ=>jjg (evL G es ρ μ)):=by
 cases l with
 |none=>
  have:es=[]:=j1c.mp hl
  subst this
  refine imO jui fun σ H Q=>?_
  rintro⟨w,μ,ρ,o,μ',R,S,e,q⟩
  have e':Out.ok none μ=.ok o μ':=by
   have:evL G [] ρ μ=.ok [] μ:=rfl
   unfold jjg at e
   dsimp only at e
   rw[this]at e
   exact e
  cases e'
  exact q w H (Ext.refl _ _) R
 |some x=>
  obtain⟨e1,rfl⟩:∃e1,es=[e1]:=j06.mp hl
  refine imO (jun (h e1 x rfl rfl)) fun σ H Q=>?_
  rintro⟨w,μ,ρ,o,μ',R,S,e,q⟩
  have e':(((ev G e1).v ρ μ).bind fun d μ1=>Out.ok [d] μ1).bind (fun ds μ=>match ds with
    |[]=>.ok none μ
    |[.int i]=>.ok (some i) μ
    |_=>.bad)=.ok o μ':=by
   have:evL G [e1] ρ μ=(((ev G e1).v ρ μ).bind fun d μ1=>Out.ok [d] μ1):=rfl
   unfold jjg at e
   dsimp only at e
   rw[this]at e
   exact e
  obtain⟨ds,μ1,e1',e2⟩:=Out.bind_ok e'
  obtain⟨d,μ2,e3,e4⟩:=Out.bind_ok e1'
  cases e4
  split at e2
  ·rename_i hh
   cases hh
  ·rename_i i hh
   cases hh
   cases e2
   refine⟨w,μ,ρ,.int i,_,R,S,e3,fun w1 H1 v x1 R1 d1=>?_⟩
   unfold Den at d1
   exact⟨i,d1,q w1 H1 x1 R1⟩
  ·cases e2
theorem jvP {m:Bool}{a:E}{lo hi:List E}{x:Expr}{l h:Option Expr}{p pos:Pos}(ha:Snd G X a x)(hl:PO X l (T3O X.K fun ρ μ=>jjg (evL G lo ρ μ)))(hh:PO X h (T3O X.K fun ρ μ=>jjg (evL G hi ρ μ))):Snd G X (.sl m a lo hi) (.Subscript x (.Slice l h none p) pos):=by
 have hv:PE X (.Subscript x (.Slice l h none p) pos) (T3E X.K (ev G (.sl m a lo hi)).v):=by
  refine imE (jq jvK ha.v hl hh) fun σ H Q=>?_
  rintro⟨w,μ,ρ,d,μ',R,S,e,q⟩
  obtain⟨d1,μ1,e1,e⟩:=Out.bind_ok e
  obtain⟨o1,μ2,e2,e⟩:=Out.bind_ok e
  obtain⟨o2,μ3,e3,e⟩:=Out.bind_ok e
  exact⟨w,μ,ρ,d1,μ1,R,S,e1,fun w1 H1 v1 x1 R1 k1=>⟨w1,μ1,ρ,o1,μ2,R1,S.mono x1,e2,fun w2 H2 x2 R2=>⟨w2,μ2,ρ,o2,μ3,R2,S.mono (x1.trans x2),e3,fun w3 H3 x3 R3=>jvJ R3 (k1.mono (x2.trans x3)) e fun w4 H4 v4 x4 R4 k4=>q w4 H4 v4 (((x1.trans x2).trans x3).trans x4) R4 k4⟩⟩⟩
 exact⟨hv,(jav hv rfl).1,(jav hv rfl).2⟩
theorem jib {w:Wd}{n:Nat}{ds:List D}{xs:List V}(h:DenL K w n ds xs):∀ns:List Nat,DenL K w n (ns.filterMap (ds[·]?)) (ns.filterMap (xs[·]?))
 |[]=>by unfold DenL;rfl
 |i::ns=>by
  rw[j0G,j0G]
  cases e:ds[i]? with
  |none=>
   have:xs[i]?=none:=by
    rw[List.getElem?_eq_none_iff]at e ⊢
    rw[<- jai h]
    exact e
   rw[this]
   exact jib h ns
  |some d=>
   obtain⟨v,e1,e2⟩:=jdx h e
   rw[e1]
   unfold DenL
   exact⟨v,_,rfl,e2,jib h ns⟩
theorem juM {m:Bool}{w:Wd}{μ μ':M}{H:Hp}{d1 d:D}{v1:V}{lo st:Option Int}{Q:VK}(R:Rep K w μ H)(h1:Den K w μ.length d1 v1)(e:jr0 m d1 lo st μ=.ok d μ')(q:jgf K w μ.length d μ' Q):jwo K v1 lo st H Q:=by
 unfold jr0 at e
 split at e
 ·rename_i i k
  split at e
  ·rename_i hc
   split at e
   ·rename_i ds hs
    obtain⟨a,us,rfl,s1,l1⟩:=jco R h1 hs
    refine⟨a,us,i,k,rfl,rfl,rfl,hc.1,hc.2,s1,jdD R ?_ e q⟩
    rw[<- jai l1]
    exact jib l1 _
   ·cases e
  ·cases e
 ·cases e
theorem juc {m:Bool}{a:E}{lo st:List E}{x l h:Expr}{p pos:Pos}(ha:Snd G X a x)(hl:PO X (some l) (T3O X.K fun ρ μ=>jjg (evL G lo ρ μ)))(hh:PO X (some h) (T3O X.K fun ρ μ=>jjg (evL G st ρ μ))):Snd G X (.stp m a lo st) (.Subscript x (.Slice (some l) none (some h) p) pos):=by
 have hv:PE X (.Subscript x (.Slice (some l) none (some h) p) pos) (T3E X.K (ev G (.stp m a lo st)).v):=by
  refine imE (jve ha.v hl hh) fun σ H Q=>?_
  rintro⟨w,μ,ρ,d,μ',R,S,e,q⟩
  obtain⟨d1,μ1,e1,e⟩:=Out.bind_ok e
  obtain⟨o1,μ2,e2,e⟩:=Out.bind_ok e
  obtain⟨o2,μ3,e3,e⟩:=Out.bind_ok e
  exact⟨w,μ,ρ,d1,μ1,R,S,e1,fun w1 H1 v1 x1 R1 k1=>⟨w1,μ1,ρ,o1,μ2,R1,S.mono x1,e2,fun w2 H2 x2 R2=>⟨w2,μ2,ρ,o2,μ3,R2,S.mono (x1.trans x2),e3,fun w3 H3 x3 R3=>juM R3 (k1.mono (x2.trans x3)) e fun w4 H4 v4 x4 R4 k4=>q w4 H4 v4 (((x1.trans x2).trans x3).trans x4) R4 k4⟩⟩⟩
 exact⟨hv,(jav hv rfl).1,(jav hv rfl).2⟩
theorem jkD:∀{es:List E} {ρ:S3} {μ μ':M} {ds:List D},evL G es ρ μ=.ok ds μ'->ds.length=es.length
 |[],ρ,μ,μ',ds,e=>by
  have e':Out.ok [] μ=.ok ds μ':=e
  cases e'
  rfl
 |x::es,ρ,μ,μ',ds,e=>by
  obtain⟨d,μ1,e1,e⟩:=Out.bind_ok e
  obtain⟨ds',μ2,e2,e⟩:=Out.bind_ok e
  cases e
  rw[j0b,j0b,jkD e2]
theorem jlR {md:Md}{F:Fn}{np:Nat}{w1:Wd}{μ1 μ':M}{H1:Hp}{ds:List D}{d:D}{vs:List V}{Q:VK}{EX:XK}(hl:ds.length=np)(R1:Rep K w1 μ1 H1)(l1:DenL K w1 μ1.length ds vs)(e:jah md F ds μ1=.ok d μ')(q:jgf K w1 μ1.length d μ' Q):jmL K np F vs H1 Q EX:=by
 refine⟨by rw[<- jai l1];exact hl,?_⟩
 cases md with
 |raw=>exact⟨w1,μ1,ds,d,μ',R1,l1,e,q⟩
 |frz=>
  simp only[jah]at e
  split at e
  ·rename_i d0 μ0 e0
   split at e
   ·rename_i ht
    split at e
    ·rename_i d' hd'
     cases e
     refine⟨w1,_,ds,d0,μ0,R1,l1,e0,fun w2 H2 v x2 R2 d2=>?_⟩
     obtain⟨w3,x3,R3,f3,_,_⟩:=jrR (keep:=[]) (cs:=[]) R1 x2 R2 ht List.nodup_nil (fun k h=>by cases h) rfl
     simp only[j0z,j0l]at x3 R3 f3
     exact q w3 H2 v x3 R3 (f3 _ _ _ d2 hd')
    ·cases e
   ·cases e
  ·split at e
   ·split at e<;>cases e
   ·cases e
  ·cases e
 |new=>
  simp only[jah]at e
  cases e
theorem jqj {f:Nat}{g:FnE}{md:Md}{es:List E}{x:Str}{y:Expr}{ys:List Expr}{p pos:Pos}(o:Ok G j c X)(hf:G[f]?=some g)(hn:g.name=x)(hg:jb0 c.sc x=true)(hp:es.length=g.ps.length)(hlv:g.lv<=j)(hst:jag (y::ys)=true)(h:PA X (y::ys) (T3A X.K (evL G es))) :
  Snd G X (.call f md es) (.Call (.Name x p) (y::ys) [] pos):=by
 subst hn
 have hv:PE X (.Call (.Name g.name p) (y::ys) [] pos) (T3E X.K (ev G (.call f md es)).v):=by
  refine imE (jvI (o.fns f g hf hlv) o.room (by rw[o.sc];exact hg) h hlv hst) fun σ H Q=>?_
  rintro⟨w,μ,ρ,d,μ',R,S,e,q⟩
  obtain⟨ds,μ1,e1,e⟩:=Out.bind_ok e
  unfold jic at e
  rw[hf]at e
  refine⟨w,μ,ρ,ds,μ1,R,S,e1,fun w1 H1 vs x1 R1 d1=>?_⟩
  show jmL X.K g.ps.length g.F (vs++[]) H1 Q E0
  rw[j0l]
  exact jlR ((jkD e1).trans hp) R1 d1 e fun w2 H2 v x2 R2 d2=>q w2 H2 v (x1.trans x2) R2 d2
 exact⟨hv,(jav hv rfl).1,(jav hv rfl).2⟩
theorem jfn {w:Wd}{n:Nat}:∀ks:List Int,DenL K w n (ks.map D.int) (ks.map V.int)
 |[]=>by unfold DenL;rfl
 |k::ks=>by rw[j0i,j0i];unfold DenL;exact⟨_,_,rfl,by unfold Den;rfl,jfn ks⟩
end
section
variable {K:PySem.W.Frag} {X:Cx} {G:List FnE} {j:Nat} {c:Stt}
theorem mg_of (o:Ok G j c X){x:Str}(h:x∈jdP):X.mg x=none:=o.mg x h
theorem ja9 (o:Ok G j c X){x:Str}(h:jb0 c.sc x=true):jb0 X.env.scope x=true:=by rw[o.sc];exact h
theorem jmD:jkj X.K jiL (jnC X.K X.prog X.w):=by
 intro w μ H ds d μ' vs Q R h e q
 unfold jiL at e
 split at e
 ·split at e
  ·rename_i xs hs
   split at e
   ·rename_i zs hz
    split at e
    ·rename_i hl
     cases e
     obtain⟨v,rfl,h1⟩:=jif h
     obtain⟨a,us,rfl,s1,l1⟩:=jeG R h1 hs
     have:=jeZ l1 hz
     subst this
     refine⟨a,zs,rfl,s1,hl,fun l hn=>⟨l,_,rfl,jaF,j0H (jsg zs) hl,?_⟩⟩
     obtain⟨R',x⟩:=R.frz hn (jv1 X.prog X.w l (ddS zs).length)
     exact q _ _ _ x R' (by unfold Den;rfl)
    ·cases e
   ·cases e
  ·cases e
 ·cases e
theorem jrD {H:Hp}{a:Addr}{xs:List V}(h:SqL K H a xs∨SqT K H a xs):∃b,SqB b K H a xs:=by
 rcases h with h|h
 ·exact⟨false,h⟩
 ·exact⟨true,h⟩
theorem jko {m:Bool}:jkj K (jgi m) (jk6 K):=by
 intro w μ H ds d μ' vs Q R h e q
 unfold jgi at e
 split at e
 ·split at e
  ·rename_i xs ys hx hy
   split at e
   ·rename_i zs hz
    split at e
    ·rename_i hc
     obtain⟨v,u,rfl,h1,h2⟩:=jyd h
     obtain⟨a,us,rfl,s1,l1⟩:=jeG R h1 hx
     obtain⟨b,ws,rfl,s2,l2⟩:=jeG R h2 hy
     have:=jeZ l1 hz
     subst this
     obtain⟨b1,s1⟩:=jrD s1
     obtain⟨b2,s2⟩:=jrD s2
     have hk:(zs.map (Sum.inr:Str->Key)).length=ys.length:=by rw[j0f];exact hc.1
     refine⟨a,b,b1,b2,zs,ws,rfl,s1,s2,by rw[<- jai l2,hc.1],hc.2.1,hc.2.2,?_⟩
     cases m with
     |false=>
      rw[if_neg j0g]at e
      cases e
      exact .inr fun l o es ep hl ho=>jel R q hl fun w' x hz=>by unfold Den;exact⟨l,o,es,ep,ws,rfl,hk,ho,hz,l2.mono x⟩
     |true=>
      refine .inl fun l hl=>?_
      rw[if_pos rfl]at e
      cases e
      obtain⟨w',R',x,hg⟩:=R.cell hl (.dK ((zs.map Sum.inr).zip ws)) (.dK (zs.map Sum.inr) ys) (fun w' x=>⟨ws,hk,jaF,l2.mono x⟩)
      have hlen:(μ++[some (Cl.dK (zs.map Sum.inr) ys)]).length=μ.length+1:=by simp
      refine q w' _ _ (by rw[hlen];exact x) R' ?_
      unfold Den
      exact⟨by rw[hlen];exact Nat.lt_succ_self _,by rw[hg]⟩
    ·cases e
   ·cases e
  ·cases e
 ·cases e
theorem jfh {x:Str}{id:String}{f:List D->M->Out D}{r:List V->Hp->VK->Prop}{es:List E}{y:Expr}{ys:List Expr}{p pos:Pos}(o:Ok G j c X)(hc:jbK X (.builtin id) r)(hs:jkj X.K f r)(hg:jb0 c.sc x=true)(hm:x∈jdP)(hv:bootBuiltins x=some (.builtin id))(hst:jag (y::ys)=true)(h:PA X (y::ys) (T3A X.K (evL G es))) :
  PE X (.Call (.Name x p) (y::ys) [] pos) (T3E X.K fun ρ μ=>(evL G es ρ μ).bind fun ds μ1=>f ds μ1):=imE (jdd hc (ja9 o hg) (mg_of o hm) hv h hst) fun σ H Q q=>jfD hs q
theorem jeo {x:Str}{T:String}{f:List D->M->Out D}{r:List V->Hp->VK->Prop}{es:List E}{y:Expr}{ys:List Expr}{p pos:Pos}(o:Ok G j c X)(hc:jbK X (.type T) r)(hs:jkj X.K f r)(hg:jb0 c.sc x=true)(hm:x∈jdP)(hv:bootBuiltins x=some (.type T))(hst:jag (y::ys)=true)(h:PA X (y::ys) (T3A X.K (evL G es))) :
  PE X (.Call (.Name x p) (y::ys) [] pos) (T3E X.K fun ρ μ=>(evL G es ρ μ).bind fun ds μ1=>f ds μ1):=imE (jfL hc (ja9 o hg) (mg_of o hm) hv h hst) fun σ H Q q=>jfD hs q
theorem juE {e1:E}{ρ:S3}{μ μ':M}{ds:List D}(e:evL G [e1] ρ μ=.ok ds μ'):∃d,ds=[d]/\(ev G e1).v ρ μ=.ok d μ':=by
 obtain⟨d,μ1,e1',e⟩:=Out.bind_ok e
 cases e
 exact⟨d,rfl,e1'⟩
theorem jvT {n:String} {e1:E} {a:Expr} {x:Str} {p q pos:Pos} (o:Ok G j c X) (hg:jb0 c.sc "isinstance" =true) (hx:x=Str.ofString n) (hgx:jb0 c.sc x=true) (hn:jf2.isTn n=true) (ha:jaG a=true) (h:PE X a (T3E X.K (ev G e1).v)) :
  PE X (.Call (.Name "isinstance" p) [a,.Name x q] [] pos) (T3E X.K fun ρ μ=>(evL G [e1] ρ μ).bind fun ds μ1=>jyH n ds μ1):=by
 subst hx
 have hb':bootBuiltins (Str.ofString n)=some (.type n)/\Str.ofString n∈jdP:=by
  unfold jf2.isTn at hn
  simp only[j1x,beq_iff_eq]at hn
  rcases hn with((rfl|rfl)|rfl)|rfl
  ·exact⟨jrH,by decide +kernel⟩
  ·exact⟨jue,by decide +kernel⟩
  ·exact⟨jr7,by decide +kernel⟩
  ·exact⟨jiT,by decide +kernel⟩
 have h2:PE X (.Name (Str.ofString n) q) (nC (.ty n)):=(js1 (v:=.ty n) (ja9 o hgx) (mg_of o hb'.2) hb'.1 rfl).h
 have hA:PA X [a,.Name (Str.ofString n) q] (jnT (T3E X.K (ev G e1).v) (jnT (nC (.ty n)) jAb)):=pac h (pac h2 jcG) ha
 refine imE (jdd (r:=jzO X.K n) jpO (ja9 o hg) (mg_of o (by decide +kernel)) jfs hA (by unfold jag;simp[ha];rfl)) fun σ H Q=>?_
 rintro⟨w,μ,ρ,d,μ',R,S,e,q⟩
 obtain⟨ds,μ1,e1,e⟩:=Out.bind_ok e
 obtain⟨d0,rfl,e2⟩:=juE e1
 exact⟨w,μ,ρ,d0,μ1,R,S,e2,fun w1 H1 v x1 R1 d1=>juq R1 (DenL.one d1) e fun w3 H3 v x3 R3 d3=>q w3 H3 v (x1.trans x3) R3 d3⟩
theorem jpu {e:Expr}{r:S3->M->Out (List D)}:PE X e (T3E X.K fun ρ μ=>(r ρ μ).bind fun _ _=>Out.bad):=fun pins s σ H Q I ⟨w,μ,ρ,d,μ',R,S,e,q⟩=>by
 obtain⟨_,_,_,e⟩:=Out.bind_ok e
 cases e
theorem jvz {b:Bi}{m:Bool}{es:List E}{x:Str}{y:Expr}{ys as:List Expr}{p pos:Pos}(o:Ok G j c X)(hx:jk2 b=x)(hg:jb0 c.sc x=true)(hst:jag (y::ys)=true)(hb:jf2 c b (y::ys)=some as)(hA:PA X as (T3A X.K (evL G es)))(h1:∀e a,es=[e]->as=[a]->PE X a (T3E X.K (ev G e).v))(hl:es.length=as.length) :
  Snd G X (.bi b m es) (.Call (.Name x p) (y::ys) [] pos):=by
 subst hx
 have hv:PE X (.Call (.Name (jk2 b) p) (y::ys) [] pos) (T3E X.K (ev G (.bi b m es)).v):=by
  cases b with
  |len=>cases hb;exact jfh o (ji3.or jjS) jvb hg (by decide +kernel) jrM hst hA
  |sum=>cases hb;exact jpu
  |min2=>cases hb;exact jfh o (jpa o.calm) jtv hg (by decide +kernel) jwM hst hA
  |max2=>cases hb;exact jfh o (joL o.calm) jtn hg (by decide +kernel) jxt hst hA
  |list=>cases hb;exact jeo o (ji2.or (jmz o.calm)) jp7 hg (by decide +kernel) jvf hst hA
  |tuple=>cases hb;exact jeo o jfv jjF hg (by decide +kernel) jiT hst hA
  |int=>cases hb;exact jeo o (jnD.or joJ) jn8 hg (by decide +kernel) jrH hst hA
  |all=>cases hb;exact jfh o jr (juv o.calm) hg (by decide +kernel) jwr hst hA
  |str=>cases hb;exact jeo o (jjb.or jng) ju5 hg (by decide +kernel) jr7 hst hA
  |isT n=>
   simp only[jf2]at hb
   split at hb
   ·rename_i a t heq
    split at hb
    ·rename_i x hx
     split at hb
     ·rename_i hc
      cases hb
      cases heq
      obtain⟨q,rfl⟩:=jdT hx
      simp only[j0a,beq_iff_eq]at hc
      obtain⟨⟨⟨c1,c2⟩,c3⟩,c4⟩:=hc
      obtain⟨e1,rfl⟩:∃e1,es=[e1]:=j06.mp hl
      exact jvT o hg c1 c2 c3 c4 (h1 e1 _ rfl rfl)
     ·cases hb
    ·cases hb
   ·cases hb
  |isT2 n m=>cases hb
  |listRange=>cases hb
  |lenSet=>
   simp only[jf2]at hb
   split at hb
   ·rename_i e heq
    split at hb
    ·rename_i x a hx
     split at hb
     ·rename_i hc
      cases hb
      cases heq
      obtain⟨p2,q2,rfl⟩:=jcc hx
      simp only[j0a,beq_iff_eq]at hc
      obtain⟨⟨c1,c2⟩,c3⟩:=hc
      subst c1
      exact imE (jm2 o.calm (ja9 o hg) (mg_of o (by decide +kernel)) (ja9 o c2) (mg_of o (by decide +kernel)) hA c3) fun σ H Q q=>jfD jmD q
     ·cases hb
    ·cases hb
   ·cases hb
  |dictZip=>
   simp only[jf2]at hb
   split at hb
   ·rename_i e heq
    split at hb
    ·rename_i x a b hx
     split at hb
     ·rename_i hc
      cases hb
      cases heq
      obtain⟨p2,q2,rfl⟩:=jcc hx
      simp only[j0a,beq_iff_eq]at hc
      obtain⟨⟨c1,c2⟩,c3⟩:=hc
      subst c1
      exact imE (jl6 o.calm (ja9 o hg) (mg_of o (by decide +kernel)) (ja9 o c2) (mg_of o (by decide +kernel)) hA c3) fun σ H Q q=>jfD jko q
     ·cases hb
    ·cases hb
   ·cases hb
 exact⟨hv,(jav hv rfl).1,(jav hv rfl).2⟩
theorem jwk {b:Mt}{ob:E}{es:List E}{z y:Expr}{ys:List Expr}{apos cpos:Pos}(o:Ok G j c X)(hz:Snd G X ob z)(hp:jbs z=true)(hst:jag (y::ys)=true)(hl:ys.length<28)(hline:(apos.endLine==cpos.line)=true)(hA:PA X (y::ys) (T3A X.K (evL G es))) :
  Snd G X (.mt b ob es) (.Call (.Attribute z (jlU b) apos) (y::ys) [] cpos):=by
 have hv:PE X (.Call (.Attribute z (jlU b) apos) (y::ys) [] cpos) (T3E X.K (ev G (.mt b ob es)).v):=by
  cases b with
  |append=>exact imE (jm6 PySem.F.plainAttrs_list PySem.F.slot_list_append PySem.F.type_list_append jgU ⟨hz.v⟩ ⟨hA⟩ hp hst hl hline).h fun σ H Q q=>jkf jpe (fun w μ H ob x R h e=>jjD (.inl rfl) R h e) q
  |extend=>
   intro pins s σ H Q I hw
   obtain⟨w,μ,ρ,d,μ',R,S,e,q⟩:=hw
   obtain⟨x,μ1,e1,e⟩:=Out.bind_ok e
   split at e
   ·obtain⟨_,_,_,e⟩:=Out.bind_ok e
    cases e
   ·cases e
  |split=>exact imE (jm6 PySem.F.plainAttrs_str PySem.F.slot_str_split PySem.F.type_str_split jqZ ⟨hz.v⟩ ⟨hA⟩ hp hst hl hline).h fun σ H Q q=>jkf jnZ (fun w μ H ob x R h e=>jkc h e) q
  |join=>exact imE (jm6 PySem.F.plainAttrs_str PySem.F.slot_str_join PySem.F.type_str_join ju4 ⟨hz.v⟩ ⟨hA⟩ hp hst hl hline).h fun σ H Q q=>jkf jqf (fun w μ H ob x R h e=>jqI h e) q
 exact⟨hv,(jav hv rfl).1,(jav hv rfl).2⟩
theorem jlC {i:Nat}{e:Expr}(o:Ok G j c X)(h:jjm c i e=true):PG X e (je6 i)/\jaG e=true:=by
 unfold jjm at h
 split at h
 ·rename_i x pos
  refine⟨?_,rfl⟩
  split at h
  ·exact jul (by rw[o.hN];exact o.nd) (by rw[o.hN,o.sc];exact h)
  ·rename_i hc
   exact jrk (by rw[o.hN];exact o.nd) (by rw[o.hN,o.sc];exact h) (o.fn (by simpa using hc) x)
 ·cases h
noncomputable def gNs:List Nat->TGs
 |[]=>jAj
 |i::is=>jym (je6 i) (gNs is)
theorem jlV (o:Ok G j c X):∀{is:List Nat} {es:List Expr},jqn c is es=true->PGs X es (gNs is)/\es.length=is.length
 |[],[],_=>⟨jug,rfl⟩
 |[],_::_,h=>by cases h
 |_::_,[],h=>by cases h
 |i::is,e::es,h=>by
  unfold jqn at h
  simp only[j0a]at h
  obtain⟨h1,h2⟩:=h
  obtain⟨p1,p2⟩:=jlC o h1
  obtain⟨q1,q2⟩:=jlV o h2
  exact⟨jpA p1 q1 (by rw[jgq p2];rfl),by simp[q2]⟩
theorem jkW {w:Wd}{n:Nat}:∀{is:List Nat} {ds:List D} {vs:List V} {ρ ρ':S3} {σ:_L2.St} {H:Hp} {Q:_L2.St->Hp->Prop},DenL K w n ds vs->jch K w n ρ σ->jnt is ds ρ=some ρ'->(∀σ',jch K w n ρ' σ'->Q σ' H)->gNs is vs σ H Q/\ds.length=is.length
 |[],[],vs,ρ,ρ',σ,H,Q,h,S,e,q=>by
  unfold DenL at h
  cases e
  exact⟨⟨h,q σ S⟩,rfl⟩
 |[],_::_,_,_,_,_,_,_,_,_,e,_=>by cases e
 |_::_,[],_,_,_,_,_,_,_,_,e,_=>by cases e
 |i::is,d::ds,vs,ρ,ρ',σ,H,Q,h,S,e,q=>by
  unfold DenL at h
  obtain⟨v,ws,rfl,h1,h2⟩:=h
  obtain⟨g1,g2⟩:=jkW (is:=is) (H:=H) (Q:=Q) h2 (S.set h1 i) e q
  exact⟨⟨v,ws,rfl,g1⟩,by simp[g2]⟩
noncomputable def gOf (K:PySem.W.Frag):Tg->TG
 |.nm i=>je6 i
 |.tp is=>jAd K is.length (gNs is)
theorem jdR (tg:Tg):jrZ K tg (gOf K tg):=by
 intro w μ H ρ ρ' σ d v Q R S hd e q
 cases tg with
 |nm i=>
  cases e
  exact q _ (S.set hd i)
 |tp is=>
  cases d with
  |tup ds=>
   obtain⟨a,xs,rfl,s1,l1⟩:=jdL R hd
   obtain⟨g1,g2⟩:=jkW (H:=H) (Q:=Q) l1 S e q
   exact⟨a,xs,rfl,s1,by rw[<- jai l1,g2],g1⟩
  |_=>cases e
theorem jkJ {tg:Tg}{t:Expr}(o:Ok G j c X)(h:jdU c tg t=true):PG X t (gOf X.K tg)/\jaG t=true:=by
 unfold jdU at h
 split at h
 ·exact jlC o h
 ·rename_i is es k pos
  simp only[j0a]at h
  obtain⟨h1,h2⟩:=h
  obtain⟨p1,p2⟩:=jlV o h1
  exact⟨jwR o.calm p1 ((jj9 h2).1.trans p2) (jj9 h2).2,rfl⟩
 ·cases h
theorem jtB:evL G []=fun _ μ=>.ok [] μ:=rfl
theorem jq0 {e:E}{es:List E}:evL G (e::es)=fun ρ μ=>((ev G e).v ρ μ).bind fun d μ1=>(evL G es ρ μ1).bind fun ds μ2=>.ok (d::ds) μ2:=rfl
theorem jqw:evTs G []=fun _ μ=>.ok true μ:=rfl
theorem jri {e:E}:evTs G [e]=(ev G e).t:=rfl
end
section
variable {K:PySem.W.Frag} {X:Cx} {G:List FnE} {j:Nat} {c:Stt}
theorem jlb {f:Nat}{x:Str}(h:nmG G c f x=true):∃g,G[f]?=some g/\g.name=x/\jb0 c.sc x=true:=by
 unfold nmG at h
 split at h
 ·rename_i g hg
  simp only[j0a,beq_iff_eq]at h
  exact⟨g,hg,h.1,h.2⟩
 ·cases h
theorem jd1 {f:Nat}{g:FnE}(h:G[f]?=some g):jhi G f=g.dat:=by unfold jhi;rw[h];rfl
theorem jgk {wd:Wd}{n:Nat}(z:Str):∀{kvs:List (Str×D)} {xs:List V},DenL K wd n (kvs.map (·.2)) xs->(∀d,jbb z kvs=some d->∃v,jc6 ((kvs.map (·.1)).zip xs) z=some v/\Den K wd n d v)/\(jbb z kvs=none->jc6 ((kvs.map (·.1)).zip xs) z=none)
 |[],xs,h=>⟨fun d e=>(by cases e),fun _=>rfl⟩
 |p::kvs,xs,h=>by
  rw[j0i]at h
  unfold DenL at h
  obtain⟨v,ws,rfl,h1,h2⟩:=h
  obtain⟨i1,i2⟩:=jgk z h2
  rw[j0i,List.zip_cons_cons]
  by_cases c:p.1=z
  ·have a1:jbb z (p::kvs)=some p.2:=by unfold jbb;rw[if_pos c]
   have a2:jc6 ((p.1,v)::(kvs.map (·.1)).zip ws) z=some v:=by simp[jc6,j0X,c]
   rw[a1,a2]
   exact⟨fun d e=>by cases e;exact⟨v,rfl,h1⟩,fun e=>by cases e⟩
  ·have a1:jbb z (p::kvs)=jbb z kvs:=by rw[jbb,if_neg c]
   have a2:jc6 ((p.1,v)::(kvs.map (·.1)).zip ws) z=jc6 ((kvs.map (·.1)).zip ws) z:=by simp[jc6,j0X,c]
   rw[a1,a2]
   exact⟨i1,i2⟩
theorem jxF {f:Nat}{x:Str}{pos:Pos}(o:Ok G j c X)(h:nmG G c f x=true):Snd G X (.gl f) (.Name x pos):=by
 obtain⟨g,hg,rfl,hok⟩:=jlb h
 have hv:PE X (.Name g.name pos) (T3E X.K (ev G (.gl f)).v):=by
  cases hd:g.dat with
  |none=>
   intro pins s σ H Q I hw
   obtain⟨w,μ,ρ,d,μ',R,S,e,q⟩:=hw
   have e':glD (jhi G f) μ=.ok d μ':=e
   rw[jd1 hg,hd]at e'
   cases e'
  |some t=>
   cases t with
   |dct kvs=>
    intro pins s σ H Q I hw
    obtain⟨w,μ,ρ,d,μ',R,S,e,q⟩:=hw
    have e':glD (jhi G f) μ=.ok d μ':=e
    rw[jd1 hg,hd]at e'
    cases e'
   |cls C k fs=>
    intro pins s σ H Q I hw
    obtain⟨w,μ,ρ,d,μ',R,S,e,q⟩:=hw
    have e':glD (jhi G f) μ=.ok d μ':=e
    rw[jd1 hg,hd]at e'
    cases e'
   |cst d0=>
    obtain⟨u,v,hm,rv,hden⟩:=o.dts f g _ hg hd
    refine imE (jfm (ja9 o hok) hm rv) fun σ H Q=>?_
    rintro⟨w,μ,ρ,d,μ',R,S,e,q⟩
    have e':glD (jhi G f) μ=.ok d μ':=e
    rw[jd1 hg,hd]at e'
    cases e'
    exact jaj R q (hden _ _)
 exact⟨hv,(jav hv rfl).1,(jav hv rfl).2⟩
theorem jtu {e:Expr}{t:TE}(h:∀σ H Q,¬ t σ H Q):PE X e t:=fun pins s σ H Q I hw=>(h σ H Q hw).elim
theorem jqF {f:Nat}{a d:E}{x:Str}{y z:Expr}{p apos cpos:Pos}(o:Ok G j c X)(h:nmG G c f x=true)(ha:Snd G X a y)(hd:Snd G X d z)(hp:jbs (.Name x p)=true)(hst:jag [y,z]=true)(hl:(apos.endLine==cpos.line)=true) :
  Snd G X (.gget f a d) (.Call (.Attribute (.Name x p) "get" apos) [y,z] [] cpos):=by
 obtain⟨g,hg,rfl,hok⟩:=jlb h
 have hv:PE X (.Call (.Attribute (.Name g.name p) "get" apos) [y,z] [] cpos) (T3E X.K (ev G (.gget f a d)).v):=by
  have bad:(∀kvs,g.dat≠some (.dct kvs))->PE X (.Call (.Attribute (.Name g.name p) "get" apos) [y,z] [] cpos) (T3E X.K (ev G (.gget f a d)).v):=fun hn=>jtu fun σ H Q=>by
   rintro⟨w,μ,ρ,d0,μ',R,S,e,q⟩
   obtain⟨d1,μ1,e1,e⟩:=Out.bind_ok e
   obtain⟨d2,μ2,e2,e⟩:=Out.bind_ok e
   rw[jd1 hg]at e
   have hb:jm5 g.dat d1 d2 μ2=.bad:=by
    unfold jm5
    cases hq:g.dat with
    |none=>rfl
    |some t=>
     cases t with
     |cst _=>rfl
     |cls _ _ _=>rfl
     |dct kvs=>exact absurd hq (hn kvs)
   rw[hb]at e
   cases e
  cases hdt:g.dat with
  |none=>exact bad fun kvs e=>by rw[hdt]at e;cases e
  |some t=>
   cases t with
   |cst d0=>exact bad fun kvs e=>by rw[hdt]at e;cases e
   |cls _ _ _=>exact bad fun kvs e=>by rw[hdt]at e;cases e
   |dct kvs=>
    obtain⟨A,xs,hm,hmd,hden⟩:=o.dts f g _ hg hdt
    refine imE (jqa ⟨jfm (v:=.ref A) (ja9 o hok) hm rfl⟩ ⟨ha.v⟩ ⟨hd.v⟩ hp hst hl).h fun σ H Q=>?_
    rintro⟨w,μ,ρ,d0,μ',R,S,e,q⟩
    obtain⟨d1,μ1,e1,e⟩:=Out.bind_ok e
    obtain⟨d2,μ2,e2,e⟩:=Out.bind_ok e
    rw[jd1 hg,hdt]at e
    refine⟨A,_,rfl,hmd,w,μ,ρ,d1,μ1,R,S,e1,fun w1 H1 v1 x1 R1 k1=>⟨w1,μ1,ρ,d2,μ2,R1,S.mono x1,e2,fun w2 H2 v2 x2 R2 k2=>?_⟩⟩
    cases d1 with
    |str zz=>
     have e':Out.ok ((jbb zz kvs).getD d2) μ2=.ok d0 μ':=e
     simp only[Out.ok.injEq]at e'
     obtain⟨rfl,rfl⟩:=e'
     have k1':=k1
     unfold Den at k1'
     refine⟨zz,k1',?_⟩
     obtain⟨l1,l2⟩:=jgk zz (hden w2 μ2.length)
     have q':∀w' H' v,Ext w2 w' μ2.length μ2.length->Rep X.K w' μ2 H'->Den X.K w' μ2.length ((jbb zz kvs).getD d2) v->Q v H':=fun w3 H3 v x3 R3 d3=>q w3 H3 v ((x1.trans x2).trans x3) R3 d3
     cases hlk:jbb zz kvs with
     |none=>
      rw[hlk]at q'
      rw[l2 hlk]
      exact q' w2 H2 v2 (Ext.refl _ _) R2 k2
     |some dd=>
      rw[hlk]at q'
      obtain⟨v,hv,hdv⟩:=l1 dd hlk
      rw[hv]
      exact q' w2 H2 v (Ext.refl _ _) R2 hdv
    |_=>cases e
 exact⟨hv,(jav hv rfl).1,(jav hv rfl).2⟩
theorem juC {neg:Bool}{f:Nat}{a:E}{y:Str}{x:Expr}{p pos:Pos}(o:Ok G j c X)(h:nmG G c f y=true)(ha:Snd G X a x)(hm:behindInMarks (if neg then .NotIn else .In) (.Name y p)=false) :
  Snd G X (.gin neg f a) (.Compare x [if neg then .NotIn else .In] [.Name y p] pos):=by
 obtain⟨g,hg,rfl,hok⟩:=jlb h
 have key:∀{σ:_L2.St} {H:Hp} {Q:VK},T3E X.K (ev G (.gin neg f a)).v σ H Q->∃A xs kvs,g.dat=some (.dct kvs)/\X.mg g.name=some (.ref A)/\MD X.K X.w A xs/\tOp (jrv X.K X.w neg) (T3E X.K (ev G a).v) (tC (.ref A)) σ H Q:=by
  rintro σ H Q ⟨w,μ,ρ,d0,μ',R,S,e,q⟩
  obtain⟨d1,μ1,e1,e⟩:=Out.bind_ok e
  rw[jd1 hg]at e
  unfold jxb at e
  split at e
  ·rename_i kvs z heq
   cases e
   obtain⟨A,xs,hmA,hmd,hden⟩:=o.dts f g _ hg heq
   refine⟨A,_,kvs,heq,hmA,hmd,w,μ,ρ,.str z,_,R,S,e1,fun w1 H1 v1 x1 R1 k1=>⟨A,_,z,rfl,by unfold Den at k1;exact k1,hmd,?_⟩⟩
   obtain⟨l1,l2⟩:=jgk z (hden w1 0)
   have es:(jc6 ((kvs.map (·.1)).zip xs) z).isSome=(jbb z kvs).isSome:=by
    cases hlk:jbb z kvs with
    |none=>rw[l2 hlk];rfl
    |some dd=>
     obtain⟨v,hv,_⟩:=l1 dd hlk
     rw[hv]
     rfl
   rw[es]
   exact q w1 H1 _ x1 R1 (by unfold Den;rfl)
  ·cases e
 have hb:∀ρ μ d μ',(ev G (.gin neg f a)).v ρ μ=.ok d μ'->∃b,d=.bl b:=by
  intro ρ μ d μ' e
  obtain⟨d1,μ1,e1,e⟩:=Out.bind_ok e
  unfold jxb at e
  split at e
  ·cases e;exact⟨_,rfl⟩
  ·cases e
 have opr:OpR X (compareOp (if neg then .NotIn else .In)) (jrv X.K X.w neg):=by
  cases neg
  ·exact jtw
  ·exact jl7
 refine⟨fun pins s σ H Q I hw=>?_,fun _ pins s σ H Q I hw=>?_,fun h=>by cases h⟩
 ·obtain⟨A,xs,kvs,_,hmA,_,t⟩:=key hw
  exact(jrX opr ⟨ha.v⟩ ⟨jfm (v:=.ref A) (ja9 o hok) hmA rfl⟩ hm).h pins s σ H Q I t
 ·obtain⟨A,xs,kvs,_,hmA,_,t⟩:=key (jvg hb hw)
  exact(jsd opr ⟨ha.v⟩ ⟨jfm (v:=.ref A) (ja9 o hok) hmA rfl⟩ hm).h pins s σ H Q I t
theorem juI {f:Nat}{a:E}{x:Str}{y:Expr}{p pos:Pos}(o:Ok G j c X)(h:nmG G c f x=true)(ha:Snd G X a y)(hp:jdo y=true):Snd G X (.gix f a) (.Subscript (.Name x p) y pos):=by
 obtain⟨g,hg,rfl,hok⟩:=jlb h
 have hv:PE X (.Subscript (.Name g.name p) y pos) (T3E X.K (ev G (.gix f a)).v):=by
  intro pins s σ H Q I hw
  obtain⟨w,μ,ρ,d0,μ',R,S,e,q⟩:=hw
  obtain⟨d1,μ1,e1,e⟩:=Out.bind_ok e
  rw[jd1 hg]at e
  unfold jwA at e
  split at e
  ·rename_i kvs z heq
   split at e
   ·rename_i dd hlk
    cases e
    obtain⟨A,xs,hmA,hmd,hden⟩:=o.dts f g _ hg heq
    refine jyj jzk (jfm (v:=.ref A) (ja9 o hok) hmA rfl) ha.v (jhg hp) pins s σ H Q I ?_
    refine⟨w,μ,ρ,.str z,_,R,S,e1,fun w1 H1 v1 x1 R1 k1=>?_⟩
    obtain⟨v,hv,hdv⟩:=(jgk z (hden w1 μ'.length)).1 _ hlk
    exact⟨A,_,z,v,rfl,by unfold Den at k1;exact k1,hmd,hv,q w1 H1 v x1 R1 hdv⟩
   ·cases e
  ·cases e
 exact⟨hv,(jav hv rfl).1,(jav hv rfl).2⟩
end
section
variable {K:PySem.W.Frag} {X:Cx} {G:List FnE} {j:Nat} {c:Stt}
theorem jpf {ik:IK}{es:List E}{tg it:Expr}{as:List Expr}(o:Ok G j c X)(h:jcW c ik tg it=some as)(hA:PA X as (T3A X.K (evL G es)))(h1:∀e a,es=[e]->as=[a]->PE X a (T3E X.K (ev G e).v))(hl:es.length=as.length):PI X tg it (T3I X.K ik (evL G es)):=by
 have e1:∀e,(fun ρ μ=>((ev G e).v ρ μ).bind fun d μ1=>(Out.ok [] μ1).bind fun ds μ2=>Out.ok (d::ds) μ2)=evL G [e]:=fun e=>rfl
 cases ik with
 |seq=>
  cases h
  obtain⟨e0,rfl⟩:∃e0,es=[e0]:=j06.mp hl
  rw[<- e1]
  exact jst (h1 e0 _ rfl rfl)
 |str=>
  cases h
  obtain⟨e0,rfl⟩:∃e0,es=[e0]:=j06.mp hl
  rw[<- e1]
  exact jtF (h1 e0 _ rfl rfl)
 |items=>cases h
 |enm=>
  simp only[jcW]at h
  split at h
  ·rename_i x a hx
   split at h
   ·rename_i hc
    cases h
    obtain⟨p,q,rfl⟩:=jcc hx
    simp only[j0a,beq_iff_eq]at hc
    obtain⟨⟨⟨rfl,c2⟩,c3⟩,c4⟩:=hc
    cases tg with
    |Tuple elts k tp=>exact jta (ja9 o c2) (mg_of o (by decide +kernel)) hA c3
    |_=>cases c4
   ·cases h
  ·cases h
 |zip=>
  simp only[jcW]at h
  split at h
  ·rename_i x a b hx
   split at h
   ·rename_i hc
    cases h
    obtain⟨p,q,rfl⟩:=jcc hx
    simp only[j0a,beq_iff_eq]at hc
    obtain⟨⟨⟨rfl,c2⟩,c3⟩,c4⟩:=hc
    cases tg with
    |Tuple elts k tp=>exact jt4 (ja9 o c2) (mg_of o (by decide +kernel)) hA c3
    |_=>cases c4
   ·cases h
  ·cases h
 |rng1=>
  simp only[jcW]at h
  split at h
  ·rename_i x a hx
   split at h
   ·rename_i hc
    cases h
    obtain⟨p,q,rfl⟩:=jcc hx
    simp only[j0a,beq_iff_eq]at hc
    obtain⟨⟨rfl,c2⟩,c3⟩:=hc
    exact jtx (ja9 o c2) (mg_of o (by decide +kernel)) hA c3
   ·cases h
  ·cases h
 |rng2=>
  simp only[jcW]at h
  split at h
  ·rename_i x a b hx
   split at h
   ·rename_i hc
    cases h
    obtain⟨p,q,rfl⟩:=jcc hx
    simp only[j0a,beq_iff_eq]at hc
    obtain⟨⟨rfl,c2⟩,c3⟩:=hc
    exact jsL (ja9 o c2) (mg_of o (by decide +kernel)) hA c3
   ·cases h
  ·cases h
theorem jim {t:Expr}{scope:Scope}(o:Ok G j c X)(hnd:(jdW (jbj t) c.N).Nodup)(C:Addr)(fp:List Addr)(s:Shared)(H:Hp):Ok G j (jez c t scope) (jaO X (jdW (jbj t) c.N) scope C fp s H) where
 hN:=rfl
 nd:=hnd
 sc:=by
  show relabel scope X.env=jgg scope c.sc
  rw[jn3,o.sc]
 calm:=o.calm
 room:=o.room
 mg:=o.mg
 fns:=o.fns
 dts:=o.dts
 fn:=fun h=>by cases h
structure CompOk (G:List FnE) (X:Cx) (tg:Tg) (ik:IK) (es ifs:List E) (elt:E) (own:List Str) (N':List Str) (scope:Scope) (t it:Expr) (fs:List Expr) (el:Expr):Prop where
 cs:CompScope X own N' scope
 hit:PI X t it (T3I X.K ik (evL G es))
 hg:∀C fp s H,PG (jaO X N' scope C fp s H) t (gOf X.K tg)
 ht:(∀C fp s H,PTs (jaO X N' scope C fp s H) fs (T3T X.K (evTs G ifs)))
 he:∀C fp s H,PE (jaO X N' scope C fp s H) el (T3E X.K (ev G elt).v)
 ns:jei it=true
theorem jnV {m:Bool}{own:Nat}{tg:Tg}{g:TG}{ik:IK}{es ifs:List E}{elt:E}(hT:jrZ K tg g){σ:_L2.St}{H:Hp}{Q:VK}:T3E K (ev G (.comp m own tg ik es ifs elt)).v σ H Q->jqU own (T3I K ik (evL G es)) g (T3T K (evTs G ifs)) (T3E K (ev G elt).v) σ H Q:=by
 rintro⟨w,μ,ρ,d,μ',R,S,e,q⟩
 obtain⟨ds,μ1,e1,e⟩:=Out.bind_ok e
 split at e
 ·rename_i xs hx
  split at e
  ·rename_i hz
   obtain⟨ys,μ2,e2,e3⟩:=Out.bind_ok e
   exact⟨w,μ,ρ,ds,μ1,xs,R,S,e1,hx,fun w1 H1 J x1 R1 hJ=>jpR hT R1 (S.mono x1) hJ hz e2 e3 fun w2 H2 v x2 R2 d2=>q w2 H2 v (x1.trans x2) R2 d2⟩
  ·cases e
 ·cases e
theorem jrz {m:Bool}{own:List Str}{tg:Tg}{ik:IK}{es ifs:List E}{elt:E}{N':List Str}{scope:Scope}{t it el:Expr}{fs:List Expr}{pos:Pos}(o:Ok G j c X)(h:CompOk G X tg ik es ifs elt own N' scope t it fs el):Snd G X (.comp m own.length tg ik es ifs elt) (.ListComp el [⟨t,it,fs,0⟩] scope pos):=by
 have hv:PE X (.ListComp el [⟨t,it,fs,0⟩] scope pos) (T3E X.K (ev G (.comp m own.length tg ik es ifs elt)).v):=imE (jv o.calm h.cs h.hit h.hg h.ht h.he (jd3 h.ns)) fun σ H Q q=>jnV (jdR tg) q
 exact⟨hv,(jav hv rfl).1,(jav hv rfl).2⟩
end
noncomputable def jyI (G:List FnE)(j:Nat)(own:Nat)(tg:Tg)(ik:IK)(es ifs:List E)(elt:E)(c:Stt):Expr->Comprehension->Scope->Bool:=fun el g scope=>g.is_async==0&&own==(jbj g.target).length&&jyD c.N c.sc (jbj g.target) (jdW (jbj g.target) c.N) scope&&decide (jdW (jbj g.target) c.N).Nodup&&jei g.iter&&(match jcW c ik g.target g.iter with
   |some as=>chkL G j es c as
   |none=>false)&&jdU (jez c g.target scope) tg g.target&&chkTs G j ifs (jez c g.target scope) g.ifs&&chk G j elt (jez c g.target scope) el
section
variable {G:List FnE} {j:Nat}
mutual
theorem snd:∀(ir:E) {c:Stt} {X:Cx} {e:Expr},Ok G j c X->chk G j ir c e=true->Snd G X ir e
 |.var i,c,X,e,o,h=>jsv o h
 |.cst d,c,X,e,o,h=>juD h
 |.bin op m a b,c,X,e,o,h=>by
  have hh:=juJ (P:=fun x o y _=>o==op&&chk G j a c x&&chk G j b c y) h
  clear h
  obtain⟨x,o',y,p,rfl,h⟩:=hh
  simp only[j0a,beq_iff_eq]at h
  obtain⟨⟨rfl,h1⟩,h2⟩:=h
  exact jtX (snd a o h1) (snd b o h2)
 |.neg a,c,X,e,o,h=>by
  have hh:=jtJ (P:=fun x=>chk G j a c x) h
  clear h
  obtain⟨x,p,rfl,h⟩:=hh
  exact jt1 (snd a o h)
 |.not_ a,c,X,e,o,h=>by
  have hh:=juj (P:=fun x=>chk G j a c x&&tst x) h
  clear h
  obtain⟨x,p,rfl,h⟩:=hh
  simp only[j0a]at h
  exact juT h.2 (snd a o h.1)
 |.and_ a b,c,X,e,o,h=>by
  have hh:=jus (P:=fun x y=>chk G j a c x&&tst x&&(chk G j b c y&&tst y)) (R:=fun x y z rest p=>chk G j a c x&&tst x&&chk G j b c (.BoolOp .And (y::z::rest) p)) h
  clear h
  rcases hh with⟨x,y,p,rfl,h⟩|⟨x,y,z,rest,p,rfl,h⟩
  ·simp only[j0a]at h
   exact jpp h.1.2 h.2.2 (snd a o h.1.1) (snd b o h.2.1)
  ·simp only[j0a]at h
   exact jpM h.1.2 (snd a o h.1.1) (snd b o h.2)
 |.or_ a b,c,X,e,o,h=>by
  have hh:=jw7 (P:=fun x y=>chk G j a c x&&tst x&&(chk G j b c y&&tst y)) (R:=fun x y z rest p=>chk G j a c x&&tst x&&chk G j b c (.BoolOp .Or (y::z::rest) p)) h
  clear h
  rcases hh with⟨x,y,p,rfl,h⟩|⟨x,y,z,rest,p,rfl,h⟩
  ·simp only[j0a]at h
   exact js3 h.1.2 h.2.2 (snd a o h.1.1) (snd b o h.2.1)
  ·simp only[j0a]at h
   exact juu h.1.2 (snd a o h.1.1) (snd b o h.2)
 |.cmp op a b,c,X,e,o,h=>by
  have hh:=jmU (P:=fun x o y=>o==op&&chk G j a c x&&chk G j b c y&&!(behindInMarks o y)) h
  clear h
  obtain⟨x,o',y,p,rfl,h⟩:=hh
  simp only[j0a,beq_iff_eq,j0B]at h
  obtain⟨⟨⟨rfl,h1⟩,h2⟩,h3⟩:=h
  exact jsX o h3 (snd a o h1) (snd b o h2)
 |.chain o1 o2 a b d,c,X,e,o,h=>by
  have hh:=joP (P:=fun x p q y z=>p==o1&&q==o2&&chk G j a c x&&chk G j b c y&&chk G j d c z&&!(lastMarks [p,q] [y,z])) h
  clear h
  obtain⟨x,p,q,y,z,r,rfl,h⟩:=hh
  simp only[j0a,beq_iff_eq,j0B]at h
  obtain⟨⟨⟨⟨⟨rfl,rfl⟩,h1⟩,h2⟩,h3⟩,h4⟩:=h
  exact joA o h4 (snd a o h1) (snd b o h2) (snd d o h3)
 |.isN _,c,X,e,o,h=>by
  have h':false=true:=h
  cases h'
 |.notN _,c,X,e,o,h=>by
  have h':false=true:=h
  cases h'
 |.ife k a b,c,X,e,o,h=>by
  have hh:=jut (P:=fun z x y=>chk G j k c z&&tst z&&chk G j a c x&&chk G j b c y) h
  clear h
  obtain⟨z,x,y,p,rfl,h⟩:=hh
  simp only[j0a]at h
  obtain⟨⟨⟨h1,h2⟩,h3⟩,h4⟩:=h
  exact jtH h2 (snd k o h1) (snd a o h3) (snd b o h4)
 |.tup es,c,X,e,o,h=>by
  have hh:=jtt (P:=fun xs=>chkL G j es c xs&&jag xs) h
  clear h
  obtain⟨xs,k,p,rfl,h⟩:=hh
  simp only[j0a]at h
  exact jra (sndL es o h.1).1
 |.lst m es,c,X,e,o,h=>by
  have hh:=juB (P:=fun xs=>chkL G j es c xs&&jag xs) h
  clear h
  obtain⟨xs,p,rfl,h⟩:=hh
  simp only[j0a]at h
  exact jp1 (sndL es o h.1).1
 |.ix a b,c,X,e,o,h=>by
  have hh:=jnv (P:=fun x y=>chk G j a c x&&chk G j b c y&&jdo y) h
  clear h
  obtain⟨x,y,p,rfl,h⟩:=hh
  simp only[j0a]at h
  exact jxy o h.2 (snd a o h.1.1) (snd b o h.1.2)
 |.sl m a lo hi,c,X,e,o,h=>by
  have hh:=jx (P:=fun x l u=>chk G j a c x&&chkL G j lo c l.toList&&chkL G j hi c u.toList) h
  clear h
  obtain⟨x,l,u,p,q,rfl,h⟩:=hh
  simp only[j0a]at h
  obtain⟨⟨h1,h2⟩,h3⟩:=h
  have k1:=sndL lo o h2
  have k2:=sndL hi o h3
  exact jvP (snd a o h1) (jrA (fun e x e1 e2=>k1.2.1 e x e1 (by rw[e2];rfl)) k1.2.2) (jrA (fun e x e1 e2=>k2.2.1 e x e1 (by rw[e2];rfl)) k2.2.2)
 |.stp m a lo st,c,X,e,o,h=>by
  have h':(match jlL e with
   |some (x,l,s)=>chk G j a c x&&chkL G j lo c [l]&&chkL G j st c [s]
   |none=>false)=true:=h
  clear h
  split at h'
  ·rename_i x l s hx
   obtain⟨p,q,rfl⟩:=jnj hx
   simp only[j0a]at h'
   obtain⟨⟨h1,h2⟩,h3⟩:=h'
   have k1:=sndL lo o h2
   have k2:=sndL st o h3
   exact juc (snd a o h1) (jrA (fun e x e1 e2=>k1.2.1 e x e1 (by cases e2;rfl)) k1.2.2) (jrA (fun e x e1 e2=>k2.2.1 e x e1 (by cases e2;rfl)) k2.2.2)
  ·cases h'
 |.fld a i f,c,X,e,o,h=>by
  have h':false=true:=h
  cases h'
 |.call f md es,c,X,e,o,h=>by
  have hh:=jii (P:=fun x _ y ys _=>(match G[f]? with
   |some g=>g.name==x&&jb0 c.sc x&&es.length==g.ps.length&&decide (g.lv<=j)
   |none=>false)&&chkL G j es c (y::ys)&&jag (y::ys)) h
  clear h
  obtain⟨x,q,y,ys,p,rfl,h⟩:=hh
  simp only[j0a]at h
  obtain⟨⟨h1,h2⟩,h3⟩:=h
  split at h1
  ·rename_i g hg
   simp only[j0a,beq_iff_eq,decide_eq_true_eq]at h1
   obtain⟨⟨⟨a1,a2⟩,a3⟩,a4⟩:=h1
   exact jqj o hg a1 a2 a3 a4 h3 (sndL es o h2).1
  ·cases h1
 |.bi b m es,c,X,e,o,h=>by
  have hh:=jii (P:=fun x _ y ys _=>jk2 b==x&&jb0 c.sc x&&jag (y::ys)&&(match jf2 c b (y::ys)with
   |some as=>chkL G j es c as
   |none=>false)) h
  clear h
  obtain⟨x,q,y,ys,p,rfl,h⟩:=hh
  simp only[j0a,beq_iff_eq]at h
  obtain⟨⟨⟨h1,h2⟩,h3⟩,h4⟩:=h
  split at h4
  ·rename_i as ha
   have k:=sndL es o h4
   exact jvz o h1 h2 h3 ha k.1 k.2.1 k.2.2
  ·cases h4
 |.mt b ob es,c,X,e,o,h=>by
  have hh:=jsj (P:=fun z n q y ys p=>jlU b==n&&chk G j ob c z&&jbs z&&jag (y::ys)&&decide (ys.length<28)&&(q.endLine==p.line)&&chkL G j es c (y::ys)) h
  clear h
  obtain⟨z,n,q,y,ys,p,rfl,h⟩:=hh
  simp only[j0a,beq_iff_eq,decide_eq_true_eq]at h
  obtain⟨⟨⟨⟨⟨⟨rfl,h1⟩,h2⟩,h3⟩,h4⟩,h5⟩,h6⟩:=h
  exact jwk o (snd ob o h1) h2 h3 h4 (by simpa using h5) (sndL es o h6).1
 |.comp m own tg ik es ifs elt,c,X,e,o,h=>by
  have hh:=jlh (P:=jyI G j own tg ik es ifs elt c) h
  clear h
  obtain⟨el,g,scope,p,rfl,h⟩:=hh
  obtain⟨t,it,fs,kk⟩:=g
  simp only[jyI,j0a,beq_iff_eq,decide_eq_true_eq]at h
  obtain⟨⟨⟨⟨⟨⟨⟨⟨rfl,rfl⟩,h1⟩,h2⟩,h3⟩,h4⟩,h5⟩,h6⟩,h7⟩:=h
  split at h4
  ·rename_i as ha
   have k:=sndL es o h4
   have oi:=jim (t:=t) (scope:=scope) o h2
   exact jrz o ⟨csk (by rw[o.hN,o.sc];exact h1),jpf o ha k.1 k.2.1 k.2.2,fun C fp s H=>(jkJ (oi C fp s H) h5).1,fun C fp s H=>sndT ifs (oi C fp s H) h6,fun C fp s H=>(snd elt (oi C fp s H) h7).v,h3⟩
  ·cases h4
 |.gl f,c,X,e,o,h=>by
  have hh:=jlK (P:=fun x _=>nmG G c f x) h
  clear h
  obtain⟨x,p,rfl,h⟩:=hh
  exact jxF o h
 |.gget f a d,c,X,e,o,h=>by
  have hh:=jsj (P:=fun z0 name apos y ys cpos=>name == "get" && (match jew z0,ys with
   |some x,[z]=>nmG G c f x&&chk G j d c z&&jag [y,z]
   |_,_=>false)&&chk G j a c y&&jbs z0&&(apos.endLine==cpos.line)) h
  clear h
  obtain⟨z,n,q,y,ys,p,rfl,h⟩:=hh
  simp only[j0a,beq_iff_eq]at h
  obtain⟨⟨⟨⟨rfl,h1⟩,h2⟩,h4⟩,h6⟩:=h
  split at h1
  ·rename_i x z' hx
   obtain⟨p',rfl⟩:=jdT hx
   simp only[j0a]at h1
   exact jqF o h1.1.1 (snd a o h2) (snd d o h1.1.2) h4 h1.2 (by simpa using h6)
  ·cases h1
 |.gin neg f a,c,X,e,o,h=>by
  have hh:=jmU (P:=fun x o z=>o==(if neg then .NotIn else .In)&&(match jew z with
   |some y=>nmG G c f y
   |none=>false)&&chk G j a c x&&!(behindInMarks o z)) h
  clear h
  obtain⟨x,o',z,p,rfl,h⟩:=hh
  simp only[j0a,beq_iff_eq,j0B]at h
  obtain⟨⟨⟨rfl,h1⟩,h2⟩,h3⟩:=h
  split at h1
  ·rename_i y hy
   obtain⟨p',rfl⟩:=jdT hy
   exact juC o h1 (snd a o h2) h3
  ·cases h1
 |.gix f a,c,X,e,o,h=>by
  have hh:=jnv (P:=fun z y=>(match jew z with
   |some x=>nmG G c f x
   |none=>false)&&chk G j a c y&&jdo y) h
  clear h
  obtain⟨z,y,p,rfl,h⟩:=hh
  simp only[j0a]at h
  obtain⟨⟨h1,h2⟩,h3⟩:=h
  split at h1
  ·rename_i x hx
   obtain⟨p',rfl⟩:=jdT hx
   exact juI o h1 (snd a o h2) h3
  ·cases h1
theorem sndT:∀(ifs:List E) {c:Stt} {X:Cx} {xs:List Expr},Ok G j c X->chkTs G j ifs c xs=true->PTs X xs (T3T X.K (evTs G ifs))
 |[],c,X,xs,o,h=>by
  cases xs with
  |nil=>
   intro pins s σ H Q I hw
   refine joF pins s σ H Q I ?_
   rw[jqw]at hw
   obtain⟨w,μ,ρ,b,μ',R,S,e,q⟩:=hw
   cases e
   exact q w H (Ext.refl _ _) R
  |cons x xs=>have h':false=true:=h;cases h'
 |[e],c,X,xs,o,h=>by
  match xs,h with
  |[x],h=>
   have h:(chk G j e c x&&tst x)=true:=h
   simp only[j0a]at h
   rw[jri]
   exact jtM ((snd e o h.1).t h.2)
  |[],h=>have h':false=true:=h;cases h'
  |_::_::_,h=>have h':false=true:=h;cases h'
 |e::e'::es,c,X,xs,o,h=>by
  cases xs<;>(have h':false=true:=h;cases h')
theorem sndL:∀(es:List E) {c:Stt} {X:Cx} {xs:List Expr},Ok G j c X->chkL G j es c xs=true->PA X xs (T3A X.K (evL G es))/\(∀e a,es=[e]->xs=[a]->PE X a (T3E X.K (ev G e).v))/\es.length=xs.length
 |[],c,X,xs,o,h=>by
  cases xs with
  |nil=>exact⟨imA jcG fun σ H Q q=>jxs (by rw[jtB]at q;exact q),(fun e a h=>by cases h),rfl⟩
  |cons x xs=>have h':false=true:=h;cases h'
 |e::es,c,X,xs,o,h=>by
  cases xs with
  |nil=>have h':false=true:=h;cases h'
  |cons x xs=>
   have h:(chk G j e c x&&jaG x&&chkL G j es c xs)=true:=h
   simp only[j0a]at h
   have k1:=snd e o h.1.1
   have k2:=sndL es o h.2
   exact⟨imA (pac k1.v k2.1 h.1.2) fun σ H Q q=>jth (by rw[jq0]at q;exact q),(fun e' a h1 h2=>by cases h1;cases h2;exact k1.v),by simp[k2.2.2]⟩
end
end
noncomputable def joM:Expr->Bool
 |.Tuple ..=>true
 |_=>false
noncomputable def jye (sc:Scope)(y:Str)(py:Pos)(v:Expr):Bool:=
 match v with
 |.ListComp _ _ s p=>sc.names.lookup y==some .local&&py.line==p.line&&!(s.names.any fun(n,k)=>n==y&&(k==.local||k==.cell))
 |_=>false
noncomputable def tgV (tg:Tg)(v:Expr):Bool:=
 match tg with
 |.nm _=>true
 |.tp _=>notComp v&&!(joM v)
noncomputable def jrL:E->Bool
 |.comp ..=>true
 |_=>false
noncomputable def jrg (e:E)(v:Expr):Bool:=jrL e||notComp v
section
variable (G:List FnE) (j:Nat)
mutual
noncomputable def jyJ:S->Stt->Stmt->Bool
 |.asg tg e,c,st=>match st with
  |.Assign [t] v _=>chk G j e c v&&jdU c tg t&&!c.cmp&&tgV tg v&&jrg e v
  |_=>false
 |.par _ _ _ _,_,_=>false
 |.unp _ _,_,_=>false
 |.setF _ _ _ _,_,_=>false
 |.setI _ _ _,_,_=>false
 |.ex e,c,st=>match st with
  |.Expr v _=>chk G j e c v&&notComp v
  |_=>false
 |.ite k a b,c,st=>match st with
  |.If x ss tt _=>chk G j k c x&&tst x&&chkSs a c ss&&chkSs b c tt
  |_=>false
 |.for_ tg ik es body _,c,st=>match st with
  |.For t it ss [] _=>jei it&&(match jcW c ik t it with
   |some as=>chkL G j es c as
   |none=>false)&&jdU c tg t&&chkSs body c ss
  |_=>false
 |.ret e,c,st=>match st with
  |.Return (some v) _=>chk G j e c v
  |_=>false
 |.retN,_,st=>match st with
  |.Return none _=>true
  |_=>false
 |.pass,_,st=>match st with
  |.Pass _=>true
  |_=>false
 |.never,_,_=>true
noncomputable def chkSs:List S->Stt->List Stmt->Bool
 |[],_,[]=>true
 |s::ss,c,t::ts=>jyJ s c t&&chkSs ss c ts
 |_,_,_=>false
end
end
theorem jox {P:Expr->Expr->Pos->Bool}{e:Stmt}(h:(match e with
  |.Assign [t] v p=>P t v p
  |_=>false)=true):∃t v p,e=.Assign [t] v p/\P t v p=true:=by
 split at h
 ·exact⟨_,_,_,rfl,h⟩
 ·cases h
theorem jr9 {P:Expr->Bool}{e:Stmt}(h:(match e with
  |.Expr v _=>P v
  |_=>false)=true):∃v p,e=.Expr v p/\P v=true:=by
 split at h
 ·exact⟨_,_,rfl,h⟩
 ·cases h
theorem jrG {P:Expr->List Stmt->List Stmt->Bool}{e:Stmt}(h:(match e with
  |.If x ss tt _=>P x ss tt
  |_=>false)=true):∃x ss tt p,e=.If x ss tt p/\P x ss tt=true:=by
 split at h
 ·exact⟨_,_,_,_,rfl,h⟩
 ·cases h
theorem jnh {P:Expr->Expr->List Stmt->Bool}{e:Stmt}(h:(match e with
  |.For t it ss [] _=>P t it ss
  |_=>false)=true):∃t it ss p,e=.For t it ss [] p/\P t it ss=true:=by
 split at h
 ·exact⟨_,_,_,_,rfl,h⟩
 ·cases h
theorem jnG {P:Expr->Bool}{e:Stmt}(h:(match e with
  |.Return (some v) _=>P v
  |_=>false)=true):∃v p,e=.Return (some v) p/\P v=true:=by
 split at h
 ·exact⟨_,_,rfl,h⟩
 ·cases h
theorem jp8 {e:Stmt}(h:(match e with
  |.Return none _=>true
  |_=>false)=true):∃p,e=.Return none p:=by
 split at h
 ·exact⟨_,rfl⟩
 ·cases h
theorem jqQ {e:Stmt}(h:(match e with
  |.Pass _=>true
  |_=>false)=true):∃p,e=.Pass p:=by
 split at h
 ·exact⟨_,rfl⟩
 ·cases h
structure OkS (G:List FnE) (j:Nat) (c:Stt) (X:Cx):Prop extends Ok G j c X where
 pass:PassesOwn (model X.prog X.w) X.A X.env X.xe
 kd:c.sc.kind=.function
section
variable {K:PySem.W.Frag} {X:Cx} {G:List FnE} {j:Nat} {c:Stt}
theorem jk5 {tg:Tg}{e:E}{te:TE}{g:TG}(hT:jrZ K tg g)(he:∀σ H Q,T3E K (ev G e).v σ H Q->te σ H Q){E:Ends}{σ:_L2.St}{H:Hp}:T3S K (run G (.asg tg e)) E σ H->jvm te g E σ H:=by
 rintro⟨w,μ,ρ,fl,μ',R,S,e1,q⟩
 obtain⟨d,μ1,e2,e1⟩:=Out.bind_ok e1
 refine he σ H _ ⟨w,μ,ρ,d,μ1,R,S,e2,fun w1 H1 v x1 R1 d1=>?_⟩
 split at e1
 ·rename_i ρ1 ha
  cases e1
  exact hT w1 _ H1 ρ ρ1 σ d v E.nx R1 (S.mono x1) d1 ha fun σ' S'=>q w1 H1 x1 R1 σ' S'
 ·cases e1
theorem jrq {sc:Scope}{y:Str}{py p:Pos}{el:Expr}{gs:List Comprehension}{s:Scope}{l:Nat}(hs:X.env.scope=sc)(hk:sc.kind=.function):swapsWith (.ListComp el gs s p) (some (.Name y py)) l X.env=pure (jye sc y py (.ListComp el gs s p)):=by
 have hb:X.env.blockKind=.function:=by
  unfold Env.blockKind
  rw[hs,hk]
  rfl
 have hq:X.env.kindOf y=sc.names.lookup y:=by
  rw[<- hs]
  rfl
 show(pure (X.env.blockKind==.function&&X.env.kindOf y==some .local&&py.line==p.line&&!(s.names.any fun(n,k)=>n==y&&(k==.local||k==.cell))):Sem Bool)=_
 rw[hb,hq]
 rfl
theorem jhW {es:List Expr}{k:Nat}{p:Pos}{v:Expr}{env:Env}(h:joM v=false):swappedStores [.Tuple es k p] v env=pure none:=by
 cases v<;>first|rfl|cases h
theorem jtW {tg:Tg}{e:E}{t v:Expr}{pos:Pos}(o:OkS G j c X)(he:chk G j e c v=true)(ht:jdU c tg t=true)(hcm:c.cmp=false)(hx:tgV tg v=true)(hcp:jrg e v=true):PS X (.Assign [t] v pos) (T3S X.K (run G (.asg tg e))):=by
 have k:=snd e o.toOk he
 obtain⟨hg,hst⟩:=jkJ o.toOk ht
 cases tg with
 |tp is=>
  simp only[tgV,j0a,j0B]at hx
  have hst2:swappedStores [t] v X.env=pure none:=by
   cases t with
   |Tuple es k p=>exact jhW hx.2
   |_=>cases ht
  exact imS (jrT k.v hg (show swapsWith v (some t) pos.line X.env=pure false from jc7 hx.1) hst2 (by rw[jgq hst];rfl)) fun E σ H q=>jk5 (jdR _) (fun _ _ _ q=>q) q
 |nm i=>
  have ht':jjm c i t=true:=ht
  unfold jjm at ht'
  split at ht'
  ·rename_i x px
   rw[hcm]at ht'
   have hok:jgP c.N c.sc i x=true:=ht'
   have hok':jgP X.N X.env.scope i x=true:=by rw[o.hN,o.sc];exact hok
   have hnd:X.N.Nodup:=by rw[o.hN];exact o.nd
   have hfn:X.fn x=true:=o.fn hcm x
   cases hI:jrL e with
   |false=>
    have hc:notComp v=true:=by simpa[jrg,hI]using hcp
    exact imS (jid hnd hok' k.v hc hfn) fun E σ H q=>jk5 (g:=je6 i) (jdR (.nm i)) (fun _ _ _ q=>q) q
   |true=>
    cases e with
    |comp m own tg' ik es ifs elt=>
     have hh:=jlh (P:=jyI G j own tg' ik es ifs elt c) he
     clear he
     obtain⟨el,g,s,p,rfl,he⟩:=hh
     obtain⟨t',it,fs,kk⟩:=g
     simp only[jyI,j0a,beq_iff_eq,decide_eq_true_eq]at he
     obtain⟨⟨⟨⟨⟨⟨⟨⟨rfl,rfl⟩,h1⟩,h2⟩,h3⟩,h4⟩,h5⟩,h6⟩,h7⟩:=he
     ·have hs:=jrq (X:=X) (sc:=c.sc) (y:=x) (py:=px) (p:=p) (el:=el) (gs:=[⟨t',it,fs,0⟩]) (s:=s) (l:=pos.line) o.sc o.kd
      cases hsw:jye c.sc x px (.ListComp el [⟨t',it,fs,0⟩] s p)with
      |false=>
       rw[hsw]at hs
       exact imS (jr2 hnd (jcb hok').1 (jcb hok').2 k.v hs (.inl hfn)) fun E σ H q=>jk5 (g:=je6 i) (jdR (.nm i)) (fun _ _ _ q=>q) q
      |true=>
       rw[hsw]at hs
       split at h4
       ·rename_i as ha
        have kk:=sndL es o.toOk h4
        have oi:=jim (t:=t') (scope:=s) o.toOk h2
        exact imS (jl4 hnd (jcb hok').1 (jcb hok').2 o.calm (csk (by rw[o.hN,o.sc];exact h1)) (jpf o.toOk ha kk.1 kk.2.1 kk.2.2) (fun C fp s H=>(jkJ (oi C fp s H) h5).1) (fun C fp s H=>sndT ifs (oi C fp s H) h6) (fun C fp s H=>(snd elt (oi C fp s H) h7).v) hs (jd3 h3) (.inl hfn))
         fun E σ H q=>jk5 (g:=je6 i) (jdR (.nm i)) (fun _ _ _ q=>jnV (jdR tg') q) q
       ·cases h4
    |_=>cases hI
  ·cases ht'
theorem jxo {e:E}{v:Expr}{pos:Pos}(o:OkS G j c X)(he:chk G j e c v=true)(hc:notComp v=true):PS X (.Expr v pos) (T3S X.K (run G (.ex e))):=by
 refine imS (jkw (snd e o.toOk he).v (jc7 hc)) fun E σ H=>?_
 rintro⟨w,μ,ρ,fl,μ',R,S,e1,q⟩
 obtain⟨d,μ1,a1,e1⟩:=Out.bind_ok e1
 cases e1
 exact⟨w,μ,ρ,d,_,R,S,a1,fun w1 H1 v1 x1 R1 k1=>q w1 H1 x1 R1 σ (S.mono x1)⟩
theorem jt0 {e:E}{v:Expr}{pos:Pos}(o:OkS G j c X)(he:chk G j e c v=true):PS X (.Return (some v) pos) (T3S X.K (run G (.ret e))):=by
 refine imS (jmQ (snd e o.toOk he).v) fun E σ H=>?_
 rintro⟨w,μ,ρ,fl,μ',R,S,e1,q⟩
 obtain⟨d,μ1,a1,e1⟩:=Out.bind_ok e1
 cases e1
 exact⟨w,μ,ρ,d,_,R,S,a1,fun w1 H1 v1 x1 R1 k1=>q w1 H1 x1 R1 v1 k1⟩
theorem jur {k:E}{a b:List S}{x:Expr}{ss tt:List Stmt}{pos:Pos}(o:OkS G j c X)(hk:chk G j k c x=true)(ht:tst x=true)(ha:PSs X ss (T3S X.K (runs G a)))(hb:PSs X tt (T3S X.K (runs G b))):PS X (.If x ss tt pos) (T3S X.K (run G (.ite k a b))):=by
 refine imS (jxd ((snd k o.toOk hk).t ht) ha hb) fun E σ H=>?_
 rintro⟨w,μ,ρ,fl,μ',R,S,e1,q⟩
 obtain⟨b',μ1,a1,e1⟩:=Out.bind_ok e1
 refine⟨w,μ,ρ,b',μ1,R,S,a1,fun w1 H1 x1 R1=>?_⟩
 dsimp only
 cases b' with
 |true=>
  rw[if_pos rfl]at e1 ⊢
  exact⟨w1,μ1,ρ,fl,μ',R1,S.mono x1,e1,fun w2 H2 x2 R2=>q w2 H2 (x1.trans x2) R2⟩
 |false=>
  rw[if_neg j0g]at e1 ⊢
  exact⟨w1,μ1,ρ,fl,μ',R1,S.mono x1,e1,fun w2 H2 x2 R2=>q w2 H2 (x1.trans x2) R2⟩
theorem jtd {tg:Tg}{ik:IK}{es:List E}{body:List S}{fg:List Nat}{t it:Expr}{as:List Expr}{ss:List Stmt}{pos:Pos}(o:OkS G j c X)(hn:jei it=true)(hi:jcW c ik t it=some as)(hes:chkL G j es c as=true)(ht:jdU c tg t=true)(hb:PSs X ss (T3S X.K (runs G body))):PS X (.For t it ss [] pos) (T3S X.K (run G (.for_ tg ik es body fg))):=by
 have k:=sndL es o.toOk hes
 refine imS (jrS o.pass o.calm (jpf o.toOk hi k.1 k.2.1 k.2.2) (jkJ o.toOk ht).1 hb (jd3 hn)) fun E σ H=>?_
 rintro⟨w,μ,ρ,fl,μ',R,S,e1,q⟩
 obtain⟨ds,μ1,a1,e1⟩:=Out.bind_ok e1
 split at e1
 ·rename_i xs hx
  exact⟨w,μ,ρ,ds,μ1,xs,R,S,a1,hx,fun w1 H1 J x1 R1 hJ=>jt9 (jdR tg) R1 (S.mono x1) hJ e1 fun w2 H2 x2 R2=>q w2 H2 (x1.trans x2) R2⟩
 ·cases e1
theorem js7 {s:S}{ss:List S}{st:Stmt}{sts:List Stmt}(h1:PS X st (T3S X.K (run G s)))(h2:PSs X sts (T3S X.K (runs G ss))):PSs X (st::sts) (T3S X.K (runs G (s::ss))):=by
 refine jx6 (jfl h1 h2) fun E σ H=>?_
 rintro⟨w,μ,ρ,fl,μ',R,S,e1,q⟩
 replace e1:(match run G s ρ μ with
  |.ok (.nx ρ1) μ1=>runs G ss ρ1 μ1
  |r=>r)=.ok fl μ':=e1
 cases e2:run G s ρ μ with
 |exc x μ1=>rw[e2]at e1;cases e1
 |bad=>rw[e2]at e1;cases e1
 |ok f1 μ1=>
  rw[e2]at e1
  refine⟨w,μ,ρ,f1,μ1,R,S,e2,fun w1 H1 x1 R1=>?_⟩
  cases f1 with
  |nx ρ1=>
   intro σ1 S1
   exact⟨w1,μ1,ρ1,fl,μ',R1,S1,e1,fun w2 H2 x2 R2=>q w2 H2 (x1.trans x2) R2⟩
  |rt d=>
   cases e1
   exact q w1 H1 x1 R1
  |bk ρ1=>
   cases e1
   exact q w1 H1 x1 R1
  |ct ρ1=>
   cases e1
   exact q w1 H1 x1 R1
end
section
variable {G:List FnE} {j:Nat}
mutual
theorem jz7:∀(s:S) {c:Stt} {X:Cx} {st:Stmt},OkS G j c X->jyJ G j s c st=true->PS X st (T3S X.K (run G s))
 |.asg tg e,c,X,st,o,h=>by
  have hh:=jox (P:=fun t v _=>chk G j e c v&&jdU c tg t&&!c.cmp&&tgV tg v&&jrg e v) h
  clear h
  obtain⟨t,v,p,rfl,h⟩:=hh
  simp only[j0a,j0B]at h
  exact jtW o h.1.1.1.1 h.1.1.1.2 h.1.1.2 h.1.2 h.2
 |.par i k a b,c,X,st,o,h=>by
  have h':false=true:=h
  cases h'
 |.unp is e,c,X,st,o,h=>by
  have h':false=true:=h
  cases h'
 |.setF ob i f e,c,X,st,o,h=>by
  have h':false=true:=h
  cases h'
 |.setI _ _ _,c,X,st,o,h=>by
  have h':false=true:=h
  cases h'
 |.ex e,c,X,st,o,h=>by
  have hh:=jr9 (P:=fun v=>chk G j e c v&&notComp v) h
  clear h
  obtain⟨v,p,rfl,h⟩:=hh
  simp only[j0a]at h
  exact jxo o h.1 h.2
 |.ite k a b,c,X,st,o,h=>by
  have hh:=jrG (P:=fun x ss tt=>chk G j k c x&&tst x&&chkSs G j a c ss&&chkSs G j b c tt) h
  clear h
  obtain⟨x,ss,tt,p,rfl,h⟩:=hh
  simp only[j0a]at h
  obtain⟨⟨⟨h1,h2⟩,h3⟩,h4⟩:=h
  exact jur o h1 h2 (sndSs a o h3) (sndSs b o h4)
 |.for_ tg ik es body fg,c,X,st,o,h=>by
  have hh:=jnh (P:=fun t it ss=>jei it&&(match jcW c ik t it with
   |some as=>chkL G j es c as
   |none=>false)&&jdU c tg t&&chkSs G j body c ss) h
  clear h
  obtain⟨t,it,ss,p,rfl,h⟩:=hh
  simp only[j0a]at h
  obtain⟨⟨⟨h1,h2⟩,h3⟩,h4⟩:=h
  split at h2
  ·rename_i as ha
   exact jtd o h1 ha h2 h3 (sndSs body o h4)
  ·cases h2
 |.ret e,c,X,st,o,h=>by
  have hh:=jnG (P:=fun v=>chk G j e c v) h
  clear h
  obtain⟨v,p,rfl,h⟩:=hh
  exact jt0 o h
 |.retN,c,X,st,o,h=>by
  have hh:=jp8 h
  clear h
  obtain⟨p,rfl⟩:=hh
  refine imS jtC fun E σ H=>?_
  rintro⟨w,μ,ρ,fl,μ',R,S,e1,q⟩
  have e2:Out.ok (Fl.rt D.non) μ=.ok fl μ':=e1
  cases e2
  exact q w H (Ext.refl _ _) R .non (by unfold Den;rfl)
 |.pass,c,X,st,o,h=>by
  have hh:=jqQ h
  clear h
  obtain⟨p,rfl⟩:=hh
  refine imS jsI fun E σ H=>?_
  rintro⟨w,μ,ρ,fl,μ',R,S,e1,q⟩
  have e2:Out.ok (Fl.nx ρ) μ=.ok fl μ':=e1
  cases e2
  exact q w H (Ext.refl _ _) R σ S
 |.never,c,X,st,o,h=>by
  refine imS jqK fun E σ H=>?_
  rintro⟨w,μ,ρ,fl,μ',R,S,e1,q⟩
  have e2:(Out.bad:Out Fl)=.ok fl μ':=e1
  cases e2
theorem sndSs:∀(ss:List S) {c:Stt} {X:Cx} {sts:List Stmt},OkS G j c X->chkSs G j ss c sts=true->PSs X sts (T3S X.K (runs G ss))
 |[],c,X,sts,o,h=>by
  cases sts with
  |nil=>
   refine jx6 jne fun E σ H=>?_
   rintro⟨w,μ,ρ,fl,μ',R,S,e1,q⟩
   have e2:Out.ok (Fl.nx ρ) μ=.ok fl μ':=e1
   cases e2
   exact q w H (Ext.refl _ _) R σ S
  |cons _ _=>
   have h':false=true:=h
   cases h'
 |s::ss,c,X,sts,o,h=>by
  cases sts with
  |nil=>
   have h':false=true:=h
   cases h'
  |cons t ts=>
   have h':(jyJ G j s c t&&chkSs G j ss c ts)=true:=h
   clear h
   have h:=h'
   simp only[j0a]at h
   exact js7 (jz7 s o h.1) (sndSs ss o h.2)
end
end
section
variable {P:Program} {w:World} {K:PySem.W.Frag} {mg:Str->Option Value} {base:Heap}
structure Tab (P:Program) (w:World) (K:PySem.W.Frag) (mg:Str->Option Value) (base:Heap) (j:Nat) (G:List FnE):Prop where
 hm:∀x∈jdP,mg x=none
 hf:∀(i:Nat) (g:FnE),G[i]?=some g->g.lv<=j->_L2.Callee P w K mg base g.lv g.name g.ps (jmL K g.ps.length g.F)
 hd:∀(i:Nat) (g:FnE) (d:Dat),G[i]?=some g->g.dat=some d->jjq K w mg g.name d
theorem ja2 {x qual:Str}{st:Stmt}{f:Addr}{fd:FuncData}{N ps:List Str}{j:Nat}{G:List FnE}{body:List S}(F:Fun K x qual st f fd)(Sc:FnScope N ps (ja st))(T:Tab P w K mg base j G)(h:chkSs G j body ⟨N,ja st,false⟩ (jap st)=true) :
  FnOk P w K mg base CX0 (j+1) f fd ps (jmL K ps.length (fnOf G ps.length (N.length - ps.length) body)):=by
 refine F.okQ Sc (fun vs H Q E h=>h.1) (fun cdv A outer s H vs Q E hr hsp=>?_)
 refine⟨T3S K (runs G body),⟨sndSs body (c:=⟨N,ja st,false⟩) ⟨⟨rfl,Sc.nd,rfl,rfl,hr,T.hm,T.hf,T.hd,fun _ _=>rfl⟩,PassesOwn.never,Sc.kind⟩ h⟩,?_⟩
 obtain⟨hl,w0,μ,ds,d,μ',R,hD,e,q⟩:=hsp
 unfold fnOf at e
 split at e
 ·rename_i hn
  have hS:jch K w0 μ.length (ds.map some++List.replicate (N.length - ps.length) none) (_L2.start N vs):=by
   unfold _L2.start
   rw[hl]
   exact jch.start hD _
  split at e
  ·rename_i d1 μ1 e1
   cases e
   exact⟨w0,μ,_,_,_,R,hS,e1,fun w1 H1 x1 R1 v dv=>q w1 H1 v x1 R1 dv⟩
  ·rename_i ρ1 μ1 e1
   cases e
   exact⟨w0,μ,_,_,_,R,hS,e1,fun w1 H1 x1 R1 σ' S'=>q w1 H1 .non x1 R1 (by unfold Den;rfl)⟩
  ·cases e
  ·cases e
  ·cases e
 ·cases e
theorem ju6 {f:Addr} {fd:FuncData} {k:Nat} {F:Fn} (h:FnOk P w K mg base CX0 k f fd ["_law_script"] (jmL K 1 F)) (hF:∀ns:List Int,ns.length<=63->∃μ,F [.scr (ns.map D.int)] []=.ok (.bl true) μ):FnOk P w K mg base CX0 k f fd ["_law_script"] (spLaw K):=by
 refine h.imp fun vs H Q E=>?_
 rintro⟨a,ns,rfl,hS,hn,q⟩
 obtain⟨μ,hm⟩:=hF ns hn
 refine⟨rfl,⟨fun b=>if b=a then H a else none,fun _=>0⟩,[],_,_,μ,⟨fun b o h=>?_,fun k c h=>by simp at h,fun i j ci cj h=>by simp at h⟩,?_,hm,fun w' H' v _ _ hv=>?_⟩
 ·replace h:(if b=a then H a else none)=some o:=h
  split at h
  ·rename_i e
   rw[e]
   exact h
  ·cases h
 ·unfold DenL
  refine⟨.ref a,[],rfl,?_,by unfold DenL;rfl⟩
  unfold Den
  refine⟨a,ns.map V.int,rfl,?_,jfn ns⟩
  rcases hS with hS|hS
  ·left
   rcases hS with h|⟨o,h⟩
   ·exact .inl (by show(if a=a then H a else none)=_;rw[if_pos rfl];exact h)
   ·exact .inr ⟨o,by show(if a=a then H a else none)=_;rw[if_pos rfl];exact h⟩
  ·exact .inr hS
 ·unfold Den at hv
  subst hv
  exact q H'
end
theorem nr {α:Type}{a b:α}(h:a=b):a=b:=h
section
variable {α β:Type}
theorem jcn {a:α}{μ:M}{f:α->M->Out β}:(Out.ok a μ).bind f=f a μ:=rfl
theorem jqJ {f:α->M->Out β}:(Out.bad:Out α).bind f=.bad:=rfl
end
noncomputable def jmi (o:Out Fl)(k:S3->M->Out Fl):Out Fl:=
 match o with
 |.ok (.nx ρ) μ=>k ρ μ
 |r=>r
noncomputable def jgp (o:Out Fl):Out D:=
 match o with
 |.ok (.rt d) μ=>.ok d μ
 |.ok (.nx _) μ=>.ok .non μ
 |.ok _ _=>.bad
 |.exc x μ=>.exc x μ
 |.bad=>.bad
theorem jcm {ρ:S3}{μ:M}{k:S3->M->Out Fl}:jmi (.ok (.nx ρ) μ) k=k ρ μ:=rfl
theorem jsP {d:D}{μ:M}{k:S3->M->Out Fl}:jmi (.ok (.rt d) μ) k=.ok (.rt d) μ:=rfl
theorem jtp {d:D}{μ:M}:jgp (.ok (.rt d) μ)=.ok d μ:=rfl
theorem juo {ρ:S3}{μ:M}:jgp (.ok (.nx ρ) μ)=.ok .non μ:=rfl
section
variable {G:List FnE} {ρ:S3} {μ:M}
theorem jgH {np nl:Nat}{b:List S}{ds:List D}:fnOf G np nl b ds μ=if ds.length=np then jgp (runs G b (ds.map some++List.replicate nl none) μ)else .bad:=rfl
theorem jfr:runs G [] ρ μ=.ok (.nx ρ) μ:=rfl
theorem jbU {s:S}{ss:List S}:runs G (s::ss) ρ μ=jmi (_L3.run G s ρ μ) (runs G ss):=rfl
noncomputable def jzQ (tg:Tg)(ρ:S3)(d:D)(μ:M):Out Fl:=
 match jl2 tg d ρ with
 |some ρ1=>.ok (.nx ρ1) μ
 |none=>.bad
theorem jnW {tg:Tg}{e:E}:_L3.run G (.asg tg e) ρ μ=((ev G e).v ρ μ).bind fun d μ1=>jzQ tg ρ d μ1:=rfl
theorem jva {i:Nat}{d:D}:jzQ (.nm i) ρ d μ=.ok (.nx (ρ.set i (some d))) μ:=rfl
theorem jwi {e:E}:_L3.run G (.ex e) ρ μ=((ev G e).v ρ μ).bind fun _ μ1=>.ok (.nx ρ) μ1:=rfl
theorem jgV {c:E}{a b:List S}:_L3.run G (.ite c a b) ρ μ=((ev G c).t ρ μ).bind fun k μ1=>if k then runs G a ρ μ1 else runs G b ρ μ1:=rfl
theorem jnk {e:E}:_L3.run G (.ret e) ρ μ=((ev G e).v ρ μ).bind fun d μ1=>.ok (.rt d) μ1:=rfl
noncomputable def jyw (ik:IK)(ds:List D)(tg:Tg)(body:S3->M->Out Fl)(fg:List Nat)(ρ:S3)(μ:M):Out Fl:=
 match itD ik ds μ with
 |some xs=>jds (jcv ik ds xs) tg body fg xs ρ μ
 |none=>.bad
theorem jeD {ik:IK}{ds xs:List D}{tg:Tg}{body:S3->M->Out Fl}{fg:List Nat}(h:itD ik ds μ=some xs):jyw ik ds tg body fg ρ μ=jds (jcv ik ds xs) tg body fg xs ρ μ:=by
 unfold jyw
 rw[h]
theorem jsR {tg:Tg}{ik:IK}{es:List E}{body:List S}{fg:List Nat}:_L3.run G (.for_ tg ik es body fg) ρ μ=(evL G es ρ μ).bind fun ds μ1=>jyw ik ds tg (runs G body) fg ρ μ1:=rfl
theorem jxg {d:D}:(ev G (.cst d)).v ρ μ=.ok d μ:=rfl
theorem jyi {op:Operator}{m:Bool}{a b:E}:(ev G (.bin op m a b)).v ρ μ=((ev G a).v ρ μ).bind fun x μ1=>((ev G b).v ρ μ1).bind fun y μ2=>jg0 op m x y μ2:=rfl
noncomputable def jzZ (x:D)(μ:M):Out D:=
 match x with
 |.int i=>.ok (.int (-i)) μ
 |_=>.bad
theorem jv4 {a:E}:(ev G (.neg a)).v ρ μ=((ev G a).v ρ μ).bind jzZ:=rfl
theorem jqy {i:Int}:jzZ (.int i) μ=.ok (.int (-i)) μ:=rfl
noncomputable def jAk (o:Option (Option D))(μ:M):Out D:=
 match o with
 |some (some d)=>.ok d μ
 |_=>.bad
theorem jxk {i:Nat}:(ev G (.var i)).v ρ μ=jAk ρ[i]? μ:=rfl
theorem jv9 {d:D}:jAk (some (some d)) μ=.ok d μ:=rfl
noncomputable def jAf (x:D)(μ:M):Out D:=
 match x with
 |.bl c=>.ok (.bl (!c)) μ
 |_=>.bad
theorem jwK {a:E}:(ev G (.not_ a)).v ρ μ=((ev G a).v ρ μ).bind jAf:=rfl
theorem jwG {op:CmpOp}{a b:E}:(ev G (.cmp op a b)).v ρ μ=((ev G a).v ρ μ).bind fun x μ1=>((ev G b).v ρ μ1).bind fun y μ2=>jdM op x y μ2:=rfl
theorem jww {a:E}:(ev G (.isN a)).v ρ μ=((ev G a).v ρ μ).bind fun x μ1=>.ok (.bl (jo x)) μ1:=by
 show((ev G a).v ρ μ).bind _=_
 congr 1
 funext x μ1
 cases x<;>rfl
theorem jtG {a:E}:(ev G (.notN a)).v ρ μ=((ev G a).v ρ μ).bind fun x μ1=>.ok (.bl (!jo x)) μ1:=by
 show((ev G a).v ρ μ).bind _=_
 congr 1
 funext x μ1
 cases x<;>rfl
noncomputable def boD (k:Bool)(o:Out D)(x:D)(μ:M):Out D:=
 match x with
 |.bl c=>if c=k then o else .ok (.bl c) μ
 |_=>.bad
theorem jxJ {a b:E}:(ev G (.and_ a b)).v ρ μ=((ev G a).v ρ μ).bind fun x μ1=>boD true ((ev G b).v ρ μ1) x μ1:=by
 show((ev G a).v ρ μ).bind _=_
 congr 1
 funext x μ1
 cases x with
 |bl c=>cases c<;>rfl
 |_=>rfl
theorem jyQ {a b:E}:(ev G (.or_ a b)).v ρ μ=((ev G a).v ρ μ).bind fun x μ1=>boD false ((ev G b).v ρ μ1) x μ1:=by
 show((ev G a).v ρ μ).bind _=_
 congr 1
 funext x μ1
 cases x with
 |bl c=>cases c<;>rfl
 |_=>rfl
theorem jwD {c a b:E}:(ev G (.ife c a b)).v ρ μ=((ev G c).t ρ μ).bind fun k μ1=>if k then(ev G a).v ρ μ1 else(ev G b).v ρ μ1:=rfl
theorem jws {es:List E}:(ev G (.tup es)).v ρ μ=(evL G es ρ μ).bind fun ds μ1=>if ds.length<=sizeLine then .ok (.tup ds) μ1 else .bad:=rfl
theorem jxn {m:Bool}{es:List E}:(ev G (.lst m es)).v ρ μ=(evL G es ρ μ).bind fun ds μ1=>if ds.length<=sizeLine then mkL m ds μ1 else .bad:=rfl
theorem jzA {a b:E}:(ev G (.ix a b)).v ρ μ=((ev G a).v ρ μ).bind fun x μ1=>((ev G b).v ρ μ1).bind fun y μ2=>ixD x y μ2:=rfl
theorem jy8 {m:Bool}{a:E}{lo hi:List E}:(ev G (.sl m a lo hi)).v ρ μ=((ev G a).v ρ μ).bind fun x μ1=>(jjg (evL G lo ρ μ1)).bind fun l μ2=>(jjg (evL G hi ρ μ2)).bind fun h μ3=>slD m x l h μ3:=rfl
theorem jx7 {m:Bool}{a:E}{lo hi:List E}:(ev G (.stp m a lo hi)).v ρ μ=((ev G a).v ρ μ).bind fun x μ1=>(jjg (evL G lo ρ μ1)).bind fun l μ2=>(jjg (evL G hi ρ μ2)).bind fun h μ3=>jr0 m x l h μ3:=rfl
theorem jt5 {f:Nat}{md:Md}{es:List E}:(ev G (.call f md es)).v ρ μ=(evL G es ρ μ).bind fun ds μ1=>jic G f md ds μ1:=rfl
theorem jze {b:Bi}{m:Bool}{es:List E}:(ev G (.bi b m es)).v ρ μ=(evL G es ρ μ).bind fun ds μ1=>biD b m ds μ1:=rfl
theorem jzD {b:Mt}{o:E}{es:List E}:(ev G (.mt b o es)).v ρ μ=((ev G o).v ρ μ).bind fun x μ1=>if jmF b x μ1 then(evL G es ρ μ1).bind fun ds μ2=>mtD b x ds μ2 else .bad:=rfl
noncomputable def jto (m:Bool)(ik:IK)(ds:List D)(tg:Tg)(cond:S3->M->Out Bool)(elt:S3->M->Out D)(ρ:S3)(μ:M):Out D:=
 match itD ik ds μ with
 |some xs=>if xs.length<=sizeLine then(jdO (jcv ik ds xs) tg cond elt ρ xs μ).bind fun ys μ2=>mkL m ys μ2 else .bad
 |none=>.bad
theorem jp2 {m:Bool}{ik:IK}{ds xs ys:List D}{tg:Tg}{cond:S3->M->Out Bool}{elt:S3->M->Out D}{μ2:M}(h:itD ik ds μ=some xs)(hl:xs.length<=sizeLine)(hc:jdO (jcv ik ds xs) tg cond elt ρ xs μ=.ok ys μ2):jto m ik ds tg cond elt ρ μ=mkL m ys μ2:=by
 unfold jto
 simp only[h]
 rw[if_pos hl,hc,jcn]
theorem jm1 {m:Bool}{own:Nat}{tg:Tg}{ik:IK}{es ifs:List E}{elt:E}:(ev G (.comp m own tg ik es ifs elt)).v ρ μ=(evL G es ρ μ).bind fun ds μ1=>jto m ik ds tg (evTs G ifs) (ev G elt).v (List.replicate own none++ρ) μ1:=rfl
theorem jpY {o1 o2:CmpOp}{a b c:E}:(ev G (.chain o1 o2 a b c)).v ρ μ=((ev G a).v ρ μ).bind fun x μ1=>((ev G b).v ρ μ1).bind fun y μ2=>(jdM o1 x y μ2).bind fun z μ3=>boD true (((ev G c).v ρ μ3).bind fun u μ4=>jdM o2 y u μ4) z μ3:=by
 show((ev G a).v ρ μ).bind _=_
 congr 1
 funext x μ1
 congr 1
 funext y μ2
 congr 1
 funext z μ3
 cases z with
 |bl c=>cases c<;>rfl
 |_=>rfl
theorem jzm:evL G [] ρ μ=.ok [] μ:=rfl
theorem jyP {e:E}{es:List E}:evL G (e::es) ρ μ=((ev G e).v ρ μ).bind fun d μ1=>(evL G es ρ μ1).bind fun ds μ2=>.ok (d::ds) μ2:=rfl
theorem jzE:evTs G [] ρ μ=.ok true μ:=rfl
theorem jy3 {e:E}:evTs G [e] ρ μ=(ev G e).t ρ μ:=rfl
noncomputable def tru (μ:M)(d:D):Out Bool:=
 match jyA μ d with
 |some b=>.ok b μ
 |none=>.bad
theorem jsy {op:CmpOp}{a b:E}:(ev G (.cmp op a b)).t ρ μ=((ev G (.cmp op a b)).v ρ μ).bind fun d μ1=>tru μ1 d:=rfl
theorem jn0 {o1 o2:CmpOp}{a b c:E}:(ev G (.chain o1 o2 a b c)).t ρ μ=((ev G (.chain o1 o2 a b c)).v ρ μ).bind fun d μ1=>tru μ1 d:=rfl
theorem js2 {i:Nat}:(ev G (.var i)).t ρ μ=((ev G (.var i)).v ρ μ).bind fun d μ1=>tru μ1 d:=rfl
theorem jqz {f:Nat}{md:Md}{es:List E}:(ev G (.call f md es)).t ρ μ=((ev G (.call f md es)).v ρ μ).bind fun d μ1=>tru μ1 d:=rfl
theorem jxL {b:Bi}{m:Bool}{es:List E}:(ev G (.bi b m es)).t ρ μ=((ev G (.bi b m es)).v ρ μ).bind fun d μ1=>tru μ1 d:=rfl
theorem jtN {a:E}:(ev G (.isN a)).t ρ μ=((ev G (.isN a)).v ρ μ).bind fun d μ1=>tru μ1 d:=rfl
theorem jqM {a:E}:(ev G (.notN a)).t ρ μ=((ev G (.notN a)).v ρ μ).bind fun d μ1=>tru μ1 d:=rfl
theorem juS {a:E}:(ev G (.not_ a)).t ρ μ=((ev G a).t ρ μ).bind fun c μ1=>.ok (!c) μ1:=rfl
theorem jio {a b:E}:(ev G (.and_ a b)).t ρ μ=((ev G a).t ρ μ).bind fun c μ1=>if c then(ev G b).t ρ μ1 else .ok false μ1:=rfl
theorem jw0 {a b:E}:(ev G (.or_ a b)).t ρ μ=((ev G a).t ρ μ).bind fun c μ1=>if c then .ok true μ1 else(ev G b).t ρ μ1:=rfl
end
theorem jfe:∀zs:List Str,jiU (zs.map D.str)=some zs
 |[]=>rfl
 |z::zs=>by rw[j0i];unfold jiU;rw[jfe zs];rfl
section
variable {μ:M}
theorem jyl {b:Bool}:tru μ (.bl b)=.ok b μ:=rfl
theorem jxQ {b:Bool}:jAf (.bl b) μ=.ok (.bl (!b)) μ:=rfl
theorem jz {k c:Bool}{o:Out D}:boD k o (.bl c) μ=if c=k then o else .ok (.bl c) μ:=rfl
theorem jwu:jjg (.ok [] μ)=.ok none μ:=rfl
theorem jxv {i:Int}:jjg (.ok [.int i] μ)=.ok (some i) μ:=rfl
theorem jtT {m:Bool}{i j:Int}:jg0 .Add m (.int i) (.int j) μ=.ok (.int (i+j)) μ:=nr rfl
theorem jsK {m:Bool}{i j:Int}:jg0 .Sub m (.int i) (.int j) μ=.ok (.int (i - j)) μ:=if_pos trivial
theorem jiR {m:Bool}{i j:Int}(h : -18446744073709551616<i)(h2:i<18446744073709551616):jg0 .Mult m (.int i) (.int j) μ=.ok (.int (i*j)) μ:=if_pos (.inl ⟨h,h2⟩)
theorem jk8 {m:Bool}{i j:Int}(h : -18446744073709551616<j)(h2:j<18446744073709551616):jg0 .Mult m (.int i) (.int j) μ=.ok (.int (i*j)) μ:=if_pos (.inr ⟨h,h2⟩)
theorem jn9 {m:Bool}{i j:Int}(h:0<j)(h2:j<18446744073709551616):jg0 .FloorDiv m (.int i) (.int j) μ=.ok (.int (i / j)) μ:=if_pos ⟨h,h2⟩
theorem jdy {m:Bool}{i j:Int}(h:0<j):jg0 .Mod m (.int i) (.int j) μ=.ok (.int (i % j)) μ:=if_pos h
theorem jtO {m:Bool}{i j:Int}(h:0<=j)(h1:j<=1000000)(h2:i.natAbs<18446744073709551616):jg0 .Pow m (.int i) (.int j) μ=.ok (.int (i ^ j.toNat)) μ:=if_pos ⟨h,h1,h2⟩
theorem jnx {m:Bool}{j:Int}(h:0<=j)(h1:j<=1000000):jg0 .Pow m (.int 10) (.int j) μ=.ok (.int (10 ^ j.toNat)) μ:=jtO h h1 (by decide)
theorem jem {m:Bool}{x y:Str}(h:x.length+y.length<=sizeLine):jg0 .Add m (.str x) (.str y) μ=.ok (.str (x++y)) μ:=if_pos h
theorem jix {m:Bool}{z:Str}{l h:Option Int}(hz:z.length<=sizeLine):slD m (.str z) l h μ=.ok (.str (Txt.slice z l h)) μ:=if_pos hz
theorem jjn {z:Str}{ys:List Str}(h:(ys.map (·.length)).sum+ys.length*z.length<=16777216):mtD .join (.str z) [.lst (ys.map D.str)] μ=.ok (.str (Txt.join z ys)) μ:=by
 have e:jgW μ (.lst (ys.map D.str))=some (ys.map D.str):=nr rfl
 simp only[mtD,jp3,e,jfe,h,if_true]
theorem jwJ {i j:Int}:jdM .Lt (.int i) (.int j) μ=.ok (.bl (decide (i<j))) μ:=nr rfl
theorem jxz {i j:Int}:jdM .LtE (.int i) (.int j) μ=.ok (.bl (decide (i<=j))) μ:=nr rfl
theorem jwT {i j:Int}:jdM .Gt (.int i) (.int j) μ=.ok (.bl (decide (j<i))) μ:=nr rfl
theorem jwx {i j:Int}:jdM .GtE (.int i) (.int j) μ=.ok (.bl (decide (j<=i))) μ:=nr rfl
theorem jtz {i j:Int}:jdM .Eq (.int i) (.int j) μ=.ok (.bl (decide (i=j))) μ:=by
 show Out.ok (D.bl (decide (V.int i=V.int j))) μ=_
 simp
theorem juX {i j:Str}:jdM .Eq (.str i) (.str j) μ=.ok (.bl (decide (i=j))) μ:=by
 show Out.ok (D.bl (decide (V.str i=V.str j))) μ=_
 simp
theorem jtV {i j:Int}:jdM .NotEq (.int i) (.int j) μ=.ok (.bl (!decide (i=j))) μ:=by
 show Out.ok (D.bl (!decide (V.int i=V.int j))) μ=_
 simp
theorem jsU {i j:Str}:jdM .NotEq (.str i) (.str j) μ=.ok (.bl (!decide (i=j))) μ:=by
 show Out.ok (D.bl (!decide (V.str i=V.str j))) μ=_
 simp
theorem jzs {ds:List D}:mkL false ds μ=.ok (.lst ds) μ:=rfl
theorem jxq {ds:List D}:mkL true ds μ=.ok (.cel μ.length) (μ++[some (.lst ds)]):=rfl
theorem jb7 {ik:IK}{ds xs:List D}(h:itD ik ds μ=some xs):jcv ik ds xs μ=true:=jeV.mpr h
theorem jfy {c:Cl}:(μ++[some c])[μ.length]?=some (some c):=by simp
theorem jsV {g:FnE}{G:List FnE}{f:Nat}{md:Md}{ds:List D}:jic (g::G) (f+1) md ds μ=jic G f md ds μ:=rfl
theorem jt3 {g:FnE}{G:List FnE}{md:Md}{ds:List D}:jic (g::G) 0 md ds μ=jah md g.F ds μ:=rfl
theorem je2 {F:Fn}{ds:List D}{d d':D}{ν:M}(h:F ds μ=.ok d (μ++ν))(hd:jrm (μ++ν) μ.length d=some d'):jah .frz F ds μ=.ok d' μ:=by
 unfold jah
 simp only[h]
 rw[if_pos (by simp),hd]
theorem jak {F:Fn}{ds:List D}{d:D}(h:F ds μ=.ok d μ)(hd:jrm μ μ.length d=some d):jah .frz F ds μ=.ok d μ:=by
 have:=je2 (ν:=[]) (by rw[j0l];exact h) (by rw[j0l];exact hd)
 exact this
end
section
variable {μ:M}
theorem jom {z:Str}:jmF .join (.str z) μ=true:=rfl
theorem jmh {z:Str}:jmF .split (.str z) μ=true:=rfl
theorem jrn {xs:List D}:jmF .append (.cel μ.length) (μ++[some (.lst xs)])=true:=by simp[jmF]
theorem jpS {xs:List D}:jmF .extend (.cel μ.length) (μ++[some (.lst xs)])=true:=by simp[jmF]
theorem jek {xs:List D}{d:D}(h:xs.length<sizeLine):mtD .append (.cel μ.length) [d] (μ++[some (.lst xs)])=.ok .non (μ++[some (.lst (xs++[d]))]):=by
 simp[mtD,jmJ,h]
end
theorem jcw {ok:M->Bool}{tg:Tg}{body:S3->M->Out Fl}{fg:List Nat}{ρ:S3}{μ:M}(h:ok μ=true):jds ok tg body fg [] ρ μ=.ok (.nx (forget fg ρ)) μ:=by
 unfold jds
 rw[if_pos h]
theorem jce {ok:M->Bool}{tg:Tg}{body:S3->M->Out Fl}{fg:List Nat}{ρ ρ1 ρ2:S3}{μ μ2:M}{d:D}{ds:List D}(h:ok μ=true)(ha:jl2 tg d ρ=some ρ1)(hb:body ρ1 μ=.ok (.nx ρ2) μ2):jds ok tg body fg (d::ds) ρ μ=jds ok tg body fg ds (forget fg ρ2) μ2:=by
 rw[jds,if_pos h,ha]
 simp only[hb]
theorem joG {ok:M->Bool}{tg:Tg}{cond:S3->M->Out Bool}{elt:S3->M->Out D}{ρ:S3}{μ:M}(h:ok μ=true):jdO ok tg cond elt ρ [] μ=.ok [] μ:=by
 unfold jdO
 rw[if_pos h]
theorem jmx {ok:M->Bool}{tg:Tg}{cond:S3->M->Out Bool}{elt:S3->M->Out D}{ρ ρ1:S3}{μ:M}{d:D}{ds:List D}(h:ok μ=true)(ha:jl2 tg d ρ=some ρ1):jdO ok tg cond elt ρ (d::ds) μ=(cond ρ1 μ).bind fun b μ1=>if b then(elt ρ1 μ1).bind fun y μ2=>(jdO ok tg cond elt ρ ds μ2).bind fun ys μ3=>.ok (y::ys) μ3 else jdO ok tg cond elt ρ ds μ1:=by
 rw[jdO,if_pos h,ha]
theorem jjw {α:Type}{ok:M->Bool}{tg:Tg}{cond:S3->M->Out Bool}{elt:S3->M->Out D}{ρ:S3}{μ:M}(h:ok μ=true){e:α->D}{c:α->Bool}{f:α->D}:∀(xs:List α),(∀x∈xs,∃ρ1,jl2 tg (e x) ρ=some ρ1/\cond ρ1 μ=.ok (c x) μ/\(c x=true->elt ρ1 μ=.ok (f x) μ)) ->
  jdO ok tg cond elt ρ (xs.map e) μ=.ok ((xs.filter c).map f) μ
 |[],_=>joG h
 |x::xs,hx=>by
  obtain⟨ρ1,h1,h2,h3⟩:=hx x (by simp)
  have ih:=jjw (e:=e) (c:=c) (f:=f) h xs fun y hy=>hx y (by simp[hy])
  rw[j0i,jmx h h1,h2,jcn]
  cases hc:c x with
  |true=>rw[if_pos rfl,h3 hc,jcn,ih,jcn,List.filter_cons_of_pos hc,j0i]
  |false=>rw[if_neg j0g,ih,List.filter_cons_of_neg (by simp[hc])]
theorem jaX {α:Type}{G:List FnE}{m:Bool}{own:Nat}{tg:Tg}{ik:IK}{es ifs:List E}{elt:E}{ρ:S3}{μ:M}{ds:List D}{xs:List α}{e:α->D}(c:α->Bool)(f:α->D)(he:evL G es ρ μ=.ok ds μ)(hi:itD ik ds μ=some (xs.map e))(hl:xs.length<=sizeLine)
  (h:∀x∈xs,∃ρ1,jl2 tg (e x) (List.replicate own none++ρ)=some ρ1/\evTs G ifs ρ1 μ=.ok (c x) μ/\(c x=true->(ev G elt).v ρ1 μ=.ok (f x) μ)):(ev G (.comp m own tg ik es ifs elt)).v ρ μ=mkL m ((xs.filter c).map f) μ:=by
 rw[jm1,he,jcn,jp2 hi (by rw[j0f];exact hl) (jjw (jb7 hi) xs h)]
theorem jeJ {n:Nat}{μ:M}(h:n<=1000000):itD .rng1 [.int (n:Int)] μ=some ((List.range n).map fun(k:Nat)=>D.int (k:Int)):=by
 unfold itD jlw
 dsimp only
 rw[if_pos ⟨by omega,by omega⟩,j1s]
theorem jgt {zs:List Str}{i:Nat}(h:i<zs.length){μ:M}:ixD (.lst (zs.map D.str)) (.int (i:Int)) μ=.ok (.str (zs.getD i "")) μ:=by
 have e:atI (zs.map D.str) (i:Int)=some (.str (zs.getD i "")):=jdC (by simp[h])
 show(match atI (zs.map D.str) (i:Int)with|some d=>Out.ok d μ|none=>.bad)=_
 rw[e]
theorem jil {ds:List D}{i:Int}(h0:0<=i)(h1:i<ds.length){a:D}{μ:M}(ha:jfb μ a=some ds)(hs:∀z,a≠.str z):∃d∈ds,ixD a (.int i) μ=.ok d μ:=by
 obtain⟨n,rfl⟩:∃n:Nat,i=n:=⟨i.toNat,by omega⟩
 have hn:n<ds.length:=by omega
 refine⟨ds[n],List.getElem_mem hn,?_⟩
 have e:atI ds (n:Int)=some ds[n]:=jdC (by simp[hn])
 unfold ixD
 cases a<;>first|exact absurd rfl (hs _)|simp only[ha,e]
theorem sz0:(0<=sizeLine)=True:=by rw[sizeLine_eq];simp
theorem sz1:(1<=sizeLine)=True:=by rw[sizeLine_eq];simp
theorem sz2:(2<=sizeLine)=True:=by rw[sizeLine_eq];simp
theorem sz3:(3<=sizeLine)=True:=by rw[sizeLine_eq];simp
theorem sz4:(4<=sizeLine)=True:=by rw[sizeLine_eq];simp
theorem sz5:(5<=sizeLine)=True:=by rw[sizeLine_eq];simp
theorem sz6:(6<=sizeLine)=True:=by rw[sizeLine_eq];simp
theorem sz7:(7<=sizeLine)=True:=by rw[sizeLine_eq];simp
theorem sz8:(8<=sizeLine)=True:=by rw[sizeLine_eq];simp
theorem sz9:(9<=sizeLine)=True:=by rw[sizeLine_eq];simp
theorem jAD:(10<=sizeLine)=True:=by rw[sizeLine_eq];simp
theorem jAu:(11<=sizeLine)=True:=by rw[sizeLine_eq];simp
theorem jAJ:(12<=sizeLine)=True:=by rw[sizeLine_eq];simp
theorem jcd {α:Type}{h:Nat->Option D}{e:α->D}(he:∀x,jcs h (e x)=some (e x)):∀xs:List α,frzGs h (xs.map e)=some (xs.map e)
 |[]=>by unfold frzGs;rfl
 |x::xs=>by rw[j0i];unfold frzGs;rw[he x,jcd he xs]
theorem jbp {h:Nat->Option D}{i:Int}:jcs h (.int i)=some (.int i):=by unfold jcs;rfl
theorem jaw {h:Nat->Option D}{i:Str}:jcs h (.str i)=some (.str i):=by unfold jcs;rfl
theorem jbo {h:Nat->Option D}{i:Bool}:jcs h (.bl i)=some (.bl i):=by unfold jcs;rfl
theorem jcp {h:Nat->Option D}{ds es:List D}(k:frzGs h ds=some es):jcs h (.tup ds)=some (.tup es):=by unfold jcs;rw[k];rfl
theorem jpk {h:Nat->Option D}{ds es:List D}(k:frzGs h ds=some es):jcs h (.lst ds)=some (.lst es):=by unfold jcs;rw[k];rfl
theorem jao {h:Nat->Option D}{d e:D}{ds es:List D}(k1:jcs h d=some e)(k2:frzGs h ds=some es):frzGs h (d::ds)=some (e::es):=by unfold frzGs;rw[k1,k2]
theorem jec {h:Nat->Option D}:frzGs h []=some []:=by unfold frzGs;rfl
section
variable {G:List FnE} {ρ:S3} {μ:M}
theorem jzV {f:Nat}:(ev G (.gl f)).v ρ μ=glD (jhi G f) μ:=rfl
theorem jtk {f:Nat}{a d:E}:(ev G (.gget f a d)).v ρ μ=((ev G a).v ρ μ).bind fun x μ1=>((ev G d).v ρ μ1).bind fun y μ2=>jm5 (jhi G f) x y μ2:=rfl
theorem jvR {neg:Bool}{f:Nat}{a:E}:(ev G (.gin neg f a)).v ρ μ=((ev G a).v ρ μ).bind fun x μ1=>jxb neg (jhi G f) x μ1:=rfl
theorem jsB {neg:Bool}{f:Nat}{a:E}:(ev G (.gin neg f a)).t ρ μ=((ev G (.gin neg f a)).v ρ μ).bind fun d μ1=>tru μ1 d:=rfl
theorem jyc {f:Nat}{a:E}:(ev G (.gix f a)).v ρ μ=((ev G a).v ρ μ).bind fun x μ1=>jwA (jhi G f) x μ1:=rfl
theorem jyg {g:FnE}{f:Nat}:jhi (g::G) (f+1)=jhi G f:=rfl
theorem jvE {g:FnE}:jhi (g::G) 0=g.dat:=rfl
theorem jyh {d:D}:glD (some (.cst d)) μ=.ok d μ:=rfl
theorem jqi {kvs:List (Str×D)}{z:Str}{y:D}:jm5 (some (.dct kvs)) (.str z) y μ=.ok ((jbb z kvs).getD y) μ:=rfl
theorem jsp {kvs:List (Str×D)}{z:Str}:jxb false (some (.dct kvs)) (.str z) μ=.ok (.bl (jbb z kvs).isSome) μ:=rfl
theorem jsZ {kvs:List (Str×D)}{z:Str}{d:D}(h:jbb z kvs=some d):jwA (some (.dct kvs)) (.str z) μ=.ok d μ:=by
 unfold jwA
 simp only[h]
end
theorem jc4 {n:Nat}(h:n<100000):n<=sizeLine:=by rw[sizeLine_eq];omega
noncomputable def jal (z:Str):Bool:=decide (1<=z.length)&&(decide (z.length<=8)&&z.cps.toList.all fun c=>decide (97<=c)&&decide (c<=122))
noncomputable def sTx (c:List Nat):Str:=⟨c.toArray⟩
theorem jcU (c:List Nat):(sTx c).length=c.length:=by simp[sTx,Str.length]
theorem jkQ (a b:List Nat):sTx a++sTx b=sTx (a++b):=Str.ext' (by rw[Str.cps_append];simp[sTx])
theorem jnw {a b:List Nat}(h:sTx a=sTx b):a=b:=by
 have:=congrArg (fun s:Str=>s.cps.toList) h
 simpa[sTx]using this
theorem jhV (z:Str):sTx z.cps.toList=z:=by
 cases z
 simp[sTx]
def Ltr (c:List Nat):Prop:=∀x∈c,97<=x/\x<=122
theorem jqT {c:List Nat}(h1:1<=c.length)(h2:c.length<=8)(h:Ltr c):jal (sTx c)=true:=by
 unfold jal
 rw[jcU,decide_eq_true h1,decide_eq_true h2,j0L,j0L,j0D]
 intro x hx
 have hx':x∈c:=by simpa[sTx]using hx
 have:=h x hx'
 simp[this.1,this.2]
theorem jjl (t:List Nat){a b:Nat}(hab:a<=b)(hb:b<=t.length)(lo:Option Int)(hlo:Builtin.Str.strSliceIndices lo (some (b:Int)) 1 t.length=Builtin.Str.strSliceIndices (some (a:Int)) (some (b:Int)) 1 t.length):Txt.slice (sTx t) lo (some (b:Int))=sTx ((t.drop a).take (b - a)):=by
 have hl:(sTx t).length=t.length:=jcU t
 have e1:=PySem.StrLaws.strSliceIndices_plain hab (len:=t.length) hb
 have e2:=PySem.StrLaws.sliced_plain (sTx t) hab (by rw[hl];exact hb)
 rw[hl]at e2
 unfold Txt.slice
 rw[hl,hlo,e2]
 have e3:(Builtin.Str.strSliceIndices (some (a:Int)) (some (b:Int)) 1 t.length).length=b - a:=by rw[e1];simp
 rw[e3]
 have e4:(sTx t).cps.toList=t:=by simp[sTx]
 rw[e4]
 split
 ·rename_i h
  have hba:b - a=t.length:=by simpa using h
  have ha:a=0:=by omega
  subst ha
  rw[j1f,j1k (by omega)]
 ·rfl
theorem jmP (t:List Nat){a b:Int}(h0:0<=a)(hab:a<=b)(hb:b<=t.length):Txt.slice (sTx t) (some a) (some b)=sTx ((t.drop a.toNat).take (b.toNat - a.toNat)):=by
 obtain⟨x,rfl⟩:∃x:Nat,a=x:=⟨a.toNat,by omega⟩
 obtain⟨y,rfl⟩:∃y:Nat,b=y:=⟨b.toNat,by omega⟩
 exact jjl t (by omega) (by omega) _ rfl
theorem jiq (t:List Nat){b:Int}(h0:0<=b)(hb:b<=t.length):Txt.slice (sTx t) none (some b)=sTx (t.take b.toNat):=by
 obtain⟨y,rfl⟩:∃y:Nat,b=y:=⟨b.toNat,by omega⟩
 have:=jjl t (a:=0) (b:=y) (by omega) (by omega) none (by
  have e:max (0:Int) (min 0 (t.length:Int))=0:=by omega
  simp[Builtin.Str.strSliceIndices,e])
 rw[this,j1f]
 rfl
theorem jq4 (cs:List Nat):Txt.join (Str.ofString "") (cs.map fun c=>sTx [c])=sTx cs:=by
 have e:∀l:List Str,Txt.join (Str.ofString "") l=Str.join (Str.ofString "") l:=fun l=>by simpa using join_plain_closes (Str.ofString "") l
 rw[e]
 induction cs with
 |nil=>rfl
 |cons c r ih=>
  cases r with
  |nil=>rfl
  |cons d r=>
   show sTx [c]++Str.ofString "" ++ Str.join (Str.ofString "") ((d::r).map fun c=>sTx [c])=_
   rw[ih]
   refine Str.ext' ?_
   rw[Str.cps_append,Str.cps_append]
   have e0:(Str.ofString "").cps = #[]:=by decide +kernel
   rw[e0]
   simp[sTx]
theorem jeN {α:Type}{f:Nat->α}{n:Nat}(h:∀i j,i<n->j<n->f i=f j->i=j):((List.range n).map f).Nodup:=by
 rw[List.Nodup,List.pairwise_map]
 refine List.Pairwise.imp_of_mem (R:=fun a b=>a<b) (fun {a b} ha hb hab e=>?_) List.pairwise_lt_range
 have:=h a b (by simpa using ha) (by simpa using hb) e
 omega
theorem jo5:(Str.ofString "abcdefghijklmnopqrstuvwxyz").length=26:=by decide +kernel
theorem jmB:∀n:Nat,n<26->(Str.ofString "abcdefghijklmnopqrstuvwxyz").cps.toList[n]?=some (97+n):=by decide +kernel
theorem jvM {i:Int}(h0:0<=i)(h1:i<26)(μ:M):ixD (.str (Str.ofString "abcdefghijklmnopqrstuvwxyz")) (.int i) μ=.ok (.str (sTx [97+i.toNat])) μ:=by
 obtain⟨n,rfl⟩:∃n:Nat,i=n:=⟨i.toNat,by omega⟩
 have e:atI (Str.ofString "abcdefghijklmnopqrstuvwxyz").cps.toList (n:Int)=some (97+n):=jdC (jmB n (by omega))
 unfold ixD
 simp only[if_pos (show(Str.ofString "abcdefghijklmnopqrstuvwxyz").length<=sizeLine by rw[jo5];exact jc4 (by decide)),e]
 rfl
theorem jad {n:Nat}(h:n<=1000):n<=sizeLine:=jc4 (by omega)
theorem jhd {xs ys:List D}{μ:M}(h:xs.length+ys.length<=sizeLine):jg0 .Add false (.lst xs) (.lst ys) μ=.ok (.lst (xs++ys)) μ:=by
 show @ite _ (xs.length+ys.length<=sizeLine) (Classical.propDecidable _) (mkL false (xs++ys) μ) .bad=_
 rw[if_pos h]
 rfl
theorem joB {zs:List Str}(z:Str)(h:zs.Nodup):zs.length<=(zs.filter fun y=>!decide (y=z)).length+1:=by
 induction zs with
 |nil=>simp
 |cons y ys ih=>
  have hy:y∉ys/\ys.Nodup:=by simpa using h
  by_cases e:y=z
  ·subst e
   have:ys.filter (fun x=>!decide (x=y))=ys:=j0K.mpr fun x hx=>by
    have:x≠y:=fun q=>hy.1 (q▸hx)
    simp[this]
   rw[List.filter_cons_of_neg (by simp),this]
   simp
  ·rw[List.filter_cons_of_pos (by simp[e])]
   have:=ih hy.2
   simp only[j0b]
   omega
theorem jgh {G:List FnE}:∀(a b:List S) (ρ:S3) (μ:M),runs G (a++b) ρ μ=jmi (runs G a ρ μ) (runs G b)
 |[],b,ρ,μ=>by rw[j1y,jfr,jcm]
 |s::a,b,ρ,μ=>by
  rw[List.cons_append,jbU,jbU]
  cases _L3.run G s ρ μ with
  |ok fl μ1=>
   cases fl with
   |nx ρ1=>rw[jcm,jcm];exact jgh a b ρ1 μ1
   |rt d=>rfl
   |bk ρ1=>rfl
   |ct ρ1=>rfl
  |exc x μ1=>rfl
  |bad=>rfl
noncomputable def jeS (a:List Nat):List (List Nat):=if a=[]then []else [a]
noncomputable def wc:List Nat->List Nat->List (List Nat)
 |a,[]=>jeS a
 |a,c::r=>if c=32 then jeS a++wc [] r else wc (a++[c]) r
theorem jkn:∀(p a r:List Nat),32∉p->wc a (p++r)=wc (a++p) r
 |[],a,r,_=>by simp
 |c::p,a,r,h=>by
  have hc:c≠32:=fun e=>h (by simp[e])
  rw[List.cons_append,wc,if_neg hc,jkn p _ r (fun q=>h (by simp[q]))]
  simp
theorem jpG (a r:List Nat):wc a (32::r)=jeS a++wc [] r:=by rw[wc,if_pos rfl]
noncomputable def jij:List (List Nat)->List Nat
 |[]=>[]
 |[p]=>p
 |p::q::r=>p++32::jij (q::r)
theorem jkh:∀ps:List (List Nat),(∀p∈ps,32∉p)->wc [] (jij ps)=ps.flatMap jeS
 |[],_=>rfl
 |[p],h=>by
  have:=jkn p [] [] (h p (by simp))
  rw[j0l,j1y]at this
  show wc [] p=_
  rw[this]
  simp[wc]
 |p::q::r,h=>by
  rw[jij,jkn p [] _ (h p (by simp)),j1y,jpG,jkh (q::r) fun x hx=>h x (by simp[hx])]
  rfl
theorem jka:(Str.ofString " ").cps.toList=[32]:=by decide +kernel
theorem jfF:∀zs:List Str,(Str.join (Str.ofString " ") zs).cps.toList=jij (zs.map fun z=>z.cps.toList)
 |[]=>rfl
 |[z]=>rfl
 |z::y::r=>by
  show(z++Str.ofString " " ++ Str.join (Str.ofString " ") (y::r)).cps.toList=_
  rw[Str.cps_append,Str.cps_append,Array.toList_append,Array.toList_append,jfF (y::r),jka,j0J]
  rfl
theorem jjM (z:Str):z=Str.ofString "" ↔ z.cps.toList=[]:=by
 constructor
 ·intro h
  rw[h]
  decide +kernel
 ·intro h
  rw[<- jhV z,h]
  rfl
theorem jlB:∀zs:List Str,((zs.map fun z=>z.cps.toList).flatMap jeS).map sTx=zs.filter fun z=>!decide (z=Str.ofString "")
 |[]=>rfl
 |z::zs=>by
  rw[j0i,j0E,j0Q,jlB zs]
  by_cases h:z=Str.ofString ""
  ·rw[List.filter_cons_of_neg (by simp[h]),(jjM z).mp h]
   rfl
  ·have hc:z.cps.toList≠[]:=fun e=>h ((jjM z).mpr e)
   rw[List.filter_cons_of_pos (by simp[h]),jeS,if_neg hc,List.map_singleton,jhV]
   rfl
theorem jkE (T:Str):(Txt.split T (Str.ofString " ")).filter (fun z=>!decide (z=Str.ofString ""))=(wc [] T.cps.toList).map sTx:=by
 have hb:Str.ofString " " =(⟨#[32]⟩:Str):=by decide +kernel
 have hj:=PySem.StrLaws.join_split T (Str.ofString " ")
 have hf:=PySem.StrLaws.split_free T 32
 rw[<- hb]at hf
 generalize Txt.split T (Str.ofString " ")=ps at hj hf
 rw[<- hj,jfF,jkh _ (fun p hp=>by
  obtain⟨z,hz,rfl⟩:=j0s.mp hp
  exact hf z hz),jlB]
def Wd1 (z:Str):Prop:=z.cps.toList≠[]/\32∉z.cps.toList/\z.length<=12
noncomputable abbrev nTx (n:Int):Str:=Str.ofString (toString n)
theorem jAE (m:Nat):∀x∈(Nat.toDigits 10 m).map Char.toNat,48<=x/\x<=57:=by
 intro x hx
 obtain⟨c,hc,rfl⟩:=j0s.mp hx
 exact digit_range (Nat.isDigit_of_mem_toDigits (by decide) (by decide) hc)
theorem jqv (m:Nat):∃c r,(Nat.toDigits 10 m).map Char.toNat=c::r/\(1<=m->c≠48):=by
 induction m using Nat.strongRecOn with
 |_ m ih=>
  by_cases h:m<10
  ·rw[Nat.toDigits_of_lt_base h]
   refine⟨_,[],rfl,?_⟩
   have:∀k:Nat,k<10->1<=k->(Nat.digitChar k).toNat≠48:=by decide
   exact this m h
  ·obtain⟨c,r,e,hc⟩:=ih (m / 10) (by omega)
   have t:Nat.toDigits 10 (m / 10)++Nat.toDigits 10 (m % 10)=Nat.toDigits 10 (10*(m / 10)+m % 10):=Nat.toDigits_append_toDigits (by decide) (by omega) (Nat.mod_lt m (by decide))
   rw[Nat.div_add_mod]at t
   rw[<- t,j0Q,e]
   exact⟨c,_,rfl,fun _=>hc (by omega)⟩
theorem jdS {n:Int}(h0:0<=n)(h1:n<=999999999999):∃c r,(nTx n).cps.toList=c::r/\(∀x∈c::r,48<=x/\x<=57)/\(nTx n).length<=12/\(c=48->r=[]):=by
 have hl:(nTx n).length<=12:=toString_length_le h0 (by decide) (by omega:n<10 ^ 12)
 obtain⟨m,rfl⟩:=Int.eq_ofNat_of_zero_le h0
 have e:(nTx (m:Int)).cps.toList=_:=PySem.W.KIN.signs_num m
 obtain⟨c,r,e2,hc⟩:=jqv m
 have hd:=jAE m
 rw[e2]at hd e
 refine⟨c,r,e,hd,hl,fun h48=>?_⟩
 have hm:m=0:=by
  by_cases hm:1<=m
  ·exact absurd h48 (hc hm)
  ·omega
 subst hm
 have:(Nat.toDigits 10 0).map Char.toNat=[48]:=by decide
 rw[this]at e2
 exact(List.cons.inj e2).2.symm
theorem jj6 {n:Int}(h0:0<=n)(h1:n<=999999999999):PySem.intText? (nTx n)=some n:=by
 obtain⟨c,r,e,hd,hl,_⟩:=jdS h0 h1
 have:=PySem.intText_digits (x:=nTx n) (by rw[e];exact hd) (by rw[e];simp) (by omega)
 obtain⟨m,rfl⟩:=Int.eq_ofNat_of_zero_le h0
 rw[this,show(nTx (m:Int)).cps.toList=_ from PySem.W.KIN.signs_num m,PySem.W.KIN.val_back]
theorem jkT {n:Int}(h0:0<=n)(h1:n<=999999999999):Wd1 (nTx n):=by
 obtain⟨c,r,e,hd,hl,_⟩:=jdS h0 h1
 refine⟨by rw[e];simp,fun h=>?_,hl⟩
 rw[e]at h
 have:=hd 32 h
 omega
theorem jbv {z:Str}(h:jal z=true):Wd1 z:=by
 unfold jal at h
 simp only[j0a,decide_eq_true_eq,j0D]at h
 obtain⟨h1,h2,h3⟩:=h
 refine⟨fun e=>?_,fun e=>?_,by omega⟩
 ·have:z.length=z.cps.toList.length:=by simp[Str.length]
  rw[this,e]at h1
  simp at h1
 ·have:=(h3 32 e).1
  omega
theorem joQ {n:Int}(h0:0<=n)(h1:n<=999999999999):n.natAbs.log2<1920:=by
 by_cases h:n.natAbs=0
 ·rw[h];decide
 ·have:n.natAbs.log2<64:=(Nat.log2_lt h).mpr (by omega)
  omega
noncomputable def jaA {α:Type}(ls:List (α×α)):List α:=ls.flatMap fun p=>[p.1,p.2]
theorem ja0 {α:Type}:∀ls:List (α×α),(jaA ls).length=2*ls.length
 |[]=>rfl
 |p::ls=>by
  show(p.1::p.2::jaA ls).length=_
  simp only[j0b,ja0 ls]
  omega
theorem jee {α:Type}:∀(ls:List (α×α)) (k:Nat),(jaA ls)[2*k]?=(ls.map (·.1))[k]?/\(jaA ls)[1+2*k]?=(ls.map (·.2))[k]?
 |[],k=>by simp[jaA]
 |p::ls,0=>⟨rfl,rfl⟩
 |p::ls,k+1=>by
  have e1:2*(k+1)=2*k+1+1:=by omega
  have e2:1+2*(k+1)=(1+2*k)+1+1:=by omega
  show(p.1::p.2::jaA ls)[2*(k+1)]?=_/\(p.1::p.2::jaA ls)[1+2*(k+1)]?=_
  rw[e2,e1,j0O,j0O,j0O,j0O]
  exact jee ls k
theorem jh3 {α:Type}:∀l:List α,(List.range l.length).filterMap (fun i=>l[i]?)=l
 |[]=>rfl
 |a::l=>by
  rw[j0b,List.range_succ_eq_map,j0G,j0F,List.filterMap_map]
  show a::List.filterMap _ _=_
  congr 1
  exact jh3 l
theorem jw8 {α:Type}(ls:List (α×α)):(jcz (jaA ls).length 0 2).filterMap ((jaA ls)[·]?)=ls.map (·.1):=by
 have e:jcz (jaA ls).length 0 2=(List.range (ls.map (·.1)).length).map fun k=>2*k:=by
  unfold jcz sliceRange
  rw[ja0,j0f]
  have h0:max (0:Int) (min 0 ((2*ls.length:Nat):Int))=0:=by omega
  simp only[h0,if_pos (show(2:Int) > 0 by decide)]
  have hc:(if(0:Int)<((2*ls.length:Nat):Int)then(((2*ls.length:Nat):Int) - 0+2 - 1) / 2 else 0).toNat=ls.length:=by split<;>omega
  rw[hc]
  refine List.map_congr_left fun k _=>?_
  omega
 rw[e,List.filterMap_map]
 have:((fun x=>(jaA ls)[x]?) ∘ fun k=>2*k)=fun i=>(ls.map (·.1))[i]?:=funext fun k=>(jee ls k).1
 rw[this]
 exact jh3 _
theorem jvC {α:Type}(ls:List (α×α)):(jcz (jaA ls).length 1 2).filterMap ((jaA ls)[·]?)=ls.map (·.2):=by
 have e:jcz (jaA ls).length 1 2=(List.range (ls.map (·.2)).length).map fun k=>1+2*k:=by
  unfold jcz sliceRange
  rw[ja0,j0f]
  by_cases hz:ls.length=0
  ·rw[hz]
   rfl
  ·have h0:max (0:Int) (min 1 ((2*ls.length:Nat):Int))=1:=by omega
   simp only[h0,if_pos (show(2:Int) > 0 by decide)]
   have hc:(if(1:Int)<((2*ls.length:Nat):Int)then(((2*ls.length:Nat):Int) - 1+2 - 1) / 2 else 0).toNat=ls.length:=by split<;>omega
   rw[hc]
   refine List.map_congr_left fun k _=>?_
   omega
 rw[e,List.filterMap_map]
 have:((fun x=>(jaA ls)[x]?) ∘ fun k=>1+2*k)=fun i=>(ls.map (·.2))[i]?:=funext fun k=>(jee ls k).2
 rw[this]
 exact jh3 _
theorem jfu (x y:Str):(x++y).cps.toList=x.cps.toList++y.cps.toList:=by rw[Str.cps_append,Array.toList_append]
theorem jcr (x:Str):x.length=x.cps.toList.length:=by simp[Str.length]
inductive SX where
 |st (s:S)|grd (c:E) (cls:Str) (msg:Str)
section
variable (G:List FnE)
end
noncomputable def spX (K:PySem.W.Frag)(mg:Str->Option Value)(np:Nat)(F:Fn):Sp:=fun vs H Q E=>vs.length=np/\∃(w:Wd) (μ:M) (ds:List D),Rep K w μ H/\DenL K w μ.length ds vs /\
 ((∃d μ',F ds μ=.ok d μ'/\∀w' H' v,Ext w w' μ.length μ'.length->Rep K w' μ' H'->Den K w' μ'.length d v->Q v H') ∨
  ∃c μ' C,F ds μ=.exc (.str c) μ'/\mg c=some (.ref C)/\∀w' H',Ext w w' μ.length μ'.length->Rep K w' μ' H'->E (.ref C) none H')
section
variable {X:Cx} {G:List FnE} {j:Nat} {c:Stt} {EX:Str->Hp->Prop}
end
section
variable {P:Program} {w:World} {K:PySem.W.Frag} {mg:Str->Option Value} {base:Heap} {N:List Str} {qual:Str} {scope:Scope} {f:Addr} {cd:Value} {A:Around} {outer:List Env} {s0:Shared} {H0:Hp} {E:XK} {G:List FnE} {j:Nat} {c:Stt}
end
structure CalleeX (P:Program) (w:World) (K:PySem.W.Frag) (mg:Str->Option Value) (base:Heap) (k:Nat) (x:Str) (ps:List Str) (sp:Sp):Prop where
 ex:∃(f:Addr) (fd:FuncData),FnOk P w K mg base (CX1 P w) k f fd ps sp/\mg x=some (.ref f)/\PySem.W.keepIn K (.ref f)=true/\jfR K fd ps []
noncomputable def jyv (F:Fn)(c1:Str):Fn:=fun ds μ=>match F ds μ with
 |.exc (.str c) μ'=>if c=c1 then .ok (.bl true) μ' else .bad
 |_=>.bad
theorem Rep.same {K:PySem.W.Frag}{w:Wd}{μ:M}{H H':Hp}(R:Rep K w μ H)(s:jfA H H'):Rep K w μ H':=
 ⟨R.sub.trans s,fun k c e=>⟨(R.liv k c e).1,(R.liv k c e).2.mono (Ext.refl _ _) (by obtain⟨o,q⟩:=(R.liv k c e).2.some;rw[q];exact s _ _ q)⟩,R.inj⟩
theorem jlx {H:Hp}{p:Addr}{o:HO}(h:H p=none):jfA H (upd H p o):=fun b u e=>by
 rw[jar (jaq e h)]
 exact e
noncomputable def jmR (mg:Str->Option Value)(sc:Scope):List Expr->List Addr->Prop
 |[],[]=>True
 |.Name x _::es,a::as=>mg x=some (.ref a)/\jb0 sc x=true/\jmR mg sc es as
 |_,_=>False
theorem jrV {X:Cx}:∀{es:List Expr} {as:List Addr},jmR X.mg X.env.scope es as->PA X es (fun _ H Q=>Q (as.map V.ref) H)
 |[],[],_=>fun _ _ _ _ H Q I h=>Calls.spliced_nil ⟨[],H,I,.nil,h⟩
 |.Name x p::es,a::as,h=>by
  have k:=jbD (jkI (pos:=p) (jas h.2.1).1 h.1 (show ja3 (.ref a) (.ref a)from rfl) (jas h.2.1).2.1) (jrV h.2.2)
  exact imA k fun σ H Q q=>q
 |[],_::_,h=>h.elim
 |.Name _ _::_,[],h=>h.elim
structure RefOk (K:PySem.W.Frag) (C T:Addr) (ts:List Addr):Prop where
 c:ExcC K C
 a:ExcA K C
 it:PySem.W.kitCls K (.ref C) (.ref C)=some true
 ex:PySem.W.exmOne K (.ref C) (.ref T)=some true
 k1:PySem.W.kitOne K (.ref C) (.ref C)=some true
 k2:PySem.W.kitOne K (.ref C) (.type "ValueError")=some true
 k3:PySem.W.kitAny K (.ref C) (ts.map Value.ref)=some false
 len:ts.length<=100
section
variable {P:Program} {w:World} {K:PySem.W.Frag} {mg:Str->Option Value} {base:Heap}
theorem jjj:∀as:List Addr,(as.map V.ref).mapM jyo=some (as.map Value.ref)
 |[]=>rfl
 |a::as=>by
  rw[j0i,List.mapM_cons,jjj as]
  rfl
theorem jqq {X:Cx}{a C:Addr}{oe:Obj}{fl er c1:Str}{css:List Expr}{as:List Addr}{T:Addr}{k24:Nat}{p9 p10 p11 p12 p13 p14 p15 p16 p17 p18 p19 p20 p21 p22 p23 p24 p25 p26 p27:Pos}(hN:X.N.Nodup)(R:RefOk X.K C T as)(hc:oe.cls=.ref C)
  (hf:jgP X.N X.env.scope 1 fl=true) (hff:X.fn fl=true) (hv:jip X.N X.env.scope 1 fl=true) (he:jip X.N X.env.scope 2 er=true) (hi:jb0 X.env.scope "isinstance" =true) (hiN:X.mg "isinstance" =none) (h1:jb0 X.env.scope c1=true) (m1:X.mg c1=some (.ref C))
  (hve:jb0 X.env.scope "ValueError" =true) (mve:X.mg "ValueError" =none) (hcs:jmR X.mg X.env.scope css as) (hline:(p21.endLine==p26.line)=true) :
  PSs (X.hand a oe) [.Assign [.Name fl p9] (.List [.Call (.Name "isinstance" p10) [.Name er p11,.Name c1 p12] [] p13,.Call (.Name "isinstance" p14) [.Name er p15,.Name "ValueError" p16] [] p17] p18) p19,
   .Expr (.Call (.Attribute (.Name fl p20) "append" p21) [.Call (.Name "isinstance" p22) [.Name er p23,.Tuple css k24 p24] [] p25] [] p26) p27]
   (fun D σ H=>σ[2]?=some (some (.ref a))/\σ.length=3/\∀(p:Addr) (H2:Hp),H p=none->H2 p=some (.lst [.bl true,.bl true,.bl false])->jfA H H2->D.nx (σ.set 1 (some (.ref p))) H2):=by
 have hmem:(a,oe)∈(X.hand a oe).pn:=.head _
 have is1:=jpL (X:=X.hand a oe) hmem hc R.c R.a R.it
 have is2:=joo (X:=X.hand a oe) hmem hc R.c R.a R.it
 have bi:bootBuiltins "isinstance" =some (.builtin "isinstance"):=jfs
 have bv:bootBuiltins "ValueError" =some (.type "ValueError"):=PyProof.Rows.Boot.«ValueError»
 have E1:PE (X.hand a oe) (.Call (.Name "isinstance" p10) [.Name er p11,.Name c1 p12] [] p13) _:=
  jdd is1 hi hiN bi (jbD (pvk 2 he) (jbD (jkI (jas (X:=X.hand a oe) h1).1 m1 (show ja3 (.ref C) (.ref C)from rfl) (jas (X:=X.hand a oe) h1).2.1) jcG))
 have E2:PE (X.hand a oe) (.Call (.Name "isinstance" p14) [.Name er p15,.Name "ValueError" p16] [] p17) _:=
  jdd is1 hi hiN bi (jbD (pvk 2 he) (jbD (jlD hve mve bv (show ja3 (.ty "ValueError") (.type "ValueError")from rfl)) jcG))
 have E3:PE (X.hand a oe) (.Call (.Name "isinstance" p22) [.Name er p23,.Tuple css k24 p24] [] p25) _:=
  jdd is2 hi hiN bi (jbD (pvk 2 he) (jbD (jow (jrV (X:=X.hand a oe) hcs)) jcG))
 have S1:PS (X.hand a oe) (.Assign [.Name fl p9] (.List [.Call (.Name "isinstance" p10) [.Name er p11,.Name c1 p12] [] p13,.Call (.Name "isinstance" p14) [.Name er p15,.Name "ValueError" p16] [] p17] p18) p19) _:=
  jid hN hf (jle (jbD E1 (jbD E2 jcG))) rfl hff
 have S2:PS (X.hand a oe) (.Expr (.Call (.Attribute (.Name fl p20) "append" p21) [.Call (.Name "isinstance" p22) [.Name er p23,.Tuple css k24 p24] [] p25] [] p26) p27) _:=
  jkw (jm6 (X:=X.hand a oe) PySem.F.plainAttrs_list PySem.F.slot_list_append PySem.F.type_list_append jgU ⟨pvk (X:=X.hand a oe) 1 hv⟩ ⟨jbD (X:=X.hand a oe) E3 jcG⟩ rfl rfl (by decide) hline).h
 refine jx6 (jfl S1 (jo9 S2)) fun D σ H=>?_
 rintro⟨h2,hl,q⟩
 have hl1:1<σ.length:=by rw[hl];decide
 refine⟨_,h2,.ref C,.ref C,true,rfl,rfl,R.k1,?_⟩
 refine⟨_,h2,.ty "ValueError",.type "ValueError",true,rfl,rfl,R.k2,?_⟩
 refine⟨by show 2<=sizeLine;decide,fun p hp=>?_⟩
 have g1:(σ.set 1 (some (.ref p)))[1]?=some (some (V.ref p)):=j1j hl1
 have g2:(σ.set 1 (some (.ref p)))[2]?=some (some (V.ref a)):=by rw[j1b (by decide)];exact h2
 refine⟨_,g1,.inl ⟨rfl,_,SqL.of jaF⟩,_,g2,?_⟩
 refine⟨?_,fun p3 hp3=>?_⟩
 ·have:=R.len
  rw[j0f,sizeLine_eq];omega
 have ne:p≠p3:=jaq jaF hp3
 refine⟨p3,as.map V.ref,as.map Value.ref,false,rfl,SqT.of jaF,jjj as,R.k3,p,[.bl true,.bl true],.bl false,rfl,rfl,?_,by show 2<sizeLine;decide,?_⟩
 ·rw[jar ne];exact jaF
 ·refine q p _ hp jaF fun b o e=>?_
  have nb:b≠p:=jaq e hp
  have nb3:b≠p3:=fun z=>by
   subst z
   rw[jar nb,e]at hp3
   cases hp3
  rw[jar nb,jar nb3,jar nb]
  exact e
theorem jmG {x qual:Str}{st:Stmt}{f:Addr}{fd:FuncData}{arg fl er g cP c1:Str}{gps:List Str}{css:List Expr}{as:List Addr}{C T:Addr}{j k24 kb1 kb2 kb3:Nat}{Fg:Fn}
  {p1 p2 p3 p4 p5 p6 p7 p8 p9 p10 p11 p12 p13 p14 p15 p16 p17 p18 p19 p20 p21 p22 p23 p24 p25 p26 p27 p28 p29 p30 p31 p32 p33 q1 q2 q3:Pos}
  (F:Fun K x qual st f fd) (Sc:FnScope [arg,fl,er] [arg] (ja st)) (cg:CalleeX P w K mg base j g gps (spX K mg 1 Fg)) (R:RefOk K C T as)
  (hb:jap st=[.Assign [.Name fl p1] (.List [] p2) p3,
   .Try [.Expr (.Call (.Name g p4) [.Name arg p5] [] p6) p7] [.ExceptHandler (some (.Name cP p8)) (some er)
    [.Assign [.Name fl p9] (.List [.Call (.Name "isinstance" p10) [.Name er p11,.Name c1 p12] [] p13,.Call (.Name "isinstance" p14) [.Name er p15,.Name "ValueError" p16] [] p17] p18) p19,
     .Expr (.Call (.Attribute (.Name fl p20) "append" p21) [.Call (.Name "isinstance" p22) [.Name er p23,.Tuple css k24 p24] [] p25] [] p26) p27] p28] [] [] p29,
   .Return (some (.Compare (.Name fl p30) [.Eq] [.List [.Constant (.bool true) kb1 q1,.Constant (.bool true) kb2 q2,.Constant (.bool false) kb3 q3] p31] p32)) p33])
  (ha:jip [arg,fl,er] (ja st) 0 arg=true) (hf:jgP [arg,fl,er] (ja st) 1 fl=true) (hv:jip [arg,fl,er] (ja st) 1 fl=true) (he:jip [arg,fl,er] (ja st) 2 er=true) (hel:(ja st).names.lookup er=some .local)
  (hg:jb0 (ja st) g=true) (hP:jb0 (ja st) cP=true) (mP:mg cP=some (.ref T)) (hi:jb0 (ja st) "isinstance" =true) (hiN:mg "isinstance" =none) (h1:jb0 (ja st) c1=true) (m1:mg c1=some (.ref C))
  (hve:jb0 (ja st) "ValueError" =true) (mve:mg "ValueError" =none) (hcs:jmR mg (ja st) css as) (hline:(p21.endLine==p26.line)=true) (hj:0<j) :
  FnOk P w K mg base CX0 (j+1) f fd [arg] (jmL K 1 (jyv Fg c1)):=by
 refine F.ok Sc (fun vs H Q E h=>h.1) (fun cdv A outer s H vs Q E hr hsp=>?_)
 obtain⟨fg,fdg,Fok,mgg,kg,bg⟩:=cg.ex
 rw[hb]
 have nd:([arg,fl,er]:List Str).Nodup:=Sc.nd
 let X:Cx:=(jiu CX0 P w K mg base [arg,fl,er] qual (ja st) f cdv A outer s H E).nox
 have hG:Gl X g:=(jas (X:=X) hg).1
 have hGP:Gl X cP:=(jas (X:=X) hP).1
 have S1:PS X (.Assign [.Name fl p1] (.List [] p2) p3) _:=jid nd hf (jle jcG)
 have S2:PS X (.Try [.Expr (.Call (.Name g p4) [.Name arg p5] [] p6) p7] [.ExceptHandler (some (.Name cP p8)) (some er) [.Assign [.Name fl p9] (.List [.Call (.Name "isinstance" p10) [.Name er p11,.Name c1 p12] [] p13,.Call (.Name "isinstance" p14) [.Name er p15,.Name "ValueError" p16] [] p17] p18) p19,
     .Expr (.Call (.Attribute (.Name fl p20) "append" p21) [.Call (.Name "isinstance" p22) [.Name er p23,.Tuple css k24 p24] [] p25] [] p26) p27] p28] [] [] p29) _:=
  jtA (X:=X) (i:=2) (n:=er) (PC:=fun C'=>C'=C) (ts:=fun _ a=>fun D σ H=>σ[2]?=some (some (.ref a))/\σ.length=3/\∀(p:Addr) (H2:Hp),H p=none->H2 p=some (.lst [.bl true,.bl true,.bl false])->jfA H H2->D.nx (σ.set 1 (some (.ref p))) H2)
   Fok hr hG mgg kg bg (jbD (X:=X.nox) (pvk (X:=X.nox) 0 ha) jcG) rfl rfl nd rfl hel hGP mP
   (fun C' a oe hC hc=>by subst hC;exact jqq (X:=X) nd R hc hf rfl hv he hi hiN h1 m1 hve mve hcs hline) (jas (X:=X) hP).2.1 (jas (X:=X) hg).2.1
 have S3:PS X (.Return (some (.Compare (.Name fl p30) [.Eq] [.List [.Constant (.bool true) kb1 q1,.Constant (.bool true) kb2 q2,.Constant (.bool false) kb3 q3] p31] p32)) p33) _:=
  jmQ (jnm (jxU (X:=X) (by have:=hr.un;show(A.deeper (envOfC qual (ja st) s.heap.objs.size f cdv)).units+16<cLine;omega)) (pvk (X:=X) 1 hv) (jle (jbD jrf (jbD jrf (jbD jrf jcG)))) (jmO _))
 refine⟨_,jfl S1 (jfl S2 (jo9 S3)),?_⟩
 obtain⟨hl,w0,μ,ds,d,μ',R0,hD,e,q⟩:=hsp
 obtain⟨v0,rfl⟩:∃v,vs=[v]:=j06.mp hl
 refine⟨Nat.zero_le _,fun p hp=>⟨v0,rfl,rfl,w0,μ,ds,R0.same (jlx hp),hD,.inr ?_⟩⟩
 unfold jyv at e
 split at e
 ·rename_i c μ1 e1
  split at e
  ·rename_i hc
   subst hc
   cases e
   refine⟨c,μ',C,e1,m1,fun w' H' x1 R1=>⟨C,rfl,rfl,R.ex,fun a=>⟨rfl,rfl,fun p2 H2 hp2 hH2 sm=>?_⟩⟩⟩
   refine⟨.ref p2,rfl,by show 3<=sizeLine;decide,fun p4 hp4=>?_⟩
   have ne:p2≠p4:=jaq hH2 hp4
   refine⟨p2,p4,[.bl true,.bl true,.bl false],[.bl true,.bl true,.bl false],rfl,rfl,.inr ⟨by rw[jar ne];exact hH2,jaF⟩,jhb (fun x hx=>.inl ?_),?_⟩
   ·rcases j0d.mp hx with rfl|hx
    ·rfl
    rcases j0d.mp hx with rfl|hx
    ·rfl
    rcases j0d.mp hx with rfl|hx
    ·rfl
    cases hx
   ·exact q w' _ (.bl true) x1 (R1.same (sm.trans (jlx hp4))) (by unfold Den;rfl)
  ·cases e
 ·cases e
end
noncomputable def noX {α:Type}(o:Out α):Out α:=
 match o with
 |.ok a μ=>.ok a μ
 |_=>.bad
theorem jxO {α:Type}{a:α}{μ:M}:noX (.ok a μ)=.ok a μ:=rfl
def Aft (K:PySem.W.Frag)(EX:Str->Hp->Prop)(w:Wd)(n:Nat){α:Type}(o:Out α)(P:α->M->Prop):Prop:=
 match o with
 |.ok a μ=>P a μ
 |.exc (.str c) μ=>∀w' H',Ext w w' n μ.length->Rep K w' μ H'->EX c H'
 |_=>False
section
variable {K:PySem.W.Frag} {EX:Str->Hp->Prop} {w w1:Wd} {n n1:Nat} {α β:Type}
theorem Aft.bind {o:Out α}{k:α->M->Out β}{P:β->M->Prop}{P':α->M->Prop}(h:Aft K EX w n (o.bind k) P)(f:∀a μ1,o=.ok a μ1->Aft K EX w n (k a μ1) P->P' a μ1):Aft K EX w n o P':=by
 cases o with
 |ok a μ1=>exact f a μ1 rfl h
 |exc x μ1=>cases x<;>exact h
 |bad=>exact h
theorem Aft.ext {o:Out α}{P P':α->M->Prop}(x:Ext w w1 n n1)(h:Aft K EX w n o P)(f:∀a μ1,o=.ok a μ1->P a μ1->P' a μ1):Aft K EX w1 n1 o P':=by
 cases o with
 |ok a μ1=>exact f a μ1 rfl h
 |exc y μ1=>
  cases y with
  |str c=>exact fun w' H' x' R'=>h w' H' (x.trans x') R'
  |_=>exact h
 |bad=>exact h
theorem Aft.noX {o:Out α}{P:α->M->Prop}(h:Aft K EX w n (noX o) P):∃a μ1,o=.ok a μ1/\P a μ1:=by
 cases o with
 |ok a μ1=>exact⟨a,μ1,rfl,h⟩
 |exc x μ1=>exact h.elim
 |bad=>exact h.elim
theorem Aft.noXb {o:Out α}{k:α->M->Out β}{P:β->M->Prop}(h:Aft K EX w n ((_L3.noX o).bind k) P):∃a μ1,o=.ok a μ1/\Aft K EX w n (k a μ1) P:=by
 cases o with
 |ok a μ1=>exact⟨a,μ1,rfl,h⟩
 |exc x μ1=>exact h.elim
 |bad=>exact h.elim
end
noncomputable abbrev jhk (K:PySem.W.Frag) (w:Wd) (n:Nat) (D:Ends):Fl->M->Prop:=fun fl μ'=>∀w' H',Ext w w' n μ'.length->Rep K w' μ' H'->jyK K w' μ'.length H' D fl
def jyu (K:PySem.W.Frag)(EX:Str->Hp->Prop)(r:S3->M->Out D):TE:=fun σ H Q=>∃(w:Wd) (μ:M) (ρ:S3),Rep K w μ H/\jch K w μ.length ρ σ/\Aft K EX w μ.length (r ρ μ) fun d μ'=>jgf K w μ.length d μ' Q
def jk0 (K:PySem.W.Frag)(EX:Str->Hp->Prop)(r:S3->M->Out Fl):TS:=fun D σ H=>∃(w:Wd) (μ:M) (ρ:S3),Rep K w μ H/\jch K w μ.length ρ σ/\Aft K EX w μ.length (r ρ μ) (jhk K w μ.length D)
def exM (mg:Str->Option Value)(E:XK)(c:Str)(H:Hp):Prop:=∃C,mg c=some (.ref C)/\E (.ref C) none H
noncomputable def spY (K:PySem.W.Frag)(mg:Str->Option Value)(np:Nat)(F:Fn):Sp:=fun vs H Q E=>vs.length=np/\∃(w:Wd) (μ:M) (ds:List D),Rep K w μ H/\DenL K w μ.length ds vs/\Aft K (exM mg E) w μ.length (F ds μ) fun d μ'=>jgf K w μ.length d μ' Q
inductive XE where
 |call (f:Nat) (md:Md) (es:List E)|app (o:E) (e:XE)|new (f:Nat) (md:Md) (es:List E)
 |tp (a:E) (e:XE)|tupl (e:XE)|comp (own:Nat) (tg:Tg) (ik:IK) (es:List E) (elt:XE)
inductive SY where
 |st (s:S)|asg (tg:Tg) (e:XE)|ex (e:XE)|ret (e:XE)|ite (c:E) (a b:List SY)|for_ (tg:Tg) (ik:IK) (es:List E) (body:List SY) (fg:List Nat)|raise (cls:Str) (e:E)
noncomputable def mkF (C:Addr)(F:Fn):Fn:=fun ds μ=>match F (.cel μ.length::ds) (μ++[some (.obj C [] [])])with
 |.ok .non μ'=>.ok (.cel μ.length) μ'
 |.exc x μ'=>.exc x μ'
 |_=>.bad
noncomputable def jAs (G:List FnE)(f:Nat)(md:Md)(ds:List D)(μ:M):Out D:=
 match G[f]? with
 |some g=>match g.dat with
  |some (.cls C _ _)=>jah md (mkF C g.F) ds μ
  |_=>.bad
 |none=>.bad
noncomputable def jd0 (ok:M->Bool)(tg:Tg)(elt:S3->M->Out D)(ρ:S3):List D->List D->M->Out D
 |acc,[],μ=>if ok μ then .ok (.lst acc) μ else .bad
 |acc,d::ds,μ=>if ok μ then match jl2 tg d ρ with
   |some ρ1=>(elt ρ1 μ).bind fun y μ1=>jd0 ok tg elt ρ (acc++[y]) ds μ1
   |none=>.bad
  else .bad
section
variable (G:List FnE)
noncomputable def evX:XE->S3->M->Out D
 |.call f md es,ρ,μ=>(noX (evL G es ρ μ)).bind fun ds μ1=>jic G f md ds μ1
 |.new f md es,ρ,μ=>(noX (evL G es ρ μ)).bind fun ds μ1=>jAs G f md ds μ1
 |.app o e,ρ,μ=>(noX ((ev G o).v ρ μ)).bind fun x μ1=>if jmF .append x μ1 then(evX e ρ μ1).bind fun d μ2=>jmJ x [d] μ2 else .bad
 |.tp a e,ρ,μ=>(noX ((ev G a).v ρ μ)).bind fun x μ1=>(evX e ρ μ1).bind fun y μ2=>noX (if [x,y].length<=sizeLine then .ok (.tup [x,y]) μ2 else .bad)
 |.tupl e,ρ,μ=>(evX e ρ μ).bind fun x μ1=>noX (tupleD [x] μ1)
 |.comp own tg ik es elt,ρ,μ=>(noX (evL G es ρ μ)).bind fun ds μ1=>match itD ik ds μ1 with
  |some xs=>if xs.length<=sizeLine then jd0 (jcv ik ds xs) tg (evX elt) (List.replicate own none++ρ) [] xs μ1 else .bad
  |none=>.bad
mutual
noncomputable def jjh:SY->S3->M->Out Fl
 |.st s,ρ,μ=>noX (run G s ρ μ)
 |.asg tg e,ρ,μ=>(evX G e ρ μ).bind fun d μ1=>match jl2 tg d ρ with
  |some ρ1=>.ok (.nx ρ1) μ1
  |none=>.bad
 |.ex e,ρ,μ=>(evX G e ρ μ).bind fun _ μ1=>.ok (.nx ρ) μ1
 |.ret e,ρ,μ=>(evX G e ρ μ).bind fun d μ1=>.ok (.rt d) μ1
 |.ite c a b,ρ,μ=>(noX ((ev G c).t ρ μ)).bind fun k μ1=>if k then runYs a ρ μ1 else runYs b ρ μ1
 |.for_ tg ik es body fg,ρ,μ=>(noX (evL G es ρ μ)).bind fun ds μ1=>match itD ik ds μ1 with
  |some xs=>jds (jcv ik ds xs) tg (runYs body) fg xs ρ μ1
  |none=>.bad
 |.raise cls e,ρ,μ=>(noX ((ev G e).v ρ μ)).bind fun _ μ1=>.exc (.str cls) μ1
noncomputable def runYs:List SY->S3->M->Out Fl
 |[],ρ,μ=>.ok (.nx ρ) μ
 |s::ss,ρ,μ=>match jjh s ρ μ with
  |.ok (.nx ρ1) μ1=>runYs ss ρ1 μ1
  |r=>r
end
noncomputable def fnY (np nl:Nat)(body:List SY):Fn:=fun ds μ=>if ds.length=np then match runYs G body (ds.map some++List.replicate nl none) μ with
  |.ok (.rt d) μ1=>.ok d μ1
  |.ok (.nx _) μ1=>.ok .non μ1
  |.ok _ _=>.bad
  |.exc x μ1=>.exc x μ1
  |.bad=>.bad
 else .bad
end
noncomputable def jkq:Stmt->Option Expr
 |.Raise e c _=>match c with
  |none=>e
  |some _=>none
 |_=>none
theorem jl0 {s:Stmt}{e:Expr}(h:jkq s=some e):∃p,s=.Raise (some e) none p:=by
 unfold jkq at h
 split at h
 ·split at h
  ·subst h
   exact⟨_,rfl⟩
  ·cases h
 ·cases h
noncomputable def jgo (s:Stmt):Option (Str×Expr):=
 match jkq s with
 |some e=>match jeA e with
  |some (y,as)=>match as with
   |[a]=>some (y,a)
   |_=>none
  |none=>none
 |none=>none
theorem jkb {y:Str}{a:Expr}{s:Stmt}(h:jgo s=some (y,a)):∃np cpos rpos,s=.Raise (some (.Call (.Name y np) [a] [] cpos)) none rpos:=by
 unfold jgo at h
 split at h
 ·rename_i e he
  split at h
  ·rename_i y as hc
   split at h
   ·rename_i a
    cases h
    obtain⟨p,rfl⟩:=jl0 he
    obtain⟨q,r,rfl⟩:=jcc hc
    exact⟨_,_,_,rfl⟩
   ·cases h
  ·cases h
 ·cases h
section
variable (G:List FnE) (j:Nat) (rx:List Nat) (cs:List Str)
noncomputable def jet:XE->Stt->Expr->Bool
 |.call f md es,c,e=>rx.contains f&&chk G j (.call f md es) c e
 |.new _ _ _,_,_=>false
 |.app o e,c,x=>match x with
  |.Call (.Attribute z n q) ys [] p=>match ys with
   |[y]=>n == "append" && chk G j o c z&&jbs z&&jaG y&&(q.endLine==p.line)&&jet e c y
   |_=>false
  |_=>false
 |.tp a e,c,x=>match x with
  |.Tuple xs _ _=>match xs with
   |[y,z]=>chk G j a c y&&jaG y&&jaG z&&jet e c z
   |_=>false
  |_=>false
 |.tupl e,c,x=>match jeA x with
  |some (y,as)=>match as with
   |[z]=>y == "tuple" && jb0 c.sc "tuple" && jaG z&&jet e c z
   |_=>false
  |none=>false
 |.comp own tg ik es elt,c,x=>match x with
  |.ListComp el [g] scope _=>g.is_async==0&&own==(jbj g.target).length&&jyD c.N c.sc (jbj g.target) (jdW (jbj g.target) c.N) scope&&decide (jdW (jbj g.target) c.N).Nodup&&jei g.iter&&(match jcW c ik g.target g.iter with
   |some as=>chkL G j es c as
   |none=>false)&&jdU (jez c g.target scope) tg g.target&&g.ifs.isEmpty&&!c.cmp&&jet elt (jez c g.target scope) el
  |_=>false
mutual
noncomputable def jzH:SY->Stt->Stmt->Bool
 |.st s,c,st=>jyJ G j s c st
 |.asg tg e,c,st=>match st with
  |.Assign [t] v _=>jet G j rx e c v&&jdU c tg t&&!c.cmp&&tgV tg v&&notComp v
  |_=>false
 |.ex e,c,st=>match st with
  |.Expr v _=>jet G j rx e c v&&notComp v
  |_=>false
 |.ret e,c,st=>match st with
  |.Return (some v) _=>jet G j rx e c v
  |_=>false
 |.ite k a b,c,st=>match st with
  |.If x ss tt _=>chk G j k c x&&tst x&&chkYs a c ss&&chkYs b c tt
  |_=>false
 |.for_ tg ik es body _,c,st=>match st with
  |.For t it ss [] _=>jei it&&(match jcW c ik t it with
   |some as=>chkL G j es c as
   |none=>false)&&jdU c tg t&&chkYs body c ss
  |_=>false
 |.raise cls e,c,st=>match jgo st with
  |some (y,a)=>y==cls&&jb0 c.sc cls&&!(cls==("__debug__" : Str))&&cs.contains cls&&jaG a&&chk G j e c a
  |none=>false
noncomputable def chkYs:List SY->Stt->List Stmt->Bool
 |[],_,[]=>true
 |s::ss,c,t::ts=>jzH s c t&&chkYs ss c ts
 |_,_,_=>false
end
end
structure MakerX (P:Program) (w:World) (K:PySem.W.Frag) (mg:Str->Option Value) (base:Heap) (k:Nat) (x:Str) (C:Addr) (ps:List Str) (sp:Sp):Prop where
 ex:∃(f:Addr) (fd:FuncData),Mk K C f/\FnOk P w K mg base (CX1 P w) k f fd ps sp/\mg x=some (.ref C)/\jfR K fd ps []
structure OkX (G:List FnE) (j:Nat) (rx:List Nat) (E:XK) (c:Stt) (X:Cx):Prop extends Ok G j c X where
 hP:jhH (CX1 X.prog X.w) X E
 hx:∀i∈rx,∀g,G[i]?=some g->g.lv<=j->CalleeX X.prog X.w X.K X.mg X.base g.lv g.name g.ps (spY X.K X.mg g.ps.length g.F)
 mks:∀(i:Nat) (g:FnE) (C:Addr) (k:Nat) (fs:List Str),G[i]?=some g->g.dat=some (.cls C k fs)->k+1<=j->MakerX X.prog X.w X.K X.mg X.base k g.name C g.ps (spY X.K X.mg g.ps.length g.F)
 top:c.cmp=false->∃P w K mg base N qual scope f cd A outer s0 H0,X=jiu (CX1 P w) P w K mg base N qual scope f cd A outer s0 H0 E
structure OkY (G:List FnE) (j:Nat) (rx:List Nat) (cs:List Str) (E:XK) (c:Stt) (X:Cx):Prop extends OkX G j rx E c X,OkS G j c X where
 rs:∀cls∈cs,jb0 c.sc cls=true->(cls==("__debug__" : Str))=false->∃C,X.mg cls=some (.ref C)/\∀(a:Expr) (te:TE),jaG a=true->PE X a te->∀(np cpos rpos:Pos),PS X (.Raise (some (.Call (.Name cls np) [a] [] cpos)) none rpos) (fun _ σ H=>te σ H fun v H1=>[v].length<=sizeLine/\E (.ref C) none H1)
section
variable {K:PySem.W.Frag} {X:Cx} {G:List FnE} {j:Nat} {rx:List Nat} {cs:List Str} {E:XK} {c:Stt} {EX:Str->Hp->Prop}
theorem jn6 {mg:Str->Option Value}{md:Md}{F:Fn}{np:Nat}{w1:Wd}{μ1:M}{H1:Hp}{ds:List D}{vs:List V}{Q:VK}(hl:ds.length=np)(R1:Rep K w1 μ1 H1)(l1:DenL K w1 μ1.length ds vs)(a:Aft K (exM mg E) w1 μ1.length (jah md F ds μ1) fun d μ'=>jgf K w1 μ1.length d μ' Q):spY K mg np F vs H1 Q E:=by
 cases e:jah md F ds μ1 with
 |bad=>rw[e]at a;exact a.elim
 |ok d μ'=>
  rw[e]at a
  obtain⟨h1,w,μ,ds',d',μ'',R,l,e',q⟩:=jlR (K:=K) (EX:=E0) hl R1 l1 e a
  refine⟨h1,w,μ,ds',R,l,?_⟩
  rw[e']
  exact q
 |exc x μ'=>
  rw[e]at a
  cases x with
  |str cl=>
   refine⟨by rw[<- jai l1];exact hl,w1,μ1,ds,R1,l1,?_⟩
   have hfz:∀{μ0:M} {x0:D},jrm μ0 μ1.length x0=some (.str cl)->x0=.str cl:=fun {μ0 x0} h=>by
    unfold jrm at h
    cases x0 with
    |str z=>unfold jcs at h;exact j0w h
    |cel k=>
     unfold jcs at h
     unfold jku at h
     split at h
     ·cases h
     ·split at h
      ·cases h
      ·dsimp only at h
       split at h<;>first|(cases h;done)|(obtain⟨_,_,z⟩:=ja1 h;cases z)
    |non=>unfold jcs at h;cases h
    |bl _=>unfold jcs at h;cases h
    |int _=>unfold jcs at h;cases h
    |ty _=>unfold jcs at h;cases h
    |tup _=>unfold jcs at h;obtain⟨_,_,z⟩:=ja1 h;cases z
    |lst _=>unfold jcs at h;obtain⟨_,_,z⟩:=ja1 h;cases z
    |scr _=>unfold jcs at h;obtain⟨_,_,z⟩:=ja1 h;cases z
    |dK _ _=>unfold jcs at h;obtain⟨_,_,z⟩:=ja1 h;cases z
    |dT _ _=>unfold jcs at h;obtain⟨_,_,z⟩:=ja1 h;cases z
    |dF _ _=>unfold jcs at h;obtain⟨_,_,z⟩:=ja1 h;cases z
    |obj _ _ _=>unfold jcs at h;obtain⟨_,_,z⟩:=ja1 h;cases z
   have fin:∀{μ0:M},F ds μ1=.exc (.str cl) μ0->μ0.take μ1.length=μ1->μ'=μ1->Aft K (exM mg E) w1 μ1.length (F ds μ1) fun d μ'=>jgf K w1 μ1.length d μ' Q:=fun {μ0} e0 ht hμ=>by
    rw[e0]
    intro w2 H2 x2 R2
    subst hμ
    obtain⟨w3,x3,R3,_⟩:=jrR (keep:=[]) (cs:=[]) R1 x2 R2 ht List.nodup_nil (fun k h=>by cases h) rfl
    simp only[j0z,j0l]at x3 R3
    exact a w3 H2 x3 R3
   cases md with
   |raw=>
    have e2:F ds μ1=.exc (.str cl) μ':=e
    rw[e2]
    exact a
   |frz=>
    simp only[jah]at e
    split at e
    ·split at e
     ·split at e<;>cases e
     ·cases e
    ·rename_i x0 μ0 e0
     split at e
     ·rename_i ht
      split at e
      ·rename_i x' hx'
       simp only[Out.exc.injEq]at e
       obtain⟨rfl,rfl⟩:=e
       have:=hfz hx'
       subst this
       exact fin e0 ht rfl
      ·cases e
     ·cases e
    ·cases e
   |new=>
    simp only[jah]at e
    cases e
  |_=>exact a.elim
theorem jtY {EX:Str->Hp->Prop}{w:Wd}{n:Nat}{x:D}{ds:List D}{μ:M}{P:D->M->Prop}(h:Aft K EX w n (jmJ x ds μ) P):∃d μ',jmJ x ds μ=.ok d μ'/\P d μ':=by
 revert h
 unfold jmJ
 split
 ·split
  ·split
   ·exact fun h=>⟨_,_,rfl,h⟩
   ·exact fun h=>h.elim
  ·exact fun h=>h.elim
 ·exact fun h=>h.elim
theorem Ok.wish (o:Ok G j c X)(f:Value->Shared->Prop):Ok G j c (X.wish f):=⟨o.hN,o.nd,o.sc,o.calm,o.room,o.mg,o.fns,o.dts,o.fn⟩
theorem jp0 {w:Wd}{n:Nat}{ok:M->Bool}{tg:Tg}{elt:S3->M->Out D}{acc xs:List D}{ρ:S3}{μ:M}{P:D->M->Prop}(a:Aft K EX w n (jd0 ok tg elt ρ acc xs μ) P):ok μ=true:=by
 cases xs<;>(unfold jd0 at a;split at a<;>first|assumption|exact a.elim)
def jvL (K:PySem.W.Frag)(EX:Str->Hp->Prop)(Q:VK)(w1:Wd)(n1:Nat)(ok:M->Bool)(tg:Tg)(elt:S3->M->Out D)(ρ:S3)(xs:List D)(i:Nat)(vs:List V)(H:Hp):Prop:=
 i<=xs.length/\vs.length<=i/\∃(w2:Wd) (μ:M) (acc:List D),Ext w1 w2 n1 μ.length/\Rep K w2 μ H/\DenL K w2 μ.length acc vs/\Aft K EX w2 μ.length (jd0 ok tg elt ρ acc (xs.drop i) μ) fun d μ'=>jgf K w2 μ.length d μ' Q
theorem jnp {ok:M->Bool}{tg:Tg}{g:TG}{elt:S3->M->Out D}{ρ:S3}{σ:_L2.St}{J:It}{k:Nat}{xs:List D}{w1:Wd}{μ1:M}{H1:Hp}{Q:VK}(hT:jrZ K tg g)(R1:Rep K w1 μ1 H1)(S1:jch K w1 μ1.length ρ σ)
  (hJ:jrK K w1 μ1.length ok xs J) (hz:xs.length<=sizeLine) (a:Aft K EX w1 μ1.length (jd0 ok tg elt (List.replicate k none++ρ) [] xs μ1) fun d μ'=>jgf K w1 μ1.length d μ' Q):Cmp J k g jyt (jyu K EX elt) σ Q H1:=by
 refine⟨fun i n vs H=>n=xs.length - i/\jvL K EX Q w1 μ1.length ok tg elt (List.replicate k none++ρ) xs i vs H,
  ⟨xs.length,by simp,Nat.zero_le _,j0q _,w1,μ1,[],Ext.refl _ _,R1,by unfold DenL;rfl,a⟩,?_⟩
 rintro i n vs H ⟨rfl,hi,hy,w2,μ,acc,x2,R2,l2,ec⟩
 have hok:=jp0 ec
 obtain⟨hstop,hgo⟩:=hJ w2 μ H x2 R2 hok
 by_cases hlt:i<xs.length
 ·obtain⟨d0,hd0,hdr⟩:=je4 hlt
  obtain⟨g1,g2⟩:=hgo i d0 hd0
  rw[hdr]at ec
  unfold jd0 at ec
  rw[if_pos hok]at ec
  split at ec
  ·rename_i ρ1 has
   refine .inr ⟨g1,by omega,fun y H'=>jvL K EX Q w1 μ1.length ok tg elt (List.replicate k none++ρ) xs (i+1) (vs++[y]) H',fun _=>False,
    fun y H' r=>⟨xs.length - (i+1),by omega,rfl,r⟩,fun H' r=>r.elim,fun x H3 hyl=>?_⟩
   obtain⟨w3,x3,R3,d3⟩:=g2 x H3 hyl
   refine hT w3 μ H3 _ ρ1 _ d0 x _ R3 ((S1.mono (x2.trans x3)).blank k) d3 has fun σ2 S2=>?_
   unfold jyt
   dsimp only
   rw[if_pos rfl]
   refine⟨w3,μ,ρ1,R3,S2,?_⟩
   have ec':=ec.ext x3 (P':=fun d μ'=>jgf K w3 μ.length d μ' Q) fun d μ' _ q w5 H5 v x5 R5 d5=>q w5 H5 v (x3.trans x5) R5 d5
   refine ec'.bind fun y μb ey a2 w5 H5 v5 x5 R5 d5=>⟨hlt,by simp;omega,w5,μb,acc++[y],(x2.trans x3).trans x5,R5,(l2.mono (x3.trans x5)).append (DenL.one d5),?_⟩
   exact a2.ext x5 fun d μ' _ q w6 H6 v x6 R6 d6=>q w6 H6 v (x5.trans x6) R6 d6
  ·exact ec.elim
 ·have ei:i=xs.length:=by omega
  subst ei
  rw[List.drop_length]at ec
  unfold jd0 at ec
  rw[if_pos hok]at ec
  exact .inl ⟨hstop,jdD (m:=false) R2 l2 rfl fun w3 H3 v x3 R3 d3=>ec w3 H3 v x3 R3 d3⟩
theorem jkB:∀(x:XE) {c:Stt} {X:Cx} {e:Expr},OkX G j rx E c X->jet G j rx x c e=true->PE X e (jyu X.K (exM X.mg E) (evX G x))
 |.call f md es,c,X,e,o,h=>by
  have h':(rx.contains f&&chk G j (.call f md es) c e)=true:=h
  clear h
  simp only[j0a]at h'
  obtain⟨hf,h⟩:=h'
  have hh:=jii (P:=fun x _ y ys _=>(match G[f]? with
   |some g=>g.name==x&&jb0 c.sc x&&es.length==g.ps.length&&decide (g.lv<=j)
   |none=>false)&&chkL G j es c (y::ys)&&jag (y::ys)) h
  clear h
  obtain⟨x,q,y,ys,p,rfl,h⟩:=hh
  simp only[j0a]at h
  obtain⟨⟨h1,h2⟩,h3⟩:=h
  split at h1
  ·rename_i g hg
   simp only[j0a,beq_iff_eq,decide_eq_true_eq]at h1
   obtain⟨⟨⟨a1,a2⟩,a3⟩,a4⟩:=h1
   subst a1
   have hA:=(sndL es o.toOk h2).1
   obtain⟨fa,fd,F,hm,hkp,hb⟩:=(o.hx f (by simpa using hf) g hg a4).ex
   have k1:=h3
   unfold jag at k1
   simp only[j0S,j0a]at k1
   have gl:=jas (ja9 o.toOk a2)
   refine imE (jn5 (hdb:=gl.2.1) (he:=jau k1.1) (hpl:=jbA k1.2) F (o.room.mono a4) gl.1 hm hkp hb .nil o.hP hA) fun σ H Q=>?_
   rintro⟨w,μ,ρ,R,S,a⟩
   obtain⟨ds,μ1,e1,a⟩:=a.noXb
   unfold jic at a
   rw[hg]at a
   refine⟨w,μ,ρ,ds,μ1,R,S,e1,fun w1 H1 vs x1 R1 d1=>?_⟩
   show spY X.K X.mg g.ps.length g.F (vs++[]) H1 Q E
   rw[j0l]
   exact jn6 ((jkD e1).trans a3) R1 d1 (a.ext x1 fun d μ' _ q w2 H2 v x2 R2 d2=>q w2 H2 v (x1.trans x2) R2 d2)
  ·cases h1
 |.new f md es,c,X,e,o,h=>by
  have h':false=true:=h
  cases h'
 |.app ob x,c,X,e,o,h=>by
  unfold jet at h
  split at h
  ·rename_i z n q ys p
   split at h
   ·rename_i y
    simp only[j0a,beq_iff_eq]at h
    obtain⟨⟨⟨⟨⟨rfl,h1⟩,h2⟩,h3⟩,h4⟩,h5⟩:=h
    have ih:=jkB x o h5
    have k:=snd ob o.toOk h1
    refine imE (jm6 PySem.F.plainAttrs_list PySem.F.slot_list_append PySem.F.type_list_append jgU ⟨k.v⟩ ⟨pac ih jcG h3⟩ h2 (by unfold jag;simp[h3]) (by decide) (by simpa using h4)).h fun σ H Q=>?_
    rintro⟨w,μ,ρ,R,S,a⟩
    obtain⟨d1,μ1,e1,a⟩:=a.noXb
    split at a
    ·rename_i hok
     refine⟨w,μ,ρ,d1,μ1,R,S,e1,fun w1 H1 v1 x1 R1 k1=>⟨jjD (.inl rfl) R1 k1 hok,w1,μ1,ρ,R1,S.mono x1,?_⟩⟩
     have a':Aft X.K (exM X.mg E) w1 μ1.length ((evX G x ρ μ1).bind fun d μ2=>jmJ d1 [d] μ2) fun d μ'=>jgf X.K w1 μ1.length d μ' Q:=a.ext x1 fun d μ' _ q w2 H2 v x2 R2 d2=>q w2 H2 v (x1.trans x2) R2 d2
     refine a'.bind fun d2 μ2 e2 a2 w2 H2 v2 x2 R2 k2=>?_
     obtain⟨d3,μ3,e3,q⟩:=jtY a2
     exact jpe w2 μ2 H2 d1 v1 [d2] d3 μ3 [v2] Q R2 (k1.mono x2) (DenL.one k2) e3 fun w3 H3 v3 x3 R3 k3=>q w3 H3 v3 (x2.trans x3) R3 k3
    ·exact a.elim
   ·cases h
  ·cases h
 |.tp a x,c,X,e,o,h=>by
  unfold jet at h
  split at h
  ·rename_i xs k p
   split at h
   ·rename_i y z
    simp only[j0a]at h
    obtain⟨⟨⟨h1,h2⟩,h3⟩,h4⟩:=h
    refine imE (jow (pac (snd a o.toOk h1).v (pac (jkB x o h4) jcG h3) h2)) fun σ H Q=>?_
    rintro⟨w,μ,ρ,R,S,a⟩
    obtain⟨d1,μ1,e1,a⟩:=a.noXb
    refine⟨w,μ,ρ,d1,μ1,R,S,e1,fun w1 H1 v1 x1 R1 k1=>⟨w1,μ1,ρ,R1,S.mono x1,?_⟩⟩
    have a':Aft X.K (exM X.mg E) w1 μ1.length ((evX G x ρ μ1).bind fun y μ2=>noX (if [d1,y].length<=sizeLine then .ok (.tup [d1,y]) μ2 else .bad)) fun d μ'=>jgf X.K w1 μ1.length d μ' Q:=a.ext x1 fun d μ' _ q w2 H2 v x2 R2 d2=>q w2 H2 v (x1.trans x2) R2 d2
    refine a'.bind fun d2 μ2 e2 a2 w2 H2 v2 x2 R2 k2=>?_
    obtain⟨d3,μ3,e3,q⟩:=a2.noX
    exact joO w2 μ2 H2 [d1,d2] d3 μ3 [v1,v2] Q R2 (by unfold DenL;exact⟨v1,[v2],rfl,k1.mono x2,DenL.one k2⟩) e3 fun w3 H3 v3 x3 R3 k3=>q w3 H3 v3 (x2.trans x3) R3 k3
   ·cases h
  ·cases h
 |.tupl x,c,X,e,o,h=>by
  unfold jet at h
  split at h
  ·rename_i y as hc
   split at h
   ·rename_i z
    simp only[j0a,beq_iff_eq]at h
    obtain⟨⟨⟨rfl,h2⟩,h3⟩,h4⟩:=h
    obtain⟨p1,p2,rfl⟩:=jcc hc
    refine imE (jfL (X:=X) jfv (ja9 o.toOk h2) (mg_of o.toOk (by decide +kernel)) jiT (pac (jkB x o h4) jcG h3) (by unfold jag;simp[h3])) fun σ H Q=>?_
    rintro⟨w,μ,ρ,R,S,a⟩
    refine⟨w,μ,ρ,R,S,Aft.bind (k:=fun x μ1=>noX (tupleD [x] μ1)) a fun d2 μ2 e2 a2 w2 H2 v2 x2 R2 k2=>?_⟩
    obtain⟨d3,μ3,e3,q⟩:=a2.noX
    exact jjF w2 μ2 H2 [d2] d3 μ3 [v2] Q R2 (DenL.one k2) e3 fun w3 H3 v3 x3 R3 k3=>q w3 H3 v3 (x2.trans x3) R3 k3
   ·cases h
  ·cases h
 |.comp own tg ik es x,c,X,e,o,h=>by
  unfold jet at h
  split at h
  ·rename_i el g scope p
   obtain⟨t,it,fs,kk⟩:=g
   simp only[j0a,beq_iff_eq,decide_eq_true_eq,j0B,List.isEmpty_iff]at h
   obtain⟨⟨⟨⟨⟨⟨⟨⟨⟨rfl,rfl⟩,h1⟩,h2⟩,h3⟩,h4⟩,h5⟩,rfl⟩,h6⟩,h7⟩:=h
   split at h4
   ·rename_i as ha
    have k:=sndL es o.toOk h4
    obtain⟨P,w,K,mg,base,N,qual,scope0,f,cd,A,outer,s0,H0,hX⟩:=o.top h6
    have oi:∀C fp s H,OkX G j rx E (jez c t scope) ((jaO X (jdW (jbj t) c.N) scope C fp s H).wish (cxe E X (jdW (jbj t) c.N) scope C fp s H)):=fun C fp s H=>
     ⟨(jim (t:=t) (scope:=scope) o.toOk h2 C fp s H).wish _,jpB,o.hx,o.mks,fun z=>by cases z⟩
    refine imE (jqr (g:=gOf X.K tg) (tt:=jyt) (te:=jyu X.K (exM X.mg E) (evX G x)) hX (csk (by rw[o.hN,o.sc];exact h1)) (jpf o.toOk ha k.1 k.2.1 k.2.2) (fun C fp s H=>(jkJ (oi C fp s H).toOk h5).1) (fun C fp s H=>joF) (fun C fp s H=>jkB x (oi C fp s H) h7) (jd3 h3)) fun σ H Q=>?_
    rintro⟨w,μ,ρ,R,S,a⟩
    obtain⟨ds,μ1,a1,a⟩:=a.noXb
    split at a
    ·rename_i xs hx
     split at a
     ·rename_i hz
      exact⟨w,μ,ρ,ds,μ1,xs,R,S,a1,hx,fun w1 H1 J x1 R1 hJ=>jnp (jdR tg) R1 (S.mono x1) hJ hz (a.ext x1 fun d μ' _ q w2 H2 v x2 R2 d2=>q w2 H2 v (x1.trans x2) R2 d2)⟩
     ·exact a.elim
    ·exact a.elim
   ·cases h4
  ·cases h
theorem jok {tg:Tg}{x:XE}{g:TG}(hT:jrZ K tg g){D:Ends}{σ:_L2.St}{H:Hp}:jk0 K EX (jjh G (.asg tg x)) D σ H->jvm (jyu K EX (evX G x)) g D σ H:=by
 rintro⟨w,μ,ρ,R,S,a⟩
 have a':Aft K EX w μ.length ((evX G x ρ μ).bind fun d μ1=>match jl2 tg d ρ with
  |some ρ1=>.ok (.nx ρ1) μ1
  |none=>.bad) (jhk K w μ.length D):=a
 refine⟨w,μ,ρ,R,S,a'.bind fun d μ1 e1 a1 w1 H1 v x1 R1 d1=>?_⟩
 split at a1
 ·rename_i ρ1 ha
  exact hT w1 _ H1 ρ ρ1 σ d v D.nx R1 (S.mono x1) d1 ha fun σ' S'=>a1 w1 H1 x1 R1 σ' S'
 ·exact a1.elim
theorem T3S.x {r:S3->M->Out Fl}{D:Ends}{σ:_L2.St}{H:Hp}:jk0 K EX (fun ρ μ=>noX (r ρ μ)) D σ H->T3S K r D σ H:=by
 rintro⟨w,μ,ρ,R,S,a⟩
 obtain⟨fl,μ1,e1,q⟩:=a.noX
 exact⟨w,μ,ρ,fl,μ1,R,S,e1,q⟩
theorem jqt (o:OkY G j rx cs E c X){tg:Tg}{x:XE}{t v:Expr}{pos:Pos}(he:jet G j rx x c v=true)(ht:jdU c tg t=true)(hcm:c.cmp=false)(hx:tgV tg v=true)(hc:notComp v=true):PS X (.Assign [t] v pos) (jk0 X.K (exM X.mg E) (jjh G (.asg tg x))):=by
 have k:=jkB x o.toOkX he
 obtain⟨hg,hst⟩:=jkJ o.toOk ht
 cases tg with
 |tp is=>
  simp only[tgV,j0a,j0B]at hx
  have hst2:swappedStores [t] v X.env=pure none:=by
   cases t with
   |Tuple es k p=>exact jhW hx.2
   |_=>cases ht
  exact imS (jrT k hg (show swapsWith v (some t) pos.line X.env=pure false from jc7 hx.1) hst2 (by rw[jgq hst];rfl)) fun D σ H q=>jok (jdR _) q
 |nm i=>
  have ht':jjm c i t=true:=ht
  unfold jjm at ht'
  split at ht'
  ·rename_i y px
   rw[hcm]at ht'
   have hok:jgP c.N c.sc i y=true:=ht'
   have hok':jgP X.N X.env.scope i y=true:=by rw[o.hN,o.sc];exact hok
   exact imS (jid (by rw[o.hN];exact o.nd) hok' k hc (o.fn hcm y)) fun D σ H q=>jok (g:=je6 i) (jdR (.nm i)) q
  ·cases ht'
theorem jpU (o:OkY G j rx cs E c X){k:_L3.E}{a b:List SY}{x:Expr}{ss tt:List Stmt}{pos:Pos}(hk:chk G j k c x=true)(ht:tst x=true)(ha:PSs X ss (jk0 X.K (exM X.mg E) (runYs G a)))(hb:PSs X tt (jk0 X.K (exM X.mg E) (runYs G b))):PS X (.If x ss tt pos) (jk0 X.K (exM X.mg E) (jjh G (.ite k a b))):=by
 refine imS (jxd ((snd k o.toOk hk).t ht) ha hb) fun D σ H=>?_
 rintro⟨w,μ,ρ,R,S,a⟩
 obtain⟨b',μ1,a1,a⟩:=a.noXb
 refine⟨w,μ,ρ,b',μ1,R,S,a1,fun w1 H1 x1 R1=>?_⟩
 have sh:∀r:Out Fl,Aft X.K (exM X.mg E) w μ.length r (jhk X.K w μ.length D)->Aft X.K (exM X.mg E) w1 μ1.length r (jhk X.K w1 μ1.length D):=fun r h=>h.ext x1 fun fl μ' _ q w2 H2 x2 R2=>q w2 H2 (x1.trans x2) R2
 dsimp only
 cases b' with
 |true=>
  rw[if_pos rfl]at a ⊢
  exact⟨w1,μ1,ρ,R1,S.mono x1,sh _ a⟩
 |false=>
  rw[if_neg j0g]at a ⊢
  exact⟨w1,μ1,ρ,R1,S.mono x1,sh _ a⟩
def jwW (K:PySem.W.Frag)(EX:Str->Hp->Prop)(DD:Ends)(w1:Wd)(n1:Nat)(ok:M->Bool)(tg:Tg)(body:S3->M->Out Fl)(fg:List Nat)(xs:List D)(i:Nat)(σ:_L2.St)(H:Hp):Prop:=
 i<=xs.length/\∃(w2:Wd) (μ:M) (ρ':S3),Ext w1 w2 n1 μ.length/\Rep K w2 μ H/\jch K w2 μ.length ρ' σ/\Aft K EX w2 μ.length (jds ok tg body fg (xs.drop i) ρ' μ) (jhk K w2 μ.length DD)
theorem js0 {w:Wd}{n:Nat}{ok:M->Bool}{tg:Tg}{body:S3->M->Out Fl}{fg:List Nat}{xs:List D}{ρ:S3}{μ:M}{P:Fl->M->Prop}(a:Aft K EX w n (jds ok tg body fg xs ρ μ) P):ok μ=true:=by
 cases xs<;>(unfold jds at a;split at a<;>first|assumption|exact a.elim)
theorem jqA {ok:M->Bool}{tg:Tg}{g:TG}{body:S3->M->Out Fl}{fg:List Nat}{ρ:S3}{σ:_L2.St}{J:It}{xs:List _L3.D}{w1:Wd}{μ1:M}{H1:Hp}{D:Ends}(hT:jrZ K tg g)(R1:Rep K w1 μ1 H1)(S1:jch K w1 μ1.length ρ σ)
  (hJ:jrK K w1 μ1.length ok xs J) (a:Aft K EX w1 μ1.length (jds ok tg body fg xs ρ μ1) (jhk K w1 μ1.length D)):Lop J g (jk0 K EX body) D σ H1:=by
 refine⟨fun i n σ' H=>n=xs.length - i/\jwW K EX D w1 μ1.length ok tg body fg xs i σ' H,
  ⟨xs.length,by simp,Nat.zero_le _,w1,μ1,ρ,Ext.refl _ _,R1,S1,a⟩,?_⟩
 rintro i n σ' H ⟨rfl,hi,w2,μ,ρ',x2,R2,S2,ef⟩
 have hok:=js0 ef
 obtain⟨hstop,hgo⟩:=hJ w2 μ H x2 R2 hok
 by_cases hlt:i<xs.length
 ·obtain⟨d0,hd0,hdr⟩:=je4 hlt
  obtain⟨g1,g2⟩:=hgo i d0 hd0
  rw[hdr]at ef
  unfold jds at ef
  rw[if_pos hok]at ef
  split at ef
  ·rename_i ρ1 has
   refine .inr ⟨g1,jwW K EX D w1 μ1.length ok tg body fg xs (i+1),
    fun σ'' H' r=>⟨xs.length - (i+1),by omega,rfl,r⟩,fun x H3 hyl=>?_⟩
   obtain⟨w3,x3,R3,d3⟩:=g2 x H3 hyl
   refine hT w3 μ H3 _ ρ1 _ d0 x _ R3 (S2.mono x3) d3 has fun σ2 S3'=>?_
   refine⟨w3,μ,ρ1,R3,S3',?_⟩
   have sh:∀{w4:Wd} {μa:M} {r:Out Fl},Ext w3 w4 μ.length μa.length->Aft K EX w2 μ.length r (jhk K w2 μ.length D)->Aft K EX w4 μa.length r (jhk K w4 μa.length D):=fun x4 h=>h.ext (x3.trans x4) fun fl μ' _ q w5 H5 x5 R5=>q w5 H5 ((x3.trans x4).trans x5) R5
   split at ef
   ·rename_i ρ2 μa eb
    rw[eb]
    exact fun w4 H4 x4 R4 σ4 S4=>⟨hlt,w4,μa,_,(x2.trans x3).trans x4,R4,S4.forget fg,sh x4 ef⟩
   ·rename_i ρ2 μa eb
    rw[eb]
    exact fun w4 H4 x4 R4 σ4 S4=>⟨hlt,w4,μa,_,(x2.trans x3).trans x4,R4,S4.forget fg,sh x4 ef⟩
   ·rename_i ρ2 μa eb
    rw[eb]
    exact fun w4 H4 x4 R4 σ4 S4=>ef w4 H4 (x3.trans x4) R4 σ4 (S4.forget fg)
   ·rename_i d μa eb
    rw[eb]
    exact fun w4 H4 x4 R4 v4 d4=>ef w4 H4 (x3.trans x4) R4 v4 d4
   ·rename_i y μa eb
    rw[eb]
    exact Aft.ext (o:=(.exc y μa:Out Fl)) x3 ef fun _ _ z=>by cases z
   ·exact ef.elim
  ·exact ef.elim
 ·have ei:i=xs.length:=by omega
  subst ei
  rw[List.drop_length]at ef
  unfold jds at ef
  rw[if_pos hok]at ef
  exact .inl ⟨hstop,ef w2 H (Ext.refl _ _) R2 σ' (S2.forget fg)⟩
theorem jqx (o:OkY G j rx cs E c X){tg:Tg}{ik:IK}{es:List _L3.E}{body:List SY}{fg:List Nat}{t it:Expr}{as:List Expr}{ss:List Stmt}{pos:Pos}(hn:jei it=true)(hi:jcW c ik t it=some as)(hes:chkL G j es c as=true)(ht:jdU c tg t=true)(hb:PSs X ss (jk0 X.K (exM X.mg E) (runYs G body))):PS X (.For t it ss [] pos) (jk0 X.K (exM X.mg E) (jjh G (.for_ tg ik es body fg))):=by
 have k:=sndL es o.toOk hes
 refine imS (jrS o.pass o.calm (jpf o.toOk hi k.1 k.2.1 k.2.2) (jkJ o.toOk ht).1 hb (jd3 hn)) fun D σ H=>?_
 rintro⟨w,μ,ρ,R,S,a⟩
 obtain⟨ds,μ1,a1,a⟩:=a.noXb
 split at a
 ·rename_i xs hx
  exact⟨w,μ,ρ,ds,μ1,xs,R,S,a1,hx,fun w1 H1 J x1 R1 hJ=>jqA (jdR tg) R1 (S.mono x1) hJ (a.ext x1 fun fl μ' _ q w2 H2 x2 R2=>q w2 H2 (x1.trans x2) R2)⟩
 ·exact a.elim
theorem jpq {s:SY}{ss:List SY}{st:Stmt}{sts:List Stmt}(h1:PS X st (jk0 X.K EX (jjh G s)))(h2:PSs X sts (jk0 X.K EX (runYs G ss))):PSs X (st::sts) (jk0 X.K EX (runYs G (s::ss))):=by
 refine jx6 (jfl h1 h2) fun D σ H=>?_
 rintro⟨w,μ,ρ,R,S,a⟩
 replace a:Aft X.K EX w μ.length (match jjh G s ρ μ with
  |.ok (.nx ρ1) μ1=>runYs G ss ρ1 μ1
  |r=>r) (jhk X.K w μ.length D):=a
 refine⟨w,μ,ρ,R,S,?_⟩
 cases e2:jjh G s ρ μ with
 |bad=>rw[e2]at a;exact a
 |exc x μ1=>
  rw[e2]at a
  exact Aft.ext (o:=(.exc x μ1:Out Fl)) (Ext.refl _ _) a fun _ _ z=>by cases z
 |ok f1 μ1=>
  rw[e2]at a
  intro w1 H1 x1 R1
  cases f1 with
  |nx ρ1=>
   intro σ1 S1
   exact⟨w1,μ1,ρ1,R1,S1,Aft.ext x1 a fun fl μ' _ q w2 H2 x2 R2=>q w2 H2 (x1.trans x2) R2⟩
  |rt d=>exact a w1 H1 x1 R1
  |bk ρ1=>exact a w1 H1 x1 R1
  |ct ρ1=>exact a w1 H1 x1 R1
end
section
variable {G:List FnE} {j:Nat} {rx:List Nat} {cs:List Str} {EE:XK}
mutual
theorem jAL:∀(s:SY) {c:Stt} {X:Cx} {st:Stmt},OkY G j rx cs EE c X->jzH G j rx cs s c st=true->PS X st (jk0 X.K (exM X.mg EE) (jjh G s))
 |.st s,c,X,st,o,h=>imS (jz7 s o.toOkS h) fun D σ H q=>T3S.x q
 |.asg tg e,c,X,st,o,h=>by
  have hh:=jox (P:=fun t v _=>jet G j rx e c v&&jdU c tg t&&!c.cmp&&tgV tg v&&notComp v) h
  clear h
  obtain⟨t,v,p,rfl,h⟩:=hh
  simp only[j0a,j0B]at h
  exact jqt o h.1.1.1.1 h.1.1.1.2 h.1.1.2 h.1.2 h.2
 |.ex e,c,X,st,o,h=>by
  have hh:=jr9 (P:=fun v=>jet G j rx e c v&&notComp v) h
  clear h
  obtain⟨v,p,rfl,h⟩:=hh
  simp only[j0a]at h
  refine imS (jkw (jkB e o.toOkX h.1) (jc7 h.2)) fun D σ H=>?_
  rintro⟨w,μ,ρ,R,S,a⟩
  exact⟨w,μ,ρ,R,S,a.bind fun d μ1 e1 a1 w1 H1 v1 x1 R1 k1=>a1 w1 H1 x1 R1 σ (S.mono x1)⟩
 |.ret e,c,X,st,o,h=>by
  have hh:=jnG (P:=fun v=>jet G j rx e c v) h
  clear h
  obtain⟨v,p,rfl,h⟩:=hh
  refine imS (jmQ (jkB e o.toOkX h)) fun D σ H=>?_
  rintro⟨w,μ,ρ,R,S,a⟩
  exact⟨w,μ,ρ,R,S,a.bind fun d μ1 e1 a1 w1 H1 v1 x1 R1 k1=>a1 w1 H1 x1 R1 v1 k1⟩
 |.ite k a b,c,X,st,o,h=>by
  have hh:=jrG (P:=fun x ss tt=>chk G j k c x&&tst x&&chkYs G j rx cs a c ss&&chkYs G j rx cs b c tt) h
  clear h
  obtain⟨x,ss,tt,p,rfl,h⟩:=hh
  simp only[j0a]at h
  obtain⟨⟨⟨h1,h2⟩,h3⟩,h4⟩:=h
  exact jpU o h1 h2 (sndYs a o h3) (sndYs b o h4)
 |.for_ tg ik es body fg,c,X,st,o,h=>by
  have hh:=jnh (P:=fun t it ss=>jei it&&(match jcW c ik t it with
   |some as=>chkL G j es c as
   |none=>false)&&jdU c tg t&&chkYs G j rx cs body c ss) h
  clear h
  obtain⟨t,it,ss,p,rfl,h⟩:=hh
  simp only[j0a]at h
  obtain⟨⟨⟨h1,h2⟩,h3⟩,h4⟩:=h
  split at h2
  ·rename_i as ha
   exact jqx o h1 ha h2 h3 (sndYs body o h4)
  ·cases h2
 |.raise cls e,c,X,st,o,h=>by
  have h':(match jgo st with
   |some (y,a)=>y==cls&&jb0 c.sc cls&&!(cls==("__debug__" : Str))&&cs.contains cls&&jaG a&&chk G j e c a
   |none=>false)=true:=h
  clear h
  split at h'
  ·rename_i y a ha
   simp only[j0a,j0B,beq_iff_eq]at h'
   obtain⟨⟨⟨⟨⟨rfl,h2⟩,h3⟩,h4⟩,h5⟩,h6⟩:=h'
   obtain⟨np,cpos,rpos,rfl⟩:=jkb ha
   obtain⟨C,hm,hps⟩:=o.rs y (by simpa using h4) h2 h3
   refine imS (hps a _ h5 (snd e o.toOk h6).v np cpos rpos) fun D σ H=>?_
   rintro⟨w,μ,ρ,R,S,a⟩
   obtain⟨d,μ1,e1,a⟩:=a.noXb
   have a':∀w' H',Ext w w' μ.length μ1.length->Rep X.K w' μ1 H'->exM X.mg EE y H':=a
   refine⟨w,μ,ρ,d,μ1,R,S,e1,fun w1 H1 v x1 R1 d1=>⟨by show 1<=sizeLine;decide,?_⟩⟩
   obtain⟨C',hm',hE⟩:=a' w1 H1 x1 R1
   rw[hm]at hm'
   cases hm'
   exact hE
  ·cases h'
theorem sndYs:∀(ss:List SY) {c:Stt} {X:Cx} {sts:List Stmt},OkY G j rx cs EE c X->chkYs G j rx cs ss c sts=true->PSs X sts (jk0 X.K (exM X.mg EE) (runYs G ss))
 |[],c,X,sts,o,h=>by
  cases sts with
  |nil=>
   refine jx6 jne fun D σ H=>?_
   rintro⟨w,μ,ρ,R,S,a⟩
   have a':jhk X.K w μ.length D (.nx ρ) μ:=a
   exact a' w H (Ext.refl _ _) R σ S
  |cons _ _=>
   have h':false=true:=h
   cases h'
 |s::ss,c,X,sts,o,h=>by
  cases sts with
  |nil=>
   have h':false=true:=h
   cases h'
  |cons t ts=>
   have h':(jzH G j rx cs s c t&&chkYs G j rx cs ss c ts)=true:=h
   clear h
   simp only[j0a]at h'
   exact jpq (jAL s o h'.1) (sndYs ss o h'.2)
end
end
section
variable {P:Program} {w:World} {K:PySem.W.Frag} {mg:Str->Option Value} {base:Heap}
def jyx (P:Program)(w:World)(K:PySem.W.Frag)(mg:Str->Option Value)(base:Heap)(j:Nat)(G:List FnE)(rx:List Nat):Prop:=
 ∀i∈rx,∀g,G[i]?=some g->g.lv<=j->CalleeX P w K mg base g.lv g.name g.ps (spY K mg g.ps.length g.F)
theorem jfa {j:Nat}{G:List FnE}:jyx P w K mg base j G []:=fun i h=>by cases h
theorem jeg {j i:Nat}{G:List FnE}{rx:List Nat}{g:FnE}(hg:G[i]?=some g)(h:CalleeX P w K mg base g.lv g.name g.ps (spY K mg g.ps.length g.F))(t:jyx P w K mg base j G rx):jyx P w K mg base j G (i::rx):=fun i' hi g' e hl=>by
 rcases j0d.mp hi with rfl|hi
 ·rw[hg]at e
  cases e
  exact h
 ·exact t i' hi g' e hl
def jyy (P:Program)(w:World)(K:PySem.W.Frag)(mg:Str->Option Value)(base:Heap)(j:Nat)(G:List FnE):Prop:=
 ∀(i:Nat) (g:FnE) (C:Addr) (k:Nat) (fs:List Str),G[i]?=some g->g.dat=some (.cls C k fs)->k+1<=j->MakerX P w K mg base k g.name C g.ps (spY K mg g.ps.length g.F)
noncomputable def jxm:Option Dat->Bool
 |some (.cls _ _ _)=>false
 |_=>true
theorem jfz {j:Nat}:jyy P w K mg base j []:=fun i g C k fs e=>by simp at e
theorem jcq {j:Nat}{g:FnE}{G:List FnE}(h:jxm g.dat=true)(t:jyy P w K mg base j G):jyy P w K mg base j (g::G):=fun i g' C k fs e hd hk=>by
 cases i with
 |zero=>
  simp only[j0F,j0v]at e
  subst e
  rw[hd]at h
  cases h
 |succ i=>exact t i g' C k fs (by simpa using e) hd hk
def jkV (K:PySem.W.Frag)(mg:Str->Option Value)(cs:List Str):Prop:=∀x∈cs,∃C,mg x=some (.ref C)/\ExcC K C
theorem jc9:jkV K mg []:=fun x h=>by cases h
theorem jcF {x:Str}{C:Addr}{cs:List Str}(hm:mg x=some (.ref C))(hC:ExcC K C)(t:jkV K mg cs):jkV K mg (x::cs):=fun y h=>by
 rcases j0d.mp h with rfl|h
 ·exact⟨C,hm,hC⟩
 ·exact t y h
theorem ji5 {x qual:Str}{st:Stmt}{f:Addr}{fd:FuncData}{N ps:List Str}{j:Nat}{G:List FnE}{rx:List Nat}{cs:List Str}{body:List SY}(F:Fun K x qual st f fd)(Sc:FnScope N ps (ja st))(T:Tab P w K mg base j G)(TX:jyx P w K mg base j G rx)(TM:jyy P w K mg base j G)(hc:jkV K mg cs)
  (h:chkYs G j rx cs body ⟨N,ja st,false⟩ (jap st)=true):FnOk P w K mg base (CX1 P w) (j+1) f fd ps (spY K mg ps.length (fnY G ps.length (N.length - ps.length) body)):=by
 obtain⟨oc,od,kV,doc,pm,an,cdv,ct,osl,rfl,lk,hcd⟩:=F.ex
 refine jxp lk hcd Sc (fun vs H Q E h=>h.1) fun A outer s H vs Q E hr hsp=>?_
 let X:Cx:=jiu (CX1 P w) P w K mg base N qual (ja st) f cdv A outer s H E
 have ok:OkY G j rx cs E ⟨N,ja st,false⟩ X:=⟨⟨⟨rfl,Sc.nd,rfl,rfl,hr,T.hm,T.hf,T.hd,fun _ _=>rfl⟩,jwN,TX,TM,fun _=>⟨_,_,_,_,_,_,_,_,_,_,_,_,_,_,rfl⟩⟩,PassesOwn.leaving,Sc.kind,fun cls hcl hg hdb=>by
  obtain⟨C,hm,hC⟩:=hc cls hcl
  have hgl:Gl X cls:=(jas (X:=X) hg).1
  exact⟨C,hm,fun a te hst hp np cpos rpos=>jqX hC hgl hm (pac hp jcG hst) hdb (jau hst)⟩⟩
 refine⟨_,sndYs body ok h,?_⟩
 obtain⟨hl,w0,μ,ds,R,hD,a⟩:=hsp
 have hS:jch K w0 μ.length (ds.map some++List.replicate (N.length - ps.length) none) (_L2.start N vs):=by
  unfold _L2.start
  rw[hl]
  exact jch.start hD _
 have hn:ds.length=ps.length:=by rw[jai hD];exact hl
 refine⟨w0,μ,_,R,hS,?_⟩
 unfold fnY at a
 rw[if_pos hn]at a
 cases e:runYs G body (ds.map some++List.replicate (N.length - ps.length) none) μ with
 |bad=>rw[e]at a;exact a
 |exc y μ1=>
  rw[e]at a
  exact Aft.ext (o:=(.exc y μ1:Out D)) (P:=fun d μ'=>jgf K w0 μ.length d μ' Q) (P':=fun _ _=>True) (Ext.refl _ _) a (fun _ _ z=>by cases z) |> fun h=>by
   cases y with
   |str c=>exact h
   |_=>exact h
 |ok fl μ1=>
  rw[e]at a
  cases fl with
  |rt d=>exact fun w1 H1 x1 R1 v dv=>a w1 H1 v x1 R1 dv
  |nx ρ1=>exact fun w1 H1 x1 R1 σ' S'=>a w1 H1 .non x1 R1 (by unfold Den;rfl)
  |bk ρ1=>exact a.elim
  |ct ρ1=>exact a.elim
theorem CalleeX.toC {k np:Nat}{x:Str}{ps:List Str}{F:Fn}(h:CalleeX P w K mg base k x ps (spY K mg np F)):_L2.Callee P w K mg base k x ps (jmL K np F):=by
 obtain⟨f,fd,H,hm,hk,hb⟩:=h.ex
 refine⟨f,fd,⟨fun vs H' Q E q=>H.len vs H' Q E0 ?_,fun A outer s H' args us vs Q E hr he hbi hv hs=>?_⟩,hm,hk,hb⟩
 ·obtain⟨h1,w0,μ,ds,d,μ',R,l,e,q⟩:=q
  exact⟨h1,w0,μ,ds,R,l,by rw[e];exact q⟩
 ·obtain⟨h1,w0,μ,ds,d,μ',R,l,e,q⟩:=hs
  refine codeAny_mono (H.run A outer s H' args us vs Q E0 hr he hbi hv ⟨h1,w0,μ,ds,R,l,by rw[e];exact q⟩) fun r s' hq=>?_
  cases r with
  |ok fl=>cases fl<;>exact hq
  |error e=>
   obtain⟨_,_,_,_,_,_,_,z⟩:=hq
   exact z.elim
theorem CalleeX.toX {k np:Nat}{x:Str}{ps:List Str}{F:Fn}(h:CalleeX P w K mg base k x ps (spY K mg np F)):CalleeX P w K mg base k x ps (spX K mg np F):=by
 obtain⟨f,fd,H,hm,hk,hb⟩:=h.ex
 refine⟨f,fd,H.imp fun vs H' Q E=>?_,hm,hk,hb⟩
 rintro⟨h1,w0,μ,ds,R,l,hh⟩
 refine⟨h1,w0,μ,ds,R,l,?_⟩
 rcases hh with⟨d,μ',e,q⟩|⟨c,μ',C,e,hm,q⟩
 ·rw[e]
  exact q
 ·rw[e]
  exact fun w' H'' x R'=>⟨C,hm,q w' H'' x R'⟩
end
section
variable {α β:Type}
theorem jpQ {x:D}{μ:M}{f:α->M->Out β}:(Out.exc x μ:Out α).bind f=.exc x μ:=rfl
theorem jsJ:noX (Out.bad:Out α)=.bad:=rfl
end
theorem jlG {x:D}{μ:M}{k:S3->M->Out Fl}:jmi (.exc x μ) k=.exc x μ:=rfl
theorem jlP {x:D}{μ:M}:jgp (.exc x μ)=.exc x μ:=rfl
section
variable {G:List FnE} {ρ:S3} {μ:M}
theorem jxX {np nl:Nat}{b:List SY}{ds:List D}:fnY G np nl b ds μ=if ds.length=np then jgp (runYs G b (ds.map some++List.replicate nl none) μ)else .bad:=rfl
theorem jns:runYs G [] ρ μ=.ok (.nx ρ) μ:=rfl
theorem jmp {s:SY}{ss:List SY}:runYs G (s::ss) ρ μ=jmi (jjh G s ρ μ) (runYs G ss):=rfl
theorem jsE {s:S}:jjh G (.st s) ρ μ=noX (_L3.run G s ρ μ):=rfl
theorem jqp {tg:Tg}{e:XE}:jjh G (.asg tg e) ρ μ=(evX G e ρ μ).bind fun d μ1=>jzQ tg ρ d μ1:=rfl
theorem jsO {e:XE}:jjh G (.ex e) ρ μ=(evX G e ρ μ).bind fun _ μ1=>.ok (.nx ρ) μ1:=rfl
theorem jqd {e:XE}:jjh G (.ret e) ρ μ=(evX G e ρ μ).bind fun d μ1=>.ok (.rt d) μ1:=rfl
theorem jry {c:E}{a b:List SY}:jjh G (.ite c a b) ρ μ=(noX ((ev G c).t ρ μ)).bind fun k μ1=>if k then runYs G a ρ μ1 else runYs G b ρ μ1:=rfl
theorem jpF {tg:Tg}{ik:IK}{es:List E}{body:List SY}{fg:List Nat}:jjh G (.for_ tg ik es body fg) ρ μ=(noX (evL G es ρ μ)).bind fun ds μ1=>jyw ik ds tg (runYs G body) fg ρ μ1:=rfl
theorem jmA {cls:Str}{e:E}:jjh G (.raise cls e) ρ μ=(noX ((ev G e).v ρ μ)).bind fun _ μ1=>.exc (.str cls) μ1:=rfl
theorem jrt {f:Nat}{md:Md}{es:List E}:evX G (.call f md es) ρ μ=(noX (evL G es ρ μ)).bind fun ds μ1=>jic G f md ds μ1:=rfl
theorem jss {f:Nat}{md:Md}{es:List E}:evX G (.new f md es) ρ μ=(noX (evL G es ρ μ)).bind fun ds μ1=>jAs G f md ds μ1:=rfl
theorem jud {o:E}{e:XE}:evX G (.app o e) ρ μ=(noX ((ev G o).v ρ μ)).bind fun x μ1=>if jmF .append x μ1 then(evX G e ρ μ1).bind fun d μ2=>jmJ x [d] μ2 else .bad:=rfl
theorem juL {i j:Nat}{a b:E}:_L3.run G (.par i j a b) ρ μ=((ev G a).v ρ μ).bind fun x μ1=>((ev G b).v ρ μ1).bind fun y μ2=>.ok (.nx ((ρ.set i (some x)).set j (some y))) μ2:=rfl
noncomputable def jAI (is:List Nat)(ρ:S3)(d:D)(μ:M):Out Fl:=
 match(jgW μ d).bind fun ds=>jnt is ds ρ with
 |some ρ1=>.ok (.nx ρ1) μ
 |none=>.bad
theorem jub {is:List Nat}{e:E}:_L3.run G (.unp is e) ρ μ=((ev G e).v ρ μ).bind fun d μ1=>jAI is ρ d μ1:=rfl
noncomputable def jAB (o:Option Dat)(f:Str)(ρ:S3)(d x:D)(μ:M):Out Fl:=
 match jz8 o f d x μ with
 |some μ1=>.ok (.nx ρ) μ1
 |none=>.bad
theorem jpP {o e:E}{i:Nat}{f:Str}:_L3.run G (.setF o i f e) ρ μ=((ev G e).v ρ μ).bind fun d μ1=>((ev G o).v ρ μ1).bind fun x μ2=>jAB (jhi G i) f ρ d x μ2:=rfl
theorem jwO {a:E}{i:Nat}{f:Str}:(ev G (.fld a i f)).v ρ μ=((ev G a).v ρ μ).bind fun x μ1=>jAc (jhi G i) f x μ1:=rfl
theorem juN {F:Fn}{ds:List D}{c:Str}{ν:M}(h:F ds μ=.exc (.str c) (μ++ν)):jah .frz F ds μ=.exc (.str c) μ:=by
 unfold jah
 simp only[h,List.take_left,if_true]
 rfl
theorem jc2 {F:Fn}{ds:List D}{c:Str}(h:F ds μ=.exc (.str c) μ):jah .frz F ds μ=.exc (.str c) μ:=juN (ν:=[]) (by rw[j0l];exact h)
theorem jh9 {ok:M->Bool}{tg:Tg}{body:S3->M->Out Fl}{fg:List Nat}{x:D}{xs:List D}{ρ1:S3}{y:D}{μ2:M}(ho:ok μ=true)(ha:jl2 tg x ρ=some ρ1)(hb:body ρ1 μ=.exc y μ2):jds ok tg body fg (x::xs) ρ μ=.exc y μ2:=by
 unfold jds
 rw[if_pos ho,ha]
 dsimp only
 rw[hb]
end
section
variable {K:PySem.W.Frag}
end
section
variable {P:Program} {w:World} {K:PySem.W.Frag} {mg:Str->Option Value} {base:Heap}
end
noncomputable def jys (sc:Scope):List Expr->List Str->Bool
 |[],[]=>true
 |.Name x _::es,y::ys=>x==y&&jb0 sc x&&jys sc es ys
 |_,_=>false
theorem jnl {mg:Str->Option Value}{sc:Scope}:∀{es:List Expr} {cs:List Str} {as:List Addr},jys sc es cs=true->cs.map mg=as.map (fun a=>some (.ref a))->jmR mg sc es as
 |[],[],[],_,_=>trivial
 |[],[],_::_,_,h=>by cases h
 |[],_::_,_,h,_=>by cases h
 |.Name x _::es,[],_,h,_=>by simp[jys]at h
 |.Name x _::es,y::ys,[],_,h=>by cases h
 |.Name x _::es,y::ys,a::as,h,hm=>by
  have h':(x==y&&jb0 sc x&&jys sc es ys)=true:=h
  simp only[j0a,beq_iff_eq]at h'
  obtain⟨⟨rfl,h1⟩,h2⟩:=h'
  rw[j0i,j0i]at hm
  injection hm with m1 m2
  exact⟨m1,h1,jnl h2 m2⟩
theorem excC_of {K:PySem.W.Frag} {C:Addr} (h:PySem.W.excIn K C jw9 "ValueError.__new__" =true):ExcC K C:=by
 unfold PySem.W.excIn at h
 cases lk:K.lookup C with
 |none=>rw[lk]at h;cases h
 |some o=>
  rw[lk]at h
  split at h
  ·rename_i dd cd sl ho
   cases ho
   split at h
   ·rename_i C' bm k0 k1 k2 k3 nw k5 hm hs
    simp only[j0a,beq_iff_eq,j0B]at h
    have e1:C'=C:=h.1.1.1.1.1
    have e2:nw = "ValueError.__new__":=h.1.1.1.1.2
    have e3:cd.hasDel=false:=h.1.1.1.2
    subst e1 e2
    cases cd
    cases sl
    dsimp only at hm hs e3
    subst hm hs e3
    exact⟨bm,_,_,_,_,_,_,_,_,_,_,k0,k1,k2,k3,k5,lk,h.1.1.2,h.1.2,h.2⟩
   ·cases h
  ·cases h
end _L3
namespace _K11
open PySem PySem.Spec PyProof.Rows _L2 _L3
local macro_rules | `(tactic|symm)=>`(tactic|try simp only[jgH,jxX,jns,jmp,jsE,jqp,jsO,jqd,jry,jpF,jmA,jrt,jss,jud,juL,jub,jpP,jwO,jpQ,jxO,jsJ,jlG,jlP,sz0,sz1,sz2,sz3,sz4,sz5,sz6,sz7,sz8,sz9,jAD,jAu,jAJ,Nat.zero_add,j0b,j0x,Nat.reduceAdd,if_true,if_false,j0e,j0i,j0z,List.replicate,List.cons_append,j1y,jfr,jbU,jnW,jwi,jgV,jnk,jsR,jva,jxk,jxg,jyi,jv4,jwK,jwG,jww,jtG,jxJ,jyQ,jwD,jws,jxn,jzA,jy8,jx7,jt5,jze,jzD,jm1,jpY,jzm,jyP,jzE,jy3,jsy,jn0,js2,jqz,jxL,jtN,jqM,juS,jio,jw0,jcn,jqJ,jcm,jsP,jtp,juo,jom,jmh,jrn,jpS,jyl,jxQ,jz,jwu,jxv,jtT,jsK,jdy,jn9,jnx,jiR,Int.reduceLT,Int.reduceLE,Int.reduceNeg,Int.reduceToNat,Int.reducePow,Nat.reduceLT,jwJ,jxz,jwT,jwx,jtz,juX,jtV,jsU,jzs,jxq,jqy,jv9,j0F,j0O,List.set_cons_zero,List.set_cons_succ,jsV,jt3,jzV,jtk,jvR,jsB,jyc,jyg,jvE,jyh,jqi,jsp,jo,j1z,j0M])
local macro_rules|`(tactic|rwa[$r,*])=>`(tactic|(rw[$r,*];symm))
local macro_rules|`(tactic|ac_rfl)=>`(tactic|decide +kernel)
local macro_rules|`(tactic|walk_at"s")=>`(tactic|exact⟨rfl,rfl,rfl,by decide +kernel,rfl,by decide +kernel,by decide +kernel⟩)
noncomputable def top (i:Nat):Stmt:=PySem.Challenge.pw_pointpurse_k11_deed_texts_refused.main.body.getD i (.Pass ⟨0,0,0,0⟩)
noncomputable def jb9:FnE:=⟨"LONGEST_NAME",[],1000000,fun _ _=>.bad,some (.cst (.int 8))⟩
theorem jhp:jb9.dat=some (.cst (.int 8)):=rfl
noncomputable def jis:FnE:=⟨"PARTS",[],1000000,fun _ _=>.bad,some (.dct [("buy",(.tup [(.str "ref"),(.str "day"),(.str "purse"),(.str "lines")])),("spend",(.tup [(.str "ref"),(.str "day"),(.str "purse"),(.str "points"),(.str "first")])),("give",(.tup [(.str "ref"),(.str "day"),(.str "purse"),(.str "other"),(.str "points")])),("change",(.tup [(.str "ref"),(.str "day"),(.str "purse"),(.str "other"),(.str "points")])),("lend",(.tup [(.str "ref"),(.str "day"),(.str "purse"),(.str "other"),(.str "points"),(.str "end")])),("back",(.tup [(.str "ref"),(.str "day"),(.str "of")])),("fix",(.tup [(.str "ref"),(.str "of"),(.str "lines")]))])⟩
noncomputable def jfg:FnE:=⟨"LEASTS",[],1000000,fun _ _=>.bad,some (.dct [("day",(.int 0)),("points",(.int 1)),("end",(.int 0))])⟩
theorem jgm:jfg.dat=some (.dct [("day",(.int 0)),("points",(.int 1)),("end",(.int 0))]):=rfl
noncomputable def jbd:FnE:=⟨"MOST_IN_A_LIST",[],1000000,fun _ _=>.bad,some (.cst (.int 8))⟩
theorem jby:jbd.dat=some (.cst (.int 8)):=rfl
noncomputable def jb8:FnE:=⟨"MOST_FIGURES",[],1000000,fun _ _=>.bad,some (.cst (.int 12))⟩
theorem jhs:jb8.dat=some (.cst (.int 12)):=rfl
noncomputable abbrev jcM:Stmt:=top 1
abbrev jgY:List Str:=["value","least"]
theorem jjG:FnScope jgY ["value","least"] (ja jcM):=by walk_at"s"
def jeE:List S:=
  [.ret (.and_ (.bi (.isT "int") false [(.var 0)]) (.and_ (.not_ (.bi (.isT "bool") false [(.var 0)])) (.cmp .GtE (.var 0) (.var 1))))]
noncomputable abbrev jgT:List FnE:=[]
noncomputable def jeK:Fn:=fnOf jgT 2 0 jeE
noncomputable def jdg:FnE:=⟨"is_number",["value","least"],1,jeK,none⟩
theorem jkL:chkSs jgT 0 jeE ⟨jgY,ja jcM,false⟩ (jap jcM)=true:=by ac_rfl
noncomputable abbrev jbM:Stmt:=top 2
abbrev jfq:List Str:=["value","many"]
theorem jho:FnScope jfq ["value","many"] (ja jbM):=by walk_at"s"
def jdl:List S:=
  [.ret (.and_ (.bi (.isT "tuple") false [(.var 0)]) (.cmp .Eq (.bi .len false [(.var 0)]) (.var 1)))]
noncomputable abbrev je0:List FnE:=[]
noncomputable def jdw:Fn:=fnOf je0 2 0 jdl
noncomputable def jdq:FnE:=⟨"is_tuple_of",["value","many"],1,jdw,none⟩
theorem jh7:chkSs je0 0 jdl ⟨jfq,ja jbM,false⟩ (jap jbM)=true:=by ac_rfl
noncomputable abbrev jcg:Stmt:=top 3
abbrev jf0:List Str:=["values"]
theorem jiH:FnScope jf0 ["values"] (ja jcg):=by walk_at"s"
def jd2:List S:=
  [.ret (.cmp .Eq (.bi .lenSet false [(.var 0)]) (.bi .len false [(.var 0)]))]
noncomputable abbrev jf4:List FnE:=[]
noncomputable def jeh:Fn:=fnOf jf4 1 0 jd2
noncomputable def jcZ:FnE:=⟨"are_unlike",["values"],1,jeh,none⟩
theorem jjE:chkSs jf4 0 jd2 ⟨jf0,ja jcg,false⟩ (jap jcg)=true:=by ac_rfl
noncomputable abbrev jd6:Stmt:=top 18
abbrev jjW:List Str:=["text"]
theorem jmg:FnScope jjW ["text"] (ja jd6):=by walk_at"s"
def jeR:E:=(.comp false 1 (.nm 0) .str [(.var 0)] [] (.chain .LtE .LtE (.cst (.str "a")) (.var 0) (.cst (.str "z"))))
def jhc:List S:=
  [.ite (.or_ (.not_ (.bi (.isT "str") false [(.var 0)])) (.not_ (.chain .LtE .LtE (.cst (.int 1)) (.bi .len false [(.var 0)]) (.gl 0))))
   [.ret (.cst (.bl false))]
   [],
  .ret (.bi .all false [jeR])]
noncomputable abbrev jg9:List FnE:=[jb9]
noncomputable def jgz:Fn:=fnOf jg9 1 0 jhc
noncomputable def jcN:FnE:=⟨"is_name",["text"],1,jgz,none⟩
theorem jnR:chkSs jg9 0 jhc ⟨jjW,ja jd6,false⟩ (jap jd6)=true:=by ac_rfl
noncomputable abbrev jc5:Stmt:=top 23
abbrev jhD:List Str:=["word"]
theorem jkp:FnScope jhD ["word"] (ja jc5):=by walk_at"s"
def jeq:List S:=
  [.ret (.gget 0 (.var 0) (.tup []))]
noncomputable abbrev jhB:List FnE:=[jis]
noncomputable def jc8:Fn:=fnOf jhB 1 0 jeq
noncomputable def jb4:FnE:=⟨"parts_of",["word"],1,jc8,none⟩
theorem jmw:chkSs jhB 0 jeq ⟨jhD,ja jc5,false⟩ (jap jc5)=true:=by ac_rfl
noncomputable abbrev jbc:Stmt:=top 24
abbrev jdI:List Str:=["part"]
theorem jfX:FnScope jdI ["part"] (ja jbc):=by walk_at"s"
def jbe:List S:=
  [.ret (.gin false 0 (.var 0))]
noncomputable abbrev jdJ:List FnE:=[jfg]
noncomputable def jaH:Fn:=fnOf jdJ 1 0 jbe
noncomputable def jaB:FnE:=⟨"is_number_part",["part"],1,jaH,none⟩
theorem jgd:chkSs jdJ 0 jbe ⟨jdI,ja jbc,false⟩ (jap jbc)=true:=by ac_rfl
noncomputable abbrev jdV:Stmt:=top 25
abbrev jji:List Str:=["line"]
theorem jl9:FnScope jji ["line"] (ja jdV):=by walk_at"s"
def jgQ:List S:=
  [.ret (.and_ (.call 0 .frz [(.var 0),(.cst (.int 2))]) (.and_ (.call 1 .frz [(.ix (.var 0) (.cst (.int 0)))]) (.call 2 .frz [(.ix (.var 0) (.cst (.int 1))),(.cst (.int 0))])))]
noncomputable abbrev jjc:List FnE:=[jdq,jcN,jdg]
noncomputable def jgA:Fn:=fnOf jjc 1 0 jgQ
noncomputable def jfi:FnE:=⟨"is_line",["line"],2,jgA,none⟩
theorem jpc:chkSs jjc 1 jgQ ⟨jji,ja jdV,false⟩ (jap jdV)=true:=by ac_rfl
noncomputable abbrev jcO:Stmt:=top 26
abbrev jg1:List Str:=["lines"]
theorem jiY:FnScope jg1 ["lines"] (ja jcO):=by walk_at"s"
def jdE:E:=(.comp false 1 (.nm 0) .seq [(.var 0)] [] (.call 1 .frz [(.var 0)]))
def jdu:List S:=
  [.ite (.or_ (.not_ (.bi (.isT "tuple") false [(.var 0)])) (.not_ (.chain .LtE .LtE (.cst (.int 1)) (.bi .len false [(.var 0)]) (.gl 0))))
   [.ret (.cst (.bl false))]
   [],
  .ret (.bi .all false [jdE])]
noncomputable abbrev jeI:List FnE:=[jbd,jfi]
noncomputable def jcR:Fn:=fnOf jeI 1 0 jdu
noncomputable def jb5:FnE:=⟨"are_lines",["lines"],3,jcR,none⟩
theorem jk:chkSs jeI 2 jdu ⟨jg1,ja jcO,false⟩ (jap jcO)=true:=by ac_rfl
noncomputable abbrev jaQ:Stmt:=top 27
abbrev jcX:List Str:=["names"]
theorem jeF:FnScope jcX ["names"] (ja jaQ):=by walk_at"s"
def jbq:E:=(.comp false 1 (.nm 0) .seq [(.var 0)] [] (.call 1 .frz [(.var 0)]))
def jbf:List S:=
  [.ite (.or_ (.not_ (.bi (.isT "tuple") false [(.var 0)])) (.cmp .Gt (.bi .len false [(.var 0)]) (.gl 0)))
   [.ret (.cst (.bl false))]
   [],
  .ret (.and_ (.bi .all false [jbq]) (.call 2 .frz [(.var 0)]))]
noncomputable abbrev jbS:List FnE:=[jbd,jcN,jcZ]
noncomputable def jaS:Fn:=fnOf jbS 1 0 jbf
noncomputable def jaE:FnE:=⟨"are_unlike_names",["names"],2,jaS,none⟩
theorem jfc:chkSs jbS 1 jbf ⟨jcX,ja jaQ,false⟩ (jap jaQ)=true:=by ac_rfl
noncomputable abbrev jbN:Stmt:=top 28
abbrev jfd:List Str:=["part","value"]
theorem jhn:FnScope jfd ["part","value"] (ja jbN):=by walk_at"s"
def jbn:List S:=
  [.ite (.cmp .Eq (.var 0) (.cst (.str "lines")))
   [.ret (.call 0 .frz [(.var 1)])]
   [],
  .ite (.cmp .Eq (.var 0) (.cst (.str "first")))
   [.ret (.call 1 .frz [(.var 1)])]
   [],
  .ite (.call 2 .frz [(.var 0)])
   [.ret (.call 3 .frz [(.var 1),(.gix 4 (.var 0))])]
   [],
  .ret (.call 5 .frz [(.var 1)])]
noncomputable abbrev je1:List FnE:=[jb5,jaE,jaB,jdg,jfg,jcN]
noncomputable def jaJ:Fn:=fnOf je1 2 0 jbn
noncomputable def jaD:FnE:=⟨"is_value_of",["part","value"],4,jaJ,none⟩
theorem jiC:chkSs je1 3 jbn ⟨jfd,ja jbN,false⟩ (jap jbN)=true:=by ac_rfl
noncomputable abbrev jbl:Stmt:=top 29
abbrev jd4:List Str:=["deed","parts"]
theorem jgb:FnScope jd4 ["deed"] (ja jbl):=by walk_at"s"
def jb2:E:=(.comp false 2 (.tp [0,1]) .zip [(.var 1),(.sl false (.var 0) [(.cst (.int 1))] [])] [] (.call 1 .frz [(.var 0),(.var 1)]))
def jbJ:List S:=
  [.ite (.or_ (.not_ (.bi (.isT "tuple") false [(.var 0)])) (.cmp .Eq (.bi .len false [(.var 0)]) (.cst (.int 0))))
   [.ret (.cst (.bl false))]
   [],
  .asg (.nm 1) (.call 0 .frz [(.ix (.var 0) (.cst (.int 0)))]),
  .ite (.or_ (.cmp .Eq (.bi .len false [(.var 1)]) (.cst (.int 0))) (.cmp .NotEq (.bi .len false [(.var 0)]) (.bin .Add false (.bi .len false [(.var 1)]) (.cst (.int 1)))))
   [.ret (.cst (.bl false))]
   [],
  .ret (.bi .all false [jb2])]
noncomputable abbrev jcQ:List FnE:=[jb4,jaD]
noncomputable def jbi:Fn:=fnOf jcQ 1 1 jbJ
noncomputable def jaZ:FnE:=⟨"has_its_parts",["deed"],5,jbi,none⟩
theorem jgJ:chkSs jcQ 4 jbJ ⟨jd4,ja jbl,false⟩ (jap jbl)=true:=by ac_rfl
noncomputable abbrev jbX:Stmt:=top 30
abbrev jff:List Str:=["deed"]
theorem jhu:FnScope jff ["deed"] (ja jbX):=by walk_at"s"
def jdF:List S:=
  [.ret (.bi .dictZip false [(.call 0 .frz [(.ix (.var 0) (.cst (.int 0)))]),(.sl false (.var 0) [(.cst (.int 1))] [])])]
noncomputable abbrev jeU:List FnE:=[jb4]
noncomputable def jdH:Fn:=fnOf jeU 1 0 jdF
noncomputable def jcx:FnE:=⟨"named_parts",["deed"],2,jdH,none⟩
theorem jiK:chkSs jeU 1 jdF ⟨jff,ja jbX,false⟩ (jap jbX)=true:=by ac_rfl
noncomputable abbrev jbT:Stmt:=top 31
abbrev jfo:List Str:=["parts"]
theorem jhw:FnScope jfo ["parts"] (ja jbT):=by walk_at"s"
def jdt:List S:=
  [.ite (.and_ (.cmp .In (.cst (.str "other")) (.var 0)) (.cmp .Eq (.ix (.var 0) (.cst (.str "other"))) (.ix (.var 0) (.cst (.str "purse")))))
   [.ret (.cst (.bl false))]
   [],
  .ite (.and_ (.cmp .In (.cst (.str "of")) (.var 0)) (.cmp .Eq (.ix (.var 0) (.cst (.str "of"))) (.ix (.var 0) (.cst (.str "ref")))))
   [.ret (.cst (.bl false))]
   [],
  .ret (.or_ (.cmp .NotIn (.cst (.str "end")) (.var 0)) (.cmp .Gt (.ix (.var 0) (.cst (.str "end"))) (.ix (.var 0) (.cst (.str "day")))))]
noncomputable abbrev jbm:List FnE:=[]
noncomputable def jdz:Fn:=fnOf jbm 1 0 jdt
noncomputable def jcA:FnE:=⟨"go_together",["parts"],1,jdz,none⟩
theorem jit:chkSs jbm 0 jdt ⟨jfo,ja jbT,false⟩ (jap jbT)=true:=by ac_rfl
noncomputable abbrev jbw:Stmt:=top 32
abbrev jex:List Str:=["deed"]
theorem jgw:FnScope jex ["deed"] (ja jbw):=by walk_at"s"
def jbu:List SY:=
  [.ite (.not_ (.call 0 .frz [(.var 0)]))
   [.raise "BadDeed" (.cst (.str "this is no deed's word, or its parts are not as they must be"))]
   [],
  .ite (.not_ (.call 1 .frz [(.call 2 .frz [(.var 0)])]))
   [.raise "BadDeed" (.cst (.str "two parts of the deed don't go together"))]
   [],
  .st (.ret (.cst (.bl true)))]
noncomputable abbrev jey:List FnE:=[jaZ,jcA,jcx]
noncomputable def jaW:Fn:=fnY jey 1 0 jbu
theorem jhx:chkYs jey 5 [] ["BadDeed"] jbu ⟨jex,ja jbw,false⟩ (jap jbw)=true:=by ac_rfl
noncomputable def jaV:FnE:=⟨"checked_deed",["deed"],6,jaW,none⟩
noncomputable abbrev jda:Stmt:=top 35
abbrev jh2:List Str:=["text"]
theorem jkm:FnScope jh2 ["text"] (ja jda):=by walk_at"s"
def jej:E:=(.comp false 1 (.nm 0) .seq [(.mt .split (.var 0) [(.cst (.str " "))])] [(.cmp .NotEq (.var 0) (.cst (.str "")))] (.var 0))
def jfZ:List S:=
  [.ret jej]
noncomputable abbrev jfN:List FnE:=[]
noncomputable def jfJ:Fn:=fnOf jfN 1 0 jfZ
noncomputable def jdb:FnE:=⟨"words_in",["text"],1,jfJ,none⟩
theorem jl1:chkSs jfN 0 jfZ ⟨jh2,ja jda,false⟩ (jap jda)=true:=by ac_rfl
noncomputable abbrev jaN:Stmt:=top 36
abbrev jcT:List Str:=["word"]
theorem jeu:FnScope jcT ["word"] (ja jaN):=by walk_at"s"
def jbh:E:=(.comp false 1 (.nm 0) .str [(.var 0)] [] (.chain .LtE .LtE (.cst (.str "0")) (.var 0) (.cst (.str "9"))))
def jbC:List S:=
  [.ite (.not_ (.chain .LtE .LtE (.cst (.int 1)) (.bi .len false [(.var 0)]) (.gl 0)))
   [.ret (.cst (.bl false))]
   [],
  .ite (.not_ (.bi .all false [jbh]))
   [.ret (.cst (.bl false))]
   [],
  .ret (.or_ (.cmp .Eq (.var 0) (.cst (.str "0"))) (.cmp .NotEq (.ix (.var 0) (.cst (.int 0))) (.cst (.str "0"))))]
noncomputable abbrev jbE:List FnE:=[jb8]
noncomputable def jbB:Fn:=fnOf jbE 1 0 jbC
noncomputable def jbF:FnE:=⟨"is_written_number",["word"],1,jbB,none⟩
theorem jeB:chkSs jbE 0 jbC ⟨jcT,ja jaN,false⟩ (jap jaN)=true:=by ac_rfl
noncomputable abbrev jbP:Stmt:=top 37
abbrev jeW:List Str:=["word"]
theorem jhr:FnScope jeW ["word"] (ja jbP):=by walk_at"s"
def jcu:List SY:=
  [.ite (.not_ (.call 0 .frz [(.var 0)]))
   [.raise "BadDeed" (.cst (.str "a word that must be a number is none"))]
   [],
  .st (.ret (.bi .int false [(.var 0)]))]
noncomputable abbrev jfj:List FnE:=[jbF]
noncomputable def jbV:Fn:=fnY jfj 1 0 jcu
theorem jik:chkYs jfj 1 [] ["BadDeed"] jcu ⟨jeW,ja jbP,false⟩ (jap jbP)=true:=by ac_rfl
noncomputable def jaK:FnE:=⟨"read_number",["word"],2,jbV,none⟩
noncomputable abbrev jca:Stmt:=top 38
abbrev jf6:List Str:=["words","kinds","moneys"]
theorem ji:FnScope jf6 ["words"] (ja jca):=by walk_at"s"
def jbt:XE:=(.comp 2 (.tp [0,1]) .zip [(.var 1),(.var 2)] (.tp (.var 0) (.call 0 .frz [(.var 1)])))
def jc1:List SY:=
  [.st (.asg (.nm 1) (.stp false (.var 0) [(.cst (.int 0))] [(.cst (.int 2))])),
  .st (.asg (.nm 2) (.stp false (.var 0) [(.cst (.int 1))] [(.cst (.int 2))])),
  .ite (.cmp .NotEq (.bi .len false [(.var 1)]) (.bi .len false [(.var 2)]))
   [.raise "BadDeed" (.cst (.str "the last line has no money"))]
   [],
  .ret (.tupl jbt)]
noncomputable abbrev jay:List FnE:=[jaK]
noncomputable def jbk:Fn:=fnY jay 1 2 jc1
theorem jjQ:chkYs jay 2 [0] ["BadDeed"] jc1 ⟨jf6,ja jca,false⟩ (jap jca)=true:=by ac_rfl
noncomputable def jbG:FnE:=⟨"read_lines",["words"],3,jbk,none⟩
noncomputable abbrev jcP:Stmt:=top 39
abbrev jgu:List Str:=["part","words"]
theorem jjR:FnScope jgu ["part","words"] (ja jcP):=by walk_at"s"
def jb6:List SY:=
  [.st (.ite (.cmp .Eq (.var 0) (.cst (.str "first")))
   [.ret (.bi .tuple false [(.var 1)])]
   []),
  .ite (.cmp .Eq (.var 0) (.cst (.str "lines")))
   [.ret (.call 0 .frz [(.var 1)])]
   [],
  .ite (.cmp .NotEq (.bi .len false [(.var 1)]) (.cst (.int 1)))
   [.raise "BadDeed" (.cst (.str "the text has too few words"))]
   [],
  .ite (.call 1 .frz [(.var 0)])
   [.ret (.call 2 .frz [(.ix (.var 1) (.cst (.int 0)))])]
   [],
  .st (.ret (.ix (.var 1) (.cst (.int 0))))]
noncomputable abbrev jeQ:List FnE:=[jbG,jaB,jaK]
noncomputable def jaz:Fn:=fnY jeQ 2 0 jb6
theorem jkz:chkYs jeQ 3 [0,2] ["BadDeed"] jb6 ⟨jgu,ja jcP,false⟩ (jap jcP)=true:=by ac_rfl
noncomputable def jaU:FnE:=⟨"read_part",["part","words"],4,jaz,none⟩
noncomputable abbrev jcV:Stmt:=top 40
abbrev jgF:List Str:=["text","words","values","ahead","part","many","deed"]
theorem jjo:FnScope jgF ["text"] (ja jcV):=by walk_at"s"
def ja5:List SY:=
  [.st (.asg (.nm 5) (.ife (.cmp .In (.var 4) (.tup [(.cst (.str "lines")),(.cst (.str "first"))])) (.bi .len false [(.var 3)]) (.cst (.int 1)))),
  .ex (.app (.var 2) (.call 1 .frz [(.var 4),(.sl false (.var 3) [] [(.var 5)])])),
  .st (.asg (.nm 3) (.sl false (.var 3) [(.var 5)] []))]
def jdn:List SY:=
  [.st (.asg (.nm 1) (.call 0 .frz [(.var 0)])),
  .ite (.cmp .Eq (.bi .len false [(.var 1)]) (.cst (.int 0)))
   [.raise "BadDeed" (.cst (.str "the text has no words"))]
   [],
  .st (.asg (.nm 2) (.lst true [(.ix (.var 1) (.cst (.int 0)))])),
  .st (.asg (.nm 3) (.sl false (.var 1) [(.cst (.int 1))] [])),
  .for_ (.nm 4) .seq [(.call 2 .frz [(.ix (.var 1) (.cst (.int 0)))])] ja5 [4,5],
  .ite (.cmp .Gt (.bi .len false [(.var 3)]) (.cst (.int 0)))
   [.raise "BadDeed" (.cst (.str "the text has words that belong to no part"))]
   [],
  .st (.asg (.nm 6) (.bi .tuple false [(.var 2)])),
  .ex (.call 3 .frz [(.var 6)]),
  .st (.ret (.var 6))]
noncomputable abbrev jbg:List FnE:=[jdb,jaU,jb4,jaV]
noncomputable def ja4:Fn:=fnY jbg 1 6 jdn
theorem jkH:chkYs jbg 6 [1,3] ["BadDeed"] jdn ⟨jgF,ja jcV,false⟩ (jap jcV)=true:=by ac_rfl
noncomputable def jcD:FnE:=⟨"read_deed",["text"],7,ja4,none⟩
noncomputable abbrev jeX:Stmt:=top 42
abbrev jlA:List Str:=["_law_script","_law_k"]
theorem jol:FnScope jlA ["_law_script","_law_k"] (ja jeX):=by walk_at"s"
def jiw:List S:=
  [.ite (.cmp .Lt (.var 1) (.bi .len false [(.var 0)]))
   [.ret (.ix (.var 0) (.var 1))]
   [],
  .ret (.cst (.int 0))]
noncomputable abbrev jla:List FnE:=[]
noncomputable def jig:Fn:=fnOf jla 2 0 jiw
noncomputable def jc0:FnE:=⟨"_law_at",["_law_script","_law_k"],1,jig,none⟩
theorem jqR:chkSs jla 0 jiw ⟨jlA,ja jeX,false⟩ (jap jeX)=true:=by ac_rfl
noncomputable abbrev jd5:Stmt:=top 43
abbrev jjY:List Str:=["_law_cell","_law_k","_law_factor","_law_number_here"]
theorem jmd:FnScope jjY ["_law_cell","_law_k"] (ja jd5):=by walk_at"s"
def jhe:List S:=
  [.asg (.nm 2) (.ix (.lst false [(.cst (.int 48271)),(.cst (.int 69621)),(.cst (.int 16807)),(.cst (.int 40692)),(.cst (.int 30269)),(.cst (.int 62089)),(.cst (.int 45991))]) (.bin .Mod false (.var 1) (.cst (.int 7)))),
  .asg (.nm 3) (.bin .Mod false (.bin .Mult false (.bin .Add false (.bin .Add false (.bin .Mod false (.var 0) (.cst (.int 2147483647))) (.bin .Mult false (.bin .Mult false (.cst (.int 97)) (.var 1)) (.var 1))) (.cst (.int 11))) (.var 2)) (.cst (.int 2147483629))),
  .ret (.bin .Mod false (.bin .Mult false (.var 3) (.var 3)) (.cst (.int 1999999973)))]
noncomputable abbrev jjO:List FnE:=[]
noncomputable def jha:Fn:=fnOf jjO 2 2 jhe
noncomputable def jd:FnE:=⟨"_law_mix",["_law_cell","_law_k"],1,jha,none⟩
theorem jpg:chkSs jjO 0 jhe ⟨jjY,ja jd5,false⟩ (jap jd5)=true:=by ac_rfl
noncomputable abbrev jcH:Stmt:=top 44
abbrev jgS:List Str:=["_law_cell","_law_many","_law_letters","_law_number_here","_law_tail","_law_size","_law_at_here","_law_signs"]
theorem jj:FnScope jgS ["_law_cell","_law_many"] (ja jcH):=by walk_at"s"
def jdr:E:=(.comp false 1 (.nm 0) .rng1 [(.cst (.int 8))] [] (.ix (.var 3) (.bin .Mod false (.bin .Add false (.bin .FloorDiv false (.var 4) (.bin .Add false (.var 0) (.cst (.int 1)))) (.bin .Mult false (.var 0) (.var 0))) (.cst (.int 26)))))
def jfp:E:=(.comp false 1 (.nm 0) .rng1 [(.var 1)] [] (.sl false (.var 5) [] [(.bin .Add false (.var 0) (.cst (.int 1)))]))
def je7:E:=(.comp false 1 (.nm 0) .rng1 [(.var 1)] [] (.bin .Add false (.ix (.var 3) (.bin .Mod false (.bin .Add false (.bin .FloorDiv false (.var 4) (.cst (.int 24))) (.var 0)) (.cst (.int 26)))) (.sl false (.var 5) [] [(.var 6)])))
def jfk:E:=(.comp false 1 (.nm 0) .rng1 [(.var 1)] [] (.ix (.var 3) (.bin .Mod false (.bin .Add false (.bin .FloorDiv false (.var 4) (.cst (.int 200))) (.var 0)) (.cst (.int 26)))))
def jft:E:=(.comp false 1 (.nm 0) .seq [(.var 7)] [] (.bin .Add false (.bin .Add false (.sl false (.var 5) [] [(.var 7)]) (.var 0)) (.sl false (.var 5) [(.var 7)] [(.var 6)])))
def jeP:List S:=
  [.asg (.nm 2) (.cst (.str "abcdefghijklmnopqrstuvwxyz")),
  .asg (.nm 3) (.call 0 .frz [(.var 0),(.cst (.int 0))]),
  .asg (.nm 4) (.mt .join (.cst (.str "")) [jdr]),
  .ite (.and_ (.cmp .Eq (.bin .Mod false (.var 3) (.cst (.int 3))) (.cst (.int 0))) (.cmp .Lt (.var 1) (.cst (.int 9))))
   [.ret jfp]
   [],
  .ite (.cmp .Eq (.bin .Mod false (.var 3) (.cst (.int 3))) (.cst (.int 1)))
   [.asg (.nm 5) (.bin .Mod false (.bin .FloorDiv false (.var 3) (.cst (.int 3))) (.cst (.int 8))),
   .ret je7]
   [],
  .asg (.nm 5) (.bin .Mod false (.bin .FloorDiv false (.var 3) (.cst (.int 3))) (.cst (.int 8))),
  .asg (.nm 6) (.bin .Mod false (.bin .FloorDiv false (.var 3) (.cst (.int 24))) (.bin .Add false (.var 5) (.cst (.int 1)))),
  .asg (.nm 7) jfk,
  .ret jft]
noncomputable abbrev jdG:List FnE:=[jd]
noncomputable def jdk:Fn:=fnOf jdG 2 6 jeP
noncomputable def jcS:FnE:=⟨"_law_names",["_law_cell","_law_many"],2,jdk,none⟩
theorem jke:chkSs jdG 1 jeP ⟨jgS,ja jcH,false⟩ (jap jcH)=true:=by ac_rfl
noncomputable abbrev jcf:Stmt:=top 45
abbrev jf5:List Str:=["_law_m","_law_cell"]
theorem jiy:FnScope jf5 ["_law_m","_law_cell"] (ja jcf):=by walk_at"s"
def jd7:List S:=
  [.ret (.ix (.lst false [(.bin .Mod false (.var 0) (.cst (.int 8))),(.bin .Mod false (.var 0) (.cst (.int 3000))),(.bin .Mod false (.var 1) (.bin .Pow false (.cst (.int 10)) (.cst (.int 12)))),(.bin .Sub false (.bin .Pow false (.cst (.int 10)) (.cst (.int 12))) (.cst (.int 1)))]) (.bin .Mod false (.bin .FloorDiv false (.var 0) (.cst (.int 3000))) (.cst (.int 4))))]
noncomputable abbrev jf7:List FnE:=[]
noncomputable def jef:Fn:=fnOf jf7 2 0 jd7
noncomputable def jc3:FnE:=⟨"_law_number",["_law_m","_law_cell"],1,jef,none⟩
theorem jjr:chkSs jf7 0 jd7 ⟨jf5,ja jcf,false⟩ (jap jcf)=true:=by ac_rfl
noncomputable abbrev jba:Stmt:=top 46
abbrev jdN:List Str:=["_law_script","_law_at_here","_law_names_here","_law_m","_law_lines","_law_k","_law_n","_law_money"]
theorem jfT:FnScope jdN ["_law_script","_law_at_here","_law_names_here"] (ja jba):=by walk_at"s"
def jbY:List S:=
  [.asg (.nm 6) (.call 0 .frz [(.call 1 .frz [(.var 0),(.bin .Add false (.var 1) (.var 5))]),(.bin .Add false (.cst (.int 5)) (.var 5))]),
  .asg (.nm 7) (.call 2 .frz [(.bin .FloorDiv false (.var 6) (.cst (.int 9))),(.call 1 .frz [(.var 0),(.bin .Add false (.var 1) (.var 5))])]),
  .ex (.mt .append (.var 4) [(.tup [(.ix (.var 2) (.bin .Mod false (.var 6) (.bi .len false [(.var 2)]))),(.var 7)])])]
def jck:List S:=
  [.asg (.nm 3) (.call 0 .frz [(.call 1 .frz [(.var 0),(.var 1)]),(.cst (.int 4))]),
  .asg (.nm 4) (.lst true []),
  .for_ (.nm 5) .rng1 [(.bin .Add false (.cst (.int 1)) (.bin .Mod false (.var 3) (.cst (.int 8))))] jbY [5,6,7],
  .ret (.bi .tuple false [(.var 4)])]
noncomputable abbrev jcj:List FnE:=[jd,jc0,jc3]
noncomputable def jci:Fn:=fnOf jcj 3 5 jck
noncomputable def jbx:FnE:=⟨"_law_some_lines",["_law_script","_law_at_here","_law_names_here"],2,jci,none⟩
theorem jg:chkSs jcj 1 jck ⟨jdN,ja jba,false⟩ (jap jba)=true:=by ac_rfl
noncomputable abbrev jdc:Stmt:=top 47
abbrev jhY:List Str:=["_law_script","_law_at_here","_law_cell","_law_m","_law_names_here","_law_ref","_law_purse","_law_other","_law_of","_law_day","_law_n","_law_points","_law_word","_law_unlike","_law_first","_law_end"]
theorem jks:FnScope jhY ["_law_script","_law_at_here"] (ja jdc):=by walk_at"s"
def je:E:=(.comp false 1 (.nm 0) .seq [(.var 4)] [(.cmp .NotEq (.var 0) (.var 7))] (.var 0))
def jeb:E:=(.comp false 1 (.nm 0) .seq [(.var 4)] [(.cmp .NotEq (.var 0) (.var 6))] (.var 0))
def jdX:E:=(.comp false 2 (.tp [0,1]) .enm [(.var 4)] [(.cmp .NotIn (.var 1) (.sl false (.var 6) [] [(.var 0)]))] (.var 1))
def jaf:List S:=
  [.asg (.nm 2) (.call 0 .frz [(.var 0),(.var 1)]),
  .asg (.nm 3) (.call 1 .frz [(.var 2),(.cst (.int 1))]),
  .asg (.nm 4) (.bin .Add false (.call 2 .frz [(.var 2),(.cst (.int 4))]) (.sl false (.call 2 .frz [(.call 0 .frz [(.var 0),(.bin .Add false (.var 1) (.cst (.int 1)))]),(.cst (.int 8))]) [(.cst (.int 1))] [])),
  .asg (.nm 5) (.ix (.var 4) (.bin .Mod false (.bin .FloorDiv false (.var 3) (.cst (.int 7))) (.bi .len false [(.var 4)]))),
  .asg (.nm 6) (.ix (.var 4) (.bin .Mod false (.bin .FloorDiv false (.var 3) (.cst (.int 80))) (.bi .len false [(.var 4)]))),
  .asg (.nm 7) (.ix (.var 4) (.bin .Mod false (.bin .FloorDiv false (.var 3) (.cst (.int 900))) (.bi .len false [(.var 4)]))),
  .ite (.cmp .Eq (.var 7) (.var 6))
   [.asg (.nm 7) (.ix je (.cst (.int 0)))]
   [],
  .asg (.nm 8) (.ix jeb (.bin .Mod false (.bin .FloorDiv false (.var 3) (.cst (.int 40))) (.cst (.int 2)))),
  .asg (.nm 9) (.bi .min2 false [(.bin .Sub false (.bin .Pow false (.cst (.int 10)) (.cst (.int 12))) (.cst (.int 2))),(.call 3 .frz [(.call 1 .frz [(.var 2),(.cst (.int 2))]),(.var 2)])]),
  .asg (.nm 10) (.call 1 .frz [(.call 0 .frz [(.var 0),(.bin .Add false (.var 1) (.cst (.int 1)))]),(.cst (.int 3))]),
  .asg (.nm 11) (.bi .max2 false [(.cst (.int 1)),(.call 3 .frz [(.var 10),(.call 0 .frz [(.var 0),(.bin .Add false (.var 1) (.cst (.int 1)))])])]),
  .asg (.nm 12) (.ix (.lst false [(.cst (.str "buy")),(.cst (.str "spend")),(.cst (.str "give")),(.cst (.str "change")),(.cst (.str "lend")),(.cst (.str "back")),(.cst (.str "fix"))]) (.bin .Mod false (.var 3) (.cst (.int 7)))),
  .ite (.cmp .Eq (.var 12) (.cst (.str "buy")))
   [.ret (.tup [(.var 12),(.var 5),(.var 9),(.var 6),(.call 4 .frz [(.var 0),(.bin .Add false (.var 1) (.cst (.int 2))),(.var 4)])])]
   [],
  .ite (.cmp .Eq (.var 12) (.cst (.str "spend")))
   [.asg (.nm 13) jdX,
   .asg (.nm 14) (.sl false (.sl false (.var 13) [(.bin .Mod false (.bin .FloorDiv false (.var 10) (.cst (.int 7))) (.cst (.int 3)))] []) [] [(.bin .Mod false (.bin .FloorDiv false (.var 10) (.cst (.int 21))) (.cst (.int 9)))]),
   .ret (.tup [(.var 12),(.var 5),(.var 9),(.var 6),(.var 11),(.bi .tuple false [(.var 14)])])]
   [],
  .ite (.cmp .Eq (.var 12) (.cst (.str "lend")))
   [.asg (.nm 15) (.bin .Add false (.bin .Add false (.var 9) (.cst (.int 1))) (.ix (.lst false [(.cst (.int 0)),(.bin .Mod false (.var 10) (.cst (.int 50))),(.var 10)]) (.bin .Mod false (.bin .FloorDiv false (.var 10) (.cst (.int 50))) (.cst (.int 3))))),
   .ret (.tup [(.var 12),(.var 5),(.var 9),(.var 6),(.var 7),(.var 11),(.bi .min2 false [(.bin .Sub false (.bin .Pow false (.cst (.int 10)) (.cst (.int 12))) (.cst (.int 1))),(.var 15)])])]
   [],
  .ite (.cmp .Eq (.var 12) (.cst (.str "back")))
   [.ret (.tup [(.var 12),(.var 5),(.var 9),(.var 8)])]
   [],
  .ite (.cmp .Eq (.var 12) (.cst (.str "fix")))
   [.ret (.tup [(.var 12),(.var 5),(.var 8),(.call 4 .frz [(.var 0),(.bin .Add false (.var 1) (.cst (.int 2))),(.var 4)])])]
   [],
  .ret (.tup [(.var 12),(.var 5),(.var 9),(.var 6),(.var 7),(.var 11)])]
noncomputable abbrev jam:List FnE:=[jc0,jd,jcS,jc3,jbx]
noncomputable def jfV:Fn:=fnOf jam 2 14 jaf
noncomputable def jfP:FnE:=⟨"_law_deed",["_law_script","_law_at_here"],3,jfV,none⟩
theorem jmu:chkSs jam 2 jaf ⟨jhY,ja jdc,false⟩ (jap jdc)=true:=by ac_rfl
noncomputable abbrev jcK:Stmt:=top 48
abbrev jgD:List Str:=["_law_deed_here","_law_words_here","_law_part","_law_one"]
theorem jjK:FnScope jgD ["_law_deed_here"] (ja jcK):=by walk_at"s"
def jbH:List S:=
  [.ite (.bi (.isT "tuple") false [(.var 3)])
   [.asg (.nm 1) (.bin .Add true (.var 1) (.lst false [(.ix (.var 3) (.cst (.int 0))),(.bi .str false [(.ix (.var 3) (.cst (.int 1)))])]))]
   [.ex (.mt .append (.var 1) [(.var 3)])]]
def ja8:List S:=
  [.ite (.bi (.isT "tuple") false [(.var 2)])
   [.for_ (.nm 3) .seq [(.var 2)] jbH [3]]
   [.ex (.mt .append (.var 1) [(.bi .str false [(.var 2)])])]]
def jeO:List S:=
  [.asg (.nm 1) (.lst true []),
  .for_ (.nm 2) .seq [(.var 0)] ja8 [2,3],
  .ret (.var 1)]
noncomputable abbrev jb3:List FnE:=[]
noncomputable def jeC:Fn:=fnOf jb3 1 3 jeO
noncomputable def jeL:FnE:=⟨"_law_words",["_law_deed_here"],1,jeC,none⟩
theorem jky:chkSs jb3 0 jeO ⟨jgD,ja jcK,false⟩ (jap jcK)=true:=by ac_rfl
noncomputable abbrev jdZ:Stmt:=top 49
abbrev ji9:List Str:=["_law_words_here","_law_at_here","_law_word"]
theorem jme:FnScope ji9 ["_law_words_here","_law_at_here","_law_word"] (ja jdZ):=by walk_at"s"
def jg4:List S:=
  [.ret (.mt .join (.cst (.str " ")) [(.bin .Add false (.bin .Add false (.sl false (.var 0) [] [(.var 1)]) (.lst false [(.var 2)])) (.sl false (.var 0) [(.bin .Add false (.var 1) (.cst (.int 1)))] []))])]
noncomputable abbrev jj1:List FnE:=[]
noncomputable def jgO:Fn:=fnOf jj1 3 0 jg4
noncomputable def jd8:FnE:=⟨"_law_put",["_law_words_here","_law_at_here","_law_word"],1,jgO,none⟩
theorem joU:chkSs jj1 0 jg4 ⟨ji9,ja jdZ,false⟩ (jap jdZ)=true:=by ac_rfl
noncomputable abbrev jbI:Stmt:=top 50
abbrev je8:List Str:=["_law_deed_here","_law_words_here","_law_many"]
theorem jht:FnScope je8 ["_law_deed_here","_law_words_here","_law_many"] (ja jbI):=by walk_at"s"
def jat:List S:=
  [.ite (.and_ (.var 2) (.cmp .In (.ix (.var 0) (.cst (.int 0))) (.tup [(.cst (.str "buy")),(.cst (.str "fix"))])))
   [.ret (.mt .join (.cst (.str " ")) [(.bin .Add false (.sl false (.var 1) [] [(.bin .Sub false (.cst (.int 4)) (.bi .int false [(.cmp .Eq (.ix (.var 0) (.cst (.int 0))) (.cst (.str "fix")))]))]) (.bin .Mult false (.lst false [(.cst (.str "tea")),(.cst (.str "1"))]) (.cst (.int 9))))])]
   [],
  .ite (.cmp .Eq (.ix (.var 0) (.cst (.int 0))) (.cst (.str "spend")))
   [.ret (.mt .join (.cst (.str " ")) [(.bin .Add false (.sl false (.var 1) [] [(.cst (.int 5))]) (.ix (.lst false [(.bi .list false [(.cst (.str "abcdefghi"))]),(.lst false [(.cst (.str "b")),(.cst (.str "a")),(.cst (.str "b"))])]) (.bi .int false [(.not_ (.var 2))])))])]
   [],
  .ite (.cmp .Eq (.ix (.var 0) (.cst (.int 0))) (.cst (.str "back")))
   [.ret (.call 0 .frz [(.var 1),(.cst (.int 3)),(.ix (.var 1) (.cst (.int 1)))])]
   [],
  .ite (.cmp .Eq (.ix (.var 0) (.cst (.int 0))) (.cst (.str "fix")))
   [.ret (.call 0 .frz [(.var 1),(.cst (.int 2)),(.ix (.var 1) (.cst (.int 1)))])]
   [],
  .ite (.cmp .Eq (.ix (.var 0) (.cst (.int 0))) (.cst (.str "buy")))
   [.ret (.mt .join (.cst (.str " ")) [(.sl false (.var 1) [] [(.cst (.int 4))])])]
   [],
  .ret (.call 0 .frz [(.var 1),(.cst (.int 4)),(.ix (.var 1) (.cst (.int 3)))])]
noncomputable abbrev jbL:List FnE:=[jd8]
noncomputable def jdv:Fn:=fnOf jbL 3 0 jat
noncomputable def jcC:FnE:=⟨"_law_no_deed",["_law_deed_here","_law_words_here","_law_many"],2,jdv,none⟩
theorem jiE:chkSs jbL 1 jat ⟨je8,ja jbI,false⟩ (jap jbI)=true:=by ac_rfl
noncomputable abbrev jbR:Stmt:=top 51
abbrev je3:List Str:=["_law_deed_here","_law_words_here","_law_m","_law_numbers","_law_names_here","_law_way","_law_bad","_law_at_here"]
theorem jhm:FnScope je3 ["_law_deed_here","_law_words_here","_law_m"] (ja jbR):=by walk_at"s"
def jbZ:E:=(.comp false 1 (.nm 0) .rng1 [(.bi .len false [(.var 1)])] [(.cmp .In (.ix (.ix (.var 2) (.var 0)) (.cst (.int 0))) (.cst (.str "0123456789")))] (.var 0))
def jbO:E:=(.comp false 1 (.nm 0) .rng2 [(.cst (.int 1)),(.bi .len false [(.var 1)])] [(.cmp .NotIn (.ix (.ix (.var 2) (.var 0)) (.cst (.int 0))) (.cst (.str "0123456789")))] (.var 0))
def jac:List S:=
  [.asg (.nm 3) jbZ,
  .asg (.nm 4) jbO,
  .asg (.nm 5) (.bin .Mod false (.var 2) (.cst (.int 9))),
  .asg (.nm 2) (.bin .FloorDiv false (.var 2) (.cst (.int 9))),
  .ite (.cmp .Gt (.var 5) (.cst (.int 6)))
   [.ret (.call 0 .frz [(.var 0),(.var 1),(.cmp .Eq (.var 5) (.cst (.int 8)))])]
   [],
  .ite (.cmp .Eq (.var 5) (.cst (.int 0)))
   [.asg (.nm 6) (.ix (.lst false [(.bin .Add false (.cst (.str "0")) (.ix (.var 1) (.ix (.var 3) (.cst (.int 0))))),(.cst (.str "-1")),(.cst (.str "+1")),(.cst (.str "1.0")),(.cst (.str "1000000000000")),(.cst (.str "x")),(.cst (.str "1e3")),(.cst (.str "00")),(.bin .Mult false (.cst (.str "1")) (.cst (.int 40))),(.cst (.str "one"))]) (.bin .Mod false (.var 2) (.cst (.int 10)))),
   .ret (.call 1 .frz [(.var 1),(.ix (.var 3) (.bin .Mod false (.bin .FloorDiv false (.var 2) (.cst (.int 10))) (.bi .len false [(.var 3)]))),(.var 6)])]
   [],
  .ite (.cmp .Eq (.var 5) (.cst (.int 1)))
   [.asg (.nm 6) (.ix (.lst false [(.cst (.str "Ann")),(.cst (.str "abcdefghi")),(.cst (.str "an9")),(.cst (.str "a.b")),(.cst (.str "7")),(.cst (.str "-")),(.cst (.str "annA")),(.cst (.str "0"))]) (.bin .Mod false (.var 2) (.cst (.int 8)))),
   .ret (.call 1 .frz [(.var 1),(.ix (.var 4) (.bin .Mod false (.bin .FloorDiv false (.var 2) (.cst (.int 8))) (.bi .len false [(.var 4)]))),(.var 6)])]
   [],
  .ite (.cmp .Eq (.var 5) (.cst (.int 2)))
   [.ret (.call 1 .frz [(.var 1),(.cst (.int 0)),(.ix (.lst false [(.cst (.str "Buy")),(.cst (.str "sell")),(.cst (.str "buys")),(.cst (.str "x")),(.cst (.str "lends")),(.cst (.str "7")),(.cst (.str "BACK"))]) (.bin .Mod false (.var 2) (.cst (.int 7))))])]
   [],
  .ite (.and_ (.cmp .Eq (.var 5) (.cst (.int 3))) (.or_ (.cmp .NotEq (.ix (.var 0) (.cst (.int 0))) (.cst (.str "spend"))) (.cmp .Eq (.ix (.var 0) (.cst (.int 5))) (.tup []))))
   [.ret (.mt .join (.cst (.str " ")) [(.sl false (.var 1) [] [(.neg (.cst (.int 1)))])])]
   [],
  .ite (.and_ (.cmp .Eq (.var 5) (.cst (.int 4))) (.cmp .NotEq (.ix (.var 0) (.cst (.int 0))) (.cst (.str "spend"))))
   [.ret (.mt .join (.cst (.str " ")) [(.bin .Add false (.var 1) (.lst false [(.ix (.lst false [(.cst (.str "zz")),(.cst (.str "5"))]) (.bin .Mod false (.var 2) (.cst (.int 2))))]))])]
   [],
  .ite (.and_ (.cmp .Eq (.var 5) (.cst (.int 5))) (.cmp .In (.ix (.var 0) (.cst (.int 0))) (.tup [(.cst (.str "spend")),(.cst (.str "give")),(.cst (.str "change")),(.cst (.str "lend"))])))
   [.ite (.and_ (.cmp .Eq (.ix (.var 0) (.cst (.int 0))) (.cst (.str "lend"))) (.cmp .Eq (.bin .Mod false (.var 2) (.cst (.int 2))) (.cst (.int 0))))
    [.ret (.call 1 .frz [(.var 1),(.cst (.int 6)),(.ix (.var 1) (.cst (.int 2)))])]
    [],
   .ret (.call 1 .frz [(.var 1),(.bin .Add false (.cst (.int 4)) (.bi .int false [(.cmp .NotEq (.ix (.var 0) (.cst (.int 0))) (.cst (.str "spend")))])),(.cst (.str "0"))])]
   [],
  .asg (.nm 7) (.bin .Add false (.cst (.int 1)) (.bin .Mod false (.var 2) (.bin .Sub false (.bi .len false [(.var 1)]) (.cst (.int 1))))),
  .ret (.bin .Add false (.bin .Add false (.mt .join (.cst (.str " ")) [(.sl false (.var 1) [] [(.var 7)])]) (.ix (.lst false [(.cst (.str "\n")),(.cst (.str ",")),(.cst (.str ".")),(.cst (.str "/")),(.cst (.str " \n")),(.cst (.str "- "))]) (.bin .Mod false (.bin .FloorDiv false (.var 2) (.cst (.int 50))) (.cst (.int 6))))) (.mt .join (.cst (.str " ")) [(.sl false (.var 1) [(.var 7)] [])]))]
noncomputable abbrev jaa:List FnE:=[jcC,jd8]
noncomputable def jdp:Fn:=fnOf jaa 3 5 jac
noncomputable def jbQ:FnE:=⟨"_law_spoiled",["_law_deed_here","_law_words_here","_law_m"],3,jdp,none⟩
theorem jiG:chkSs jaa 2 jac ⟨je3,ja jbR,false⟩ (jap jbR)=true:=by ac_rfl
noncomputable abbrev jcB:Stmt:=top 52
abbrev jh4:List Str:=["_law_text","_law_flags","error"]
theorem jhj:FnScope jh4 ["_law_text"] (ja jcB):=by walk_at"s"
noncomputable def jcy:Fn:=jyv ja4 "BadDeed"
noncomputable def jdj:FnE:=⟨"_law_refused",["_law_text"],8,jcy,none⟩
noncomputable abbrev jjk:Stmt:=top 53
abbrev jwn:List Str:=["_law_script","_law_at_here","_law_deed_here","_law_words_here","_law_k","_law_m"]
theorem jwg:FnScope jwn ["_law_script"] (ja jjk):=by walk_at"s"
def jkt:List S:=
  [.asg (.nm 5) (.call 3 .frz [(.call 4 .frz [(.var 0),(.bin .Add false (.cst (.int 52)) (.var 4))]),(.bin .Add false (.var 1) (.var 4))]),
  .ite (.or_ (.not_ (.call 5 .frz [(.call 6 .frz [(.var 2),(.var 3),(.var 5)])])) (.not_ (.call 5 .frz [(.mt .join (.cst (.str " ")) [(.sl false (.var 3) [] [(.bin .Mod false (.var 5) (.cst (.int 4)))])])])))
   [.ret (.cst (.bl false))]
   []]
def jkK:List S:=
  [.asg (.nm 2) (.call 0 .frz [(.var 0),(.var 1)]),
  .asg (.nm 3) (.call 1 .frz [(.var 2)]),
  .ite (.cmp .NotEq (.call 2 .frz [(.mt .join (.cst (.str " ")) [(.var 3)])]) (.var 2))
   [.ret (.cst (.bl false))]
   [],
  .for_ (.nm 4) .rng1 [(.cst (.int 4))] jkt [4,5],
  .ite (.cmp .NotEq (.call 2 .frz [(.mt .join (.cst (.str " ")) [(.var 3)])]) (.var 2))
   [.ret (.cst (.bl false))]
   []]
def juW:List S:=
  [.for_ (.nm 1) .seq [(.tup [(.cst (.int 0)),(.cst (.int 13)),(.cst (.int 26)),(.cst (.int 39))])] jkK [1,2,3,4,5],
  .ret (.cst (.bl true))]
noncomputable abbrev jrx:List FnE:=[jfP,jeL,jcD,jd,jc0,jdj,jbQ]
noncomputable def jtc:Fn:=fnOf jrx 1 5 juW
theorem jyX:chkSs jrx 8 juW ⟨jwn,ja jjk,false⟩ (jap jjk)=true:=by ac_rfl
noncomputable def jfU (ns:List Int):D:=.scr (ns.map D.int)
theorem jzf (ns:List Int)(k:Nat)(μ:M):jah .frz jc0.F [jfU ns,.int (k:Int)] μ=.ok (.int (ns.getD k 0)) μ:=by
 refine jak (F:=jig) ?_ jbp
 unfold jig jiw
 symm
 have hl:biD .len false [jfU ns] μ=.ok (.int ns.length) μ:=by
  show Out.ok (D.int ((ns.map D.int).length:Int)) μ=_
  rw[j0f]
 rwa[hl]
 by_cases h:k<ns.length
 ·have e:atI (ns.map D.int) (k:Int)=some (.int (ns.getD k 0)):=jdC (by simp[h])
  have hx:ixD (jfU ns) (.int (k:Int)) μ=.ok (.int (ns.getD k 0)) μ:=by
   show(match atI (ns.map D.int) (k:Int)with|some d=>Out.ok d μ|none=>.bad)=_
   rw[e]
  rw[hx]
  simp only[show((k:Int)<(ns.length:Int))from by omega,decide_true,if_true]
  symm
 ·have:ns.getD k 0=0:=by simp[h]
  rw[this]
  simp only[show ¬ ((k:Int)<(ns.length:Int))from by omega,decide_false,if_false,j0e]
  symm
theorem jgG (c:Int)(k:Int)(h0:0<=k)(h1:k<=1000)(μ:M):∃m:Int,0<=m/\m<1999999973/\jah .frz jd.F [.int c,.int k] μ=.ok (.int m) μ:=by
 obtain⟨d,hd,hx⟩:=jil (ds:=[.int 48271,.int 69621,.int 16807,.int 40692,.int 30269,.int 62089,.int 45991]) (i:=k % 7) (by omega) (by show k % 7<7;omega) (a:=.lst [.int 48271,.int 69621,.int 16807,.int 40692,.int 30269,.int 62089,.int 45991]) (μ:=μ) rfl (by simp)
 obtain⟨n,rfl,hn⟩:∃n:Int,d=.int n/\0<=n/\n<=69621:=by
  simp only[j0d,j0A,or_false]at hd
  rcases hd with rfl|rfl|rfl|rfl|rfl|rfl|rfl<;>exact⟨_,rfl,by decide,by decide⟩
 refine⟨((c % 2147483647+97*k*k+11)*n % 2147483629)*((c % 2147483647+97*k*k+11)*n % 2147483629) % 1999999973,by omega,by omega,jak (F:=jha) ?_ jbp⟩
 unfold jha jhe
 symm
 rwa[hx]
 rwa[jk8 (i:=97*k) (by omega) (by omega)]
 rwa[jk8 (j:=n) (by omega) (by omega)]
 rwa[jiR (by omega) (by omega)]
noncomputable def lt (i:Int):Nat:=97+(i % 26).toNat
theorem juH (i:Int):97<=lt i/\lt i<=122:=by unfold lt;omega
theorem jso (i:Int)(μ:M):ixD (.str "abcdefghijklmnopqrstuvwxyz") (.int (i % 26)) μ=.ok (.str (sTx [lt i])) μ:=jvM (by omega) (by omega) μ
noncomputable abbrev nmS (c n m:Int) (o4 o5 o6 o7:Option D):S3:=[some (.int c),some (.int n),some (.str "abcdefghijklmnopqrstuvwxyz"),some (.int m),o4,o5,o6,o7]
noncomputable def jrE (m:Int):List Nat:=(List.range 8).map fun(k:Nat)=>lt (m / ((k:Int)+1)+(k:Int)*(k:Int))
theorem jpD (m:Int):(jrE m).length=8:=by simp[jrE]
theorem jrl (m:Int):Ltr (jrE m):=fun x hx=>by
 obtain⟨k,_,rfl⟩:=j0s.mp hx
 exact juH _
theorem jmy (c n m:Int)(μ:M):(ev jdG jdr).v (nmS c n m none none none none) μ=.ok (.lst (((jrE m).map fun c=>sTx [c]).map D.str)) μ:=by
 unfold jdr
 have h:=jaX (G:=jdG) (m:=false) (own:=1) (tg:=.nm 0) (ik:=.rng1) (es:=[.cst (.int 8)]) (ifs:=[]) (elt:=(.ix (.var 3) (.bin .Mod false (.bin .Add false (.bin .FloorDiv false (.var 4) (.bin .Add false (.var 0) (.cst (.int 1)))) (.bin .Mult false (.var 0) (.var 0))) (.cst (.int 26))))) (ρ:=nmS c n m none none none none) (μ:=μ) (ds:=[.int 8]) (xs:=List.range 8) (e:=fun(k:Nat)=>D.int (k:Int)) (fun _=>true) (fun(k:Nat)=>D.str (sTx [lt (m / ((k:Int)+1)+(k:Int)*(k:Int))])) (by symm) (jeJ (n:=8) (by decide)) (jad (by decide)) fun k hk=>⟨_,rfl,by symm,fun _=>by
  have hk':k<8:=by simpa using hk
  symm
  rwa[jn9 (by omega) (by omega)]
  rwa[jiR (by omega) (by omega)]
  exact jso _ μ⟩
 rw[h,j0K.mpr fun _ _=>rfl]
 unfold jrE
 rw[j0I,j0I]
 rfl
theorem jgN (t:List Nat)(a:Nat):(t.take a).length<=a:=by rw[j0n];exact Nat.min_le_left _ _
theorem juy (t:List Nat)(x:Nat){a b:Nat}(h:a<=b)(hb:b<=7):(t.take a++x::(t.drop a).take (b - a)).length<=8:=by
 have h1:=jgN t a
 have h2:=jgN (t.drop a) (b - a)
 rw[j0p,j0b]
 omega
theorem jxe {u v:Int}(h0:0<=u)(h1:u<v+1)(h2:v<8):u.toNat<=v.toNat/\v.toNat<=7:=by omega
theorem jls (c:Int)(n:Nat)(hn:n<=8)(μ:M):∃zs:List Str,(zs.length=n/\zs.Nodup/\∀z∈zs,jal z=true)/\jah .frz jcS.F [.int c,.int (n:Int)] μ=.ok (.lst (zs.map D.str)) μ:=by
 obtain⟨m,hm0,hm1,hm⟩:=jgG c 0 (by decide) (by decide) μ
 have tail:=jmy c n m μ
 have htl:=jpD m
 have hlt:=jrl m
 have hjoin:mtD .join (.str "") [.lst (((jrE m).map fun c=>sTx [c]).map D.str)] μ=.ok (.str (sTx (jrE m))) μ:=by
  rw[jjn,<- jq4]
  ·rw[jlF (fun y hy=>by obtain⟨x,_,rfl⟩:=j0s.mp hy;exact jcU _)]
   have e0:(Str.ofString "").length=0:=by ac_rfl
   simp[htl,e0]
 generalize jrE m=t at *
 have hsz:(sTx t).length<=sizeLine:=jad (by rw[jcU];omega)
 have key:∃cs:List (List Nat),(cs.length=n/\cs.Nodup/\∀c∈cs,1<=c.length/\c.length<=8/\Ltr c)/\jdk [.int c,.int (n:Int)] μ=.ok (.lst ((cs.map sTx).map D.str)) μ:=by
  unfold jdk jeP
  symm
  rwa[hm]
  rwa[tail]
  rwa[hjoin]
  by_cases c0:m % 3=0
  ·refine⟨(List.range n).map fun k=>t.take (k+1),⟨by simp,jeN fun i j hi hj e=>?_,fun c hc=>?_⟩,?_⟩
   ·have:=congrArg List.length e
    rw[j0n,j0n]at this
    omega
   ·obtain⟨k,hk,rfl⟩:=j0s.mp hc
    have hk':k<n:=by simpa using hk
    exact⟨by rw[j0n];omega,by rw[j0n];omega,fun x hx=>hlt x (j0R hx)⟩
   ·simp only[c0,decide_true,if_true]
    symm
    simp only[show((n:Int)<9)from by omega,decide_true,if_true]
    unfold jfp
    rw[jaX (ds:=[.int (n:Int)]) (xs:=List.range n) (e:=fun(k:Nat)=>D.int (k:Int)) (fun _=>true) (fun k=>D.str (sTx (t.take (k+1)))) (by symm) (jeJ (by omega)) (jad (by simp;omega)) fun k hk=>⟨_,rfl,by symm,fun _=>by
     have hk':k<n:=by simpa using hk
     symm
     rw[jix hsz,jiq t (by omega) (by omega),show((k:Int)+1).toNat=k+1 from by omega]⟩]
    rwa[j0K.mpr fun _ _=>rfl]
    simp[j0I]
  ·by_cases c1:m % 3=1
   ·refine⟨(List.range n).map fun(k:Nat)=>lt (m / 24+(k:Int))::t.take (m / 3 % 8).toNat,⟨by simp,jeN fun i j hi hj e=>?_,fun c hc=>?_⟩,?_⟩
    ·have e1:=(List.cons.inj e).1
     unfold lt at e1
     omega
    ·obtain⟨k,hk,rfl⟩:=j0s.mp hc
     refine⟨by simp,by rw[j0b,j0n];omega,fun x hx=>?_⟩
     rcases j0d.mp hx with z|z
     ·rw[z];exact juH _
     ·exact hlt x (j0R z)
    ·simp only[decide_eq_false c0,if_false,j0e]
     symm
     simp only[decide_eq_true c1,if_true]
     symm
     unfold je7
     rw[jaX (ds:=[.int (n:Int)]) (xs:=List.range n) (e:=fun(k:Nat)=>D.int (k:Int)) (fun _=>true) (fun(k:Nat)=>D.str (sTx (lt (m / 24+(k:Int))::t.take (m / 3 % 8).toNat))) (by symm) (jeJ (by omega)) (jad (by simp;omega)) fun k hk=>⟨_,rfl,by symm,fun _=>by
      symm
      rwa[jso]
      rwa[jix hsz,jiq t (by omega) (by omega)]
      rw[jem (jad (by rw[jcU,jcU,j0n];simp;omega)),jkQ]
      rfl⟩]
     rwa[j0K.mpr fun _ _=>rfl]
     simp[j0I]
   ·have hv0:0<=m / 3 % 8:=j00 _ (by decide)
    have hv1:m / 3 % 8<8:=j0T _ (by decide)
    have hu0:0<=m / 24 % (m / 3 % 8+1):=j00 _ (Int.ne_of_gt (Int.lt_add_one_of_le hv0))
    have hu1:m / 24 % (m / 3 % 8+1)<m / 3 % 8+1:=j0T _ (Int.lt_add_one_of_le hv0)
    have huv:=jxe hu0 hu1 hv1
    refine⟨(List.range n).map fun(k:Nat)=>t.take (m / 24 % (m / 3 % 8+1)).toNat++lt (m / 200+(k:Int))::(t.drop (m / 24 % (m / 3 % 8+1)).toNat).take ((m / 3 % 8).toNat - (m / 24 % (m / 3 % 8+1)).toNat),⟨by simp,jeN fun i j hi hj e=>?_,fun c hc=>?_⟩,?_⟩
    ·have e1:=(List.cons.inj (List.append_cancel_left e)).1
     unfold lt at e1
     omega
    ·obtain⟨k,hk,rfl⟩:=j0s.mp hc
     refine⟨by rw[j0p,j0b];exact Nat.le_add_left_of_le (Nat.le_add_left 1 _),juy t _ huv.1 huv.2,fun x hx=>?_⟩
     rcases j03.mp hx with y|y
     ·exact hlt x (j0R y)
     ·rcases j0d.mp y with y|y
      ·rw[y];exact juH _
      ·exact hlt x (List.mem_of_mem_drop (j0R y))
    ·simp only[decide_eq_false c0,if_false,j0e]
     symm
     simp only[decide_eq_false c1,if_false,j0e]
     symm
     rwa[jdy (j:=m / 3 % 8+1) (Int.lt_add_one_of_le hv0)]
     unfold jfk
     rw[jaX (ds:=[.int (n:Int)]) (xs:=List.range n) (e:=fun(k:Nat)=>D.int (k:Int)) (fun _=>true) (fun(k:Nat)=>D.str (sTx [lt (m / 200+(k:Int))])) (by symm) (jeJ (by omega)) (jad (by simp;omega)) fun k hk=>⟨_,rfl,by symm,fun _=>by
      symm
      rw[jso]⟩]
     rwa[j0K.mpr fun _ _=>rfl]
     unfold jft
     rw[jaX (ds:=[.lst ((List.range n).map fun(k:Nat)=>D.str (sTx [lt (m / 200+(k:Int))]))]) (xs:=List.range n) (e:=fun(k:Nat)=>D.str (sTx [lt (m / 200+(k:Int))])) (fun _=>true) (fun(k:Nat)=>D.str (sTx (t.take (m / 24 % (m / 3 % 8+1)).toNat++lt (m / 200+(k:Int))::(t.drop (m / 24 % (m / 3 % 8+1)).toNat).take ((m / 3 % 8).toNat - (m / 24 % (m / 3 % 8+1)).toNat)))) (by symm) rfl (jad (by simp;omega)) fun k hk=>⟨_,rfl,by symm,fun _=>by
      symm
      rwa[jix hsz,jiq t hu0 (by omega)]
      rwa[jem (jad (by rw[jcU,jcU];have:=jgN t (m / 24 % (m / 3 % 8+1)).toNat;have:=huv.1;have:=huv.2;simp only[List.length_singleton];omega)),jkQ]
      rwa[jix hsz,jmP t hu0 (Int.lt_add_one_iff.mp hu1) (by omega)]
      rw[jem (jad (by
       rw[jcU,jcU,j0p]
       have:=jgN t (m / 24 % (m / 3 % 8+1)).toNat
       have:=jgN (t.drop (m / 24 % (m / 3 % 8+1)).toNat) ((m / 3 % 8).toNat - (m / 24 % (m / 3 % 8+1)).toNat)
       have:=huv.1
       have:=huv.2
       simp only[List.length_singleton]
       omega)),jkQ]
      simp⟩]
     rwa[j0K.mpr fun _ _=>rfl]
     simp[j0I]
 obtain⟨cs,⟨h1,h2,h3⟩,h4⟩:=key
 refine⟨cs.map sTx,⟨by simp[h1],?_,fun z hz=>?_⟩,jak (F:=jdk) h4 (jpk (jcd (fun _=>jaw) _))⟩
 ·rw[List.Nodup,List.pairwise_map]
  exact h2.imp fun {a b} hab e=>hab (jnw e)
 ·obtain⟨x,hx,rfl⟩:=j0s.mp hz
  obtain⟨a1,a2,a3⟩:=h3 x hx
  exact jqT a1 a2 a3
noncomputable abbrev jab (zs:List Str):D:=.lst (zs.map D.str)
theorem jvx {i j:Int}{μ:M}:biD .max2 false [.int i,.int j] μ=.ok (.int (if j > i then j else i)) μ:=nr rfl
theorem jsi {i j:Int}{μ:M}:biD .min2 false [.int i,.int j] μ=.ok (.int (if j<i then j else i)) μ:=nr rfl
theorem jaY {zs:List Str}{μ:M}:biD .len false [jab zs] μ=.ok (.int zs.length) μ:=nr (by
 show Out.ok (D.int ((zs.map D.str).length:Int)) μ=_
 rw[j0f])
theorem jor (ns:List Int)(i:Int)(h:0<=i):∃c:Int,∀μ:M,jah .frz jc0.F [jfU ns,.int i] μ=.ok (.int c) μ:=by
 obtain⟨n,rfl⟩:∃n:Nat,i=n:=⟨i.toNat,by omega⟩
 exact⟨_,jzf ns n⟩
theorem joR {xs:List Int}{i:Int}(h0:0<=i)(h1:i<xs.length)(μ:M):∃n∈xs,ixD (.lst (xs.map D.int)) (.int i) μ=.ok (.int n) μ:=by
 obtain⟨d,hd,e⟩:=jil (a:=.lst (xs.map D.int)) (ds:=xs.map D.int) (i:=i) h0 (by simpa using h1) (μ:=μ) rfl (by simp)
 obtain⟨n,hn,rfl⟩:=j0s.mp hd
 exact⟨n,hn,e⟩
theorem jcI {xs:List Str}{i:Int}(h0:0<=i)(h1:i<xs.length)(μ:M):∃n∈xs,ixD (jab xs) (.int i) μ=.ok (.str n) μ:=by
 obtain⟨d,hd,e⟩:=jil (a:=jab xs) (ds:=xs.map D.str) (i:=i) h0 (by simpa using h1) (μ:=μ) rfl (by simp)
 obtain⟨n,hn,rfl⟩:=j0s.mp hd
 exact⟨n,hn,e⟩
theorem jgZ (m c:Int)(h:0<=m)(μ:M):∃v:Int,(0<=v/\v<=999999999999)/\jah .frz jc3.F [.int m,.int c] μ=.ok (.int v) μ:=by
 obtain⟨b,hb,eb⟩:=joR (xs:=[m % 8,m % 3000,c % 1000000000000,1000000000000 - 1]) (i:=m / 3000 % 4) (by omega) (by show _<(4:Int);omega) μ
 refine⟨b,?_,jak (F:=jef) ?_ jbp⟩
 ·simp only[j0d,j0A,or_false]at hb
  rcases hb with rfl|rfl|rfl|rfl<;>omega
 ·simp only[j0i,j0z]at eb
  unfold jef jd7
  symm
  rwa[eb]
noncomputable abbrev Ln:=Str×Int
noncomputable def lnD (p:Ln):D:=.tup [.str p.1,.int p.2]
noncomputable def jpm (ls:List Ln):D:=.tup (ls.map lnD)
def jvd (p:Ln):Prop:=jal p.1=true/\0<=p.2/\p.2<=999999999999
theorem jyk {h:Nat->Option D}(p:Ln):jcs h (lnD p)=some (lnD p):=jcp (jao jaw (jao jbp jec))
theorem jfM {h:Nat->Option D}(ls:List Ln):jcs h (jpm ls)=some (jpm ls):=jcp (jcd jyk ls)
theorem jhC (ns:List Int)(a:Nat)(zs:List Str)(hz:0<zs.length)(hn:∀z∈zs,jal z=true)(o3:Option D)(μ:M)(ok:M->Bool)(hok:∀ν,ok ν=true):∀(n k:Nat) (ls:List Ln) (o5 o6 o7:Option D),k+n<=100->ls.length<=100 - n->(∀p∈ls,jvd p) ->
  ∃ls':List Ln,(ls'.length=ls.length+n/\∀p∈ls',jvd p)/\jds ok (.nm 5) (runs jcj jbY) [5,6,7] ((List.range' k n).map fun(j:Nat)=>D.int (j:Int)) [some (jfU ns),some (.int (a:Int)),some (jab zs),o3,some (.cel μ.length),o5,o6,o7] (μ++[some (.lst (ls.map lnD))])
   =.ok (.nx [some (jfU ns),some (.int (a:Int)),some (jab zs),o3,some (.cel μ.length),none,none,none]) (μ++[some (.lst (ls'.map lnD))])
 |0,k,ls,o5,o6,o7,_,_,h=>⟨ls,⟨rfl,h⟩,by
  rw[List.range'_zero,j0z,jcw (hok _)]
  rfl⟩
 |n+1,k,ls,o5,o6,o7,hk,hl,h=>by
  obtain⟨c,hc⟩:=jor ns ((a:Int)+(k:Int)) (by omega)
  obtain⟨m,m0,m1,hm⟩:=jgG c (5+(k:Int)) (by omega) (by omega) (μ++[some (.lst (ls.map lnD))])
  obtain⟨v,hv,ev'⟩:=jgZ (m / 9) c (by omega) (μ++[some (.lst (ls.map lnD))])
  have hlen:(0:Int)<(zs.length:Int):=by omega
  obtain⟨z,hzm,ez⟩:=jcI (xs:=zs) (i:=m % (zs.length:Int)) (j00 _ (by omega)) (j0T _ hlen) (μ++[some (.lst (ls.map lnD))])
  obtain⟨ls',⟨i1,i2⟩,ih⟩:=jhC ns a zs hz hn o3 μ ok hok n (k+1) (ls++[(z,v)]) none none none (by omega) (by simp;omega) (fun p hp=>by
   rcases j03.mp hp with q|q
   ·exact h p q
   ·have:p=(z,v):=by simpa using q
    subst this
    exact⟨hn z hzm,hv.1,hv.2⟩)
  refine⟨ls',⟨by rw[i1,j0p,List.length_singleton];omega,i2⟩,?_⟩
  rw[List.range'_succ,j0i]
  rw[jce (ρ1:=[some (jfU ns),some (.int (a:Int)),some (jab zs),o3,some (.cel μ.length),some (.int (k:Int)),o6,o7]) (ρ2:=[some (jfU ns),some (.int (a:Int)),some (jab zs),o3,some (.cel μ.length),some (.int (k:Int)),some (.int m),some (.int v)]) (μ2:=μ++[some (.lst ((ls++[(z,v)]).map lnD))]) (hok _) rfl ?_]
  ·exact ih
  ·unfold jbY
   symm
   rwa[hc]
   rwa[hm]
   rwa[hc]
   rwa[ev']
   rwa[jaY]
   rwa[jdy hlen]
   rwa[ez]
   rwa[jek (jc4 (by simp;omega))]
   rw[j0Q]
   rfl
theorem jrd (ns:List Int)(a:Nat)(zs:List Str)(hz:0<zs.length)(hn:∀z∈zs,jal z=true)(μ:M):∃ls:List Ln,(1<=ls.length/\ls.length<=8/\∀p∈ls,jvd p)/\jah .frz jbx.F [jfU ns,.int (a:Int),jab zs] μ=.ok (jpm ls) μ:=by
 obtain⟨c,hc⟩:=jor ns (a:Int) (by omega)
 obtain⟨m,m0,m1,hm⟩:=jgG c 4 (by decide) (by decide) μ
 have hr:∀ν:M,itD .rng1 [.int (1+m % 8)] ν=some ((List.range' 0 (1+m % 8).toNat).map fun(j:Nat)=>D.int (j:Int)):=fun ν=>by
  rw[show(1+m % 8)=(((1+m % 8).toNat:Nat):Int)from by omega,jeJ (by omega),List.range_eq_range',j1s]
 obtain⟨ls,⟨h1,h2⟩,h3⟩:=jhC ns a zs hz hn (some (.int m)) μ (jcv .rng1 [.int (1+m % 8)] ((List.range' 0 (1+m % 8).toNat).map fun(j:Nat)=>D.int (j:Int))) (fun ν=>jb7 (hr ν)) (1+m % 8).toNat 0 [] none none none (by omega) (by simp) (fun p hp=>by cases hp)
 refine⟨ls,⟨by rw[h1];simp;omega,by rw[h1];simp;omega,h2⟩,je2 (F:=jci) (ν:=[some (.lst (ls.map lnD))]) (d:=jpm ls) ?_ (jfM ls)⟩
 unfold jci jck
 symm
 rwa[hc]
 rwa[hm]
 rw[jeD (hr _)]
 have h3':=h3
 rw[j0z]at h3'
 rwa[h3']
 have ht:biD .tuple false [.cel μ.length] (μ++[some (.lst (ls.map lnD))])=.ok (jpm ls) (μ++[some (.lst (ls.map lnD))]):=by
  simp only[biD,_L3.tupleD,jfb,jgW,jfy]
  rfl
 rwa[ht]
inductive Deed where
 |buy (r:Str) (d:Int) (p:Str) (ls:List Ln)
 |spend (r:Str) (d:Int) (p:Str) (n:Int) (fs:List Str)
 |two (w r:Str) (d:Int) (p o:Str) (n:Int)
 |lend (r:Str) (d:Int) (p o:Str) (n e:Int)
 |back (r:Str) (d:Int) (f:Str)
 |fix (r f:Str) (ls:List Ln)
noncomputable def Deed.dat:Deed->D
 |.buy r d p ls=>.tup [.str "buy",.str r,.int d,.str p,jpm ls]
 |.spend r d p n fs=>.tup [.str "spend",.str r,.int d,.str p,.int n,.tup (fs.map D.str)]
 |.two w r d p o n=>.tup [.str w,.str r,.int d,.str p,.str o,.int n]
 |.lend r d p o n e=>.tup [.str "lend",.str r,.int d,.str p,.str o,.int n,.int e]
 |.back r d f=>.tup [.str "back",.str r,.int d,.str f]
 |.fix r f ls=>.tup [.str "fix",.str r,.str f,jpm ls]
def jj8 (ls:List Ln):Prop:=1<=ls.length/\ls.length<=8/\∀p∈ls,jvd p
def Nm (z:Str):Prop:=jal z=true
def Num (l n:Int):Prop:=l<=n/\n<=999999999999
noncomputable def Deed.Ok:Deed->Prop
 |.buy r d p ls=>Nm r/\Num 0 d/\Nm p/\jj8 ls
 |.spend r d p n fs=>Nm r/\Num 0 d/\Nm p/\Num 1 n/\fs.length<=8/\fs.Nodup/\∀z∈fs,Nm z
 |.two w r d p o n=>(w = "give"∨w = "change")/\Nm r/\Num 0 d/\Nm p/\Nm o/\Num 1 n/\o≠p
 |.lend r d p o n e=>Nm r/\Num 0 d/\Nm p/\Nm o/\Num 1 n/\Num 0 e/\o≠p/\d<e
 |.back r d f=>Nm r/\Num 0 d/\Nm f/\f≠r
 |.fix r f ls=>Nm r/\Nm f/\jj8 ls/\f≠r
theorem jlX {h:Nat->Option D}(x:Deed):jcs h x.dat=some x.dat:=by
 cases x with
 |buy r d p ls=>exact jcp (jao jaw (jao jaw (jao jbp (jao jaw (jao (jfM ls) jec)))))
 |spend r d p n fs=>exact jcp (jao jaw (jao jaw (jao jbp (jao jaw (jao jbp (jao (jcp (jcd (fun _=>jaw) fs)) jec))))))
 |two w r d p o n=>exact jcp (jao jaw (jao jaw (jao jbp (jao jaw (jao jaw (jao jbp jec))))))
 |lend r d p o n e=>exact jcp (jao jaw (jao jaw (jao jbp (jao jaw (jao jaw (jao jbp (jao jbp jec)))))))
 |back r d f=>exact jcp (jao jaw (jao jaw (jao jbp (jao jaw jec))))
 |fix r f ls=>exact jcp (jao jaw (jao jaw (jao jaw (jao (jfM ls) jec))))
theorem jkS {ds:List D}(k:Nat):_L3.cutD ds (some (k:Int)) none=ds.drop k:=by
 unfold _L3.cutD
 rw[HT.sIx_none,HT.sIx_nat]
 rcases Nat.le_total k ds.length with h|h
 ·rw[Nat.min_eq_left h]
  exact j1k (by simp)
 ·rw[Nat.min_eq_right h,List.drop_of_length_le (j0q _),List.drop_of_length_le h,List.take_nil]
theorem jvX {ds:List D}(k:Nat):_L3.cutD ds none (some (k:Int))=ds.take k:=by
 unfold _L3.cutD
 rw[HT.sIx_none,HT.sIx_nat]
 simp only[Nat.sub_zero,j1f]
 rcases Nat.le_total k ds.length with h|h
 ·rw[Nat.min_eq_left h]
 ·rw[Nat.min_eq_right h,j1k (j0q _),j1k h]
theorem jfC {zs:List Str}(k:Nat)(μ:M):slD false (jab zs) (some (k:Int)) none μ=.ok (jab (zs.drop k)) μ:=by
 show mkL false (_L3.cutD (zs.map D.str) (some (k:Int)) none) μ=_
 rw[jkS,<- List.map_drop]
 rfl
theorem jga {zs:List Str}(k:Nat)(μ:M):slD false (jab zs) none (some (k:Int)) μ=.ok (jab (zs.take k)) μ:=by
 show mkL false (_L3.cutD (zs.map D.str) none (some (k:Int))) μ=_
 rw[jvX,<- List.map_take]
 rfl
theorem jhh (x:Str):∀zs:List Str,jvh (.str x) (zs.map D.str)=some (decide (x∈zs))
 |[]=>rfl
 |z::zs=>by
  rw[j0i]
  unfold jvh
  rw[jhh x zs]
  show some (eqV (.str z) (.str x)||decide (x∈zs))=_
  congr 1
  have:eqV (.str z) (.str x)=decide (x=z):=by
   show(z==x)=_
   by_cases e:x=z
   ·subst e;simp
   ·simp[e,Ne.symm e]
  rw[this]
  simp
theorem jnb (x:Str)(zs:List Str)(μ:M):jdM .NotIn (.str x) (jab zs) μ=.ok (.bl (!decide (x∈zs))) μ:=nr (by
 unfold jdM jpl
 have:inD μ (.str x) (jab zs)=some (decide (x∈zs)):=by
  unfold inD
  have e:jfb μ (jab zs)=some (zs.map D.str):=rfl
  simp only[e,jhv]
  exact jhh x zs
 simp only[this,Option.map_some])
theorem jk7:∀(zs:List Str) (k:Nat),jj7 k (zs.map D.str)=(zs.zipIdx k).map fun x=>D.tup [.int (x.2:Int),.str x.1]
 |[],k=>rfl
 |z::zs,k=>by
  rw[j0i,List.zipIdx_cons,j0i]
  unfold jj7
  rw[jk7 zs (k+1)]
theorem jjU {α:Type}:∀(zs:List α) (k:Nat),(zs.zipIdx k).Pairwise (fun a b=>a.2<b.2)
 |[],k=>by simp
 |z::zs,k=>by
  rw[List.zipIdx_cons,List.pairwise_cons]
  refine⟨fun b hb=>?_,jjU zs (k+1)⟩
  have:=List.le_snd_of_mem_zipIdx hb
  show k<b.2
  omega
noncomputable def jcL (zs:List Str):List Str:=((zs.zipIdx 0).filter fun x=>!decide (x.1∈zs.take x.2)).map (·.1)
theorem jjp (zs:List Str):(jcL zs).Nodup:=by
 unfold jcL
 rw[List.Nodup,List.pairwise_map]
 refine List.Pairwise.imp_of_mem (R:=fun a b=>a.2<b.2) (fun {a b} ha hb hab e=>?_) ((jjU zs 0).filter _)
 have ha1:=(j0Y.mp ha).1
 have hb2:=(j0Y.mp hb).2
 have hg:zs[a.2]?=some a.1:=by
  have:(a.1,a.2)∈zs.zipIdx:=ha1
  (rw[List.mk_mem_zipIdx_iff_getElem?]at this;assumption)
 have:b.1∈zs.take b.2:=by
  rw[<- e]
  refine j0C (i:=a.2) ?_
  rw[List.getElem?_take_of_lt hab]
  exact hg
 simp[this]at hb2
theorem jml (zs:List Str):∀z∈jcL zs,z∈zs:=fun z hz=>by
 obtain⟨x,hx,rfl⟩:=j0s.mp hz
 exact List.fst_mem_of_mem_zipIdx (j0Y.mp hx).1
noncomputable abbrev dS (ns:List Int) (a:Nat) (c m:Int) (zs:List Str) (o5 o6 o7 o8 o9 o10 o11 o12 o13 o14 o15:Option D):S3:=[some (jfU ns),some (.int (a:Int)),some (.int c),some (.int m),some (jab zs),o5,o6,o7,o8,o9,o10,o11,o12,o13,o14,o15]
theorem jy9 (ns:List Int)(a:Nat)(c m:Int)(zs:List Str)(hz:zs.length<=100)(z:Str)(o5 o7 o8 o9 o10 o11 o12 o13 o14 o15:Option D)(μ:M):(ev jam je).v (dS ns a c m zs o5 (some (.str z)) o7 o8 o9 o10 o11 o12 o13 o14 o15) μ=.ok (jab (zs.filter fun y=>!decide (y=z))) μ:=by
 unfold je
 rw[jaX (ds:=[jab zs]) (xs:=zs) (e:=D.str) (fun y=>!decide (y=z)) D.str (by symm) rfl (jad (by omega)) fun y hy=>⟨_,rfl,by symm,fun _=>by symm⟩]
 rfl
theorem jzS (ns:List Int)(a:Nat)(c m:Int)(zs:List Str)(hz:zs.length<=100)(z:Str)(o6 o7 o8 o9 o10 o11 o12 o13 o14 o15:Option D)(μ:M):(ev jam jeb).v (dS ns a c m zs (some (.str z)) o6 o7 o8 o9 o10 o11 o12 o13 o14 o15) μ=.ok (jab (zs.filter fun y=>!decide (y=z))) μ:=by
 unfold jeb
 rw[jaX (ds:=[jab zs]) (xs:=zs) (e:=D.str) (fun y=>!decide (y=z)) D.str (by symm) rfl (jad (by omega)) fun y hy=>⟨_,rfl,by symm,fun _=>by symm⟩]
 rfl
theorem jzI (ns:List Int)(a:Nat)(c m:Int)(zs:List Str)(hz:zs.length<=100)(o5 o6 o7 o8 o9 o10 o11 o12 o13 o14 o15:Option D)(μ:M):(ev jam jdX).v (dS ns a c m zs o5 o6 o7 o8 o9 o10 o11 o12 o13 o14 o15) μ=.ok (jab (jcL zs)) μ:=by
 unfold jdX
 have hi:itD .enm [jab zs] μ=some ((zs.zipIdx 0).map fun x=>D.tup [.int (x.2:Int),.str x.1]):=by
  show some (jj7 0 (zs.map D.str))=_
  rw[jk7]
 rw[jaX (ds:=[jab zs]) (xs:=zs.zipIdx 0) (e:=fun x=>D.tup [.int (x.2:Int),.str x.1]) (fun x=>!decide (x.1∈zs.take x.2)) (fun x=>D.str x.1) (by symm) hi (by rw[List.length_zipIdx];exact jad (by omega)) fun x hx=>⟨_,rfl,by
  symm
  rwa[jga]
  rw[jnb]
  symm,fun _=>by symm⟩]
 unfold jcL
 rw[jab,j0I]
 rfl
theorem jAN {zs ws:List Str}(h:zs.Nodup)(hl:zs.length=4)(z:Str):3<=((zs++ws).filter fun y=>!decide (y=z)).length:=by
 have:=joB z h
 rw[List.filter_append,j0p]
 omega
theorem jmv {zs:List Str}{μ:M}:biD .tuple false [jab zs] μ=.ok (.tup (zs.map D.str)) μ:=nr rfl
theorem jx9 (ns:List Int)(a:Nat)(ha:a<=1000)(μ:M):∃(c c1 m:Int) (zs:List Str) (r p o:Str),(0<=m/\m<1999999973/\zs.length=11/\(∀z∈zs,Nm z)/\(∀z,3<=(zs.filter fun y=>!decide (y=z)).length)/\r∈zs/\p∈zs/\o∈zs)/\(∀ν:M,jah .frz jc0.F [jfU ns,.int ((a:Int)+1)] ν=.ok (.int c1) ν) /\
  runs jam (jaf.take 6) [some (jfU ns),some (.int (a:Int)),none,none,none,none,none,none,none,none,none,none,none,none,none,none] μ=.ok (.nx (dS ns a c m zs (some (.str r)) (some (.str p)) (some (.str o)) none none none none none none none none)) μ:=by
 obtain⟨c,hc⟩:=jor ns (a:Int) (by omega)
 obtain⟨c1,hc1⟩:=jor ns ((a:Int)+1) (by omega)
 obtain⟨m,m0,m1,hm⟩:=jgG c 1 (by decide) (by decide) μ
 obtain⟨z4,⟨l4,n4,k4⟩,e4⟩:=jls c 4 (by decide) μ
 obtain⟨z8,⟨l8,n8,k8⟩,e8⟩:=jls c1 8 (by decide) μ
 have e4':jah .frz jcS.F [.int c,.int 4] μ=.ok (jab z4) μ:=e4
 have e8':jah .frz jcS.F [.int c1,.int 8] μ=.ok (jab z8) μ:=e8
 have hadd:jg0 .Add false (jab z4) (jab (z8.drop 1)) μ=.ok (jab (z4++z8.drop 1)) μ:=by
  rw[jhd (by rw[j0f,j0f,j1o];exact jad (by omega)),<- j0Q]
 have hlen:(z4++z8.drop 1).length=11:=by rw[j0p,j1o];omega
 have hall:∀z∈z4++z8.drop 1,Nm z:=fun z hz=>by
  rcases j03.mp hz with q|q
  ·exact k4 z q
  ·exact k8 z (List.mem_of_mem_drop q)
 have h3:=fun z=>jAN (ws:=z8.drop 1) n4 l4 z
 generalize z4++z8.drop 1=zs at hadd hlen hall h3
 obtain⟨r,hr,er⟩:=jcI (xs:=zs) (i:=m / 7 % (zs.length:Int)) (by rw[hlen];omega) (by rw[hlen];omega) μ
 obtain⟨p,hp,ep⟩:=jcI (xs:=zs) (i:=m / 80 % (zs.length:Int)) (by rw[hlen];omega) (by rw[hlen];omega) μ
 obtain⟨o,ho,eo⟩:=jcI (xs:=zs) (i:=m / 900 % (zs.length:Int)) (by rw[hlen];omega) (by rw[hlen];omega) μ
 have hpos:(0:Int)<(zs.length:Int):=by omega
 refine⟨c,c1,m,zs,r,p,o,⟨m0,m1,hlen,hall,h3,hr,hp,ho⟩,hc1,?_⟩
 have hs:slD false (jab z8) (some 1) none μ=.ok (jab (z8.drop 1)) μ:=jfC 1 μ
 show runs jam [_,_,_,_,_,_] _ _=_
 symm
 rwa[hc]
 rwa[hm]
 rwa[e4']
 rwa[hc1]
 rwa[e8']
 rwa[hs]
 rwa[hadd]
 rwa[jaY]
 rwa[jdy hpos]
 rwa[er]
 rwa[jaY]
 rwa[jdy hpos]
 rwa[ep]
 rwa[jaY]
 rwa[jdy hpos]
 rwa[eo]
theorem jwa (ns:List Int)(a:Nat)(c m:Int)(zs:List Str)(hz:zs.length<=100)(h3:∀z,3<=(zs.filter fun y=>!decide (y=z)).length)(r p o:Str)(ho:o∈zs)(μ:M):∃o':Str,(o'∈zs/\o'≠p) /\
  runs jam ((jaf.drop 6).take 1) (dS ns a c m zs (some (.str r)) (some (.str p)) (some (.str o)) none none none none none none none none) μ=.ok (.nx (dS ns a c m zs (some (.str r)) (some (.str p)) (some (.str o')) none none none none none none none none)) μ:=by
 by_cases e:o=p
 ·obtain⟨o',h1,h2⟩:=jcI (xs:=zs.filter fun y=>!decide (y=p)) (i:=0) (by decide) (by have:=h3 p;omega) μ
  have hm:=j0Y.mp h1
  refine⟨o',⟨hm.1,by simpa using hm.2⟩,?_⟩
  have hq:=jy9 ns a c m zs hz p (some (.str r)) (some (.str o)) none none none none none none none none μ
  show runs jam [_] _ _=_
  symm
  simp only[decide_eq_true e,if_true]
  symm
  rwa[hq]
  rwa[h2]
 ·refine⟨o,⟨ho,e⟩,?_⟩
  show runs jam [_] _ _=_
  symm
  simp only[decide_eq_false e,if_false,j0e]
  symm
noncomputable def thn (l:List S):List S:=
 match l with
 |.ite _ a _::_=>a
 |_=>[]
theorem jxx (ns:List Int)(a:Nat)(ha:a<=1000)(c c1 m:Int)(m0:0<=m)(zs:List Str)(hz:zs.length=11)(hn:∀z∈zs,Nm z)(h3:∀z,3<=(zs.filter fun y=>!decide (y=z)).length)(r p o:Str)(hr:r∈zs)(hp:p∈zs)(ho:o∈zs)(hop:o≠p)
  (hc1:∀ν:M,jah .frz jc0.F [jfU ns,.int ((a:Int)+1)] ν=.ok (.int c1) ν) (μ:M):∃x:Deed,x.Ok/\jgp (runs jam (jaf.drop 7) (dS ns a c m zs (some (.str r)) (some (.str p)) (some (.str o)) none none none none none none none none) μ)=.ok x.dat μ:=by
 obtain⟨f,hf1,hf2⟩:=jcI (xs:=zs.filter fun y=>!decide (y=r)) (i:=m / 40 % 2) (by omega) (by have:=h3 r;omega) μ
 have hff:=j0Y.mp hf1
 have hfr:f≠r:=by simpa using hff.2
 have hq:=jzS ns a c m zs (by omega) r (some (.str p)) (some (.str o)) none none none none none none none none μ
 obtain⟨k,k0,k1,hk⟩:=jgG c 2 (by decide) (by decide) μ
 obtain⟨d0,⟨d1,d2⟩,hd⟩:=jgZ k c k0 μ
 obtain⟨n,n0,n1,hnn⟩:=jgG c1 3 (by decide) (by decide) μ
 obtain⟨q0,⟨q1,q2⟩,hqq⟩:=jgZ n c1 n0 μ
 have hday:Num 0 (if d0<1000000000000 - 2 then d0 else 1000000000000 - 2):=by unfold Num;split<;>omega
 have hday2:(if d0<1000000000000 - 2 then d0 else 1000000000000 - 2)<=(999999999998:Int):=by split<;>omega
 have hpts:Num 1 (if q0 > 1 then q0 else 1):=by unfold Num;split<;>omega
 generalize hDay:(if d0<1000000000000 - 2 then d0 else 1000000000000 - 2)=day at hday hday2
 generalize hPts:(if q0 > 1 then q0 else 1)=pts at hpts
 obtain⟨ls,hls,els⟩:=jrd ns (a+2) zs (by omega) hn μ
 have els':jah .frz jbx.F [jfU ns,.int ((a:Int)+2),jab zs] μ=.ok (jpm ls) μ:=els
 have h7:m % 7=0∨m % 7=1∨m % 7=2∨m % 7=3∨m % 7=4∨m % 7=5∨m % 7=6:=by omega
 have hw:∀(i:Nat) (w:Str),m % 7=(i:Int)->[Str.ofString "buy",Str.ofString "spend",Str.ofString "give",Str.ofString "change",Str.ofString "lend",Str.ofString "back",Str.ofString "fix"][i]?=some w->ixD (.lst [.str "buy",.str "spend",.str "give",.str "change",.str "lend",.str "back",.str "fix"]) (.int (m % 7)) μ=.ok (.str w) μ:=fun i w hi hiw=>by
  rw[hi]
  have e:atI ([Str.ofString "buy",Str.ofString "spend",Str.ofString "give",Str.ofString "change",Str.ofString "lend",Str.ofString "back",Str.ofString "fix"].map D.str) (i:Int)=some (.str w):=jdC (by rw[j1g,hiw];rfl)
  show(match atI ([Str.ofString "buy",Str.ofString "spend",Str.ofString "give",Str.ofString "change",Str.ofString "lend",Str.ofString "back",Str.ofString "fix"].map D.str) (i:Int)with|some d=>Out.ok d μ|none=>.bad)=_
  rw[e]
 have pre:∀w:Str,ixD (.lst [.str "buy",.str "spend",.str "give",.str "change",.str "lend",.str "back",.str "fix"]) (.int (m % 7)) μ=.ok (.str w) μ->runs jam ((jaf.drop 7).take 5) (dS ns a c m zs (some (.str r)) (some (.str p)) (some (.str o)) none none none none none none none none) μ=.ok (.nx (dS ns a c m zs (some (.str r)) (some (.str p)) (some (.str o)) (some (.str f)) (some (.int day)) (some (.int n)) (some (.int pts)) (some (.str w)) none none none)) μ:=fun w hw=>by
  show runs jam [_,_,_,_,_] _ _=_
  symm
  rwa[hq]
  rwa[hf2]
  rwa[hk]
  rwa[hd]
  rwa[jsi,hDay]
  rwa[hc1]
  rwa[hnn]
  rwa[hc1]
  rwa[hqq]
  rwa[jvx,hPts]
  rwa[hw]
 have sp:∀w:Str,ixD (.lst [.str "buy",.str "spend",.str "give",.str "change",.str "lend",.str "back",.str "fix"]) (.int (m % 7)) μ=.ok (.str w) μ->runs jam (jaf.drop 7) (dS ns a c m zs (some (.str r)) (some (.str p)) (some (.str o)) none none none none none none none none) μ=runs jam (jaf.drop 12) (dS ns a c m zs (some (.str r)) (some (.str p)) (some (.str o)) (some (.str f)) (some (.int day)) (some (.int n)) (some (.int pts)) (some (.str w)) none none none) μ:=fun w hw=>by
  rw[show jaf.drop 7=(jaf.drop 7).take 5++jaf.drop 12 from rfl,jgh,pre w hw,jcm]
 have rN:=hn r hr
 have pN:=hn p hp
 have oN:=hn o ho
 have fN:=hn f hff.1
 rcases h7 with h|h|h|h|h|h|h
 ·refine⟨.buy r day p ls,⟨rN,hday,pN,hls⟩,?_⟩
  rw[sp _ (hw 0 _ h rfl),show jgp (runs jam (jaf.drop 12) (dS ns a c m zs (some (.str r)) (some (.str p)) (some (.str o)) (some (.str f)) (some (.int day)) (some (.int n)) (some (.int pts)) (some (.str "buy")) none none none) μ)=jgp (jmi (runs jam (thn (jaf.drop 12)) (dS ns a c m zs (some (.str r)) (some (.str p)) (some (.str o)) (some (.str f)) (some (.int day)) (some (.int n)) (some (.int pts)) (some (.str "buy")) none none none) μ) (runs jam (jaf.drop 13)))from nr rfl]
  simp only[thn,jaf,List.drop_succ_cons,j1f]
  symm
  rwa[els']
  rfl
 ·have hu:=jzI ns a c m zs (by omega) (some (.str r)) (some (.str p)) (some (.str o)) (some (.str f)) (some (.int day)) (some (.int n)) (some (.int pts)) (some (.str "spend")) none none none μ
  have hs1:slD false (jab (jcL zs)) (some (n / 7 % 3)) none μ=.ok (jab ((jcL zs).drop (n / 7 % 3).toNat)) μ:=by
   have:=jfC (zs:=jcL zs) (n / 7 % 3).toNat μ
   (rw[Int.toNat_of_nonneg (by omega)]at this;assumption)
  have hs2:slD false (jab ((jcL zs).drop (n / 7 % 3).toNat)) none (some (n / 21 % 9)) μ=.ok (jab (((jcL zs).drop (n / 7 % 3).toNat).take (n / 21 % 9).toNat)) μ:=by
   have:=jga (zs:=(jcL zs).drop (n / 7 % 3).toNat) (n / 21 % 9).toNat μ
   (rw[Int.toNat_of_nonneg (by omega)]at this;assumption)
  have hsub:∀z∈((jcL zs).drop (n / 7 % 3).toNat).take (n / 21 % 9).toNat,Nm z:=fun z hz=>hn z (jml zs z (List.mem_of_mem_drop (j0R hz)))
  have hnd:(((jcL zs).drop (n / 7 % 3).toNat).take (n / 21 % 9).toNat).Nodup:=((jjp zs).sublist (List.drop_sublist _ _)).sublist (List.take_sublist _ _)
  have hle:(((jcL zs).drop (n / 7 % 3).toNat).take (n / 21 % 9).toNat).length<=8:=by
   rw[j0n]
   omega
  generalize ((jcL zs).drop (n / 7 % 3).toNat).take (n / 21 % 9).toNat=fs at hs2 hsub hnd hle
  refine⟨.spend r day p pts fs,⟨rN,hday,pN,hpts,hle,hnd,hsub⟩,?_⟩
  rw[sp _ (hw 1 _ h rfl),show jgp (runs jam (jaf.drop 12) (dS ns a c m zs (some (.str r)) (some (.str p)) (some (.str o)) (some (.str f)) (some (.int day)) (some (.int n)) (some (.int pts)) (some (.str "spend")) none none none) μ)=jgp (jmi (runs jam (thn (jaf.drop 13)) (dS ns a c m zs (some (.str r)) (some (.str p)) (some (.str o)) (some (.str f)) (some (.int day)) (some (.int n)) (some (.int pts)) (some (.str "spend")) none none none) μ) (runs jam (jaf.drop 14)))from nr rfl]
  simp only[thn,jaf,List.drop_succ_cons,j1f]
  symm
  rwa[hu]
  rwa[hs1]
  rwa[hs2]
  rwa[jmv]
  rfl
 ·refine⟨.two "give" r day p o pts,⟨.inl rfl,rN,hday,pN,oN,hpts,hop⟩,?_⟩
  rw[sp _ (hw 2 _ h rfl)]
  exact nr rfl
 ·refine⟨.two "change" r day p o pts,⟨.inr rfl,rN,hday,pN,oN,hpts,hop⟩,?_⟩
  rw[sp _ (hw 3 _ h rfl)]
  exact nr rfl
 ·obtain⟨e,he,ee⟩:=joR (xs:=[0,n % 50,n]) (i:=n / 50 % 3) (by omega) (by show _<(3:Int);omega) μ
  have he0:0<=e:=by
   simp only[j0d,j0A,or_false]at he
   rcases he with rfl|rfl|rfl<;>omega
  simp only[j0i,j0z]at ee
  have hend:Num 0 (if day+1+e<1000000000000 - 1 then day+1+e else 1000000000000 - 1)/\day<(if day+1+e<1000000000000 - 1 then day+1+e else 1000000000000 - 1):=by
   unfold Num at hday ⊢
   split<;>omega
  refine⟨.lend r day p o pts (if day+1+e<1000000000000 - 1 then day+1+e else 1000000000000 - 1),⟨rN,hday,pN,oN,hpts,hend.1,hop,hend.2⟩,?_⟩
  rw[sp _ (hw 4 _ h rfl),show jgp (runs jam (jaf.drop 12) (dS ns a c m zs (some (.str r)) (some (.str p)) (some (.str o)) (some (.str f)) (some (.int day)) (some (.int n)) (some (.int pts)) (some (.str "lend")) none none none) μ)=jgp (jmi (runs jam (thn (jaf.drop 14)) (dS ns a c m zs (some (.str r)) (some (.str p)) (some (.str o)) (some (.str f)) (some (.int day)) (some (.int n)) (some (.int pts)) (some (.str "lend")) none none none) μ) (runs jam (jaf.drop 15)))from nr rfl]
  simp only[thn,jaf,List.drop_succ_cons,j1f]
  symm
  rwa[ee]
  rwa[jsi]
  rfl
 ·refine⟨.back r day f,⟨rN,hday,fN,hfr⟩,?_⟩
  rw[sp _ (hw 5 _ h rfl)]
  exact nr rfl
 ·refine⟨.fix r f ls,⟨rN,fN,hls,hfr⟩,?_⟩
  rw[sp _ (hw 6 _ h rfl),show jgp (runs jam (jaf.drop 12) (dS ns a c m zs (some (.str r)) (some (.str p)) (some (.str o)) (some (.str f)) (some (.int day)) (some (.int n)) (some (.int pts)) (some (.str "fix")) none none none) μ)=jgp (jmi (runs jam (thn (jaf.drop 16)) (dS ns a c m zs (some (.str r)) (some (.str p)) (some (.str o)) (some (.str f)) (some (.int day)) (some (.int n)) (some (.int pts)) (some (.str "fix")) none none none) μ) (runs jam (jaf.drop 17)))from nr rfl]
  simp only[thn,jaf,List.drop_succ_cons,j1f]
  symm
  rwa[els']
  rfl
theorem jtg (ns:List Int)(a:Nat)(ha:a<=1000)(μ:M):∃x:Deed,x.Ok/\jah .frz jfP.F [jfU ns,.int (a:Int)] μ=.ok x.dat μ:=by
 obtain⟨c,c1,m,zs,r,p,o,⟨m0,m1,hz,hn,h3,hr,hp,ho⟩,hc1,eA⟩:=jx9 ns a ha μ
 obtain⟨o',⟨ho',hop⟩,eB⟩:=jwa ns a c m zs (by omega) h3 r p o ho μ
 obtain⟨x,hx,eC⟩:=jxx ns a ha c c1 m m0 zs hz hn h3 r p o' hr hp ho' hop hc1 μ
 refine⟨x,hx,jak (F:=jfV) ?_ (jlX x)⟩
 unfold jfV
 rw[jgH,if_pos (show [jfU ns,D.int (a:Int)].length=2 from rfl),show jaf=jaf.take 6++((jaf.drop 6).take 1++jaf.drop 7)from rfl,jgh,show([jfU ns,D.int (a:Int)].map some++List.replicate 14 none)=[some (jfU ns),some (.int (a:Int)),none,none,none,none,none,none,none,none,none,none,none,none,none,none]from rfl,eA,jcm,jgh,eB,jcm]
 exact eC
theorem jdB {ds:List D}{μ:M}:biD (.isT "tuple") false [.tup ds] μ=.ok (.bl true) μ:=nr rfl
theorem jsN {z:Str}{μ:M}:biD (.isT "str") false [.str z] μ=.ok (.bl true) μ:=nr rfl
theorem jtr {i:Int}{μ:M}:biD (.isT "int") false [.int i] μ=.ok (.bl true) μ:=nr rfl
theorem jrh {i:Int}{μ:M}:biD (.isT "bool") false [.int i] μ=.ok (.bl false) μ:=nr rfl
theorem jcl {ds:List D}{μ:M}:biD .len false [.tup ds] μ=.ok (.int ds.length) μ:=nr rfl
theorem len_str {z:Str}{μ:M}(h:z.length<=sizeLine):biD .len false [.str z] μ=.ok (.int z.length) μ:=if_pos h
theorem jhf {bs:List Bool}{μ:M}:biD .all false [.lst (bs.map D.bl)] μ=.ok (.bl (bs.all id)) μ:=nr (by
 have:jsF (bs.map D.bl)=some bs:=by
  induction bs with
  |nil=>rfl
  |cons b bs ih=>rw[j0i];unfold jsF;rw[ih];rfl
 simp only[biD,jyG,jgW,this])
theorem le_str {x y:Str}{μ:M}:jdM .LtE (.str x) (.str y) μ=.ok (.bl (!decide (y.cps.toList<x.cps.toList))) μ:=nr rfl
theorem joY (c:Nat):(!decide ([c]<(Str.ofString "a").cps.toList))=decide (97<=c)/\(!decide ((Str.ofString "z").cps.toList<[c]))=decide (c<=122):=by
 have ea:(Str.ofString "a").cps.toList=[97]:=by ac_rfl
 have ez:(Str.ofString "z").cps.toList=[122]:=by ac_rfl
 rw[ea,ez]
 have e1:([c]<[97])↔c<97:=by simp[List.cons_lt_cons_iff]
 have e2:([122]<[c])↔122<c:=by simp[List.cons_lt_cons_iff]
 constructor
 ·rw[j0V]
  simp[e1]
 ·rw[j0V]
  simp[e2]
theorem jfS (z:Str)(h:z.length<=1000)(μ:M):jah .frz jcN.F [.str z] μ=.ok (.bl (jal z)) μ:=by
 refine jak (F:=jgz) ?_ jbo
 have hq:(ev jg9 jeR).v [some (.str z)] μ=.ok (.lst ((z.cps.toList.map fun c=>decide (97<=c)&&decide (c<=122)).map D.bl)) μ:=by
  unfold jeR
  rw[jaX (ds:=[.str z]) (xs:=z.cps.toList) (e:=fun c=>D.str ⟨#[c]⟩) (fun _=>true) (fun c=>D.bl (decide (97<=c)&&decide (c<=122))) (by symm) rfl (by
   have:z.cps.toList.length=z.length:=by simp[Str.length]
   rw[this]
   exact jad h) fun c hc=>⟨_,rfl,by symm,fun _=>by
   symm
   rwa[le_str]
   rw[(joY c).1]
   by_cases e:97<=c
   ·simp only[decide_eq_true e,if_true]
    rw[le_str,(joY c).2,j0L]
   ·simp only[decide_eq_false e,if_false,j0e,Bool.false_and]⟩]
  rw[j0K.mpr fun _ _=>rfl,j0I]
  rfl
 unfold jgz jhc
 symm
 rwa[jsN]
 rwa[len_str (jad h),jhp]
 by_cases h1:1<=z.length
 ·simp only[show((1:Int)<=(z.length:Int))from by omega,decide_true,if_true]
  symm
  by_cases h2:z.length<=8
  ·simp only[show((z.length:Int)<=8)from by omega,decide_true,if_true]
   symm
   rwa[hq]
   rwa[jhf]
   unfold jal
   rw[decide_eq_true h1,decide_eq_true h2,j0L,j0L,j1u]
   rfl
  ·simp only[show ¬ ((z.length:Int)<=8)from by omega,decide_false,if_false,j0e]
   symm
   unfold jal
   rw[decide_eq_false h2,Bool.false_and,Bool.and_false]
 ·simp only[show ¬ ((1:Int)<=(z.length:Int))from by omega,decide_false,if_false,j0e]
  symm
  unfold jal
  rw[decide_eq_false h1,Bool.false_and]
theorem jou {z:Str}(h:Nm z):z.length<=1000:=by
 unfold Nm jal at h
 simp only[j0a,decide_eq_true_eq]at h
 omega
theorem jf9 (i l:Int)(μ:M):jah .frz jdg.F [.int i,.int l] μ=.ok (.bl (decide (l<=i))) μ:=by
 refine jak (F:=jeK) ?_ jbo
 unfold jeK jeE
 symm
 rwa[jtr]
 rwa[jrh]
theorem jAT (p:Str) (h1:decide (p=Str.ofString "lines")=false) (h2:decide (p=Str.ofString "first")=false) (v:D) (μ:M) (b:Bool) (hp:(jbb p [("day",.int 0),("points",.int 1),("end",.int 0)]).isSome=false) (hv:jah .frz jcN.F [v] μ=.ok (.bl b) μ):jah .frz jaD.F [.str p,v] μ=.ok (.bl b) μ:=by
 refine jak (F:=jaJ) ?_ jbo
 have hn:jah .frz jaB.F [.str p] μ=.ok (.bl false) μ:=by
  refine jak (F:=jaH) ?_ jbo
  unfold jaH jbe
  symm
  rwa[jgm]
  rw[hp]
 unfold jaJ jbn
 symm
 simp only[h1,h2,if_false,j0e]
 symm
 simp only[h1,h2,if_false,j0e]
 symm
 rwa[hn]
 rwa[hv]
theorem jy5 (p:Str) (h1:decide (p=Str.ofString "lines")=false) (h2:decide (p=Str.ofString "first")=false) (v l:Int) (μ:M) (hp:jbb p [("day",.int 0),("points",.int 1),("end",.int 0)]=some (.int l)):jah .frz jaD.F [.str p,.int v] μ=.ok (.bl (decide (l<=v))) μ:=by
 refine jak (F:=jaJ) ?_ jbo
 have hn:jah .frz jaB.F [.str p] μ=.ok (.bl true) μ:=by
  refine jak (F:=jaH) ?_ jbo
  unfold jaH jbe
  symm
  rwa[jgm]
  rw[hp]
  rfl
 unfold jaJ jbn
 symm
 simp only[h1,h2,if_false,j0e]
 symm
 simp only[h1,h2,if_false,j0e]
 symm
 rwa[hn]
 rwa[jgm,jsZ hp]
 rwa[jf9]
noncomputable def jct:List (Str×D):=[("buy",(.tup [(.str "ref"),(.str "day"),(.str "purse"),(.str "lines")])),("spend",(.tup [(.str "ref"),(.str "day"),(.str "purse"),(.str "points"),(.str "first")])),("give",(.tup [(.str "ref"),(.str "day"),(.str "purse"),(.str "other"),(.str "points")])),("change",(.tup [(.str "ref"),(.str "day"),(.str "purse"),(.str "other"),(.str "points")])),("lend",(.tup [(.str "ref"),(.str "day"),(.str "purse"),(.str "other"),(.str "points"),(.str "end")])),("back",(.tup [(.str "ref"),(.str "day"),(.str "of")])),("fix",(.tup [(.str "ref"),(.str "of"),(.str "lines")]))]
theorem jn2:jis.dat=some (.dct jct):=rfl
theorem jjB:∀(qs:List Str) (vs:List D),jgs (qs.map D.str) vs=(qs.zip vs).map fun p=>D.tup [.str p.1,p.2]
 |[],vs=>by unfold jgs;rfl
 |q::qs,[]=>by unfold jgs;rfl
 |q::qs,v::vs=>by
  rw[j0i,List.zip_cons_cons,j0i]
  unfold jgs
  rw[jjB qs vs]
theorem jiI {w:Str}{qs:List Str}(h:jbb w jct=some (.tup (qs.map D.str)))(μ:M):jah .frz jb4.F [.str w] μ=.ok (.tup (qs.map D.str)) μ:=by
 refine jak (F:=jc8) ?_ (jcp (jcd (fun _=>jaw) _))
 unfold jc8 jeq
 symm
 rwa[jn2]
 rw[h]
 rfl
theorem jop {w:D}{vs:List D}(μ:M):slD false (.tup (w::vs)) (some 1) none μ=.ok (.tup vs) μ:=by
 have hc:_L3.cutD (w::vs) (some 1) none=vs:=jkS (ds:=w::vs) 1
 show Out.ok (D.tup (_L3.cutD (w::vs) (some 1) none)) μ=_
 rw[hc]
theorem jh5 {w:D}{vs:List D}(μ:M):ixD (.tup (w::vs)) (.int 0) μ=.ok w μ:=by
 have e:atI (w::vs) ((0:Nat):Int)=some w:=jdC rfl
 show(match atI (w::vs) (0:Int)with|some d=>Out.ok d μ|none=>.bad)=_
 rw[show((0:Int))=((0:Nat):Int)from rfl,e]
theorem jql {w:Str}{qs:List Str}{vs:List D}(h:jbb w jct=some (.tup (qs.map D.str)))(hl:qs.length<=100)(hn:qs.Nodup)(hv:vs.length=qs.length)(hf:∀g,frzGs g vs=some vs)(μ:M):jah .frz jcx.F [.tup (.str w::vs)] μ=.ok (.dF (qs.map Sum.inr) vs) μ:=by
 refine jak (F:=jdH) ?_ (by show jcs _ (.dF _ _)=_;unfold jcs;rw[hf];rfl)
 have hz:biD .dictZip false [.tup (qs.map D.str),.tup vs] μ=.ok (.dF (qs.map Sum.inr) vs) μ:=by
  simp only[biD,jgi,jfb,jfe,if_pos (show qs.length=vs.length/\qs.length<=1000/\qs.Nodup from⟨hv.symm,by omega,hn⟩),j0e,if_false]
 unfold jdH jdF
 symm
 rwa[jh5]
 rwa[jiI h]
 rwa[jop]
 rwa[hz]
theorem jvF {k:Str}{ks:List Key}{vs:List D}{μ:M}:jdM .In (.str k) (.dF ks vs) μ=.ok (.bl (jev (.inr k) ks vs).isSome) μ:=nr rfl
theorem jrb {k:Str}{ks:List Key}{vs:List D}{μ:M}:jdM .NotIn (.str k) (.dF ks vs) μ=.ok (.bl (!(jev (.inr k) ks vs).isSome)) μ:=nr rfl
theorem jms {k:Str}{ks:List Key}{vs:List D}{d:D}{μ:M}(h:jev (.inr k) ks vs=some d):ixD (.dF ks vs) (.str k) μ=.ok d μ:=by
 show jvl (.dF ks vs) (.inr k) μ=_
 unfold jvl
 simp only[jkd,h]
theorem jh0 {w:Str}(h:jbb w jct=none)(μ:M):jah .frz jb4.F [.str w] μ=.ok (.tup []) μ:=by
 refine jak (F:=jc8) ?_ (jcp jec)
 unfold jc8 jeq
 symm
 rwa[jn2]
 rw[h]
 rfl
theorem jmH {w:Str}{vs:List D}(h:jbb w jct=none)(μ:M):jah .frz jaZ.F [.tup (.str w::vs)] μ=.ok (.bl false) μ:=by
 refine jak (F:=jbi) ?_ jbo
 unfold jbi jbJ
 symm
 rwa[jdB]
 rwa[jcl]
 simp only[j0b,show ¬ (((vs.length+1:Nat):Int)=0)from by omega,decide_false,if_false,j0e]
 symm
 rwa[jh5]
 rwa[jh0 h]
 rwa[jcl]
 simp only[j0x,show((0:Nat):Int)=0 from rfl,decide_true,if_true]
 symm
theorem jtf {w:Str}{qs:List Str}{vs:List D}(b:Str×D->Bool)(h:jbb w jct=some (.tup (qs.map D.str)))(h0:0<qs.length)(hl:qs.length<=100)(hv:vs.length=qs.length)(μ:M)(ha:∀p∈qs.zip vs,jah .frz jaD.F [.str p.1,p.2] μ=.ok (.bl (b p)) μ) :
  jah .frz jaZ.F [.tup (.str w::vs)] μ=.ok (.bl ((qs.zip vs).all b)) μ:=by
 refine jak (F:=jbi) ?_ jbo
 have hi:itD .zip [.tup (qs.map D.str),.tup vs] μ=some ((qs.zip vs).map fun p=>D.tup [.str p.1,p.2]):=by
  show some (jgs (qs.map D.str) vs)=_
  rw[jjB]
 have hq:(ev jcQ jb2).v [some (.tup (.str w::vs)),some (.tup (qs.map D.str))] μ=.ok (.lst (((qs.zip vs).map b).map D.bl)) μ:=by
  unfold jb2
  rw[jaX (ds:=[.tup (qs.map D.str),.tup vs]) (xs:=qs.zip vs) (e:=fun p=>D.tup [.str p.1,p.2]) (fun _=>true) (fun p=>D.bl (b p)) (by
   symm
   rw[jop]
   symm) hi (by rw[List.length_zip];exact jad (by omega)) fun p hp=>⟨_,rfl,by symm,fun _=>by
   symm
   rw[ha p hp]⟩]
  rw[j0K.mpr fun _ _=>rfl,j0I]
  rfl
 unfold jbi jbJ
 symm
 rwa[jdB]
 rwa[jcl]
 simp only[j0b,show ¬ (((vs.length+1:Nat):Int)=0)from by omega,decide_false,if_false,j0e]
 symm
 rwa[jh5]
 rwa[jiI h]
 rwa[jcl]
 simp only[j0f,show ¬ ((qs.length:Int)=0)from by omega,decide_false,if_false,j0e]
 symm
 rwa[jcl]
 rwa[jcl]
 simp only[j0f,j0b,show(((vs.length+1:Nat):Int)=(qs.length:Int)+1)from by omega,decide_true,j1z,if_false,j0e]
 symm
 rwa[hq]
 rwa[jhf]
 congr 2
 rw[j1u]
 rfl
theorem jqC {v:D}{b:Bool}(μ:M)(hv:jah .frz jb5.F [v] μ=.ok (.bl b) μ):jah .frz jaD.F [.str "lines",v] μ=.ok (.bl b) μ:=by
 refine jak (F:=jaJ) ?_ jbo
 unfold jaJ jbn
 symm
 simp only[decide_true,if_true]
 symm
 rwa[hv]
theorem jpx {v:D}{b:Bool}(μ:M)(hv:jah .frz jaE.F [v] μ=.ok (.bl b) μ):jah .frz jaD.F [.str "first",v] μ=.ok (.bl b) μ:=by
 refine jak (F:=jaJ) ?_ jbo
 unfold jaJ jbn
 symm
 simp only[show decide (Str.ofString "first" =Str.ofString "lines")=false from by ac_rfl,if_false,j0e]
 symm
 simp only[decide_true,if_true]
 symm
 rwa[hv]
theorem jnQ {ds:List D}(h:ds.length=0∨8<ds.length)(μ:M):jah .frz jb5.F [.tup ds] μ=.ok (.bl false) μ:=by
 refine jak (F:=jcR) ?_ jbo
 unfold jcR jdu
 symm
 rwa[jdB]
 rwa[jcl,jby]
 rcases h with h|h
 ·simp only[show ¬ ((1:Int)<=(ds.length:Int))from by omega,decide_false,if_false,j0e]
  symm
 ·simp only[show((1:Int)<=(ds.length:Int))from by omega,show ¬ ((ds.length:Int)<=8)from by omega,decide_true,decide_false,if_true]
  symm
theorem joV {ds:List D}(b:D->Bool)(h1:1<=ds.length)(h2:ds.length<=8)(μ:M)(hb:∀d∈ds,jah .frz jfi.F [d] μ=.ok (.bl (b d)) μ):jah .frz jb5.F [.tup ds] μ=.ok (.bl (ds.all b)) μ:=by
 refine jak (F:=jcR) ?_ jbo
 have hq:(ev jeI jdE).v [some (.tup ds)] μ=.ok (.lst ((ds.map b).map D.bl)) μ:=by
  unfold jdE
  rw[jaX (ds:=[.tup ds]) (xs:=ds) (e:=id) (fun _=>true) (fun d=>D.bl (b d)) (by symm) (by show some ds=_;rw[List.map_id]) (jad (by omega)) fun p hp=>⟨_,rfl,by symm,fun _=>by
   symm
   rw[show id p=p from rfl,hb p hp]⟩]
  rw[j0K.mpr fun _ _=>rfl,j0I]
  rfl
 unfold jcR jdu
 symm
 rwa[jdB]
 rwa[jcl,jby]
 simp only[show((1:Int)<=(ds.length:Int))from by omega,show((ds.length:Int)<=8)from by omega,decide_true,if_true]
 symm
 try simp only[show((1:Int)<=(ds.length:Int))from by omega,show((ds.length:Int)<=8)from by omega,decide_true,if_true]
 symm
 rwa[hq]
 rwa[jhf]
 rw[j1u]
 rfl
theorem jxj {ds:List D}(μ:M):jah .frz jdq.F [.tup ds,.int 2] μ=.ok (.bl (decide ((ds.length:Int)=2))) μ:=by
 refine jak (F:=jdw) ?_ jbo
 unfold jdw jdl
 symm
 rwa[jdB]
 rwa[jcl]
theorem jsY {ds:List D}(h:8<ds.length)(μ:M):jah .frz jaE.F [.tup ds] μ=.ok (.bl false) μ:=by
 refine jak (F:=jaS) ?_ jbo
 unfold jaS jbf
 symm
 rwa[jdB]
 rwa[jcl,jby]
 simp only[show((8:Int)<(ds.length:Int))from by omega,decide_true,if_true]
 symm
theorem jtE {ds:List D}(b:D->Bool)(h:ds.length<=8)(μ:M)(hb:∀d∈ds,jah .frz jcN.F [d] μ=.ok (.bl (b d)) μ)(u:Bool)(hu:ds.all b=true->jah .frz jcZ.F [.tup ds] μ=.ok (.bl u) μ) :
  jah .frz jaE.F [.tup ds] μ=.ok (.bl (if ds.all b then u else false)) μ:=by
 refine jak (F:=jaS) ?_ jbo
 have hq:(ev jbS jbq).v [some (.tup ds)] μ=.ok (.lst ((ds.map b).map D.bl)) μ:=by
  unfold jbq
  rw[jaX (ds:=[.tup ds]) (xs:=ds) (e:=id) (fun _=>true) (fun d=>D.bl (b d)) (by symm) (by show some ds=_;rw[List.map_id]) (jad (by omega)) fun p hp=>⟨_,rfl,by symm,fun _=>by
   symm
   rw[show id p=p from rfl,hb p hp]⟩]
  rw[j0K.mpr fun _ _=>rfl,j0I]
  rfl
 unfold jaS jbf
 symm
 rwa[jdB]
 rwa[jcl,jby]
 simp only[show ¬ ((8:Int)<(ds.length:Int))from by omega,decide_false,if_false,j0e]
 symm
 rwa[hq]
 rwa[jhf]
 have e:(ds.map b).all id=ds.all b:=by rw[j1u];rfl
 rw[e]
 cases hd:ds.all b with
 |false=>
  simp only[j0e,if_false]
  symm
 |true=>
  simp only[if_true]
  rwa[hu hd]
theorem jzL {ks:List Key} {vs:List D} {bO bF bE:Bool} (hO:(jev (.inr "other") ks vs=none/\bO=false)∨∃x y:Str,jev (.inr "other") ks vs=some (.str x)/\jev (.inr "purse") ks vs=some (.str y)/\bO=decide (x=y))
  (hF:(jev (.inr "of") ks vs=none/\bF=false)∨∃x y:Str,jev (.inr "of") ks vs=some (.str x)/\jev (.inr "ref") ks vs=some (.str y)/\bF=decide (x=y))
  (hE:(jev (.inr "end") ks vs=none/\bE=true)∨∃x y:Int,jev (.inr "end") ks vs=some (.int x)/\jev (.inr "day") ks vs=some (.int y)/\bE=decide (y<x)) (μ:M):jah .frz jcA.F [.dF ks vs] μ=.ok (.bl (!bO&&!bF&&bE)) μ:=by
 refine jak (F:=jdz) ?_ jbo
 have c1:(ev jbm (.and_ (.cmp .In (.cst (.str "other")) (.var 0)) (.cmp .Eq (.ix (.var 0) (.cst (.str "other"))) (.ix (.var 0) (.cst (.str "purse")))))).t [some (.dF ks vs)] μ=.ok bO μ:=by
  symm
  rwa[jvF]
  rcases hO with⟨h,rfl⟩|⟨x,y,h1,h2,rfl⟩
  ·rw[h]
   rfl
  ·rwa[h1,jms h1]
   rwa[jms h2]
   simp only[Option.isSome_some,if_true]
 have c2:(ev jbm (.and_ (.cmp .In (.cst (.str "of")) (.var 0)) (.cmp .Eq (.ix (.var 0) (.cst (.str "of"))) (.ix (.var 0) (.cst (.str "ref")))))).t [some (.dF ks vs)] μ=.ok bF μ:=by
  symm
  rwa[jvF]
  rcases hF with⟨h,rfl⟩|⟨x,y,h1,h2,rfl⟩
  ·rw[h]
   rfl
  ·rwa[h1,jms h1]
   rwa[jms h2]
   simp only[Option.isSome_some,if_true]
 have c3:(ev jbm (.or_ (.cmp .NotIn (.cst (.str "end")) (.var 0)) (.cmp .Gt (.ix (.var 0) (.cst (.str "end"))) (.ix (.var 0) (.cst (.str "day")))))).v [some (.dF ks vs)] μ=.ok (.bl bE) μ:=by
  symm
  rwa[jrb]
  rcases hE with⟨h,rfl⟩|⟨x,y,h1,h2,rfl⟩
  ·rw[h]
   rfl
  ·rwa[h1,jms h1]
   rwa[jms h2]
   simp only[Option.isSome_some,j1z,if_true,j0e,if_false]
   try rfl
 unfold jdz jdt
 rw[jgH,if_pos (show [D.dF ks vs].length=1 from rfl)]
 show jgp (runs jbm _ [some (.dF ks vs)] μ)=_
 rw[jbU,jgV,c1,jcn]
 cases bO with
 |true=>rfl
 |false=>
  rw[if_neg j0g,jfr,jcm,jbU,jgV,c2,jcn]
  cases bF with
  |true=>rfl
  |false=>
   rw[if_neg j0g,jfr,jcm,jbU,jnk,c3]
   rfl
theorem jh1 {d q:D}{b g:Bool}(μ:M)(h1:jah .frz jaZ.F [d] μ=.ok (.bl b) μ)(h2:b=true->jah .frz jcx.F [d] μ=.ok q μ/\jah .frz jcA.F [q] μ=.ok (.bl g) μ) :
  jah .frz jaV.F [d] μ=if b&&g then .ok (.bl true) μ else .exc (.str "BadDeed") μ:=by
 cases b with
 |false=>
  refine jc2 (F:=jaW) ?_
  unfold jaW jbu
  symm
  rwa[h1]
 |true=>
  obtain⟨h3,h4⟩:=h2 rfl
  cases g with
  |false=>
   refine jc2 (F:=jaW) ?_
   unfold jaW jbu
   symm
   rwa[h1]
   rwa[h3]
   rwa[h4]
  |true=>
   refine jak (F:=jaW) ?_ jbo
   unfold jaW jbu
   symm
   rwa[h1]
   rwa[h3]
   rwa[h4]
theorem juf {p:Ln}(h:p.1.length<=1000)(h0:0<=p.2)(μ:M):jah .frz jfi.F [lnD p] μ=.ok (.bl (jal p.1)) μ:=by
 refine jak (F:=jgA) ?_ jbo
 unfold jgA jgQ
 symm
 rwa[show lnD p=.tup [.str p.1,.int p.2]from rfl,jxj]
 simp only[show(((2:Nat):Int)=2)from rfl,decide_true,if_true]
 symm
 rwa[show ixD (.tup [.str p.1,.int p.2]) (.int 0) μ=.ok (.str p.1) μ from nr rfl]
 rwa[jfS _ h]
 rwa[show ixD (.tup [.str p.1,.int p.2]) (.int 1) μ=.ok (.int p.2) μ from nr rfl]
 rw[jf9,decide_eq_true h0]
 cases jal p.1<;>rfl
noncomputable def jxa (zs:List Str):Bool:=decide (((ddS zs).length:Int)=(zs.length:Int))
theorem jiM (zs:List Str)(hl:zs.length<=1000)(μ:M):jah .frz jcZ.F [.tup (zs.map D.str)] μ=.ok (.bl (jxa zs)) μ:=by
 refine jak (F:=jeh) ?_ jbo
 have hs:biD .lenSet false [.tup (zs.map D.str)] μ=.ok (.int (ddS zs).length) μ:=by
  simp only[biD,jiL,jfb,jfe,hl,if_true]
 unfold jeh jd2
 symm
 rwa[hs]
 rwa[jcl]
 simp only[j0f]
 rfl
inductive PV where
 |nm (z:Str)|num (n:Int)|lns (ls:List Ln)|fst (fs:List Str)
noncomputable def PV.dat:PV->D
 |.nm z=>.str z
 |.num n=>.int n
 |.lns ls=>jpm ls
 |.fst fs=>.tup (fs.map D.str)
noncomputable def lnP (p:Ln):Str×Str:=(p.1,nTx p.2)
noncomputable def PV.ws:PV->List Str
 |.nm z=>[z]
 |.num n=>[nTx n]
 |.lns ls=>jaA (ls.map lnP)
 |.fst fs=>fs
noncomputable def PV.one:PV->Bool
 |.nm _=>true
 |.num _=>true
 |_=>false
noncomputable def PV.Ok:PV->Prop
 |.nm z=>Nm z
 |.num n=>Num 0 n
 |.lns ls=>jj8 ls
 |.fst fs=>fs.length<=8/\∀z∈fs,Nm z
noncomputable def jhZ (q:Str):PV->Prop
 |.nm _=>q = "ref"∨q = "purse"∨q = "other"∨q = "of"
 |.num _=>q = "day"∨q = "points"∨q = "end"
 |.lns _=>q = "lines"
 |.fst _=>q = "first"
inductive Sh:List Str->List PV->Prop
 |nil:Sh [] []
 |one {q:Str} {v:PV} {qs:List Str} {vs:List PV}:jhZ q v->v.Ok->v.one=true->Sh qs vs->Sh (q::qs) (v::vs)
 |last {q:Str} {v:PV}:jhZ q v->v.Ok->v.one=false->Sh [q] [v]
noncomputable def Deed.w:Deed->Str
 |.buy ..=>"buy"
 |.spend ..=>"spend"
 |.two w ..=>w
 |.lend ..=>"lend"
 |.back ..=>"back"
 |.fix ..=>"fix"
noncomputable def Deed.qs:Deed->List Str
 |.buy ..=>["ref","day","purse","lines"]
 |.spend ..=>["ref","day","purse","points","first"]
 |.two ..=>["ref","day","purse","other","points"]
 |.lend ..=>["ref","day","purse","other","points","end"]
 |.back ..=>["ref","day","of"]
 |.fix ..=>["ref","of","lines"]
noncomputable def Deed.pv:Deed->List PV
 |.buy r d p ls=>[.nm r,.num d,.nm p,.lns ls]
 |.spend r d p n fs=>[.nm r,.num d,.nm p,.num n,.fst fs]
 |.two w r d p o n=>[.nm r,.num d,.nm p,.nm o,.num n]
 |.lend r d p o n e=>[.nm r,.num d,.nm p,.nm o,.num n,.num e]
 |.back r d f=>[.nm r,.num d,.nm f]
 |.fix r f ls=>[.nm r,.nm f,.lns ls]
noncomputable def Deed.words (x:Deed):List Str:=(PV.nm x.w::x.pv).flatMap PV.ws
theorem jhE (x:Deed):x.dat=.tup ((PV.nm x.w::x.pv).map PV.dat):=by cases x<;>rfl
theorem jgE (x:Deed)(h:x.Ok):jbb x.w jct=some (.tup (x.qs.map D.str)):=by
 cases x with
 |two w r d p o n=>
  obtain⟨h0,_⟩:=h
  rcases h0 with rfl|rfl<;>rfl
 |_=>rfl
theorem je9 {n:Int}(h:Num 1 n):Num 0 n:=⟨by have:=h.1;omega,h.2⟩
theorem jmT (x:Deed)(h:x.Ok):Sh x.qs x.pv:=by
 cases x with
 |buy r d p ls=>
  obtain⟨h1,h2,h3,h4⟩:=h
  exact .one (.inl rfl) h1 rfl (.one (.inl rfl) h2 rfl (.one (.inr (.inl rfl)) h3 rfl (.last rfl h4 rfl)))
 |spend r d p n fs=>
  obtain⟨h1,h2,h3,h4,h5,h6,h7⟩:=h
  exact .one (.inl rfl) h1 rfl (.one (.inl rfl) h2 rfl (.one (.inr (.inl rfl)) h3 rfl (.one (.inr (.inl rfl)) (je9 h4) rfl (.last rfl ⟨h5,h7⟩ rfl))))
 |two w r d p o n=>
  obtain⟨h0,h1,h2,h3,h4,h5,h6⟩:=h
  exact .one (.inl rfl) h1 rfl (.one (.inl rfl) h2 rfl (.one (.inr (.inl rfl)) h3 rfl (.one (.inr (.inr (.inl rfl))) h4 rfl (.one (.inr (.inl rfl)) (je9 h5) rfl .nil))))
 |lend r d p o n e=>
  obtain⟨h1,h2,h3,h4,h5,h6,h7,h8⟩:=h
  exact .one (.inl rfl) h1 rfl (.one (.inl rfl) h2 rfl (.one (.inr (.inl rfl)) h3 rfl (.one (.inr (.inr (.inl rfl))) h4 rfl (.one (.inr (.inl rfl)) (je9 h5) rfl (.one (.inr (.inr rfl)) h6 rfl .nil)))))
 |back r d f=>
  obtain⟨h1,h2,h3,h4⟩:=h
  exact .one (.inl rfl) h1 rfl (.one (.inl rfl) h2 rfl (.one (.inr (.inr (.inr rfl))) h3 rfl .nil))
 |fix r f ls=>
  obtain⟨h1,h2,h3,h4⟩:=h
  exact .one (.inl rfl) h1 rfl (.one (.inr (.inr (.inr rfl))) h2 rfl (.last rfl h3 rfl))
theorem ji0 {α:Type}{x:α}:∀{ls:List (α×α)},x∈jaA ls->∃p∈ls,x=p.1∨x=p.2
 |[],h=>by cases h
 |p::ls,h=>by
  have h':x∈p.1::p.2::jaA ls:=h
  rcases j0d.mp h' with e|h'
  ·exact⟨p,by simp,.inl e⟩
  ·rcases j0d.mp h' with e|h'
   ·exact⟨p,by simp,.inr e⟩
   ·obtain⟨q,hq,e⟩:=ji0 h'
    exact⟨q,by simp[hq],e⟩
theorem jkZ {v:PV}(h:v.Ok):(∀z∈v.ws,Wd1 z)/\v.ws.length<=16:=by
 cases v with
 |nm z=>exact⟨fun y hy=>by rw[j04.mp hy];exact jbv h,by show 1<=16;decide⟩
 |num n=>exact⟨fun y hy=>by rw[j04.mp hy];exact jkT h.1 h.2,by show 1<=16;decide⟩
 |lns ls=>
  obtain⟨_,h2,h3⟩:=h
  refine⟨fun y hy=>?_,?_⟩
  ·obtain⟨p,hp,e⟩:=ji0 hy
   obtain⟨l,hl,rfl⟩:=j0s.mp hp
   have:=h3 l hl
   rcases e with rfl|rfl
   ·exact jbv this.1
   ·exact jkT this.2.1 this.2.2
  ·show(jaA (ls.map lnP)).length<=16
   rw[ja0,j0f]
   omega
 |fst fs=>exact⟨fun y hy=>jbv (h.2 y hy),by show fs.length<=16;have:=h.1;omega⟩
theorem jpI {qs:List Str}{vs:List PV}(h:Sh qs vs):(∀z∈vs.flatMap PV.ws,Wd1 z)/\(vs.flatMap PV.ws).length<=vs.length+16/\qs.length=vs.length:=by
 induction h with
 |nil=>exact⟨fun z hz=>by simp at hz,by simp,rfl⟩
 | @one q v qs vs f o h1 t ih=>
  obtain⟨i1,i2,i3⟩:=ih
  obtain⟨w1,w2⟩:=jkZ o
  rw[j0E]
  refine⟨fun z hz=>?_,?_,by rw[j0b,j0b,i3]⟩
  ·rcases j03.mp hz with e|e
   ·exact w1 z e
   ·exact i1 z e
  ·have:v.ws.length=1:=by cases v<;>first|rfl|cases h1
   rw[j0p,this,j0b]
   omega
 | @last q v f o h1=>
  obtain⟨w1,w2⟩:=jkZ o
  rw[j0E,List.flatMap_nil,j0l]
  exact⟨w1,by show _<=1+16;omega,rfl⟩
theorem jwU (x:Deed)(h:x.Ok):Wd1 x.w:=by
 cases x with
 |two w r d p o n=>
  obtain⟨h0,_⟩:=h
  rcases h0 with rfl|rfl
  ·exact jbv (z:="give") (by ac_rfl)
  ·exact jbv (z:="change") (by ac_rfl)
 |buy=>exact jbv (z:="buy") (by ac_rfl)
 |spend=>exact jbv (z:="spend") (by ac_rfl)
 |lend=>exact jbv (z:="lend") (by ac_rfl)
 |back=>exact jbv (z:="back") (by ac_rfl)
 |fix=>exact jbv (z:="fix") (by ac_rfl)
theorem ja7 (x:Deed):x.words=x.w::x.pv.flatMap PV.ws:=rfl
theorem jbz (x:Deed)(h:x.Ok):(∀z∈x.words,Wd1 z)/\x.words.length<=30:=by
 obtain⟨i1,i2,_⟩:=jpI (jmT x h)
 have hl:x.pv.length<=6:=by
  cases x<;>(simp only[Deed.pv,j0b,j0x];omega)
 rw[ja7]
 refine⟨fun z hz=>?_,by rw[j0b];omega⟩
 rcases j0d.mp hz with e|e
 ·rw[e];exact jwU x h
 ·exact i1 z e
theorem jr8 {h:Nat->Option D}(v:PV):jcs h v.dat=some v.dat:=by
 cases v with
 |nm z=>exact jaw
 |num n=>exact jbp
 |lns ls=>exact jfM ls
 |fst fs=>exact jcp (jcd (fun _=>jaw) fs)
theorem jpn {ν:M}{n0 k:Nat}{ds:List D}(hk:n0<=k)(h:ν[k]?=some (some (.lst ds)))(hd:∀g,frzGs g ds=some ds):jrm ν n0 (.cel k)=some (.lst ds):=by
 unfold jrm
 unfold jcs
 unfold jku
 rw[if_neg (by omega),if_neg (by simp)]
 simp only[h,hd]
 rfl
theorem jlu (zs:List Str)(g:Nat->Option D):frzGs g (zs.map D.str)=some (zs.map D.str):=jcd (fun _=>jaw) zs
theorem juO {ν:M}{xs ys:List D}(h:xs.length+ys.length<=sizeLine):jg0 .Add true (.cel ν.length) (.lst ys) (ν++[some (Cl.lst xs)])=.ok (.cel (ν++[some (Cl.lst xs)]).length) (ν++[some (Cl.lst xs)]++[some (Cl.lst (xs++ys))]):=by
 have e:jgW (ν++[some (Cl.lst xs)]) (.cel ν.length)=some xs:=by simp only[jgW,jfy]
 show(match jgW (ν++[some (Cl.lst xs)]) (.cel ν.length),jgW (ν++[some (Cl.lst xs)]) (.lst ys)with
  |some a,some b=>@ite _ (a.length+b.length<=sizeLine) (Classical.propDecidable _) (mkL true (a++b) (ν++[some (Cl.lst xs)])) .bad
  |_,_=>.bad)=_
 rw[e]
 show @ite _ (xs.length+ys.length<=sizeLine) (Classical.propDecidable _) (mkL true (xs++ys) (ν++[some (Cl.lst xs)])) .bad=_
 rw[if_pos h,jxq]
theorem jlf {z:Str}{μ:M}:biD (.isT "tuple") false [.str z] μ=.ok (.bl false) μ:=nr rfl
theorem jqs {i:Int}{μ:M}:biD (.isT "tuple") false [.int i] μ=.ok (.bl false) μ:=nr rfl
theorem jxu {p:Ln}{μ:M}:biD (.isT "tuple") false [lnD p] μ=.ok (.bl true) μ:=nr rfl
theorem str_str {z:Str}{μ:M}:biD .str false [.str z] μ=.ok (.str z) μ:=nr rfl
theorem str_int {n:Int}(h:Num 0 n){μ:M}:biD .str false [.int n] μ=.ok (.str (nTx n)) μ:=if_pos (joQ h.1 h.2)
theorem jAW {p:Ln}{μ:M}:ixD (lnD p) (.int 0) μ=.ok (.str p.1) μ:=nr rfl
theorem jAC {p:Ln}{μ:M}:ixD (lnD p) (.int 1) μ=.ok (.int p.2) μ:=nr rfl
theorem jrC (d0 d2:Option D)(μ:M)(ok:M->Bool)(hok:∀ν,ok ν=true):∀(ls:List Ln) (κ:M) (ws:List Str) (o3:Option D),(∀p∈ls,jvd p)->ws.length+2*ls.length<=1000 ->
  ∃κ':M,jds ok (.nm 3) (runs jb3 jbH) [3] (ls.map lnD) [d0,some (.cel (μ++κ).length),d2,o3] (μ++κ++[some (.lst (ws.map D.str))])=.ok (.nx [d0,some (.cel (μ++κ').length),d2,none]) (μ++κ'++[some (.lst ((ws++jaA (ls.map lnP)).map D.str))])
 |[],κ,ws,o3,_,_=>⟨κ,by
  rw[j0z,jcw (hok _)]
  show _=Out.ok (Fl.nx _) (μ++κ++[some (.lst ((ws++[]).map D.str))])
  rw[j0l]
  rfl⟩
 |p::ls,κ,ws,o3,h,hl=>by
  obtain⟨_,p1,p2⟩:=h p (by simp)
  simp only[j0b]at hl
  obtain⟨κ',ih⟩:=jrC d0 d2 μ ok hok ls (κ++[some (.lst (ws.map D.str))]) (ws++[p.1,nTx p.2]) none (fun q hq=>h q (by simp[hq])) (by simp;omega)
  refine⟨κ',?_⟩
  rw[j0i,jce (ρ1:=[d0,some (.cel (μ++κ).length),d2,some (lnD p)]) (ρ2:=[d0,some (.cel (μ++κ++[some (Cl.lst (ws.map D.str))]).length),d2,some (lnD p)]) (μ2:=μ++κ++[some (.lst (ws.map D.str))]++[some (.lst (ws.map D.str++[D.str p.1,D.str (nTx p.2)]))]) (hok _) rfl ?_]
  ·have e:forget [3] [d0,some (.cel (μ++κ++[some (Cl.lst (ws.map D.str))]).length),d2,some (lnD p)]=[d0,some (.cel (μ++κ++[some (Cl.lst (ws.map D.str))]).length),d2,none]:=rfl
   rw[e]
   rw[<- j0J,j0Q]at ih
   rw[j0i,show jaA (lnP p::ls.map lnP)=[p.1,nTx p.2]++jaA (ls.map lnP)from rfl,<- j0J]
   exact ih
  ·unfold jbH
   symm
   rwa[jxu]
   rwa[jAW]
   rwa[jAC]
   rwa[str_int ⟨p1,p2⟩]
   rwa[juO (jc4 (by simp;omega))]
theorem jrJ (d0 d2:Option D)(ν:M)(ok:M->Bool)(hok:∀ν,ok ν=true):∀(fs ws:List Str) (o3:Option D),ws.length+fs.length<=1000 ->
  jds ok (.nm 3) (runs jb3 jbH) [3] (fs.map D.str) [d0,some (.cel ν.length),d2,o3] (ν++[some (.lst (ws.map D.str))])=.ok (.nx [d0,some (.cel ν.length),d2,none]) (ν++[some (.lst ((ws++fs).map D.str))])
 |[],ws,o3,_=>by
  rw[j0z,jcw (hok _),j0l]
  rfl
 |p::fs,ws,o3,hl=>by
  simp only[j0b]at hl
  have ih:=jrJ d0 d2 ν ok hok fs (ws++[p]) none (by simp;omega)
  rw[j0i,jce (ρ1:=[d0,some (.cel ν.length),d2,some (.str p)]) (ρ2:=[d0,some (.cel ν.length),d2,some (.str p)]) (μ2:=ν++[some (.lst ((ws++[p]).map D.str))]) (hok _) rfl ?_]
  ·rw[show ws++p::fs=ws++[p]++fs from by simp]
   exact ih
  ·unfold jbH
   symm
   rwa[jlf]
   rwa[jek (jc4 (by simp;omega))]
   rw[j0Q]
   rfl
noncomputable def PV.Lo:PV->Prop
 |.nm _=>True
 |.num n=>Num 0 n
 |.lns ls=>ls.length<=8/\∀p∈ls,jvd p
 |.fst fs=>fs.length<=8
theorem jrU (d0:Option D)(μ:M)(ok:M->Bool)(hok:∀ν,ok ν=true):∀(vs:List PV) (κ:M) (ws:List Str) (o2 o3:Option D),(∀v∈vs,v.Lo)->ws.length+16*vs.length<=1000 ->
  ∃κ':M,jds ok (.nm 2) (runs jb3 ja8) [2,3] (vs.map PV.dat) [d0,some (.cel (μ++κ).length),o2,o3] (μ++κ++[some (.lst (ws.map D.str))])=.ok (.nx [d0,some (.cel (μ++κ').length),none,none]) (μ++κ'++[some (.lst ((ws++vs.flatMap PV.ws).map D.str))])
 |[],κ,ws,o2,o3,_,_=>⟨κ,by
  rw[j0z,jcw (hok _),List.flatMap_nil,j0l]
  rfl⟩
 |v::vs,κ,ws,o2,o3,h,hl=>by
  simp only[j0b]at hl
  have hv:=h v (by simp)
  obtain⟨κ1,o3',e1,hw⟩:∃(κ1:M) (o3':Option D),runs jb3 ja8 [d0,some (.cel (μ++κ).length),some v.dat,o3] (μ++κ++[some (.lst (ws.map D.str))])=.ok (.nx [d0,some (.cel (μ++κ1).length),some v.dat,o3']) (μ++κ1++[some (.lst ((ws++v.ws).map D.str))])/\v.ws.length<=16:=by
   cases v with
   |nm z=>
    refine⟨κ,o3,?_,by show 1<=16;decide⟩
    unfold ja8 PV.dat
    symm
    rwa[jlf]
    rwa[str_str]
    rwa[jek (jc4 (by simp;omega))]
    rw[j0Q]
    rfl
   |num n=>
    refine⟨κ,o3,?_,by show 1<=16;decide⟩
    unfold ja8 PV.dat
    symm
    rwa[jqs]
    rwa[str_int hv]
    rwa[jek (jc4 (by simp;omega))]
    rw[j0Q]
    rfl
   |lns ls=>
    obtain⟨h8,hL⟩:=hv
    have hi:∀ν:M,itD .seq [PV.dat (.lns ls)] ν=some (ls.map lnD):=fun ν=>rfl
    have ht:∀ν:M,biD (.isT "tuple") false [PV.dat (.lns ls)] ν=.ok (.bl true) ν:=fun ν=>jdB
    obtain⟨κ1,e⟩:=jrC d0 (some (PV.dat (.lns ls))) μ (jcv .seq [PV.dat (.lns ls)] (ls.map lnD)) (fun ν=>jb7 (hi ν)) ls κ ws o3 hL (by omega)
    refine⟨κ1,none,?_,?_⟩
    ·unfold ja8
     symm
     rwa[ht]
     rw[jeD (hi _),e]
     rfl
    ·show(jaA (ls.map lnP)).length<=16
     rw[ja0,j0f]
     omega
   |fst fs=>
    have hi:∀ν:M,itD .seq [PV.dat (.fst fs)] ν=some (fs.map D.str):=fun ν=>rfl
    have ht:∀ν:M,biD (.isT "tuple") false [PV.dat (.fst fs)] ν=.ok (.bl true) ν:=fun ν=>jdB
    have h8:fs.length<=8:=hv
    have e:=jrJ d0 (some (PV.dat (.fst fs))) (μ++κ) (jcv .seq [PV.dat (.fst fs)] (fs.map D.str)) (fun ν=>jb7 (hi ν)) fs ws o3 (by omega)
    refine⟨κ,none,?_,by show fs.length<=16;omega⟩
    unfold ja8
    symm
    rwa[ht]
    rw[jeD (hi _),e]
    rfl
  obtain⟨κ',ih⟩:=jrU d0 μ ok hok vs κ1 (ws++v.ws) none none (fun u hu=>h u (by simp[hu])) (by simp;omega)
  refine⟨κ',?_⟩
  rw[j0i,jce (ρ1:=[d0,some (.cel (μ++κ).length),some v.dat,o3]) (hok _) rfl e1,j0E,<- j0J]
  exact ih
theorem jxG {v:PV}(h:v.Ok):v.Lo:=by
 cases v with
 |nm z=>trivial
 |num n=>exact h
 |lns ls=>exact⟨h.2.1,h.2.2⟩
 |fst fs=>exact h.1
theorem jzn {qs:List Str}{vs:List PV}(h:Sh qs vs):∀v∈vs,v.Lo:=by
 induction h with
 |nil=>intro v hv;cases hv
 |one f o h1 t ih=>
  intro v hv
  rcases j0d.mp hv with e|e
  ·rw[e];exact jxG o
  ·exact ih v e
 |last f o h1=>
  intro v hv
  rw[j04.mp hv]
  exact jxG o
theorem jnU (x:Deed)(h:x.Ok)(μ:M):jah .frz jeL.F [x.dat] μ=.ok (jab x.words) μ:=by
 have hl:x.pv.length<=6:=by
  cases x<;>(simp only[Deed.pv,j0b,j0x];omega)
 have hi:∀ν:M,itD .seq [x.dat] ν=some ((PV.nm x.w::x.pv).map PV.dat):=fun ν=>by rw[jhE];rfl
 obtain⟨κ,e⟩:=jrU (some x.dat) μ (jcv .seq [x.dat] ((PV.nm x.w::x.pv).map PV.dat)) (fun ν=>jb7 (hi ν)) (PV.nm x.w::x.pv) [] [] none none (fun v hv=>by
  rcases j0d.mp hv with q|q
  ·rw[q];trivial
  ·exact jzn (jmT x h) v q) (by simp;omega)
 rw[j0l,j0z,j1y]at e
 refine je2 (F:=jeC) (d:=.cel (μ++κ).length) (ν:=κ++[some (.lst (x.words.map D.str))]) ?_ ?_
 ·unfold jeC jeO
  symm
  rwa[jeD (hi _),e]
  rw[<- j0J]
  rfl
 ·rw[<- j0J]
  exact jpn (by simp) jfy (jlu _)
theorem jg7 (T:Str)(hT:T.length<=10000)(μ:M):jah .frz jdb.F [.str T] μ=.ok (jab ((wc [] T.cps.toList).map sTx)) μ:=by
 refine jak (F:=jfJ) ?_ (jpk (jlu _ _))
 have hs:mtD .split (.str T) [.str " "] μ=.ok (.lst ((Txt.split T " ").map D.str)) μ:=if_pos ⟨by ac_rfl,by omega⟩
 have hle:(Txt.split T (Str.ofString " ")).length<=sizeLine:=j0H (split_le T _) (jc4 (by omega))
 have hq:(ev jfN jej).v [some (.str T)] μ=.ok (.lst (((wc [] T.cps.toList).map sTx).map D.str)) μ:=by
  unfold jej
  rw[jaX (ds:=[.lst ((Txt.split T " ").map D.str)]) (xs:=Txt.split T " ") (e:=D.str) (fun z=>!decide (z=Str.ofString "")) D.str (by
   symm
   rw[hs]
   symm) rfl hle fun z hz=>⟨_,rfl,by symm,fun _=>by symm⟩]
  rw[jkE]
  rfl
 unfold jfJ jfZ
 symm
 rwa[hq]
theorem jk1 (c:Nat):(!decide ([c]<(Str.ofString "0").cps.toList))=decide (48<=c)/\(!decide ((Str.ofString "9").cps.toList<[c]))=decide (c<=57):=by
 have ea:(Str.ofString "0").cps.toList=[48]:=by ac_rfl
 have ez:(Str.ofString "9").cps.toList=[57]:=by ac_rfl
 rw[ea,ez]
 have e1:([c]<[48])↔c<48:=by simp[List.cons_lt_cons_iff]
 have e2:([57]<[c])↔57<c:=by simp[List.cons_lt_cons_iff]
 constructor
 ·rw[j0V]
  simp[e1]
 ·rw[j0V]
  simp[e2]
noncomputable def wnB (z:Str):Bool:=if 1<=z.length/\z.length<=12 then(if(z.cps.toList.all fun c=>decide (48<=c)&&decide (c<=57))then(decide (z=Str.ofString "0")||!decide (z.cps.toList.head?=some 48))else false)else false
theorem jhS (z:Str)(hz:z.length<=1000)(μ:M):jah .frz jbF.F [.str z] μ=.ok (.bl (wnB z)) μ:=by
 refine jak (F:=jbB) ?_ jbo
 have hq:(ev jbE jbh).v [some (.str z)] μ=.ok (.lst ((z.cps.toList.map fun c=>decide (48<=c)&&decide (c<=57)).map D.bl)) μ:=by
  unfold jbh
  rw[jaX (ds:=[.str z]) (xs:=z.cps.toList) (e:=fun c=>D.str ⟨#[c]⟩) (fun _=>true) (fun c=>D.bl (decide (48<=c)&&decide (c<=57))) (by symm) rfl (by
   rw[<- jcr]
   exact jad (by omega)) fun c' hc=>⟨_,rfl,by symm,fun _=>by
   symm
   rwa[le_str]
   rw[(jk1 c').1]
   by_cases h:48<=c'
   ·simp only[decide_eq_true h,if_true,j0L]
    rw[le_str,(jk1 c').2]
   ·simp only[decide_eq_false h,if_false,j0e,Bool.false_and]⟩]
  rw[j0K.mpr fun _ _=>rfl,j0I]
  rfl
 unfold jbB jbC
 symm
 rwa[len_str (jad (by omega)),jhs]
 by_cases h1:1<=z.length
 ·by_cases h2:z.length<=12
  ·simp only[show((1:Int)<=(z.length:Int))from by omega,show((z.length:Int)<=12)from by omega,decide_true,if_true]
   symm
   try simp only[show((1:Int)<=(z.length:Int))from by omega,show((z.length:Int)<=12)from by omega,decide_true,if_true]
   symm
   rwa[hq]
   rwa[jhf]
   have hw:wnB z=if(z.cps.toList.all fun c=>decide (48<=c)&&decide (c<=57))then(decide (z=Str.ofString "0")||!decide (z.cps.toList.head?=some 48))else false:=by unfold wnB;rw[if_pos ⟨h1,h2⟩]
   rw[hw]
   have e:((z.cps.toList.map fun c=>decide (48<=c)&&decide (c<=57)).all id)=(z.cps.toList.all fun c=>decide (48<=c)&&decide (c<=57)):=by rw[j1u];rfl
   rw[e]
   cases ha:(z.cps.toList.all fun c=>decide (48<=c)&&decide (c<=57))with
   |false=>
    simp only[j0M,if_true,j0e,if_false]
    symm
   |true=>
    simp only[j1z,if_true,j0e,if_false]
    symm
    by_cases hzz:z=Str.ofString "0"
    ·simp only[decide_eq_true hzz,if_false,Bool.true_eq_false,Bool.true_or]
     symm
    ·obtain⟨c,r,ec⟩:∃c r,z.cps.toList=c::r:=by
      cases hc:z.cps.toList with
      |nil=>rw[jcr,hc]at h1;simp at h1
      |cons c r=>exact⟨c,r,rfl⟩
     have h0:ixD (.str z) (.int 0) μ=.ok (.str (sTx [c])) μ:=by
      have hat:atI z.cps.toList ((0:Nat):Int)=some c:=jdC (by rw[ec];rfl)
      unfold ixD
      simp only[if_pos (show z.length<=sizeLine from jad (by omega))]
      rw[show((0:Int))=((0:Nat):Int)from rfl,hat]
      rfl
     simp only[decide_eq_false hzz,if_true,j0M]
     symm
     rwa[h0]
     rw[ec]
     have e48:decide (sTx [c]=Str.ofString "0")=decide ((c::r).head?=some 48):=by
      have h48:Str.ofString "0" =sTx [48]:=by ac_rfl
      rw[h48,decide_eq_decide]
      constructor
      ·intro q
       have:=jnw q
       simpa using this
      ·intro q
       have:c=48:=by simpa using q
       rw[this]
     rw[e48]
     simp only[Bool.false_or]
  ·have hw:wnB z=false:=by unfold wnB;rw[if_neg (by omega)]
   rw[hw]
   simp only[show((1:Int)<=(z.length:Int))from by omega,show ¬ ((z.length:Int)<=12)from by omega,decide_true,decide_false,if_true,if_false,j0e,j0M]
   symm
   try simp only[show((1:Int)<=(z.length:Int))from by omega,show ¬ ((z.length:Int)<=12)from by omega,decide_true,decide_false,if_true,if_false,j0e,j0M]
   symm
 ·have hw:wnB z=false:=by unfold wnB;rw[if_neg (by omega)]
  rw[hw]
  simp only[show ¬ ((1:Int)<=(z.length:Int))from by omega,decide_false,if_true,if_false,j0e,j0M]
  symm
theorem jiZ {n:Int}(h:Num 0 n):wnB (nTx n)=true:=by
 obtain⟨c,r,e,hd,hl,hz⟩:=jdS h.1 h.2
 unfold wnB
 rw[if_pos ⟨by rw[jcr,e];simp,hl⟩,if_pos (by rw[e,j0D];intro x hx;have:=hd x hx;simp[this])]
 by_cases h48:c=48
 ·have:nTx n=Str.ofString "0":=by
   rw[<- jhV (nTx n),e,hz h48,h48]
   ac_rfl
  rw[decide_eq_true this,Bool.true_or]
 ·rw[e]
  simp[h48]
theorem jk4:∀(k:Nat) (l:List Nat),l.length=k+1->(∀x∈l,48<=x/\x<=57)->(∀c r,l=c::r->r≠[]->c≠48)->∃m,(Nat.toDigits 10 m).map Char.toNat=l/\m<10 ^ (k+1)/\((∃c r,l=c::r/\c≠48)->1<=m)
 |0,l,hl,hd,hh=>by
  obtain⟨c,rfl⟩:=j06.mp hl
  have hc:=hd c (by simp)
  refine⟨c - 48,?_,by omega,?_⟩
  ·rw[Nat.toDigits_of_lt_base (by omega)]
   have:∀k:Nat,k<10->(Nat.digitChar k).toNat=k+48:=by decide
   rw[j0i,j0z,this _ (by omega)]
   congr 1
   omega
  ·rintro⟨c',r,e,h⟩
   cases e
   omega
 |k+1,l,hl,hd,hh=>by
  have hne:l≠[]:=fun z=>by rw[z]at hl;simp at hl
  have e:=List.dropLast_concat_getLast hne
  have hd':l.dropLast.length=k+1:=by rw[List.length_dropLast,hl];rfl
  obtain⟨c0,r0,e0⟩:∃c r,l.dropLast=c::r:=by
   cases h:l.dropLast with
   |nil=>rw[h]at hd';simp at hd'
   |cons c r=>exact⟨c,r,rfl⟩
  have el:l=c0::(r0++[l.getLast hne]):=by rw[<- List.cons_append,<- e0,e]
  have hc0:c0≠48:=hh c0 _ el (by simp)
  obtain⟨m,h1,h2,h3⟩:=jk4 k l.dropLast hd' (fun x hx=>hd x ((List.dropLast_sublist l).subset hx)) (fun c r q _=>by rw[e0]at q;cases q;exact hc0)
  have hm:=h3 ⟨c0,r0,e0,hc0⟩
  have hc:=hd (l.getLast hne) (List.getLast_mem hne)
  have t:Nat.toDigits 10 m++Nat.toDigits 10 (l.getLast hne - 48)=Nat.toDigits 10 (10*m+(l.getLast hne - 48)):=Nat.toDigits_append_toDigits (by decide) (by omega) (by omega)
  refine⟨10*m+(l.getLast hne - 48),?_,?_,fun _=>by omega⟩
  ·rw[<- t,j0Q,h1,Nat.toDigits_of_lt_base (by omega)]
   have:∀k:Nat,k<10->(Nat.digitChar k).toNat=k+48:=by decide
   rw[j0i,j0z,this _ (by omega),show l.getLast hne - 48+48=l.getLast hne from by omega]
   exact e
  ·have:10 ^ (k+1+1)=10*10 ^ (k+1):=by rw[Nat.pow_succ,Nat.mul_comm]
   omega
theorem jkx {z:Str}(h:wnB z=true):∃n,Num 0 n/\z=nTx n:=by
 unfold wnB at h
 split at h
 ·rename_i hl
  split at h
  ·rename_i ha
   rw[j0D]at ha
   have hd:∀x∈z.cps.toList,48<=x/\x<=57:=fun x hx=>by simpa using ha x hx
   have hlen:z.cps.toList.length=(z.length - 1)+1:=by rw[<- jcr];omega
   obtain⟨m,h1,h2,_⟩:=jk4 (z.length - 1) z.cps.toList hlen hd (fun c r e hr hc=>by
    rw[j1x]at h
    rcases h with h|h
    ·have hz:z=Str.ofString "0":=of_decide_eq_true h
     have:z.cps.toList=[48]:=by rw[hz];ac_rfl
     rw[this]at e
     cases e
     exact hr rfl
    ·rw[e,hc]at h
     simp at h)
   have h3:m<10 ^ 12:=j0m h2 (Nat.pow_le_pow_right (by decide) (by omega))
   refine⟨(m:Int),⟨by omega,by omega⟩,?_⟩
   rw[<- jhV z,<- h1,<- jhV (nTx (m:Int)),show(nTx (m:Int)).cps.toList=_ from PySem.W.KIN.signs_num m]
  ·cases h
 ·cases h
theorem jwb {n:Int}(h:Num 0 n)(μ:M):jah .frz jaK.F [.str (nTx n)] μ=.ok (.int n) μ:=by
 obtain⟨c,r,e,hd,hl,hz⟩:=jdS h.1 h.2
 have hi:biD .int false [.str (nTx n)] μ=.ok (.int n) μ:=by
  simp only[biD,jkU,jj6 h.1 h.2]
  rw[if_pos (by omega)]
 refine jak (F:=jbV) ?_ jbp
 unfold jbV jcu
 symm
 rwa[jhS _ (by omega),jiZ h]
 rwa[hi]
theorem jya {z:Str}(hz:z.length<=1000)(h:wnB z=false)(μ:M):jah .frz jaK.F [.str z] μ=.exc (.str "BadDeed") μ:=by
 refine jc2 (F:=jbV) ?_
 unfold jbV jcu
 symm
 rwa[jhS _ hz,h]
theorem jpw (zs:List (Str×Str))(μ:M):jr0 false (jab (jaA zs)) (some 0) (some 2) μ=.ok (jab (zs.map (·.1))) μ/\jr0 false (jab (jaA zs)) (some 1) (some 2) μ=.ok (jab (zs.map (·.2))) μ:=by
 have hf:(jaA zs).map D.str=jaA (zs.map fun p=>(D.str p.1,D.str p.2)):=by
  induction zs with
  |nil=>rfl
  |cons p zs ih=>
   show D.str p.1::D.str p.2::(jaA zs).map D.str=D.str p.1::D.str p.2::jaA (zs.map fun p=>(D.str p.1,D.str p.2))
   rw[ih]
 constructor
 ·show Out.ok (D.lst ((jcz ((jaA zs).map D.str).length 0 2).filterMap (((jaA zs).map D.str)[·]?))) μ=_
  rw[hf,jw8,j0I]
  show _=Out.ok (D.lst ((zs.map (·.1)).map D.str)) μ
  rw[j0I]
  rfl
 ·show Out.ok (D.lst ((jcz ((jaA zs).map D.str).length 1 2).filterMap (((jaA zs).map D.str)[·]?))) μ=_
  rw[hf,jvC,j0I]
  show _=Out.ok (D.lst ((zs.map (·.2)).map D.str)) μ
  rw[j0I]
  rfl
theorem jhz (q:Str)(μ:M):jah .frz jaB.F [.str q] μ=.ok (.bl (jbb q [("day",(.int 0)),("points",(.int 1)),("end",(.int 0))]).isSome) μ:=by
 refine jak (F:=jaH) ?_ jbo
 unfold jaH jbe
 symm
 rwa[jgm]
theorem jnf {z:Str}(μ:M):ixD (jab [z]) (.int 0) μ=.ok (.str z) μ:=nr rfl
theorem jnB {α:Type}{l:List α}:∀{ns:List Nat},(∀i∈ns,i<l.length)->(ns.filterMap (l[·]?)).length=ns.length
 |[],_=>rfl
 |n::ns,h=>by
  have hn:=h n (by simp)
  rw[j0G,List.getElem?_eq_getElem hn]
  simp only[j0b]
  rw[jnB fun i hi=>h i (by simp[hi])]
theorem jq3 {α:Type}(l:List α):((jcz l.length 0 2).filterMap (l[·]?)).length=(l.length+1) / 2/\((jcz l.length 1 2).filterMap (l[·]?)).length=l.length / 2:=by
 have e0:jcz l.length 0 2=(List.range ((l.length+1) / 2)).map fun k=>2*k:=by
  unfold jcz sliceRange
  have h0:max (0:Int) (min 0 (l.length:Int))=0:=by omega
  simp only[h0,if_pos (show(2:Int) > 0 by decide)]
  have hc:(if(0:Int)<(l.length:Int)then((l.length:Int) - 0+2 - 1) / 2 else 0).toNat=(l.length+1) / 2:=by split<;>omega
  rw[hc]
  refine List.map_congr_left fun k _=>?_
  omega
 have e1:jcz l.length 1 2=(List.range (l.length / 2)).map fun k=>1+2*k:=by
  unfold jcz sliceRange
  by_cases hz:l.length=0
  ·rw[hz]
   rfl
  ·have h0:max (0:Int) (min 1 (l.length:Int))=1:=by omega
   simp only[h0,if_pos (show(2:Int) > 0 by decide)]
   have hc:(if(1:Int)<(l.length:Int)then((l.length:Int) - 1+2 - 1) / 2 else 0).toNat=l.length / 2:=by split<;>omega
   rw[hc]
   refine List.map_congr_left fun k _=>?_
   omega
 constructor
 ·rw[jnB,e0,j0f,List.length_range]
  rw[e0]
  intro i hi
  obtain⟨k,hk,rfl⟩:=j0s.mp hi
  have:=j1d.mp hk
  omega
 ·rw[jnB,e1,j0f,List.length_range]
  rw[e1]
  intro i hi
  obtain⟨k,hk,rfl⟩:=j0s.mp hi
  have:=j1d.mp hk
  omega
theorem jlz {α:Type}:∀(n:Nat) (l:List α),l.length=2*n->∃ps,l=jaA ps
 |0,l,h=>⟨[],j1c.mp h⟩
 |n+1,l,h=>by
  match l,h with
  |a::b::l,h=>
   obtain⟨ps,rfl⟩:=jlz n l (by simp only[j0b]at h;omega)
   exact⟨(a,b)::ps,rfl⟩
  |[],h=>simp at h
  |[a],h=>simp only[j0b,j0x]at h;omega
theorem jg6 {α:Type}:∀{a b:List (α×α)},jaA a=jaA b->a=b
 |[],[],_=>rfl
 |[],b::bs,h=>by cases h
 |a::as,[],h=>by cases h
 |a::as,b::bs,h=>by
  have h':a.1::a.2::jaA as=b.1::b.2::jaA bs:=h
  injection h' with h1 h'
  injection h' with h2 h3
  rw[jg6 h3,Prod.ext h1 h2]
def jrW (ls:List Ln):Prop:=∀p∈ls,Num 0 p.2
theorem juZ (a b:Str)(d0 d1 d2:Option D)(μ:M):evX jay (.tp (.var 0) (.call 0 .frz [.var 1])) [some (.str a),some (.str b),d0,d1,d2] μ=(jah .frz jaK.F [.str b] μ).bind fun y μ2=>.ok (.tup [.str a,y]) μ2:=by
 have e:∀y μ2,noX (if [D.str a,y].length<=sizeLine then Out.ok (D.tup [.str a,y]) μ2 else .bad)=.ok (.tup [.str a,y]) μ2:=fun y μ2=>by
  rw[if_pos (show [D.str a,y].length<=sizeLine from jad (by show 2<=_;omega))]
  rfl
 show(jah .frz jaK.F [.str b] μ).bind (fun y μ2=>noX (if [D.str a,y].length<=sizeLine then Out.ok (D.tup [.str a,y]) μ2 else .bad))=_
 simp only[e]
theorem jnK (d0 d1 d2:Option D)(μ:M)(ok:M->Bool)(hok:ok μ=true):∀(ps:List (Str×Str)) (acc:List D),(∀p∈ps,p.2.length<=1000) ->
  (∃ls:List Ln,jrW ls/\ps=ls.map lnP/\jd0 ok (.tp [0,1]) (evX jay (.tp (.var 0) (.call 0 .frz [.var 1]))) [none,none,d0,d1,d2] acc (ps.map fun p=>D.tup [.str p.1,.str p.2]) μ=.ok (.lst (acc++ls.map lnD)) μ) ∨
  ((∀ls:List Ln,jrW ls->ps≠ls.map lnP)/\jd0 ok (.tp [0,1]) (evX jay (.tp (.var 0) (.call 0 .frz [.var 1]))) [none,none,d0,d1,d2] acc (ps.map fun p=>D.tup [.str p.1,.str p.2]) μ=.exc (.str "BadDeed") μ)
 |[],acc,_=>.inl ⟨[],(fun p hp=>by cases hp),rfl,by
  rw[j0z,j0z,j0l]
  unfold jd0
  rw[if_pos hok]⟩
 |p::ps,acc,h=>by
  have e:∀o,(jah .frz jaK.F [.str p.2] μ).bind (fun y μ2=>.ok (.tup [.str p.1,y]) μ2)=o->jd0 ok (.tp [0,1]) (evX jay (.tp (.var 0) (.call 0 .frz [.var 1]))) [none,none,d0,d1,d2] acc ((p::ps).map fun p=>D.tup [.str p.1,.str p.2]) μ=o.bind fun y μ1=>jd0 ok (.tp [0,1]) (evX jay (.tp (.var 0) (.call 0 .frz [.var 1]))) [none,none,d0,d1,d2] (acc++[y]) (ps.map fun p=>D.tup [.str p.1,.str p.2]) μ1:=fun o ho=>by
   rw[j0i,jd0,if_pos hok]
   show(evX jay (.tp (.var 0) (.call 0 .frz [.var 1])) [some (.str p.1),some (.str p.2),d0,d1,d2] μ).bind _=_
   rw[juZ,ho]
  cases hw:wnB p.2 with
  |true=>
   obtain⟨n,hn,en⟩:=jkx hw
   rw[e (.ok (.tup [.str p.1,.int n]) μ) (by rw[en,jwb hn];rfl)]
   rcases jnK d0 d1 d2 μ ok hok ps (acc++[.tup [.str p.1,.int n]]) (fun q hq=>h q (by simp[hq]))with⟨ls,h1,h2,h3⟩|⟨h1,h3⟩
   ·refine .inl ⟨(p.1,n)::ls,fun q hq=>?_,by rw[j0i,<- h2];congr 1;exact Prod.ext rfl en,?_⟩
    ·rcases j0d.mp hq with rfl|hq
     ·exact hn
     ·exact h1 q hq
    ·show jd0 _ _ _ _ _ _ _=_
     rw[h3,j0J]
     rfl
   ·refine .inr ⟨fun ls hl he=>?_,h3⟩
    cases ls with
    |nil=>cases he
    |cons l ls=>
     rw[j0i]at he
     injection he with he1 he2
     exact h1 ls (fun q hq=>hl q (by simp[hq])) he2
  |false=>
   rw[e (.exc (.str "BadDeed") μ) (by rw[jya (h p (by simp)) hw];rfl)]
   refine .inr ⟨fun ls hl he=>?_,rfl⟩
   cases ls with
   |nil=>cases he
   |cons l ls=>
    rw[j0i]at he
    injection he with he1 he2
    have:=jiZ (hl l (by simp))
    rw[show nTx l.2=p.2 from by rw[he1];rfl]at this
    rw[this]at hw
    cases hw
theorem jfY:∀ps:List (Str×Str),jgs ((ps.map (·.1)).map D.str) ((ps.map (·.2)).map D.str)=ps.map fun p=>D.tup [.str p.1,.str p.2]
 |[]=>rfl
 |p::ps=>by
  simp only[j0i]
  unfold jgs
  rw[jfY ps]
theorem jlH {ds:List D}{μ:M}:biD .len false [.lst ds] μ=.ok (.int ds.length) μ:=nr rfl
theorem jzB (ws:List Str)(hl:ws.length<=1000)(hw:∀z∈ws,z.length<=1000)(μ:M) :
  (∃ls:List Ln,jrW ls/\ws=jaA (ls.map lnP)/\jah .frz jbG.F [jab ws] μ=.ok (jpm ls) μ)∨((∀ls:List Ln,jrW ls->ws≠jaA (ls.map lnP))/\jah .frz jbG.F [jab ws] μ=.exc (.str "BadDeed") μ):=by
 by_cases hp:ws.length % 2=0
 ·obtain⟨ps,rfl⟩:=jlz (ws.length / 2) ws (by omega)
  rw[ja0]at hl
  obtain⟨s0,s1⟩:=jpw ps μ
  have hx:∀o,jd0 (jcv .zip [jab (ps.map (·.1)),jab (ps.map (·.2))] (ps.map fun p=>D.tup [.str p.1,.str p.2])) (.tp [0,1]) (evX jay (.tp (.var 0) (.call 0 .frz [.var 1]))) [none,none,some (jab (jaA ps)),some (jab (ps.map (·.1))),some (jab (ps.map (·.2)))] [] (ps.map fun p=>D.tup [.str p.1,.str p.2]) μ=o ->
    evX jay jbt [some (jab (jaA ps)),some (jab (ps.map (·.1))),some (jab (ps.map (·.2)))] μ=o:=fun o ho=>by
   have hz:itD .zip [jab (ps.map (·.1)),jab (ps.map (·.2))] μ=some (ps.map fun p=>D.tup [.str p.1,.str p.2]):=by
    show some (jgs ((ps.map (·.1)).map D.str) ((ps.map (·.2)).map D.str))=_
    rw[jfY]
   unfold jbt
   show(match itD .zip [jab (ps.map (·.1)),jab (ps.map (·.2))] μ with
    |some xs=>if xs.length<=sizeLine then jd0 (jcv .zip [jab (ps.map (·.1)),jab (ps.map (·.2))] xs) (.tp [0,1]) (evX jay (.tp (.var 0) (.call 0 .frz [.var 1]))) [none,none,some (jab (jaA ps)),some (jab (ps.map (·.1))),some (jab (ps.map (·.2)))] [] xs μ else .bad
    |none=>.bad)=o
   rw[hz]
   show(if(ps.map fun p=>D.tup [.str p.1,.str p.2]).length<=sizeLine then _ else _)=o
   rw[if_pos (by rw[j0f];exact jad (by omega))]
   exact ho
  have hst:∀{o:Out D},evX jay jbt [some (jab (jaA ps)),some (jab (ps.map (·.1))),some (jab (ps.map (·.2)))] μ=o->jbk [jab (jaA ps)] μ=jgp ((o.bind fun x μ1=>noX (tupleD [x] μ1)).bind fun d μ1=>.ok (.rt d) μ1):=fun {o} ho=>by
   unfold jbk jc1
   symm
   rwa[s0]
   rwa[s1]
   rwa[jaY]
   rwa[jaY]
   simp only[j0f,decide_true,j1z,if_false,j0e]
   symm
   show jgp (jmi ((((evX jay jbt _ μ).bind fun x μ1=>noX (tupleD [x] μ1)).bind fun d μ1=>.ok (.rt d) μ1)) _)=_
   rw[ho]
   cases o with
   |ok d μ1=>cases htu:tupleD [d] μ1<;>(simp only[Out.bind,htu,noX];rfl)
   |exc x μ1=>rfl
   |bad=>rfl
  rcases jnK (some (jab (jaA ps))) (some (jab (ps.map (·.1)))) (some (jab (ps.map (·.2)))) μ (jcv .zip [jab (ps.map (·.1)),jab (ps.map (·.2))] (ps.map fun p=>D.tup [.str p.1,.str p.2])) (jb7 (by
    show some (jgs ((ps.map (·.1)).map D.str) ((ps.map (·.2)).map D.str))=_
    rw[jfY])) ps [] (fun p hp=>hw p.2 (List.mem_flatMap.mpr ⟨p,hp,by simp⟩))with⟨ls,h1,h2,h3⟩|⟨h1,h3⟩
  ·refine .inl ⟨ls,h1,by rw[h2],jak (F:=jbk) ?_ (jfM ls)⟩
   rw[hst (hx _ h3)]
   rfl
  ·refine .inr ⟨fun ls hl he=>h1 ls hl (jg6 he),jc2 (F:=jbk) ?_⟩
   rw[hst (hx _ h3)]
   rfl
 ·refine .inr ⟨fun ls _ he=>hp (by rw[he,ja0];omega),jc2 (F:=jbk) ?_⟩
  have hle:(ws.map D.str).length=ws.length:=j0f ..
  obtain⟨l0,l1⟩:=jq3 (ws.map D.str)
  have s0:jr0 false (jab ws) (some 0) (some 2) μ=.ok (.lst ((jcz (ws.map D.str).length 0 2).filterMap ((ws.map D.str)[·]?))) μ:=rfl
  have s1:jr0 false (jab ws) (some 1) (some 2) μ=.ok (.lst ((jcz (ws.map D.str).length 1 2).filterMap ((ws.map D.str)[·]?))) μ:=rfl
  generalize (jcz (ws.map D.str).length 0 2).filterMap ((ws.map D.str)[·]?)=x0 at *
  generalize (jcz (ws.map D.str).length 1 2).filterMap ((ws.map D.str)[·]?)=x1 at *
  unfold jbk jc1
  symm
  rwa[s0]
  rwa[s1]
  rwa[jlH]
  rwa[jlH]
  simp only[show ¬ ((x0.length:Int)=(x1.length:Int))from by omega,decide_false,j0M,if_true]
  symm
noncomputable def PV.Raw:PV->Prop
 |.nm z=>z.length<=1000
 |.num n=>Num 0 n
 |.lns ls=>jrW ls/\ls.length<=1000/\∀p∈ls,p.1.length<=1000
 |.fst fs=>fs.length<=1000/\∀z∈fs,z.length<=1000
def jj4 (q:Str):Prop:=(q = "ref"∨q = "purse"∨q = "other"∨q = "of")∨(q = "day"∨q = "points"∨q = "end")
theorem joy {q:Str}(h:jj4 q):q≠Str.ofString "first"/\q≠Str.ofString "lines":=by
 rcases h with(rfl|rfl|rfl|rfl)|(rfl|rfl|rfl)<;>exact⟨by ac_rfl,by ac_rfl⟩
theorem jjV {q:Str}{v:PV}(h:jj4 q)(f:jhZ q v):v.one=true:=by
 obtain⟨h1,h2⟩:=joy h
 cases v with
 |nm _=>rfl
 |num _=>rfl
 |lns _=>exact absurd f h2
 |fst _=>exact absurd f h1
theorem jnP {v:PV}(h:v.one=true):∃z,v.ws=[z]:=by
 cases v with
 |nm z=>exact⟨z,rfl⟩
 |num n=>exact⟨_,rfl⟩
 |_=>cases h
theorem jkv {q:Str}{ws:List Str}(h:jj4 q)(μ:M){o:Out Fl}(ho:runYs jeQ [.ite (.call 1 .frz [(.var 0)])
   [.ret (.call 2 .frz [(.ix (.var 1) (.cst (.int 0)))])]
   [],
  .st (.ret (.ix (.var 1) (.cst (.int 0))))] [some (.str q),some (jab ws)] μ=o) (hl:ws.length=1):jaz [.str q,jab ws] μ=jgp o:=by
 obtain⟨h1,h2⟩:=joy h
 rw[<- ho]
 unfold jaz jb6
 symm
 simp only[decide_eq_false h1,if_false,j0e]
 symm
 simp only[decide_eq_false h2,if_false,j0e]
 symm
 rwa[jaY]
 simp only[hl,show(((1:Nat):Int)=1)from rfl,decide_true,j1z,if_false,j0e]
 symm
theorem jxw {q:Str}{ws:List Str}(h:jj4 q)(μ:M)(hl:ws.length≠1):jah .frz jaU.F [.str q,jab ws] μ=.exc (.str "BadDeed") μ:=by
 obtain⟨h1,h2⟩:=joy h
 refine jc2 (F:=jaz) ?_
 unfold jaz jb6
 symm
 simp only[decide_eq_false h1,if_false,j0e]
 symm
 simp only[decide_eq_false h2,if_false,j0e]
 symm
 rwa[jaY]
 simp only[show ¬ ((ws.length:Int)=1)from by omega,decide_false,j0M,if_true]
 symm
theorem jx2 {q:Str}(h:jj4 q)(z:Str)(hz:z.length<=1000)(μ:M):(∃v,jhZ q v/\v.Raw/\v.ws=[z]/\jah .frz jaU.F [.str q,jab [z]] μ=.ok v.dat μ)∨((∀v,jhZ q v->v.Raw->v.ws≠[z])/\jah .frz jaU.F [.str q,jab [z]] μ=.exc (.str "BadDeed") μ):=by
 rcases h with h|h
 ·have hn:jah .frz jaB.F [.str q] μ=.ok (.bl false) μ:=by
   rw[jhz]
   rcases h with rfl|rfl|rfl|rfl<;>rfl
  refine .inl ⟨.nm z,h,hz,rfl,jak (F:=jaz) ?_ jaw⟩
  refine jkv (.inl h) μ (o:=.ok (.rt (.str z)) μ) ?_ rfl
  symm
  rwa[hn]
  rwa[jnf]
 ·have hn:jah .frz jaB.F [.str q] μ=.ok (.bl true) μ:=by
   rw[jhz]
   rcases h with rfl|rfl|rfl<;>rfl
  cases hw:wnB z with
  |true=>
   obtain⟨n,h1,rfl⟩:=jkx hw
   refine .inl ⟨.num n,h,h1,rfl,jak (F:=jaz) ?_ jbp⟩
   refine jkv (.inr h) μ (o:=.ok (.rt (.int n)) μ) ?_ rfl
   symm
   rwa[hn]
   rwa[jnf]
   rwa[jwb h1]
  |false=>
   refine .inr ⟨fun v hf hr he=>?_,jc2 (F:=jaz) ?_⟩
   ·cases v with
    |num n=>
     have e:nTx n=z:=by injection he
     rw[<- e,jiZ hr]at hw
     cases hw
    |nm z=>
     rcases hf with rfl|rfl|rfl|rfl<;>revert h<;>ac_rfl
    |lns ls=>
     have hf':q = "lines":=hf
     subst hf'
     revert h
     ac_rfl
    |fst fs=>
     have hf':q = "first":=hf
     subst hf'
     revert h
     ac_rfl
   ·refine jkv (.inr h) μ (o:=.exc (.str "BadDeed") μ) ?_ rfl
    symm
    rwa[hn]
    rwa[jnf]
    rwa[jya hz hw]
theorem jsu {q:Str} (h:q = "lines"∨q = "first") (ws:List Str) (hl:ws.length<=1000) (hw:∀z∈ws,z.length<=1000) (μ:M):(∃v,jhZ q v/\v.Raw/\v.one=false/\v.ws=ws/\jah .frz jaU.F [.str q,jab ws] μ=.ok v.dat μ)∨((∀v,jhZ q v->v.Raw->v.ws≠ws)/\jah .frz jaU.F [.str q,jab ws] μ=.exc (.str "BadDeed") μ):=by
 rcases h with rfl|rfl
 ·have hd:∀{o:Out D},jah .frz jbG.F [jab ws] μ=o->jaz [.str "lines",jab ws] μ=jgp (o.bind fun d μ1=>.ok (.rt d) μ1):=fun {o} ho=>by
   unfold jaz jb6
   symm
   simp only[show ¬ (Str.ofString "lines" =Str.ofString "first")from by ac_rfl,decide_false,decide_true,if_true,if_false,j0e]
   symm
   try simp only[decide_true,if_true]
   symm
   rw[ho]
   cases o<;>rfl
  rcases jzB ws hl hw μ with⟨ls,h1,h2,h3⟩|⟨h1,h3⟩
  ·refine .inl ⟨.lns ls,rfl,⟨h1,?_,fun p hp=>hw p.1 ?_⟩,rfl,h2.symm,jak (F:=jaz) (by rw[hd h3];rfl) (jfM ls)⟩
   ·rw[h2,ja0,j0f]at hl
    omega
   ·rw[h2]
    exact List.mem_flatMap.mpr ⟨lnP p,j0s.mpr ⟨p,hp,rfl⟩,by simp[lnP]⟩
  ·refine .inr ⟨fun v hf hr he=>?_,jc2 (F:=jaz) (by rw[hd h3];rfl)⟩
   cases v with
   |lns ls=>exact h1 ls hr.1 he.symm
   |nm z=>rcases hf with hf|hf|hf|hf<;>revert hf<;>ac_rfl
   |num n=>rcases hf with hf|hf|hf<;>revert hf<;>ac_rfl
   |fst fs=>
    have hf':Str.ofString "lines" =Str.ofString "first":=hf
    revert hf'
    ac_rfl
 ·have hb:biD .tuple false [jab ws] μ=.ok (PV.dat (.fst ws)) μ:=nr rfl
  refine .inl ⟨.fst ws,rfl,⟨hl,hw⟩,rfl,rfl,jak (F:=jaz) ?_ (jr8 (.fst ws))⟩
  unfold jaz jb6
  symm
  simp only[decide_true,if_true]
  symm
  rwa[hb]
theorem jsc {zs:List Str}(μ:M):slD false (jab zs) none (some 1) μ=.ok (jab (zs.take 1)) μ:=jga 1 μ
theorem jlT {zs:List Str}(μ:M):slD false (jab zs) (some 1) none μ=.ok (jab (zs.drop 1)) μ:=jfC 1 μ
theorem jz2 {w:Str}{ws:List Str}(μ:M):ixD (jab (w::ws)) (.int 0) μ=.ok (.str w) μ:=by
 have e:atI ((w::ws).map D.str) ((0:Nat):Int)=some (.str w):=jdC rfl
 show(match atI ((w::ws).map D.str) (0:Int)with|some d=>Out.ok d μ|none=>.bad)=_
 rw[show((0:Int))=((0:Nat):Int)from rfl,e]
inductive ShR:List Str->List PV->Prop
 |nil:ShR [] []
 |one {q:Str} {v:PV} {qs:List Str} {vs:List PV}:jhZ q v->v.Raw->v.one=true->ShR qs vs->ShR (q::qs) (v::vs)
 |last {q:Str} {v:PV}:jhZ q v->v.Raw->v.one=false->ShR [q] [v]
inductive QL:List Str->Prop
 |nil:QL []
 |one {q:Str} {qs:List Str}:jj4 q->QL qs->QL (q::qs)
 |last {q:Str}:(q = "lines"∨q = "first")->QL [q]
theorem jnX {q:Str} {v:PV} (h:q = "lines"∨q = "first") (f:jhZ q v):v.one=false:=by
 cases v with
 |lns _=>rfl
 |fst _=>rfl
 |nm z=>rcases h with rfl|rfl<;>rcases f with f|f|f|f<;>exact absurd f (by ac_rfl)
 |num n=>rcases h with rfl|rfl<;>rcases f with f|f|f<;>exact absurd f (by ac_rfl)
theorem jiW {q:Str}(h:jj4 q)(μ:M):jdM .In (.str q) (.tup [.str "lines",.str "first"]) μ=.ok (.bl false) μ:=by
 rcases h with(rfl|rfl|rfl|rfl)|(rfl|rfl|rfl)<;>rfl
theorem jod {q:Str} (h:q = "lines"∨q = "first") (μ:M):jdM .In (.str q) (.tup [.str "lines",.str "first"]) μ=.ok (.bl true) μ:=by
 rcases h with rfl|rfl<;>rfl
noncomputable abbrev rdL (ok:M->Bool) (qs:List Str) (ρ:S3) (μ:M):Out Fl:=jds ok (.nm 4) (runYs jbg ja5) [4,5] (qs.map D.str) ρ μ
theorem jld (d0 d1 o5 o6:Option D) {q:Str} (h:jj4 q) (ds:List D) (z:Str) (ah:List Str) (μ:M) (hd:ds.length<=100) {o:Out D} (ho:jah .frz jaU.F [.str q,jab [z]] (μ++[some (.lst ds)])=o) (hx:(∃d,o=.ok d (μ++[some (.lst ds)]))∨o=.exc (.str "BadDeed") (μ++[some (.lst ds)])) :
  runYs jbg ja5 [d0,d1,some (.cel μ.length),some (jab (z::ah)),some (.str q),o5,o6] (μ++[some (.lst ds)])=match o with
   |.ok d _=>.ok (.nx [d0,d1,some (.cel μ.length),some (jab ah),some (.str q),some (.int 1),o6]) (μ++[some (.lst (ds++[d]))])
   |_=>.exc (.str "BadDeed") (μ++[some (.lst ds)]):=by
 unfold ja5
 symm
 rwa[jiW h]
 rwa[jsc]
 rw[show(z::ah).take 1=[z]from rfl,ho]
 rcases hx with⟨d,rfl⟩|rfl
 ·symm
  rwa[show jmJ (.cel μ.length) [d] (μ++[some (.lst ds)])=_ from jek (jc4 (by omega))]
  rwa[jlT]
  rfl
 ·symm
theorem jjN (d0 d1 o5 o6:Option D) {q:Str} (h:q = "lines"∨q = "first") (ds:List D) (ah:List Str) (μ:M) (hd:ds.length<=100) {o:Out D} (ho:jah .frz jaU.F [.str q,jab ah] (μ++[some (.lst ds)])=o) (hx:(∃d,o=.ok d (μ++[some (.lst ds)]))∨o=.exc (.str "BadDeed") (μ++[some (.lst ds)])) :
  runYs jbg ja5 [d0,d1,some (.cel μ.length),some (jab ah),some (.str q),o5,o6] (μ++[some (.lst ds)])=match o with
   |.ok d _=>.ok (.nx [d0,d1,some (.cel μ.length),some (jab []),some (.str q),some (.int (ah.length:Int)),o6]) (μ++[some (.lst (ds++[d]))])
   |_=>.exc (.str "BadDeed") (μ++[some (.lst ds)]):=by
 unfold ja5
 symm
 rwa[jod h]
 rwa[jaY]
 rwa[jga,List.take_length]
 rw[ho]
 rcases hx with⟨d,rfl⟩|rfl
 ·symm
  rwa[show jmJ (.cel μ.length) [d] (μ++[some (.lst ds)])=_ from jek (jc4 (by omega))]
  rwa[jfC,List.drop_length]
 ·symm
theorem jaC {q:Str}{qs:List Str}{vs:List PV}(hq:jj4 q)(h:ShR (q::qs) vs):∃v vs' z,vs=v::vs'/\jhZ q v/\v.Raw/\v.ws=[z]/\ShR qs vs':=by
 cases h with
 |one f r o t=>
  obtain⟨z,hz⟩:=jnP o
  exact⟨_,_,z,rfl,f,r,hz,t⟩
 |last f r o=>rw[jjV hq f]at o;cases o
theorem jgl {q:Str} {vs:List PV} (hq:q = "lines"∨q = "first") (h:ShR [q] vs):∃v,vs=[v]/\jhZ q v/\v.Raw:=by
 cases h with
 |one f r o t=>rw[jnX hq f]at o;cases o
 |last f r o=>exact⟨_,rfl,f,r⟩
theorem jzo (d0 d1 o6:Option D)(μ:M)(ok:M->Bool)(hok:∀ν,ok ν=true){qs:List Str}(h:QL qs):∀(ds:List D) (ah:List Str) (o4 o5:Option D),ds.length+qs.length<=100->ah.length<=1000->(∀z∈ah,z.length<=1000) ->
  (∃vs r,ShR qs vs/\ah=vs.flatMap PV.ws++r/\(r≠[]->∀vs',ShR qs vs'->vs'.flatMap PV.ws≠ah)/\rdL ok qs [d0,d1,some (.cel μ.length),some (jab ah),o4,o5,o6] (μ++[some (.lst ds)])=.ok (.nx [d0,d1,some (.cel μ.length),some (jab r),none,none,o6]) (μ++[some (.lst (ds++vs.map PV.dat))])) ∨
  ((∀vs',ShR qs vs'->vs'.flatMap PV.ws≠ah)/\∃es,rdL ok qs [d0,d1,some (.cel μ.length),some (jab ah),o4,o5,o6] (μ++[some (.lst ds)])=.exc (.str "BadDeed") (μ++[some (.lst es)])):=by
 induction h with
 |nil=>
  intro ds ah o4 o5 _ _ _
  refine .inl ⟨[],ah,.nil,rfl,fun hr vs' h' e=>?_,?_⟩
  ·cases h'
   exact hr e.symm
  ·show jds ok _ _ _ [] _ _=_
   rw[jcw (hok _),j0z,j0l]
   rfl
 | @one q qs hq t ih=>
  intro ds ah o4 o5 hl ha hw
  simp only[j0b]at hl
  cases ah with
  |nil=>
   refine .inr ⟨fun vs' h' e=>?_,ds,?_⟩
   ·obtain⟨v,vs,z,rfl,_,_,hz,_⟩:=jaC hq h'
    rw[j0E,hz]at e
    cases e
   ·show jds ok _ _ _ (D.str q::qs.map D.str) _ _=_
    refine jh9 (ρ1:=[d0,d1,some (.cel μ.length),some (jab []),some (.str q),o5,o6]) (hok _) rfl ?_
    unfold ja5
    symm
    rwa[jiW hq]
    rwa[jsc]
    rwa[show([]:List Str).take 1=[]from rfl,jxw hq _ (by decide)]
  |cons z ah=>
   have hz:=hw z (by simp)
   rcases jx2 hq z hz (μ++[some (.lst ds)])with⟨v,f,r,e,hc⟩|⟨hn,hc⟩
   ·have hstep:rdL ok (q::qs) [d0,d1,some (.cel μ.length),some (jab (z::ah)),o4,o5,o6] (μ++[some (.lst ds)])=rdL ok qs [d0,d1,some (.cel μ.length),some (jab ah),none,none,o6] (μ++[some (.lst (ds++[v.dat]))]):=by
     show jds ok _ _ _ (D.str q::qs.map D.str) _ _=_
     rw[jce (ρ1:=[d0,d1,some (.cel μ.length),some (jab (z::ah)),some (.str q),o5,o6]) (ρ2:=[d0,d1,some (.cel μ.length),some (jab ah),some (.str q),some (.int 1),o6]) (μ2:=μ++[some (.lst (ds++[v.dat]))]) (hok _) rfl ?_]
     ·rfl
     ·rw[jld d0 d1 o5 o6 hq ds z ah μ (by omega) hc (.inl ⟨_,rfl⟩)]
    rcases ih (ds++[v.dat]) ah none none (by simp;omega) (by simp only[j0b]at ha;omega) (fun y hy=>hw y (by simp[hy]))with⟨vs,r',s1,s2,s3,s4⟩|⟨s1,es,s4⟩
    ·refine .inl ⟨v::vs,r',.one f r (jjV hq f) s1,by rw[j0E,e,j0J,<- s2];rfl,fun hr vs' h' he=>?_,?_⟩
     ·obtain⟨v2,vs2,z2,rfl,_,_,hz2,t2⟩:=jaC hq h'
      rw[j0E,hz2]at he
      injection he with _ he
      exact s3 hr vs2 t2 he
     ·rw[hstep,s4,j0i,j0J]
      rfl
    ·refine .inr ⟨fun vs' h' he=>?_,es,by rw[hstep];exact s4⟩
     obtain⟨v2,vs2,z2,rfl,_,_,hz2,t2⟩:=jaC hq h'
     rw[j0E,hz2]at he
     injection he with _ he
     exact s1 vs2 t2 he
   ·refine .inr ⟨fun vs' h' he=>?_,ds,?_⟩
    ·obtain⟨v2,vs2,z2,rfl,f2,r2,hz2,t2⟩:=jaC hq h'
     rw[j0E,hz2]at he
     injection he with he _
     exact hn v2 f2 r2 (by rw[hz2,he])
    ·show jds ok _ _ _ (D.str q::qs.map D.str) _ _=_
     refine jh9 (ρ1:=[d0,d1,some (.cel μ.length),some (jab (z::ah)),some (.str q),o5,o6]) (hok _) rfl ?_
     rw[jld d0 d1 o5 o6 hq ds z ah μ (by omega) hc (.inr rfl)]
 | @last q hq=>
  intro ds ah o4 o5 hl ha hw
  simp only[j0b,j0x]at hl
  rcases jsu hq ah ha hw (μ++[some (.lst ds)])with⟨v,f,r,o,e,hc⟩|⟨hn,hc⟩
  ·refine .inl ⟨[v],[],.last f r o,by rw[j0E,List.flatMap_nil,j0l,j0l,e],fun hr=>absurd rfl hr,?_⟩
   show jds ok _ _ _ [D.str q] _ _=_
   rw[jce (ρ1:=[d0,d1,some (.cel μ.length),some (jab ah),some (.str q),o5,o6]) (ρ2:=[d0,d1,some (.cel μ.length),some (jab []),some (.str q),some (.int (ah.length:Int)),o6]) (μ2:=μ++[some (.lst (ds++[v.dat]))]) (hok _) rfl ?_,jcw (hok _)]
   ·rfl
   ·rw[jjN d0 d1 o5 o6 hq ds ah μ (by omega) hc (.inl ⟨_,rfl⟩)]
  ·refine .inr ⟨fun vs' h' he=>?_,ds,?_⟩
   ·obtain⟨v2,rfl,f2,r2⟩:=jgl hq h'
    rw[j0E,List.flatMap_nil,j0l]at he
    exact hn v2 f2 r2 he
   ·show jds ok _ _ _ [D.str q] _ _=_
    refine jh9 (ρ1:=[d0,d1,some (.cel μ.length),some (jab ah),some (.str q),o5,o6]) (hok _) rfl ?_
    rw[jjN d0 d1 o5 o6 hq ds ah μ (by omega) hc (.inr rfl)]
noncomputable def jsz (ls:List Ln):Bool:=decide (1<=ls.length/\ls.length<=8)&&ls.all fun p=>jal p.1
noncomputable def jvs (fs:List Str):Bool:=decide (fs.length<=8)&&(fs.all jal&&jxa fs)
noncomputable def okV (q:Str):PV->Bool
 |.nm z=>jal z
 |.num n=>decide ((if q = "points" then 1 else 0)<=n)
 |.lns ls=>jsz ls
 |.fst fs=>jvs fs
noncomputable def lnB:D->Bool
 |.tup [.str z,_]=>jal z
 |_=>false
noncomputable def nmB:D->Bool
 |.str z=>jal z
 |_=>false
theorem jwB {q:Str}{v:PV}(f:jhZ q v)(r:v.Raw)(μ:M):jah .frz jaD.F [.str q,v.dat] μ=.ok (.bl (okV q v)) μ:=by
 cases v with
 |nm z=>rcases f with rfl|rfl|rfl|rfl<;>exact jAT _ (by ac_rfl) (by ac_rfl) _ μ _ (by ac_rfl) (jfS z r μ)
 |num n=>
  rcases f with rfl|rfl|rfl
  ·exact jy5 _ (by ac_rfl) (by ac_rfl) n 0 μ rfl
  ·exact jy5 _ (by ac_rfl) (by ac_rfl) n 1 μ rfl
  ·exact jy5 _ (by ac_rfl) (by ac_rfl) n 0 μ rfl
 |lns ls=>
  have f':q = "lines":=f
  subst f'
  refine jqC μ ?_
  show jah .frz jb5.F [.tup (ls.map lnD)] μ=.ok (.bl (jsz ls)) μ
  unfold jsz
  by_cases h:1<=ls.length/\ls.length<=8
  ·rw[joV lnB (by simpa using h.1) (by simpa using h.2) μ fun d hd=>by
    obtain⟨p,hp,rfl⟩:=j0s.mp hd
    exact juf (r.2.2 p hp) (r.1 p hp).1 μ,decide_eq_true h,j0L,j1u]
   rfl
  ·rw[jnQ (by rw[j0f];omega),decide_eq_false h]
   rfl
 |fst fs=>
  have f':q = "first":=f
  subst f'
  refine jpx μ ?_
  show jah .frz jaE.F [.tup (fs.map D.str)] μ=.ok (.bl (jvs fs)) μ
  unfold jvs
  by_cases h:fs.length<=8
  ·rw[jtE nmB (by simpa using h) μ (fun d hd=>by
    obtain⟨z,hz,rfl⟩:=j0s.mp hd
    exact jfS z (r.2 z hz) μ) (jxa fs) (fun _=>jiM fs r.1 μ),decide_eq_true h,j0L,j1u]
   show Out.ok (D.bl (if fs.all jal then _ else _)) μ=_
   cases fs.all jal<;>rfl
  ·rw[jsY (by rw[j0f];omega),decide_eq_false h]
   rfl
theorem jon {qs:List Str}{vs:List PV}(h:ShR qs vs):qs.length=vs.length:=by
 induction h with
 |nil=>rfl
 |one _ _ _ _ ih=>rw[j0b,j0b,ih]
 |last=>rfl
theorem joT {qs:List Str}{vs:List PV}(h:ShR qs vs):∀p∈qs.zip vs,jhZ p.1 p.2/\p.2.Raw:=by
 induction h with
 |nil=>intro p hp;cases hp
 |one f r o t ih=>
  intro p hp
  rw[List.zip_cons_cons]at hp
  rcases j0d.mp hp with e|e
  ·rw[e];exact⟨f,r⟩
  ·exact ih p e
 |last f r o=>
  intro p hp
  rw[j04.mp hp]
  exact⟨f,r⟩
theorem jtZ {w:Str}{qs:List Str}{vs:List PV}(h:jbb w jct=some (.tup (qs.map D.str)))(h0:0<qs.length)(hl:qs.length<=100)(s:ShR qs vs)(μ:M):jah .frz jaZ.F [.tup (.str w::vs.map PV.dat)] μ=.ok (.bl ((qs.zip vs).all fun p=>okV p.1 p.2)) μ:=by
 have hv:∀p∈qs.zip vs,jah .frz jaD.F [.str p.1,p.2.dat] μ=.ok (.bl (okV p.1 p.2)) μ:=fun p hp=>jwB (joT s p hp).1 (joT s p hp).2 μ
 let b:Str×D->Bool:=fun p=>@decide (jah .frz jaD.F [.str p.1,p.2] μ=.ok (.bl true) μ) (Classical.propDecidable _)
 have hb:∀p∈qs.zip vs,b (p.1,p.2.dat)=okV p.1 p.2:=fun p hp=>by
  show @decide _ (Classical.propDecidable _)=_
  rw[hv p hp]
  cases okV p.1 p.2<;>simp
 have ez:qs.zip (vs.map PV.dat)=(qs.zip vs).map fun p=>(p.1,p.2.dat):=by
  rw[List.zip_map_right]
  rfl
 rw[jtf b h h0 hl (by rw[j0f];exact(jon s).symm) μ (fun p hp=>by
  rw[ez]at hp
  obtain⟨p',hp',rfl⟩:=j0s.mp hp
  rw[hb p' hp',hv p' hp']),ez,j1u]
 congr 2
 rw[j0V,j0D,j0D]
 constructor
 ·intro hh p hp
  rw[<- hb p hp]
  exact hh p hp
 ·intro hh p hp
  show b (p.1,p.2.dat)=true
  rw[hb p hp]
  exact hh p hp
theorem jsC (g:Nat->Option D)(vs:List PV):frzGs g (vs.map PV.dat)=some (vs.map PV.dat):=jcd (fun v=>jr8 v) vs
def jjI (w:Str)(vs:List PV):Prop:=∀μ:M,(∃x:Deed,x.Ok/\x.w=w/\x.pv=vs/\jah .frz jaV.F [.tup (.str w::vs.map PV.dat)] μ=.ok (.bl true) μ)∨((∀x:Deed,x.Ok->x.w=w->x.pv≠vs)/\jah .frz jaV.F [.tup (.str w::vs.map PV.dat)] μ=.exc (.str "BadDeed") μ)
theorem jhK {w:Str}{qs:List Str}{vs:List PV}{bO bF bE:Bool}(x:Deed)(h:jbb w jct=some (.tup (qs.map D.str)))(h0:0<qs.length)(hl:qs.length<=100)(hn:qs.Nodup)(s:ShR qs vs)(xw:x.w=w)(xv:x.pv=vs)
  (hO:(jev (.inr "other") (qs.map Sum.inr) (vs.map PV.dat)=none/\bO=false)∨∃x y:Str,jev (.inr "other") (qs.map Sum.inr) (vs.map PV.dat)=some (.str x)/\jev (.inr "purse") (qs.map Sum.inr) (vs.map PV.dat)=some (.str y)/\bO=decide (x=y))
  (hF:(jev (.inr "of") (qs.map Sum.inr) (vs.map PV.dat)=none/\bF=false)∨∃x y:Str,jev (.inr "of") (qs.map Sum.inr) (vs.map PV.dat)=some (.str x)/\jev (.inr "ref") (qs.map Sum.inr) (vs.map PV.dat)=some (.str y)/\bF=decide (x=y))
  (hE:(jev (.inr "end") (qs.map Sum.inr) (vs.map PV.dat)=none/\bE=true)∨∃x y:Int,jev (.inr "end") (qs.map Sum.inr) (vs.map PV.dat)=some (.int x)/\jev (.inr "day") (qs.map Sum.inr) (vs.map PV.dat)=some (.int y)/\bE=decide (y<x))
  (iff:(((qs.zip vs).all fun p=>okV p.1 p.2)&&(!bO&&!bF&&bE))=true↔x.Ok) (only:∀y:Deed,y.w=w->y.pv=vs->y=x):jjI w vs:=fun μ=>by
 have e:=jh1 (d:=.tup (.str w::vs.map PV.dat)) μ (jtZ h h0 hl s μ) fun _=>⟨jql h hl hn (by rw[j0f];exact(jon s).symm) (fun g=>jsC g vs) μ,jzL hO hF hE μ⟩
 cases hc:(((qs.zip vs).all fun p=>okV p.1 p.2)&&(!bO&&!bF&&bE))with
 |true=>
  rw[hc,if_pos rfl]at e
  exact .inl ⟨x,iff.mp hc,xw,xv,e⟩
 |false=>
  rw[hc,if_neg j0g]at e
  refine .inr ⟨fun y yk yw yv=>?_,e⟩
  rw[only y yw yv]at yk
  rw[iff.mpr yk]at hc
  cases hc
theorem jes {q:Str} {v:PV} (h:q = "ref"∨q = "purse"∨q = "other"∨q = "of") (f:jhZ q v):∃z,v=.nm z:=by
 cases v with
 |nm z=>exact⟨z,rfl⟩
 |num n=>rcases h with rfl|rfl|rfl|rfl<;>rcases f with f|f|f<;>exact absurd f (by ac_rfl)
 |lns ls=>rcases h with rfl|rfl|rfl|rfl<;>exact absurd (show _=Str.ofString "lines" from f) (by ac_rfl)
 |fst fs=>rcases h with rfl|rfl|rfl|rfl<;>exact absurd (show _=Str.ofString "first" from f) (by ac_rfl)
theorem jed {q:Str} {v:PV} (h:q = "day"∨q = "points"∨q = "end") (f:jhZ q v):∃n,v=.num n:=by
 cases v with
 |num n=>exact⟨n,rfl⟩
 |nm z=>rcases h with rfl|rfl|rfl<;>rcases f with f|f|f|f<;>exact absurd f (by ac_rfl)
 |lns ls=>rcases h with rfl|rfl|rfl<;>exact absurd (show _=Str.ofString "lines" from f) (by ac_rfl)
 |fst fs=>rcases h with rfl|rfl|rfl<;>exact absurd (show _=Str.ofString "first" from f) (by ac_rfl)
theorem jlW {v:PV} (f:jhZ "lines" v):∃ls,v=.lns ls:=by
 cases v with
 |lns ls=>exact⟨ls,rfl⟩
 |nm z=>rcases f with f|f|f|f<;>exact absurd f (by ac_rfl)
 |num n=>rcases f with f|f|f<;>exact absurd f (by ac_rfl)
 |fst fs=>exact absurd (show Str.ofString "lines" =Str.ofString "first" from f) (by ac_rfl)
theorem jo7 {v:PV} (f:jhZ "first" v):∃fs,v=.fst fs:=by
 cases v with
 |fst fs=>exact⟨fs,rfl⟩
 |nm z=>rcases f with f|f|f|f<;>exact absurd f (by ac_rfl)
 |num n=>rcases f with f|f|f<;>exact absurd f (by ac_rfl)
 |lns ls=>exact absurd (show Str.ofString "first" =Str.ofString "lines" from f) (by ac_rfl)
theorem jlo:∀(xs σ:List Str),σ.Nodup->(xs.foldl jiV σ).length=σ.length+xs.length->(σ++xs).Nodup
 |[],σ,h,_=>by simpa using h
 |x::xs,σ,h,e=>by
  rw[List.foldl_cons]at e
  by_cases hx:x∈σ
  ·have:jiV σ x=σ:=by unfold jiV;rw[if_pos hx]
   rw[this]at e
   have:=jkN xs σ
   simp at e
   omega
  ·have ha:jiV σ x=σ++[x]:=by unfold jiV;rw[if_neg hx]
   rw[ha]at e
   have:=jlo xs (σ++[x]) (List.nodup_append.mpr ⟨h,by simp,fun a haσ b hb=>by
    have:b=x:=by simpa using hb
    subst this
    intro z
    subst z
    exact hx haσ⟩) (by simp at e ⊢;omega)
   simpa using this
theorem juQ {fs:List Str}:jxa fs=true↔fs.Nodup:=by
 unfold jxa
 rw[decide_eq_true_eq]
 constructor
 ·intro h
  have:=jlo fs [] List.nodup_nil (by
   show(ddS fs).length=0+fs.length
   omega)
  simpa using this
 ·intro h
  rw[jm0 h]
theorem jlk {ls:List Ln}(h:jrW ls):jsz ls=true↔jj8 ls:=by
 unfold jsz jj8
 rw[j0a,decide_eq_true_eq,j0D]
 constructor
 ·rintro⟨⟨h1,h2⟩,h3⟩
  exact⟨h1,h2,fun p hp=>⟨h3 p hp,h p hp⟩⟩
 ·rintro⟨h1,h2,h3⟩
  exact⟨⟨h1,h2⟩,fun p hp=>(h3 p hp).1⟩
theorem jrc {fs:List Str}:jvs fs=true↔fs.length<=8/\fs.Nodup/\∀z∈fs,Nm z:=by
 unfold jvs
 rw[j0a,j0a,decide_eq_true_eq,j0D,juQ]
 constructor
 ·rintro⟨h1,h2,h3⟩
  exact⟨h1,h3,h2⟩
 ·rintro⟨h1,h2,h3⟩
  exact⟨h1,h3,h2⟩
theorem jfH:jj4 "ref":=.inl (.inl rfl)
theorem jdi:jj4 "purse":=.inl (.inr (.inl rfl))
theorem jgB:jj4 "other":=.inl (.inr (.inr (.inl rfl)))
theorem jyC:jj4 "of":=.inl (.inr (.inr (.inr rfl)))
theorem jg8:jj4 "day":=.inr (.inl rfl)
theorem jdm:jj4 "points":=.inr (.inr (.inl rfl))
theorem jwz:jj4 "end":=.inr (.inr (.inr rfl))
theorem jt7 {vs:List PV} (s:ShR ["ref","day","purse","lines"] vs):jjI "buy" vs:=by
 obtain⟨v1,vs1,_,rfl,f1,r1,_,s1⟩:=jaC jfH s
 obtain⟨v2,vs2,_,rfl,f2,r2,_,s2⟩:=jaC jg8 s1
 obtain⟨v3,vs3,_,rfl,f3,r3,_,s3⟩:=jaC jdi s2
 obtain⟨v4,rfl,f4,r4⟩:=jgl (.inl rfl) s3
 obtain⟨r,rfl⟩:=jes (.inl rfl) f1
 obtain⟨d,rfl⟩:=jed (.inl rfl) f2
 obtain⟨p,rfl⟩:=jes (.inr (.inl rfl)) f3
 obtain⟨ls,rfl⟩:=jlW f4
 refine jhK (bO:=false) (bF:=false) (bE:=true) (.buy r d p ls) rfl (by decide) (by decide) (by ac_rfl) s rfl rfl (.inl ⟨rfl,rfl⟩) (.inl ⟨rfl,rfl⟩) (.inl ⟨rfl,rfl⟩) ?_ fun y yw yv=>by cases y<;>cases yv<;>rfl
 show((jal r&&(decide ((0:Int)<=d)&&(jal p&&(jsz ls&&true))))&&(!false&&!false&&true))=true↔Nm r/\Num 0 d/\Nm p/\jj8 ls
 rw[decide_eq_true r2.1]
 simp only[j0a,Bool.and_true,j0L,j0M,jlk r4.1]
 exact⟨fun h=>⟨h.1,r2,h.2.1,h.2.2⟩,fun h=>⟨h.1,h.2.2.1,h.2.2.2⟩⟩
theorem jmX {vs:List PV} (s:ShR ["ref","day","purse","points","first"] vs):jjI "spend" vs:=by
 obtain⟨v1,vs1,_,rfl,f1,r1,_,s1⟩:=jaC jfH s
 obtain⟨v2,vs2,_,rfl,f2,r2,_,s2⟩:=jaC jg8 s1
 obtain⟨v3,vs3,_,rfl,f3,r3,_,s3⟩:=jaC jdi s2
 obtain⟨v4,vs4,_,rfl,f4,r4,_,s4⟩:=jaC jdm s3
 obtain⟨v5,rfl,f5,r5⟩:=jgl (.inr rfl) s4
 obtain⟨r,rfl⟩:=jes (.inl rfl) f1
 obtain⟨d,rfl⟩:=jed (.inl rfl) f2
 obtain⟨p,rfl⟩:=jes (.inr (.inl rfl)) f3
 obtain⟨n,rfl⟩:=jed (.inr (.inl rfl)) f4
 obtain⟨fs,rfl⟩:=jo7 f5
 refine jhK (bO:=false) (bF:=false) (bE:=true) (.spend r d p n fs) rfl (by decide) (by decide) (by ac_rfl) s rfl rfl (.inl ⟨rfl,rfl⟩) (.inl ⟨rfl,rfl⟩) (.inl ⟨rfl,rfl⟩) ?_ fun y yw yv=>by cases y<;>cases yv<;>rfl
 show((jal r&&(decide ((0:Int)<=d)&&(jal p&&(decide ((1:Int)<=n)&&(jvs fs&&true)))))&&(!false&&!false&&true))=true↔Nm r/\Num 0 d/\Nm p/\Num 1 n/\fs.length<=8/\fs.Nodup/\∀z∈fs,Nm z
 rw[decide_eq_true r2.1]
 simp only[j0a,Bool.and_true,j0L,j0M,jrc,decide_eq_true_eq]
 exact⟨fun h=>⟨h.1,r2,h.2.1,⟨h.2.2.1,r4.2⟩,h.2.2.2⟩,fun h=>⟨h.1,h.2.2.1,h.2.2.2.1.1,h.2.2.2.2⟩⟩
theorem jm9 {w:Str} (hw:w = "give"∨w = "change") {vs:List PV} (s:ShR ["ref","day","purse","other","points"] vs):jjI w vs:=by
 obtain⟨v1,vs1,_,rfl,f1,r1,_,s1⟩:=jaC jfH s
 obtain⟨v2,vs2,_,rfl,f2,r2,_,s2⟩:=jaC jg8 s1
 obtain⟨v3,vs3,_,rfl,f3,r3,_,s3⟩:=jaC jdi s2
 obtain⟨v4,vs4,_,rfl,f4,r4,_,s4⟩:=jaC jgB s3
 obtain⟨v5,vs5,_,rfl,f5,r5,_,s5⟩:=jaC jdm s4
 cases s5
 obtain⟨r,rfl⟩:=jes (.inl rfl) f1
 obtain⟨d,rfl⟩:=jed (.inl rfl) f2
 obtain⟨p,rfl⟩:=jes (.inr (.inl rfl)) f3
 obtain⟨o,rfl⟩:=jes (.inr (.inr (.inl rfl))) f4
 obtain⟨n,rfl⟩:=jed (.inr (.inl rfl)) f5
 have hl:jbb w jct=some (.tup ([Str.ofString "ref",Str.ofString "day",Str.ofString "purse",Str.ofString "other",Str.ofString "points"].map D.str)):=by
  rcases hw with rfl|rfl<;>rfl
 refine jhK (bO:=decide (o=p)) (bF:=false) (bE:=true) (.two w r d p o n) hl (by decide) (by decide) (by ac_rfl) s rfl rfl (.inr ⟨o,p,rfl,rfl,rfl⟩) (.inl ⟨rfl,rfl⟩) (.inl ⟨rfl,rfl⟩) ?_ fun y yw yv=>by cases y<;>cases yv;cases yw;rfl
 show((jal r&&(decide ((0:Int)<=d)&&(jal p&&(jal o&&(decide ((1:Int)<=n)&&true)))))&&(!decide (o=p)&&!false&&true))=true↔(w = "give"∨w = "change")/\Nm r/\Num 0 d/\Nm p/\Nm o/\Num 1 n/\o≠p
 rw[decide_eq_true r2.1]
 simp only[j0a,Bool.and_true,j0L,j0M,decide_eq_true_eq,j0B,decide_eq_false_iff_not]
 exact⟨fun h=>⟨hw,h.1.1,r2,h.1.2.1,h.1.2.2.1,⟨h.1.2.2.2,r5.2⟩,h.2⟩,fun h=>⟨⟨h.2.1,h.2.2.2.1,h.2.2.2.2.1,h.2.2.2.2.2.1.1⟩,h.2.2.2.2.2.2⟩⟩
theorem jpC {vs:List PV} (s:ShR ["ref","day","purse","other","points","end"] vs):jjI "lend" vs:=by
 obtain⟨v1,vs1,_,rfl,f1,r1,_,s1⟩:=jaC jfH s
 obtain⟨v2,vs2,_,rfl,f2,r2,_,s2⟩:=jaC jg8 s1
 obtain⟨v3,vs3,_,rfl,f3,r3,_,s3⟩:=jaC jdi s2
 obtain⟨v4,vs4,_,rfl,f4,r4,_,s4⟩:=jaC jgB s3
 obtain⟨v5,vs5,_,rfl,f5,r5,_,s5⟩:=jaC jdm s4
 obtain⟨v6,vs6,_,rfl,f6,r6,_,s6⟩:=jaC jwz s5
 cases s6
 obtain⟨r,rfl⟩:=jes (.inl rfl) f1
 obtain⟨d,rfl⟩:=jed (.inl rfl) f2
 obtain⟨p,rfl⟩:=jes (.inr (.inl rfl)) f3
 obtain⟨o,rfl⟩:=jes (.inr (.inr (.inl rfl))) f4
 obtain⟨n,rfl⟩:=jed (.inr (.inl rfl)) f5
 obtain⟨e,rfl⟩:=jed (.inr (.inr rfl)) f6
 refine jhK (bO:=decide (o=p)) (bF:=false) (bE:=decide (d<e)) (.lend r d p o n e) rfl (by decide) (by decide) (by ac_rfl) s rfl rfl (.inr ⟨o,p,rfl,rfl,rfl⟩) (.inl ⟨rfl,rfl⟩) (.inr ⟨e,d,rfl,rfl,rfl⟩) ?_ fun y yw yv=>by cases y<;>cases yv<;>rfl
 show((jal r&&(decide ((0:Int)<=d)&&(jal p&&(jal o&&(decide ((1:Int)<=n)&&(decide ((0:Int)<=e)&&true))))))&&(!decide (o=p)&&!false&&decide (d<e)))=true↔Nm r/\Num 0 d/\Nm p/\Nm o/\Num 1 n/\Num 0 e/\o≠p/\d<e
 rw[decide_eq_true r2.1,decide_eq_true r6.1]
 simp only[j0a,Bool.and_true,j0L,j0M,decide_eq_true_eq,j0B,decide_eq_false_iff_not]
 exact⟨fun h=>⟨h.1.1,r2,h.1.2.1,h.1.2.2.1,⟨h.1.2.2.2,r5.2⟩,r6,h.2.1,h.2.2⟩,fun h=>⟨⟨h.1,h.2.2.1,h.2.2.2.1,h.2.2.2.2.1.1⟩,h.2.2.2.2.2.2.1,h.2.2.2.2.2.2.2⟩⟩
theorem jpr {vs:List PV} (s:ShR ["ref","day","of"] vs):jjI "back" vs:=by
 obtain⟨v1,vs1,_,rfl,f1,r1,_,s1⟩:=jaC jfH s
 obtain⟨v2,vs2,_,rfl,f2,r2,_,s2⟩:=jaC jg8 s1
 obtain⟨v3,vs3,_,rfl,f3,r3,_,s3⟩:=jaC jyC s2
 cases s3
 obtain⟨r,rfl⟩:=jes (.inl rfl) f1
 obtain⟨d,rfl⟩:=jed (.inl rfl) f2
 obtain⟨f,rfl⟩:=jes (.inr (.inr (.inr rfl))) f3
 refine jhK (bO:=false) (bF:=decide (f=r)) (bE:=true) (.back r d f) rfl (by decide) (by decide) (by ac_rfl) s rfl rfl (.inl ⟨rfl,rfl⟩) (.inr ⟨f,r,rfl,rfl,rfl⟩) (.inl ⟨rfl,rfl⟩) ?_ fun y yw yv=>by cases y<;>cases yv<;>rfl
 show((jal r&&(decide ((0:Int)<=d)&&(jal f&&true)))&&(!false&&!decide (f=r)&&true))=true↔Nm r/\Num 0 d/\Nm f/\f≠r
 rw[decide_eq_true r2.1]
 simp only[j0a,Bool.and_true,j0L,j0M,decide_eq_true_eq,j0B,decide_eq_false_iff_not]
 exact⟨fun h=>⟨h.1.1,r2,h.1.2,h.2⟩,fun h=>⟨⟨h.1,h.2.2.1⟩,h.2.2.2⟩⟩
theorem jt2 {vs:List PV} (s:ShR ["ref","of","lines"] vs):jjI "fix" vs:=by
 obtain⟨v1,vs1,_,rfl,f1,r1,_,s1⟩:=jaC jfH s
 obtain⟨v2,vs2,_,rfl,f2,r2,_,s2⟩:=jaC jyC s1
 obtain⟨v3,rfl,f3,r3⟩:=jgl (.inl rfl) s2
 obtain⟨r,rfl⟩:=jes (.inl rfl) f1
 obtain⟨f,rfl⟩:=jes (.inr (.inr (.inr rfl))) f2
 obtain⟨ls,rfl⟩:=jlW f3
 refine jhK (bO:=false) (bF:=decide (f=r)) (bE:=true) (.fix r f ls) rfl (by decide) (by decide) (by ac_rfl) s rfl rfl (.inl ⟨rfl,rfl⟩) (.inr ⟨f,r,rfl,rfl,rfl⟩) (.inl ⟨rfl,rfl⟩) ?_ fun y yw yv=>by cases y<;>cases yv<;>rfl
 show((jal r&&(jal f&&(jsz ls&&true)))&&(!false&&!decide (f=r)&&true))=true↔Nm r/\Nm f/\jj8 ls/\f≠r
 simp only[j0a,Bool.and_true,j0L,j0M,jlk r3.1,j0B,decide_eq_false_iff_not]
 exact⟨fun h=>⟨h.1.1,h.1.2.1,h.1.2.2,h.2⟩,fun h=>⟨⟨h.1,h.2.1,h.2.2.1⟩,h.2.2.2⟩⟩
theorem juG (w:Str):jbb w jct=none∨∃qs:List Str,jbb w jct=some (.tup (qs.map D.str))/\QL qs/\qs.length<=6/\∀vs,ShR qs vs->jjI w vs:=by
 by_cases h1:Str.ofString "buy" =w
 ·subst h1
  exact .inr ⟨_,rfl,.one jfH (.one jg8 (.one jdi (.last (.inl rfl)))),by decide,fun vs=>jt7⟩
 by_cases h2:Str.ofString "spend" =w
 ·subst h2
  exact .inr ⟨_,rfl,.one jfH (.one jg8 (.one jdi (.one jdm (.last (.inr rfl))))),by decide,fun vs=>jmX⟩
 by_cases h3:Str.ofString "give" =w
 ·subst h3
  exact .inr ⟨_,rfl,.one jfH (.one jg8 (.one jdi (.one jgB (.one jdm .nil)))),by decide,fun vs=>jm9 (.inl rfl)⟩
 by_cases h4:Str.ofString "change" =w
 ·subst h4
  exact .inr ⟨_,rfl,.one jfH (.one jg8 (.one jdi (.one jgB (.one jdm .nil)))),by decide,fun vs=>jm9 (.inr rfl)⟩
 by_cases h5:Str.ofString "lend" =w
 ·subst h5
  exact .inr ⟨_,rfl,.one jfH (.one jg8 (.one jdi (.one jgB (.one jdm (.one jwz .nil))))),by decide,fun vs=>jpC⟩
 by_cases h6:Str.ofString "back" =w
 ·subst h6
  exact .inr ⟨_,rfl,.one jfH (.one jg8 (.one jyC .nil)),by decide,fun vs=>jpr⟩
 by_cases h7:Str.ofString "fix" =w
 ·subst h7
  exact .inr ⟨_,rfl,.one jfH (.one jyC (.last (.inl rfl))),by decide,fun vs=>jt2⟩
 left
 simp only[jct,jbb,h1,h2,h3,h4,h5,h6,h7,if_false]
theorem joz:∀(l a:List Nat),(wc a l).length<=l.length+1
 |[],a=>by
  unfold wc jeS
  split<;>simp
 |c::l,a=>by
  unfold wc
  split
  ·have h1:(jeS a).length<=1:=by unfold jeS;split<;>simp
   have:=joz l []
   rw[j0p,j0b]
   omega
  ·have:=joz l (a++[c])
   rw[j0b]
   omega
theorem jiD:∀(l a:List Nat),∀p∈wc a l,p.length<=a.length+l.length
 |[],a,p,h=>by
  unfold wc jeS at h
  split at h
  ·cases h
  ·rw[j04.mp h]
   simp
 |c::l,a,p,h=>by
  unfold wc at h
  split at h
  ·rcases j03.mp h with h|h
   ·unfold jeS at h
    split at h
    ·cases h
    ·rw[j04.mp h]
     omega
   ·have:=jiD l [] p h
    simp only[j0b,j0x]at this ⊢
    omega
  ·have:=jiD l (a++[c]) p h
   simp only[j0p,j0b,j0x]at this ⊢
   omega
noncomputable abbrev wsT (T:Str):List Str:=(wc [] T.cps.toList).map sTx
theorem jy4 {T:Str}(h:T.length<=900):(wsT T).length<=1000/\∀z∈wsT T,z.length<=1000:=by
 rw[jcr]at h
 refine⟨by rw[j0f];have:=joz T.cps.toList [];omega,fun z hz=>?_⟩
 obtain⟨p,hp,rfl⟩:=j0s.mp hz
 rw[jcU]
 have:=jiD T.cps.toList [] p hp
 simp only[j0x]at this
 omega
theorem jnu {qs:List Str}{vs:List PV}(h:Sh qs vs):ShR qs vs:=by
 have raw:∀{v:PV},v.Ok->v.Raw:=fun {v} h=>by
  cases v with
  |nm z=>exact jou h
  |num n=>exact h
  |lns ls=>exact⟨fun p hp=>(h.2.2 p hp).2,by have:=h.2.1;omega,fun p hp=>jou (h.2.2 p hp).1⟩
  |fst fs=>exact⟨by have:=h.1;omega,fun z hz=>jou (h.2 z hz)⟩
 induction h with
 |nil=>exact .nil
 |one f o h1 t ih=>exact .one f (raw o) h1 ih
 |last f o h1=>exact .last f (raw o) h1
theorem jiv {m n:Int}(hm:Num 0 m)(hn:Num 0 n)(e:nTx m=nTx n):m=n:=by
 have h1:=jj6 hm.1 hm.2
 rw[e,jj6 hn.1 hn.2]at h1
 exact(j0w h1).symm
theorem joD:∀{a b:List Ln},jrW a->jrW b->a.map lnP=b.map lnP->a=b
 |[],[],_,_,_=>rfl
 |[],_::_,_,_,h=>by cases h
 |_::_,[],_,_,h=>by cases h
 |a::as,b::bs,ha,hb,h=>by
  rw[j0i,j0i]at h
  injection h with h1 h2
  have e1:(lnP a).1=(lnP b).1:=congrArg Prod.fst h1
  have e2:(lnP a).2=(lnP b).2:=congrArg Prod.snd h1
  have e3:a=b:=Prod.ext e1 (jiv (ha a (by simp)) (hb b (by simp)) e2)
  rw[joD (fun p hp=>ha p (by simp[hp])) (fun p hp=>hb p (by simp[hp])) h2,e3]
theorem jsb {q:Str}{v v':PV}(f:jhZ q v)(f':jhZ q v')(r:v.Raw)(r':v'.Raw)(e:v.ws=v'.ws):v=v':=by
 cases v with
 |nm z=>
  obtain⟨z',rfl⟩:=jes f f'
  injection e with e
  rw[e]
 |num n=>
  obtain⟨n',rfl⟩:=jed f f'
  injection e with e
  rw[jiv r r' e]
 |lns ls=>
  cases(show q = "lines" from f)
  obtain⟨ls',rfl⟩:=jlW f'
  rw[joD r.1 r'.1 (jg6 e)]
 |fst fs=>
  cases(show q = "first" from f)
  obtain⟨fs',rfl⟩:=jo7 f'
  rw[show fs=fs' from e]
theorem jmY {qs:List Str}{vs vs':List PV}(h:ShR qs vs)(h':ShR qs vs')(e:vs.flatMap PV.ws=vs'.flatMap PV.ws):vs=vs':=by
 induction h generalizing vs' with
 |nil=>cases h';rfl
 | @one q v qs vs f r o t ih=>
  obtain⟨z,hz⟩:=jnP o
  cases h' with
  |one f' r' o' t'=>
   obtain⟨z',hz'⟩:=jnP o'
   rw[j0E,j0E,hz,hz']at e
   injection e with e1 e2
   rw[jsb f f' r r' (by rw[hz,hz',e1]),ih t' e2]
  |last f' r' o'=>
   exfalso
   cases t
   cases v with
   |nm z=>obtain⟨_,rfl⟩:=jes f f';cases o'
   |num n=>obtain⟨_,rfl⟩:=jed f f';cases o'
   |lns _=>cases o
   |fst _=>cases o
 | @last q v f r o=>
  cases h' with
  |one f' r' o' t'=>
   exfalso
   cases v with
   |nm z=>cases o
   |num n=>cases o
   |lns _=>
    cases(show q = "lines" from f)
    obtain⟨_,rfl⟩:=jlW f'
    cases o'
   |fst _=>
    cases(show q = "first" from f)
    obtain⟨_,rfl⟩:=jo7 f'
    cases o'
  |last f' r' o'=>
   simp only[j0E,List.flatMap_nil,j0l]at e
   rw[jsb f f' r r' e]
theorem jiF:∀{a b:List Str},a.map D.str=b.map D.str->a=b
 |[],[],_=>rfl
 |[],_::_,h=>by cases h
 |_::_,[],h=>by cases h
 |a::as,b::bs,h=>by
  rw[j0i,j0i]at h
  injection h with h1 h2
  injection h1 with h1
  rw[h1,jiF h2]
abbrev joe:List SY:=[.ite (.cmp .Gt (.bi .len false [(.var 3)]) (.cst (.int 0)))
   [.raise "BadDeed" (.cst (.str "the text has words that belong to no part"))]
   [],
  .st (.asg (.nm 6) (.bi .tuple false [(.var 2)])),
  .ex (.call 3 .frz [(.var 6)]),
  .st (.ret (.var 6))]
theorem jnz {T w:Str}{ah qs:List Str}(hT:T.length<=900)(e:wsT T=w::ah)(μ:M)(hp:∀ν,jah .frz jb4.F [.str w] ν=.ok (.tup (qs.map D.str)) ν) :
  ja4 [.str T] μ=jgp (jmi (rdL (jcv .seq [.tup (qs.map D.str)] (qs.map D.str)) qs [some (.str T),some (jab (w::ah)),some (.cel μ.length),some (jab ah),none,none,none] (μ++[some (.lst [.str w])])) (runYs jbg joe)):=by
 have hi:∀ν:M,itD .seq [.tup (qs.map D.str)] ν=some (qs.map D.str):=fun ν=>rfl
 have hin:jah .frz jdb.F [.str T] μ=.ok (jab (w::ah)) μ:=by rw[jg7 T (by omega),<- e]
 unfold ja4 jdn
 symm
 rwa[hin]
 rwa[jaY]
 simp only[show ¬ (((ah.length+1:Nat):Int)=0)from by omega,j0b,decide_false,if_false,j0e]
 symm
 rwa[jz2]
 rwa[jlT]
 rwa[show ∀ν,ixD (jab (w::ah)) (.int 0) ν=.ok (.str w) ν from fun ν=>jz2 ν]
 rwa[hp]
 rw[jeD (hi _)]
 rfl
theorem jjX {T w:Str}{ah r:List Str}{ds:List D}(hr:r≠[])(μ:M):jgp (runYs jbg joe [some (.str T),some (jab (w::ah)),some (.cel μ.length),some (jab r),none,none,none] (μ++[some (.lst ds)]))=.exc (.str "BadDeed") (μ++[some (.lst ds)]):=by
 have:0<r.length:=List.length_pos_iff.mpr hr
 symm
 rwa[jaY]
 simp only[show((0:Int)<(r.length:Int))from by omega,decide_true,if_true]
 symm
theorem jgX {T w:Str} {ah:List Str} {ds:List D} (μ:M) {o:Out D} (ho:jah .frz jaV.F [.tup ds] (μ++[some (.lst ds)])=o) (hx:o=.ok (.bl true) (μ++[some (.lst ds)])∨o=.exc (.str "BadDeed") (μ++[some (.lst ds)])) :
  jgp (runYs jbg joe [some (.str T),some (jab (w::ah)),some (.cel μ.length),some (jab []),none,none,none] (μ++[some (.lst ds)]))=o.bind fun _ μ1=>.ok (.tup ds) μ1:=by
 have ht:biD .tuple false [.cel μ.length] (μ++[some (.lst ds)])=.ok (.tup ds) (μ++[some (.lst ds)]):=by
  simp only[biD,_L3.tupleD,jfb,jgW,jfy]
 symm
 rwa[jaY]
 simp only[j0x,show decide ((0:Int)<((0:Nat):Int))=false from rfl,if_false,j0e]
 symm
 rwa[ht]
 rw[ho]
 rcases hx with rfl|rfl<;>symm
theorem jmS (T:Str)(hT:T.length<=900)(μ:M):(∃x:Deed,x.Ok/\x.words=wsT T/\jah .frz jcD.F [.str T] μ=.ok x.dat μ)∨((∀x:Deed,x.Ok->x.words≠wsT T)/\∃ν,ja4 [.str T] μ=.exc (.str "BadDeed") (μ++ν)):=by
 obtain⟨b1,b2⟩:=jy4 hT
 cases e:wsT T with
 |nil=>
  refine .inr ⟨(fun x _ h=>by cases h),[],?_⟩
  rw[j0l]
  have hin:jah .frz jdb.F [.str T] μ=.ok (jab []) μ:=by rw[jg7 T (by omega),<- e]
  unfold ja4 jdn
  symm
  rwa[hin]
  rwa[jaY]
  simp only[j0x,show(((0:Nat):Int)=0)from rfl,decide_true,if_true]
  symm
 |cons w ah=>
  rw[e]at b1 b2
  rcases juG w with hw|⟨qs,hw,hq,hl,hc⟩
  ·refine .inr ⟨fun x xo h=>?_,?_⟩
   ·rw[ja7]at h
    injection h with h _
    have:=jgE x xo
    rw[h,hw]at this
    cases this
   ·have hh:=jnz hT e μ (qs:=[]) (fun ν=>jh0 hw ν)
    rw[show rdL (jcv .seq [.tup (([]:List Str).map D.str)] (([]:List Str).map D.str)) [] [some (.str T),some (jab (w::ah)),some (.cel μ.length),some (jab ah),none,none,none] (μ++[some (.lst [.str w])])=.ok (.nx [some (.str T),some (jab (w::ah)),some (.cel μ.length),some (jab ah),none,none,none]) (μ++[some (.lst [.str w])])from by
     show jds _ _ _ _ [] _ _=_
     rw[jcw (jb7 rfl)]
     rfl,jcm]at hh
    cases ah with
    |nil=>
     rw[jgX μ (jh1 (b:=false) (g:=false) (q:=.non) _ (jmH hw _) (fun z=>by cases z)) (.inr rfl)]at hh
     exact⟨[some (.lst [.str w])],hh⟩
    |cons z r=>
     rw[jjX (by simp) μ]at hh
     exact⟨[some (.lst [.str w])],hh⟩
  ·have hh:=jnz hT e μ (fun ν=>jiI hw ν)
   have key:∀x:Deed,x.Ok->x.words=w::ah->x.w=w/\ShR qs x.pv/\x.pv.flatMap PV.ws=ah:=fun x xo h=>by
    rw[ja7]at h
    injection h with h1 h2
    have h3:=jgE x xo
    rw[h1,hw]at h3
    injection h3 with h3
    injection h3 with h3
    refine⟨h1,?_,h2⟩
    rw[jiF h3]
    exact jnu (jmT x xo)
   rcases jzo (some (.str T)) (some (jab (w::ah))) none μ (jcv .seq [.tup (qs.map D.str)] (qs.map D.str)) (fun ν=>jb7 rfl) hq [.str w] ah none none (by show 1+_<=100;omega) (by simp only[j0b]at b1;omega) (fun z hz=>b2 z (by simp[hz]))with⟨vs,r,s1,s2,s3,s4⟩|⟨s1,es,s4⟩
   ·rw[s4,jcm]at hh
    by_cases hr:r=[]
    ·subst hr
     rw[j0l]at s2
     rcases hc vs s1 (μ++[some (.lst ([D.str w]++vs.map PV.dat))])with⟨x,xo,xw,xv,hk⟩|⟨hn,hk⟩
     ·have hd:D.tup ([D.str w]++vs.map PV.dat)=x.dat:=by rw[jhE,<- xw,<- xv];rfl
      refine .inl ⟨x,xo,by rw[ja7,xw,xv,s2],?_⟩
      rw[jgX (ds:=[D.str w]++vs.map PV.dat) μ hk (.inl rfl)]at hh
      exact je2 (F:=ja4) (d:=x.dat) (ν:=[some (.lst ([D.str w]++vs.map PV.dat))]) (by rw[hh,hd];rfl) (jlX x)
     ·refine .inr ⟨fun x xo h=>?_,?_⟩
      ·obtain⟨k1,k2,k3⟩:=key x xo h
       exact hn x xo k1 (jmY k2 s1 (k3.trans s2))
      ·rw[jgX (ds:=[D.str w]++vs.map PV.dat) μ hk (.inr rfl)]at hh
       exact⟨[some (.lst ([D.str w]++vs.map PV.dat))],hh⟩
    ·refine .inr ⟨fun x xo h=>?_,?_⟩
     ·obtain⟨k1,k2,k3⟩:=key x xo h
      exact s3 hr _ k2 k3
     ·rw[jjX hr μ]at hh
      exact⟨[some (.lst ([D.str w]++vs.map PV.dat))],hh⟩
   ·refine .inr ⟨fun x xo h=>?_,?_⟩
    ·obtain⟨k1,k2,k3⟩:=key x xo h
     exact s1 _ k2 k3
    ·rw[s4,jlG,jlP]at hh
     exact⟨[some (.lst es)],hh⟩
theorem jvj:(Str.ofString " ").length=1:=by ac_rfl
noncomputable abbrev jn (zs:List Str):Str:=Txt.join (Str.ofString " ") zs
theorem jog {b:Nat}:∀{zs:List Str},(∀z∈zs,z.length<=b)->(zs.map (·.length)).sum<=zs.length*b
 |[],_=>by simp
 |z::zs,h=>by
  have h1:=h z (by simp)
  have h2:=jog (b:=b) (zs:=zs) fun y hy=>h y (by simp[hy])
  rw[j0i,List.sum_cons,j0b,Nat.succ_mul]
  omega
theorem juR {zs:List Str}(hl:zs.length<=40)(h:∀z∈zs,z.length<=50)(μ:M):mtD .join (.str " ") [jab zs] μ=.ok (.str (jn zs)) μ:=by
 refine jjn ?_
 have:=jog h
 rw[jvj]
 have h2:zs.length*50<=40*50:=Nat.mul_le_mul_right 50 hl
 omega
theorem ji1:∀ps:List (List Nat),(jij ps).length<=(ps.map List.length).sum+ps.length
 |[]=>by simp[jij]
 |[p]=>by simp[jij]
 |p::q::r=>by
  have:=ji1 (q::r)
  rw[jij,j0p,j0b,j0i,List.sum_cons,j0b]
  omega
theorem jk9 (zs:List Str):(jn zs).cps.toList=jij (zs.map fun z=>z.cps.toList):=by
 have e:Txt.join (Str.ofString " ") zs=Str.join (Str.ofString " ") zs:=by simpa using join_plain_closes (Str.ofString " ") zs
 show(Txt.join (Str.ofString " ") zs).cps.toList=_
 rw[e,jfF]
theorem jnn {b:Nat}{zs:List Str}(h:∀z∈zs,z.length<=b):(jn zs).length<=zs.length*(b+1):=by
 rw[jcr,jk9]
 have h1:=ji1 (zs.map fun z=>z.cps.toList)
 have h2:=jog h
 rw[j0I,j0f]at h1
 have e:(zs.map (List.length ∘ fun z=>z.cps.toList)).sum=(zs.map (·.length)).sum:=by
  congr 1
 rw[e]at h1
 rw[Nat.mul_succ]
 omega
def Wd0 (z:Str):Prop:=z.cps.toList≠[]/\32∉z.cps.toList
theorem jhJ:∀{zs:List Str},(∀z∈zs,Wd0 z)->((zs.map fun z=>z.cps.toList).flatMap jeS)=zs.map fun z=>z.cps.toList
 |[],_=>rfl
 |z::zs,h=>by
  rw[j0i,j0E,jhJ fun y hy=>h y (by simp[hy]),jeS,if_neg (h z (by simp)).1]
  rfl
theorem jzF {zs:List Str}(h:∀z∈zs,Wd0 z):wc [] (jn zs).cps.toList=zs.map fun z=>z.cps.toList:=by
 rw[jk9,jkh _ fun p hp=>by
  obtain⟨z,hz,rfl⟩:=j0s.mp hp
  exact(h z hz).2]
 exact jhJ h
theorem jte (zs:List Str):(zs.map fun z=>z.cps.toList).map sTx=zs:=by
 rw[j0I]
 have:(sTx ∘ fun z:Str=>z.cps.toList)=id:=funext fun z=>jhV z
 rw[this,List.map_id]
theorem jqg {zs:List Str}(h:∀z∈zs,Wd0 z):wsT (jn zs)=zs:=by
 show(wc [] (jn zs).cps.toList).map sTx=zs
 rw[jzF h,jte]
theorem jlZ {z:Str}(h:Nm z):∃c r,z.cps.toList=c::r/\(∀x∈c::r,97<=x/\x<=122)/\z.length<=8:=by
 have h':jal z=true:=h
 unfold jal at h'
 simp only[j0a,decide_eq_true_eq,j0D]at h'
 obtain⟨h1,h2,h3⟩:=h'
 cases e:z.cps.toList with
 |nil=>rw[jcr,e]at h1;simp at h1
 |cons c r=>exact⟨c,r,rfl,by rw[<- e];exact h3,h2⟩
theorem jiA {z:Str}(h:wnB z=true):∃c r,z.cps.toList=c::r/\(∀x∈c::r,48<=x/\x<=57)/\z.length<=12:=by
 obtain⟨n,hn,rfl⟩:=jkx h
 obtain⟨c,r,e,hd,hl,_⟩:=jdS hn.1 hn.2
 exact⟨c,r,e,hd,hl⟩
noncomputable def jmM (z:Str):Bool:=match z.cps.toList with
 |c::_=>decide (48<=c/\c<=57)
 |[]=>false
theorem jsl {z:Str}(h:Nm z):jmM z=false:=by
 obtain⟨c,r,e,hd,_⟩:=jlZ h
 have:=hd c (by simp)
 unfold jmM
 rw[e]
 exact decide_eq_false (by omega)
theorem jr6 {z:Str}(h:wnB z=true):jmM z=true:=by
 obtain⟨c,r,e,hd,_⟩:=jiA h
 have:=hd c (by simp)
 unfold jmM
 rw[e]
 exact decide_eq_true (by omega)
def Ch (z:Str):Prop:=∀x∈z.cps.toList,(97<=x/\x<=122)∨(48<=x/\x<=57)
noncomputable def Deed.numAt:Deed->Nat->Bool
 |.buy ..,i=>decide (i=2∨(5<=i/\i % 2=1))
 |.spend ..,i=>decide (i=2∨i=4)
 |.two ..,i=>decide (i=2∨i=5)
 |.lend ..,i=>decide (i=2∨i=5∨i=6)
 |.back ..,i=>decide (i=2)
 |.fix ..,i=>decide (4<=i/\i % 2=0)
def js6 (b:Bool)(z:Str):Prop:=(b=true/\wnB z=true)∨(b=false/\Nm z)
theorem jdA {b:Bool}{n:Int}(h:Num 0 n)(hb:b=true):js6 b (nTx n):=.inl ⟨hb,jiZ h⟩
theorem jlO {ls:List Ln}(h:∀p∈ls,jvd p){j:Nat}{z:Str}(e:(jaA (ls.map lnP))[j]?=some z):js6 (decide (j % 2=1)) z:=by
 rcases Nat.mod_two_eq_zero_or_one j with hj|hj
 ·obtain⟨k,rfl⟩:∃k,j=2*k:=⟨j / 2,by omega⟩
  rw[(jee (ls.map lnP) k).1,j0I,j1g]at e
  cases hk:ls[k]? with
  |none=>rw[hk]at e;cases e
  |some p=>
   rw[hk]at e
   cases e
   exact .inr ⟨decide_eq_false (by omega),(h p (j0C hk)).1⟩
 ·obtain⟨k,rfl⟩:∃k,j=1+2*k:=⟨j / 2,by omega⟩
  rw[(jee (ls.map lnP) k).2,j0I,j1g]at e
  cases hk:ls[k]? with
  |none=>rw[hk]at e;cases e
  |some p=>
   rw[hk]at e
   cases e
   exact .inl ⟨decide_eq_true hj,jiZ (h p (j0C hk)).2⟩
theorem jAZ (x:Deed)(h:x.Ok):Nm x.w:=by
 cases x with
 |two w r d p o n=>
  obtain⟨h0,_⟩:=h
  rcases h0 with rfl|rfl
  ·exact(show jal "give" =true by ac_rfl)
  ·exact(show jal "change" =true by ac_rfl)
 |buy=>exact(show jal "buy" =true by ac_rfl)
 |spend=>exact(show jal "spend" =true by ac_rfl)
 |lend=>exact(show jal "lend" =true by ac_rfl)
 |back=>exact(show jal "back" =true by ac_rfl)
 |fix=>exact(show jal "fix" =true by ac_rfl)
theorem jgC (x:Deed)(h:x.Ok)(i:Nat)(z:Str)(e:x.words[i]?=some z):js6 (x.numAt i) z:=by
 cases i with
 |zero=>
  rw[ja7]at e
  cases e
  refine .inr ⟨?_,jAZ x h⟩
  cases x<;>rfl
 |succ i=>
  rw[ja7,j0O]at e
  cases x with
  |buy r d p ls=>
   obtain⟨h1,h2,h3,h4⟩:=h
   match i,e with
   |0,e=>cases e;exact .inr ⟨rfl,h1⟩
   |1,e=>cases e;exact jdA h2 rfl
   |2,e=>cases e;exact .inr ⟨rfl,h3⟩
   |j+3,e=>
    have e':(jaA (ls.map lnP))[j]?=some z:=by simpa[Deed.pv,PV.ws]using e
    have:=jlO h4.2.2 e'
    (rw[show Deed.numAt (.buy r d p ls) (j+3+1)=decide (j % 2=1)from decide_eq_decide.mpr (by omega)];assumption)
  |spend r d p n fs=>
   obtain⟨h1,h2,h3,h4,h5,h6,h7⟩:=h
   match i,e with
   |0,e=>cases e;exact .inr ⟨rfl,h1⟩
   |1,e=>cases e;exact jdA h2 rfl
   |2,e=>cases e;exact .inr ⟨rfl,h3⟩
   |3,e=>cases e;exact jdA (je9 h4) rfl
   |j+4,e=>
    have e':fs[j]?=some z:=by simpa[Deed.pv,PV.ws]using e
    exact .inr ⟨show decide (j+4+1=2∨j+4+1=4)=false from decide_eq_false (by omega),h7 z (j0C e')⟩
  |two w r d p o n=>
   obtain⟨h0,h1,h2,h3,h4,h5,h6⟩:=h
   match i,e with
   |0,e=>cases e;exact .inr ⟨rfl,h1⟩
   |1,e=>cases e;exact jdA h2 rfl
   |2,e=>cases e;exact .inr ⟨rfl,h3⟩
   |3,e=>cases e;exact .inr ⟨rfl,h4⟩
   |4,e=>cases e;exact jdA (je9 h5) rfl
   |j+5,e=>simp[Deed.pv,PV.ws]at e
  |lend r d p o n t=>
   obtain⟨h1,h2,h3,h4,h5,h6,h7,h8⟩:=h
   match i,e with
   |0,e=>cases e;exact .inr ⟨rfl,h1⟩
   |1,e=>cases e;exact jdA h2 rfl
   |2,e=>cases e;exact .inr ⟨rfl,h3⟩
   |3,e=>cases e;exact .inr ⟨rfl,h4⟩
   |4,e=>cases e;exact jdA (je9 h5) rfl
   |5,e=>cases e;exact jdA h6 rfl
   |j+6,e=>simp[Deed.pv,PV.ws]at e
  |back r d f=>
   obtain⟨h1,h2,h3,h4⟩:=h
   match i,e with
   |0,e=>cases e;exact .inr ⟨rfl,h1⟩
   |1,e=>cases e;exact jdA h2 rfl
   |2,e=>cases e;exact .inr ⟨rfl,h3⟩
   |j+3,e=>simp[Deed.pv,PV.ws]at e
  |fix r f ls=>
   obtain⟨h1,h2,h3,h4⟩:=h
   match i,e with
   |0,e=>cases e;exact .inr ⟨rfl,h1⟩
   |1,e=>cases e;exact .inr ⟨rfl,h2⟩
   |j+2,e=>
    have e':(jaA (ls.map lnP))[j]?=some z:=by simpa[Deed.pv,PV.ws]using e
    have:=jlO h3.2.2 e'
    (rw[show Deed.numAt (.fix r f ls) (j+2+1)=decide (j % 2=1)from decide_eq_decide.mpr (by omega)];assumption)
def jhq (T:Str):Prop:=T.length<=900/\∀y:Deed,y.Ok->y.words≠wsT T
theorem jgM {T:Str}(h:jhq T)(μ:M):jah .frz jdj.F [.str T] μ=.ok (.bl true) μ:=by
 rcases jmS T h.1 μ with⟨x,xo,xw,_⟩|⟨_,ν,e⟩
 ·exact absurd xw (h.2 x xo)
 ·refine je2 (F:=jcy) (d:=.bl true) (ν:=ν) ?_ jbo
  unfold jcy jyv
  rw[e]
  simp only[if_true]
theorem jhX {z:Str}(h:Wd1 z):Wd0 z:=⟨h.1,h.2.1⟩
theorem jtb {zs:List Str}(hl:zs.length<=22)(hw:∀z∈zs,Wd0 z)(hb:(jn zs).length<=900)(h:∀y:Deed,y.Ok->y.words≠zs):jhq (jn zs):=⟨hb,fun y hy=>by rw[jqg hw];exact h y hy⟩
theorem jsr {zs:List Str}(hl:zs.length<=21)(h:∀z∈zs,z.length<=41):(jn zs).length<=900:=by
 have h1:=jnn h
 have h2:zs.length*(41+1)<=21*42:=Nat.mul_le_mul_right 42 hl
 omega
theorem jaI (x:Deed)(h:x.Ok):4<=x.words.length/\x.words.length<=20:=by
 rw[ja7,j0b]
 cases x with
 |buy r d p ls=>
  have e:((Deed.buy r d p ls).pv.flatMap PV.ws).length=3+2*ls.length:=by
   show(r::nTx d::p::(jaA (ls.map lnP)++[])).length=_
   rw[j0l,j0b,j0b,j0b,ja0,j0f]
   omega
  have:=h.2.2.2.1
  have:=h.2.2.2.2.1
  omega
 |spend r d p n fs=>
  have e:((Deed.spend r d p n fs).pv.flatMap PV.ws).length=4+fs.length:=by
   show(r::nTx d::p::nTx n::(fs++[])).length=_
   rw[j0l]
   simp only[j0b]
   omega
  have:=h.2.2.2.2.1
  omega
 |two w r d p o n=>exact⟨by show 4<=6;decide,by show 6<=20;decide⟩
 |lend r d p o n t=>exact⟨by show 4<=7;decide,by show 7<=20;decide⟩
 |back r d f=>exact⟨by show 4<=4;decide,by show 4<=20;decide⟩
 |fix r f ls=>
  have e:((Deed.fix r f ls).pv.flatMap PV.ws).length=2+2*ls.length:=by
   show(r::f::(jaA (ls.map lnP)++[])).length=_
   rw[j0l,j0b,j0b,ja0,j0f]
   omega
  have:=h.2.2.1.1
  have:=h.2.2.1.2.1
  omega
theorem jhP {W:List Str}{i:Nat}{b:Str}(hi:i<W.length)(hl:W.length<=20)(hw:∀z∈W,Wd1 z)(hb:b.length<=41)(μ:M):jah .frz jd8.F [jab W,.int (i:Int),.str b] μ=.ok (.str (jn (W.set i b))) μ:=by
 refine jak (F:=jgO) ?_ jaw
 have hs:W.set i b=W.take i++[b]++W.drop (i+1):=by
  rw[j0J,List.set_eq_take_append_cons_drop,if_pos hi]
  rfl
 have hj:mtD .join (.str " ") [.lst ((W.take i).map D.str++[D.str b]++(W.drop (i+1)).map D.str)] μ=.ok (.str (jn (W.set i b))) μ:=by
  have:=juR (zs:=W.set i b) (by rw[List.length_set];omega) (fun z hz=>by
   rcases List.mem_or_eq_of_mem_set hz with h|h
   ·have:=(hw z h).2.2
    omega
   ·rw[h];omega) μ
  rw[hs]at this ⊢
  simpa only[jab,j0Q,j0i,j0z]using this
 unfold jgO jg4
 symm
 rwa[jga]
 rw[show jab (W.take i)=.lst ((W.take i).map D.str)from rfl,jhd (by
  rw[j0f,j0n]
  exact jad (by simp only[j0b,j0x];omega))]
 symm
 rwa[show((i:Int)+1)=((i+1:Nat):Int)from by omega,jfC]
 rw[show jab (W.drop (i+1))=.lst ((W.drop (i+1)).map D.str)from rfl,jhd (by
  rw[j0p,j0f,j0f,j0n,j1o]
  exact jad (by simp only[j0b,j0x];omega))]
 symm
 rwa[hj]
theorem jfW {W:List Str}{i:Nat}{b:Str}(hl:W.length<=20)(hw:∀z∈W,Wd1 z)(hb:b.length<=41)(hb0:Wd0 b)(h:∀y:Deed,y.Ok->y.words≠W.set i b):jhq (jn (W.set i b)):=by
 refine jtb (by rw[List.length_set];omega) (fun z hz=>?_) (jsr (by rw[List.length_set];omega) fun z hz=>?_) h
 ·rcases List.mem_or_eq_of_mem_set hz with q|q
  ·exact jhX (hw z q)
  ·rw[q];exact hb0
 ·rcases List.mem_or_eq_of_mem_set hz with q|q
  ·have:=(hw z q).2.2
   omega
  ·rw[q];exact hb
noncomputable def Deed.kd:Deed->Nat
 |.buy ..=>0
 |.spend ..=>1
 |.two ..=>2
 |.lend ..=>3
 |.back ..=>4
 |.fix ..=>5
noncomputable def kdW (w:Str):Nat:=if w = "buy" then 0 else if w = "spend" then 1 else if w = "lend" then 3 else if w = "back" then 4 else if w = "fix" then 5 else 2
theorem jof (x:Deed)(h:x.Ok):x.kd=kdW x.w:=by
 cases x with
 |buy r d p ls=>exact(if_pos rfl).symm
 |spend r d p n fs=>exact((if_neg (by show ¬ Str.ofString "spend" =_;ac_rfl)).trans (if_pos rfl)).symm
 |lend r d p o n t=>exact((if_neg (by show ¬ Str.ofString "lend" =_;ac_rfl)).trans ((if_neg (by show ¬ Str.ofString "lend" =_;ac_rfl)).trans (if_pos rfl))).symm
 |back r d f=>exact((if_neg (by show ¬ Str.ofString "back" =_;ac_rfl)).trans ((if_neg (by show ¬ Str.ofString "back" =_;ac_rfl)).trans ((if_neg (by show ¬ Str.ofString "back" =_;ac_rfl)).trans (if_pos rfl)))).symm
 |fix r f ls=>exact((if_neg (by show ¬ Str.ofString "fix" =_;ac_rfl)).trans ((if_neg (by show ¬ Str.ofString "fix" =_;ac_rfl)).trans ((if_neg (by show ¬ Str.ofString "fix" =_;ac_rfl)).trans ((if_neg (by show ¬ Str.ofString "fix" =_;ac_rfl)).trans (if_pos rfl))))).symm
 |two w r d p o n=>
  have hne:∀z∈([Str.ofString "buy",Str.ofString "spend",Str.ofString "lend",Str.ofString "back",Str.ofString "fix"]:List Str),w≠z:=by
   rcases h.1 with q|q
   ·rw[q];ac_rfl
   ·rw[q];ac_rfl
  exact((if_neg (hne _ (by simp))).trans ((if_neg (hne _ (by simp))).trans ((if_neg (hne _ (by simp))).trans ((if_neg (hne _ (by simp))).trans (if_neg (hne _ (by simp))))))).symm
theorem jcE {x y:Deed}(hx:x.Ok)(hy:y.Ok)(e:y.w=x.w):y.kd=x.kd:=by rw[jof x hx,jof y hy,e]
noncomputable def jAv (k i:Nat):Bool:=match k with
 |0=>decide (i=2∨(5<=i/\i % 2=1))
 |1=>decide (i=2∨i=4)
 |2=>decide (i=2∨i=5)
 |3=>decide (i=2∨i=5∨i=6)
 |4=>decide (i=2)
 |_=>decide (4<=i/\i % 2=0)
theorem jnL (x:Deed)(i:Nat):x.numAt i=jAv x.kd i:=by cases x<;>rfl
theorem jln (x y:Deed)(hx:x.Ok)(hy:y.Ok)(e:x.w=y.w)(i:Nat):x.numAt i=y.numAt i:=by rw[jnL,jnL,jcE hy hx e]
theorem jc {x y:Deed}{i:Nat}{b:Str}(hi:i≠0)(e:y.words=x.words.set i b):y.w=x.w:=by
 have h:y.words[0]?=(x.words.set i b)[0]?:=by rw[e]
 rw[j1b hi,ja7,ja7]at h
 simpa using h
theorem joZ {x y:Deed}{i:Nat}{b:Str}(hi:i<x.words.length)(e:y.words=x.words.set i b):y.words[i]?=some b:=by
 rw[e]
 exact j1j hi
theorem jpE (x:Deed):x.numAt 0=false:=by cases x<;>rfl
theorem jx3 {x:Deed}(hx:x.Ok){i:Nat}{b:Str}(hi:i<x.words.length)(hn:x.numAt i=true)(hb:wnB b=false):∀y:Deed,y.Ok->y.words≠x.words.set i b:=fun y hy e=>by
 have h0:i≠0:=fun z=>by rw[z,jpE]at hn;cases hn
 rcases jgC y hy i b (joZ hi e)with⟨_,h⟩|⟨h,_⟩
 ·rw[h]at hb;cases hb
 ·rw[jln y x hy hx (jc h0 e),hn]at h;cases h
theorem jzj {x:Deed}(hx:x.Ok){i:Nat}{b:Str}(hi:i<x.words.length)(h0:i≠0)(hn:x.numAt i=false)(hb:jal b=false):∀y:Deed,y.Ok->y.words≠x.words.set i b:=fun y hy e=>by
 rcases jgC y hy i b (joZ hi e)with⟨h,_⟩|⟨_,h⟩
 ·rw[jln y x hy hx (jc h0 e),hn]at h;cases h
 ·rw[show jal b=true from h]at hb;cases hb
theorem jsx {x:Deed}(hx:x.Ok){b:Str}(hb:jbb b jct=none):∀y:Deed,y.Ok->y.words≠x.words.set 0 b:=fun y hy e=>by
 have h:=joZ (by have:=(jaI x hx).1;omega) e
 rw[ja7]at h
 have h':y.w=b:=by simpa using h
 have:=jgE y hy
 rw[h',hb]at this
 cases this
theorem jrY {z:Str}(h:z.cps.toList≠[])(hl:z.length<=1000)(μ:M):∃c,ixD (.str z) (.int 0) μ=.ok (.str (sTx [c])) μ/\jdM .In (.str (sTx [c])) (.str "0123456789") μ=.ok (.bl (jmM z)) μ/\jdM .NotIn (.str (sTx [c])) (.str "0123456789") μ=.ok (.bl (!jmM z)) μ:=by
 cases e:z.cps.toList with
 |nil=>exact absurd e h
 |cons c r=>
  have hc:Txt.contains (Str.ofString "0123456789") (sTx [c])=jmM z:=by
   unfold jmM
   rw[e]
   have:=PySem.StrLaws.found_one (Str.ofString "0123456789") c
   refine(show Txt.contains (Str.ofString "0123456789") (sTx [c])=_ from this).trans ?_
   rw[decide_eq_decide,show(Str.ofString "0123456789").cps.toList=[48,49,50,51,52,53,54,55,56,57]from by ac_rfl]
   simp only[j0d,j0A,or_false]
   omega
  refine⟨c,?_,?_,?_⟩
  ·have hat:atI z.cps.toList ((0:Nat):Int)=some c:=jdC (by rw[e];rfl)
   unfold ixD
   simp only[if_pos (show z.length<=sizeLine from jad hl)]
   rw[show((0:Int))=((0:Nat):Int)from rfl,hat]
   rfl
  ·show Out.ok (D.bl (Txt.contains (Str.ofString "0123456789") (sTx [c]))) μ=_
   rw[hc]
  ·show Out.ok (D.bl (!Txt.contains (Str.ofString "0123456789") (sTx [c]))) μ=_
   rw[hc]
noncomputable def jf3 (W:List Str):List Nat:=(List.range W.length).filter fun k=>jmM (W.getD k "")
noncomputable def jkF (W:List Str):List Nat:=((List.range (W.length - 1)).map (1 + ·)).filter fun k=>!jmM (W.getD k "")
theorem jbW {W:List Str}{k:Nat}(h:k<W.length):W.getD k ""∈W/\W[k]?=some (W.getD k ""):=by
 have e:W.getD k "" =W[k]:=by simp[List.getD,h]
 rw[e]
 exact⟨List.getElem_mem h,List.getElem?_eq_getElem h⟩
theorem jtR {W:List Str}(hl:W.length<=20)(hw:∀z∈W,Wd1 z)(d0 o2 o3 o4 o5 o6 o7:Option D)(μ:M):(ev jaa jbZ).v [d0,some (jab W),o2,o3,o4,o5,o6,o7] μ=.ok (.lst ((jf3 W).map fun(k:Nat)=>D.int (k:Int))) μ:=by
 unfold jbZ
 rw[jaX (ds:=[.int (W.length:Int)]) (xs:=List.range W.length) (e:=fun(k:Nat)=>D.int (k:Int)) (fun k=>jmM (W.getD k "")) (fun(k:Nat)=>D.int (k:Int)) (by
  symm
  rw[jaY]
  symm) (jeJ (by omega)) (by rw[List.length_range];exact jad (by omega)) fun k hk=>⟨_,rfl,by
   have hk':=j1d.mp hk
   obtain⟨c,h1,h2,_⟩:=jrY (hw _ (jbW hk').1).1 (by have:=(hw _ (jbW hk').1).2.2;omega) μ
   symm
   rwa[jgt hk']
   rwa[h1]
   rw[h2]
   symm,fun _=>by symm⟩]
 rfl
theorem jvY {W:List Str}(h1:1<=W.length)(hl:W.length<=20)(hw:∀z∈W,Wd1 z)(d0 o2 o3 o4 o5 o6 o7:Option D)(μ:M):(ev jaa jbO).v [d0,some (jab W),o2,o3,o4,o5,o6,o7] μ=.ok (.lst ((jkF W).map fun(k:Nat)=>D.int (k:Int))) μ:=by
 have hi:itD .rng2 [.int 1,.int (W.length:Int)] μ=some (((List.range (W.length - 1)).map (1 + ·)).map fun(k:Nat)=>D.int (k:Int)):=by
  show(@ite _ _ (Classical.propDecidable _) (some ((List.range ((W.length:Int) - 1).toNat).map fun(k:Nat)=>D.int (1+(k:Int)))) none)=_
  rw[if_pos ⟨by omega,by omega,by omega,by omega⟩,show((W.length:Int) - 1).toNat=W.length - 1 from by omega,j0I]
  congr 1
 unfold jbO
 rw[jaX (ds:=[.int 1,.int (W.length:Int)]) (xs:=(List.range (W.length - 1)).map (1 + ·)) (e:=fun(k:Nat)=>D.int (k:Int)) (fun k=>!jmM (W.getD k "")) (fun(k:Nat)=>D.int (k:Int)) (by
  symm
  rw[jaY]
  symm) hi (by rw[j0f,List.length_range];exact jad (by omega)) fun k hk=>⟨_,rfl,by
   obtain⟨k',hk',rfl⟩:=j0s.mp hk
   have hk2:=j1d.mp hk'
   have hk3:1+k'<W.length:=by omega
   obtain⟨c,h1,_,h2⟩:=jrY (hw _ (jbW hk3).1).1 (by have:=(hw _ (jbW hk3).1).2.2;omega) μ
   symm
   rwa[jgt hk3]
   rwa[h1]
   rw[h2]
   symm,fun _=>by symm⟩]
 rfl
theorem joI {x:Deed}(h:x.Ok){i:Nat}(hi:i∈jf3 x.words):i<x.words.length/\x.numAt i=true/\wnB (x.words.getD i "")=true:=by
 obtain⟨h1,h2⟩:=j0Y.mp hi
 have hl:=j1d.mp h1
 refine⟨hl,?_⟩
 rcases jgC x h i _ (jbW hl).2 with q|⟨_,q⟩
 ·exact q
 ·rw[jsl q]at h2;cases h2
theorem jv5 {x:Deed}(h:x.Ok){i:Nat}(hi:i∈jkF x.words):i<x.words.length/\i≠0/\x.numAt i=false:=by
 obtain⟨h1,h2⟩:=j0Y.mp hi
 obtain⟨k,hk,rfl⟩:=j0s.mp h1
 have hl:=j1d.mp hk
 have hl2:1+k<x.words.length:=by omega
 refine⟨hl2,by omega,?_⟩
 rcases jgC x h _ _ (jbW hl2).2 with⟨_,q⟩|q
 ·rw[jr6 q]at h2;cases h2
 ·exact q.1
theorem jnr {x:Deed}(h:x.Ok){i:Nat}(hl:i<x.words.length)(hn:x.numAt i=true):i∈jf3 x.words:=by
 refine j0Y.mpr ⟨j1d.mpr hl,?_⟩
 rcases jgC x h i _ (jbW hl).2 with⟨_,q⟩|⟨q,_⟩
 ·exact jr6 q
 ·rw[hn]at q;cases q
theorem jwd {x:Deed}(h:x.Ok):1∈jkF x.words:=by
 have hl:=(jaI x h).1
 refine j0Y.mpr ⟨j0s.mpr ⟨0,j1d.mpr (by omega),rfl⟩,?_⟩
 rcases jgC x h 1 _ (jbW (by omega)).2 with⟨q,_⟩|⟨_,q⟩
 ·cases x<;>cases q
 ·rw[jsl q];rfl
theorem jru {x:Deed}(h:x.Ok):0<(jf3 x.words).length:=by
 have hl:=(jaI x h).1
 cases x with
 |fix r f ls=>
  have:5<=(Deed.fix r f ls).words.length:=by
   rw[ja7,j0b]
   have e:((Deed.fix r f ls).pv.flatMap PV.ws).length=2+2*ls.length:=by
    show(r::f::(jaA (ls.map lnP)++[])).length=_
    rw[j0l,j0b,j0b,ja0,j0f]
    omega
   have:=h.2.2.1.1
   omega
  exact List.length_pos_of_mem (jnr h (i:=4) (by omega) rfl)
 |_=>exact List.length_pos_of_mem (jnr h (i:=2) (by omega) rfl)
theorem jsh:∀(l a:List Nat),a≠[]->∃p∈wc a l,∀x∈a,x∈p
 |[],a,h=>⟨a,by unfold wc jeS;rw[if_neg h];simp,fun x hx=>hx⟩
 |c::l,a,h=>by
  unfold wc
  split
  ·exact⟨a,by unfold jeS;rw[if_neg h];simp,fun x hx=>hx⟩
  ·obtain⟨p,hp,hx⟩:=jsh l (a++[c]) (by simp)
   exact⟨p,hp,fun x h=>hx x (by simp[h])⟩
theorem jki {c:Nat}(hc:c≠32):∀(l a:List Nat),c∈l->∃p∈wc a l,c∈p
 |[],a,h=>by cases h
 |b::l,a,h=>by
  unfold wc
  split
  ·rename_i hb
   rcases j0d.mp h with e|e
   ·exact absurd (e.trans hb) hc
   ·obtain⟨p,hp,hx⟩:=jki hc l [] e
    exact⟨p,j0u _ hp,hx⟩
  ·rcases j0d.mp h with e|e
   ·obtain⟨p,hp,hx⟩:=jsh l (a++[b]) (by simp)
    exact⟨p,hp,hx c (by simp[e])⟩
   ·exact jki hc l (a++[b]) e
theorem jro (y:Deed)(hy:y.Ok):∀z∈y.words,Ch z:=fun z hz x hx=>by
 obtain⟨i,hi⟩:=List.getElem?_of_mem hz
 rcases jgC y hy i z hi with⟨_,h⟩|⟨_,h⟩
 ·obtain⟨c,r,e,hd,_⟩:=jiA h
  rw[e]at hx
  exact .inr (hd x hx)
 ·obtain⟨c,r,e,hd,_⟩:=jlZ h
  rw[e]at hx
  exact .inl (hd x hx)
theorem jqS {T:Str}{c:Nat}(hT:T.length<=900)(hc:c∈T.cps.toList)(h:c≠32/\¬ (97<=c/\c<=122)/\¬ (48<=c/\c<=57)):jhq T:=⟨hT,fun y hy e=>by
 obtain⟨p,hp,hx⟩:=jki h.1 T.cps.toList [] hc
 have hm:sTx p∈y.words:=by rw[e];exact j0s.mpr ⟨p,hp,rfl⟩
 rcases jro y hy _ hm c (by simpa[sTx]using hx)with q|q
 ·exact h.2.1 q
 ·exact h.2.2 q⟩
theorem jux (r:Str)(d:Int)(p:Str)(ls:List Ln):(Deed.buy r d p ls).words=Str.ofString "buy" :: r::nTx d::p::jaA (ls.map lnP):=by
 show Str.ofString "buy" :: r::nTx d::p::(jaA (ls.map lnP)++[])=_
 rw[j0l]
theorem jde (r:Str)(d:Int)(p:Str)(n:Int)(fs:List Str):(Deed.spend r d p n fs).words=Str.ofString "spend" :: r::nTx d::p::nTx n::fs:=by
 show Str.ofString "spend" :: r::nTx d::p::nTx n::(fs++[])=_
 rw[j0l]
theorem jkA (r f:Str)(ls:List Ln):(Deed.fix r f ls).words=Str.ofString "fix" :: r::f::jaA (ls.map lnP):=by
 show Str.ofString "fix" :: r::f::(jaA (ls.map lnP)++[])=_
 rw[j0l]
noncomputable def jsH:Nat->Nat->Prop
 |0,n=>n % 2=0/\6<=n/\n<=20
 |1,n=>5<=n/\n<=13
 |2,n=>n=6
 |3,n=>n=7
 |4,n=>n=4
 |_,n=>n % 2=1/\5<=n/\n<=19
theorem jlt (y:Deed)(hy:y.Ok):jsH y.kd y.words.length:=by
 cases y with
 |buy r d p ls=>
  obtain⟨_,_,_,h1,h2,_⟩:=hy
  rw[jux]
  show _ % 2=0/\_
  simp only[j0b,ja0,j0f]
  omega
 |spend r d p n fs=>
  obtain⟨_,_,_,_,h1,_⟩:=hy
  rw[jde]
  show 5<=_/\_
  simp only[j0b]
  omega
 |two w r d p o n=>rfl
 |lend r d p o n e=>rfl
 |back r d f=>rfl
 |fix r f ls=>
  obtain⟨_,_,⟨h1,h2,_⟩,_⟩:=hy
  rw[jkA]
  show _ % 2=1/\_
  simp only[j0b,ja0,j0f]
  omega
theorem jhN {x:Deed}(hx:x.Ok){zs:List Str}(hw:zs[0]?=some x.w)(hl:¬ jsH x.kd zs.length):∀y:Deed,y.Ok->y.words≠zs:=fun y hy e=>by
 have h:=congrArg (fun l:List Str=>l[0]?) e
 simp only[ja7,j0F]at h
 rw[hw]at h
 have hk:=jcE hx hy (j0w h)
 have:=jlt y hy
 rw[hk,e]at this
 exact hl this
theorem jan {G:List FnE}{c:E}{a:List S}{ss:List S}{ρ:S3}{μ:M}(h:(ev G c).t ρ μ=.ok false μ):runs G (.ite c a []::ss) ρ μ=runs G ss ρ μ:=by
 rw[jbU,jgV,h,jcn,if_neg j0g,jfr,jcm]
theorem jbr {G:List FnE}{c:E}{a b:List S}{ss:List S}{ρ:S3}{μ:M}(h:(ev G c).t ρ μ=.ok true μ):runs G (.ite c a b::ss) ρ μ=jmi (runs G a ρ μ) (runs G ss):=by
 rw[jbU,jgV,h,jcn,if_pos rfl]
theorem jrF (x:Deed)(μ:M):ixD x.dat (.int 0) μ=.ok (.str x.w) μ:=by
 rw[jhE]
 exact jh5 μ
theorem jhU {G:List FnE}{x:Deed}{b:Str}{o:Bool}{r:S3}{μ:M}(h:decide (x.w=b)=o):(ev G (.cmp .Eq (.ix (.var 0) (.cst (.int 0))) (.cst (.str b)))).t (some x.dat::r) μ=.ok o μ:=by
 symm
 rwa[jrF]
 rw[h]
theorem jr1 (w:Str)(zs:List Str)(μ:M):jdM .In (.str w) (.tup (zs.map D.str)) μ=.ok (.bl (decide (w∈zs))) μ:=by
 have:jpl .In (.str w) (.tup (zs.map D.str)) μ=some (decide (w∈zs)):=by
  show(jvh (.str w) (zs.map D.str))=_
  exact jhh w zs
 unfold jdM
 rw[this]
theorem jqO {α:Type}{l:List α}{k:Nat}{z:α}(h:z∈l.take k):z∈l:=j0R h
theorem jjf {W zs:List Str}{k:Nat}(hl:W.length<=20)(hw:∀z∈W,Wd1 z)(hk:k<=5)(hz:zs.length<=18)(hs:∀z∈zs,Wd1 z)(μ:M):jg0 .Add false (jab (W.take k)) (jab zs) μ=.ok (jab (W.take k++zs)) μ/\mtD .join (.str " ") [jab (W.take k++zs)] μ=.ok (.str (jn (W.take k++zs))) μ /\
  ((∀y:Deed,y.Ok->y.words≠W.take k++zs)->jhq (jn (W.take k++zs))):=by
 have hm:∀z∈W.take k++zs,Wd1 z:=fun z h=>by
  rcases j03.mp h with h|h
  ·exact hw z (jqO h)
  ·exact hs z h
 have hlen:(W.take k++zs).length<=23:=by
  rw[j0p,j0n]
  omega
 refine⟨?_,juR (by omega) (fun z hz=>by have:=(hm z hz).2.2;omega) μ,fun h=>⟨?_,fun y hy=>by rw[jqg fun z hz=>jhX (hm z hz)];exact h y hy⟩⟩
 ·show jg0 .Add false (.lst _) (.lst _) μ=_
  rw[jhd (by rw[j0f,j0f,j0n];exact jad (by omega)),<- j0Q]
 ·have h1:=jnn (b:=12) fun z hz=>(hm z hz).2.2
  have h2:(W.take k++zs).length*(12+1)<=23*13:=Nat.mul_le_mul_right 13 hlen
  omega
abbrev jvD:List Str:=["tea","1","tea","1","tea","1","tea","1","tea","1","tea","1","tea","1","tea","1","tea","1"]
theorem job:∀z∈jvD,Wd1 z:=by
 have h:∀z∈jvD,z.cps.toList≠[]/\32∉z.cps.toList/\z.length<=12:=by ac_rfl
 exact h
theorem js8 {ds:List D}{n:Int}(h:0<=n/\n<1000/\ds≠[]/\ds.length<=1000)(μ:M):jg0 .Mult false (.lst ds) (.int n) μ=.ok (.lst (List.replicate n.toNat ds).flatten) μ:=if_pos h
theorem joi (μ:M):jg0 .Mult false (.lst [.str "tea",.str "1"]) (.int 9) μ=.ok (jab jvD) μ:=js8 ⟨by decide,by decide,by simp,by simp⟩ μ
abbrev jts:List Str:=["a","b","c","d","e","f","g","h","i"]
theorem jup:∀z∈jts,Wd1 z:=by
 have h:∀z∈jts,z.cps.toList≠[]/\32∉z.cps.toList/\z.length<=12:=by ac_rfl
 exact h
theorem joC (μ:M):biD .list false [.str "abcdefghi"] μ=.ok (jab jts) μ:=by
 show(if(Str.ofString "abcdefghi").cps.size<=1000 then mkL false ((Str.ofString "abcdefghi").cps.toList.map fun c=>D.str ⟨#[c]⟩) μ else .bad)=_
 rw[if_pos (by ac_rfl)]
 show Out.ok (D.lst _) μ=_
 congr 2
theorem jdf {W zs:List Str}{w:Str}{k:Nat}(h:W[0]?=some w)(hk:0<k):(W.take k++zs)[0]?=some w:=by
 cases W with
 |nil=>cases h
 |cons a r=>
  cases k with
  |zero=>cases hk
  |succ k=>exact h
theorem jf1 (x:Deed):x.words[0]?=some x.w:=by rw[ja7];rfl
theorem jyR (x:Deed)(h:x.Ok)(many:Bool)(μ:M):∃T:Str,jhq T/\jah .frz jcC.F [x.dat,jab x.words,.bl many] μ=.ok (.str T) μ:=by
 obtain⟨l1,l2⟩:=jaI x h
 obtain⟨hw,_⟩:=jbz x h
 have ix:∀{k:Nat},k<4->∀ν:M,ixD (jab x.words) (.int (k:Int)) ν=.ok (.str (x.words.getD k "")) ν:=fun {k} hk ν=>jgt (by omega)
 have wdk:∀{k:Nat},k<4->Wd1 (x.words.getD k ""):=fun {k} hk=>hw _ (jbW (by omega)).1
 have hput:∀{i k:Nat},i<x.words.length->k<4->(∀y:Deed,y.Ok->y.words≠x.words.set i (x.words.getD k ""))->∃T:Str,jhq T/\∀ν:M,jah .frz jd8.F [jab x.words,.int (i:Int),.str (x.words.getD k "")] ν=.ok (.str T) ν:=fun {i k} hi hk hn=>
  ⟨_,jfW l2 hw (by have:=(wdk hk).2.2;omega) (jhX (wdk hk)) hn,fun ν=>jhP hi l2 hw (by have:=(wdk hk).2.2;omega) ν⟩
 have c1:∀{o:Bool},(many&&decide (x.w∈[Str.ofString "buy",Str.ofString "fix"]))=o->(ev jbL (.and_ (.var 2) (.cmp .In (.ix (.var 0) (.cst (.int 0))) (.tup [(.cst (.str "buy")),(.cst (.str "fix"))])))).t [some x.dat,some (jab x.words),some (.bl many)] μ=.ok o μ:=fun {o} ho=>by
  symm
  rwa[jrF]
  rw[show jdM .In (.str x.w) (.tup [.str "buy",.str "fix"]) μ=_ from jr1 x.w [Str.ofString "buy",Str.ofString "fix"] μ]
  rw[<- ho]
  cases many<;>rfl
 have fin:∀{T:Str},runs jbL jat [some x.dat,some (jab x.words),some (.bl many)] μ=.ok (.rt (.str T)) μ->jah .frz jcC.F [x.dat,jab x.words,.bl many] μ=.ok (.str T) μ:=fun {T} e=>by
  refine jak (F:=jdv) ?_ jaw
  unfold jdv
  rw[jgH,if_pos (show [x.dat,jab x.words,D.bl many].length=3 from rfl)]
  show jgp (runs jbL jat [some x.dat,some (jab x.words),some (.bl many)] μ)=_
  rw[e]
  rfl
 have hcs:x.kd=0∨x.kd=1∨x.kd=2∨x.kd=3∨x.kd=4∨x.kd=5:=by cases x<;>simp[Deed.kd]
 rcases hcs with hk|hk|hk|hk|hk|hk
 ·have hx:x.w=Str.ofString "buy":=by cases x<;>first|rfl|cases hk
  cases many with
  |true=>
   obtain⟨a1,a2,a3⟩:=jjf l2 hw (show 4<=5 by decide) (show jvD.length<=18 by decide) job μ
   refine⟨_,a3 (jhN h (jdf (jf1 x) (by decide)) (by rw[hk];show ¬ (_/\_);rw[j0p,j0n];simp only[j0b,j0x];omega)),fin ?_⟩
   unfold jat
   rwa[jbr (c1 (by rw[hx];ac_rfl))]
   rwa[jrF]
   rwa[hx,show decide (Str.ofString "buy" =Str.ofString "fix")=false from by ac_rfl,show biD .int false [.bl false] μ=.ok (.int 0) μ from nr rfl]
   rwa[show((4:Int) - 0)=((4:Nat):Int)from rfl,jga]
   rwa[joi]
   rwa[a1]
   rwa[a2]
  |false=>
   obtain⟨a1,a2,a3⟩:=jjf (zs:=[]) l2 hw (show 4<=5 by decide) (by decide) (fun z hz=>by cases hz) μ
   rw[j0l]at a1 a2 a3
   refine⟨_,a3 (jhN h (by have:=jdf (zs:=[]) (k:=4) (jf1 x) (by decide);(rw[j0l]at this;assumption)) (by rw[hk];show ¬ (_/\_);rw[j0n];omega)),fin ?_⟩
   unfold jat
   rwa[jan (c1 rfl),jan (jhU (by rw[hx];ac_rfl)),jan (jhU (by rw[hx];ac_rfl)),jan (jhU (by rw[hx];ac_rfl)),jbr (jhU (by rw[hx];ac_rfl))]
   rwa[show((4:Int))=((4:Nat):Int)from rfl,jga]
   rwa[a2]
 ·have hx:x.w=Str.ofString "spend":=by cases x<;>first|rfl|cases hk
  have hl5:5<=x.words.length:=by
   have:=jlt x h
   rw[hk]at this
   exact this.1
  cases many with
  |true=>
   obtain⟨a1,a2,a3⟩:=jjf l2 hw (show 5<=5 by decide) (show jts.length<=18 by decide) jup μ
   refine⟨_,a3 (jhN h (jdf (jf1 x) (by decide)) (by rw[hk];show ¬ (_/\_);rw[j0p,j0n];simp only[j0b,j0x];omega)),fin ?_⟩
   unfold jat
   rwa[jan (c1 (by rw[hx];ac_rfl)),jbr (jhU (by rw[hx];ac_rfl))]
   rwa[show((5:Int))=((5:Nat):Int)from rfl,jga]
   rwa[joC]
   rwa[show biD .int false [.bl false] μ=.ok (.int 0) μ from nr rfl]
   rwa[show ixD (.lst [jab jts,.lst [.str "b",.str "a",.str "b"]]) (.int 0) μ=.ok (jab jts) μ from nr rfl]
   rwa[a1]
   rwa[a2]
  |false=>
   have hb:∀z∈([Str.ofString "b",Str.ofString "a",Str.ofString "b"]:List Str),z.cps.toList≠[]/\32∉z.cps.toList/\z.length<=12:=by ac_rfl
   obtain⟨a1,a2,a3⟩:=jjf (zs:=[Str.ofString "b",Str.ofString "a",Str.ofString "b"]) l2 hw (show 5<=5 by decide) (by decide) hb μ
   refine⟨_,a3 fun y hy e=>?_,fin ?_⟩
   ·have hy0:=congrArg (fun l:List Str=>l[0]?) e
    simp only[jdf (jf1 x) (show 0<5 by decide),jf1,j0v]at hy0
    have hky:=jcE h hy hy0
    rw[hk]at hky
    obtain⟨r,d,p,n,fs,rfl⟩:∃r d p n fs,y=.spend r d p n fs:=by cases y<;>first|exact⟨_,_,_,_,_,rfl⟩|cases hky
    have ed:=congrArg (List.drop 5) e
    rw[jde,List.drop_left' (by rw[j0n];omega)]at ed
    have ef:fs=[Str.ofString "b",Str.ofString "a",Str.ofString "b"]:=ed
    have:=hy.2.2.2.2.2.1
    rw[ef]at this
    exact absurd this (by ac_rfl)
   ·unfold jat
    rwa[jan (c1 rfl),jbr (jhU (by rw[hx];ac_rfl))]
    rwa[show((5:Int))=((5:Nat):Int)from rfl,jga]
    rwa[joC]
    rwa[show biD .int false [.bl true] μ=.ok (.int 1) μ from nr rfl]
    rwa[show ixD (.lst [jab jts,.lst [.str "b",.str "a",.str "b"]]) (.int 1) μ=.ok (jab [Str.ofString "b",Str.ofString "a",Str.ofString "b"]) μ from nr rfl]
    rwa[a1]
    rwa[a2]
 ·obtain⟨w,r,d,p,o,n,rfl⟩:∃w r d p o n,x=.two w r d p o n:=by cases x<;>first|exact⟨_,_,_,_,_,_,rfl⟩|cases hk
  have hne:∀z∈([Str.ofString "buy",Str.ofString "spend",Str.ofString "lend",Str.ofString "back",Str.ofString "fix"]:List Str),w≠z:=by
   rcases h.1 with q|q
   ·rw[q];ac_rfl
   ·rw[q];ac_rfl
  have hq:∀b∈([Str.ofString "buy",Str.ofString "spend",Str.ofString "lend",Str.ofString "back",Str.ofString "fix"]:List Str),decide ((Deed.two w r d p o n).w=b)=false:=fun b hb=>decide_eq_false (hne b hb)
  obtain⟨T,hT,hp⟩:=hput (i:=4) (k:=3) (show 4<6 by decide) (by decide) fun y hy e=>by
   have hky:=jcE h hy (jc (by decide) e)
   obtain⟨w',r',d',p',o',n',rfl⟩:∃w r d p o n,y=.two w r d p o n:=by cases y<;>first|exact⟨_,_,_,_,_,_,rfl⟩|cases hky
   have e':[w',r',nTx d',p',o',nTx n']=[w,r,nTx d,p,p,nTx n]:=e
   simp only[j1i]at e'
   exact hy.2.2.2.2.2.2 (e'.2.2.2.2.1.trans e'.2.2.2.1.symm)
  refine⟨T,hT,fin ?_⟩
  unfold jat
  rw[jan (c1 (o:=false) (by
   have:¬ (Deed.two w r d p o n).w∈[Str.ofString "buy",Str.ofString "fix"]:=fun q=>by
    simp only[j0d,j0A,or_false]at q
    rcases q with q|q
    ·exact hne _ (by simp) q
    ·exact hne _ (by simp) q
   rw[decide_eq_false this,Bool.and_false])),jan (jhU (hq (Str.ofString "spend") (by simp))),jan (jhU (hq (Str.ofString "back") (by simp))),jan (jhU (hq (Str.ofString "fix") (by simp))),jan (jhU (hq (Str.ofString "buy") (by simp)))]
  symm
  rwa[show((3:Int))=((3:Nat):Int)from rfl,ix (by decide)]
  rwa[show((4:Int))=((4:Nat):Int)from rfl,hp]
 ·obtain⟨r,d,p,o,n,t,rfl⟩:∃r d p o n t,x=.lend r d p o n t:=by cases x<;>first|exact⟨_,_,_,_,_,_,rfl⟩|cases hk
  obtain⟨T,hT,hp⟩:=hput (i:=4) (k:=3) (show 4<7 by decide) (by decide) fun y hy e=>by
   have hky:=jcE h hy (jc (by decide) e)
   obtain⟨r',d',p',o',n',t',rfl⟩:∃r d p o n t,y=.lend r d p o n t:=by cases y<;>first|exact⟨_,_,_,_,_,_,rfl⟩|cases hky
   have e':[Str.ofString "lend",r',nTx d',p',o',nTx n',nTx t']=[Str.ofString "lend",r,nTx d,p,p,nTx n,nTx t]:=e
   simp only[j1i]at e'
   exact hy.2.2.2.2.2.2.1 (e'.2.2.2.2.1.trans e'.2.2.2.1.symm)
  refine⟨T,hT,fin ?_⟩
  unfold jat
  rwa[jan (c1 (o:=false) (by rw[decide_eq_false (show ¬ (Deed.lend r d p o n t).w∈[Str.ofString "buy",Str.ofString "fix"]from(by show ¬ Str.ofString "lend"∈[Str.ofString "buy",Str.ofString "fix"];ac_rfl)),Bool.and_false])),jan (jhU (by show decide (Str.ofString "lend" =_)=false;ac_rfl)),jan (jhU (by show decide (Str.ofString "lend" =_)=false;ac_rfl)),jan (jhU (by show decide (Str.ofString "lend" =_)=false;ac_rfl)),jan (jhU (by show decide (Str.ofString "lend" =_)=false;ac_rfl))]
  rwa[show((3:Int))=((3:Nat):Int)from rfl,ix (by decide)]
  rwa[show((4:Int))=((4:Nat):Int)from rfl,hp]
 ·obtain⟨r,d,f,rfl⟩:∃r d f,x=.back r d f:=by cases x<;>first|exact⟨_,_,_,rfl⟩|cases hk
  obtain⟨T,hT,hp⟩:=hput (i:=3) (k:=1) (show 3<4 by decide) (by decide) fun y hy e=>by
   have hky:=jcE h hy (jc (by decide) e)
   obtain⟨r',d',f',rfl⟩:∃r d f,y=.back r d f:=by cases y<;>first|exact⟨_,_,_,rfl⟩|cases hky
   have e':[Str.ofString "back",r',nTx d',f']=[Str.ofString "back",r,nTx d,r]:=e
   simp only[j1i]at e'
   exact hy.2.2.2 (e'.2.2.2.1.trans e'.2.1.symm)
  refine⟨T,hT,fin ?_⟩
  unfold jat
  rwa[jan (c1 (o:=false) (by rw[decide_eq_false (show ¬ (Deed.back r d f).w∈[Str.ofString "buy",Str.ofString "fix"]from(by show ¬ Str.ofString "back"∈[Str.ofString "buy",Str.ofString "fix"];ac_rfl)),Bool.and_false])),jan (jhU (by show decide (Str.ofString "back" =_)=false;ac_rfl)),jbr (jhU (by show decide (Str.ofString "back" =_)=true;ac_rfl))]
  rwa[show((1:Int))=((1:Nat):Int)from rfl,ix (by decide)]
  rwa[show((3:Int))=((3:Nat):Int)from rfl,hp]
 ·obtain⟨r,f,ls,rfl⟩:∃r f ls,x=.fix r f ls:=by cases x<;>first|exact⟨_,_,_,rfl⟩|cases hk
  cases many with
  |true=>
   obtain⟨a1,a2,a3⟩:=jjf l2 hw (show 3<=5 by decide) (show jvD.length<=18 by decide) job μ
   refine⟨_,a3 (jhN h (jdf (jf1 _) (by decide)) (by show ¬ (_/\_);rw[j0p,j0n];simp only[j0b,j0x];omega)),fin ?_⟩
   unfold jat
   rwa[jbr (c1 (by rw[decide_eq_true (show(Deed.fix r f ls).w∈[Str.ofString "buy",Str.ofString "fix"]from(by show Str.ofString "fix"∈[Str.ofString "buy",Str.ofString "fix"];ac_rfl))];rfl))]
   rwa[jrF]
   rwa[show(Deed.fix r f ls).w=Str.ofString "fix" from rfl,show decide (Str.ofString "fix" =Str.ofString "fix")=true from by ac_rfl,show biD .int false [.bl true] μ=.ok (.int 1) μ from nr rfl]
   rwa[show((4:Int) - 1)=((3:Nat):Int)from rfl,jga]
   rwa[joi]
   rwa[a1]
   rwa[a2]
  |false=>
   obtain⟨T,hT,hp⟩:=hput (i:=2) (k:=1) (by omega) (by decide) fun y hy e=>by
    have hky:=jcE h hy (jc (by decide) e)
    obtain⟨r',f',ls',rfl⟩:∃r f ls,y=.fix r f ls:=by cases y<;>first|exact⟨_,_,_,rfl⟩|cases hky
    rw[jkA,jkA]at e
    have e':Str.ofString "fix" :: r'::f'::jaA (ls'.map lnP)=Str.ofString "fix" :: r::r::jaA (ls.map lnP):=e
    simp only[j1i]at e'
    exact hy.2.2.2 (e'.2.2.1.trans e'.2.1.symm)
   refine⟨T,hT,fin ?_⟩
   unfold jat
   rwa[jan (c1 rfl),jan (jhU (by show decide (Str.ofString "fix" =_)=false;ac_rfl)),jan (jhU (by show decide (Str.ofString "fix" =_)=false;ac_rfl)),jbr (jhU (by show decide (Str.ofString "fix" =_)=true;ac_rfl))]
   rwa[show((1:Int))=((1:Nat):Int)from rfl,ix (by decide)]
   rwa[show((2:Int))=((2:Nat):Int)from rfl,hp]
section
variable {G:List FnE} {a b c d e:Option D} {k j:Int} {r:S3} {μ:M} {o:Bool} {f:E}
theorem jhA (h:decide (k=j)=o):(ev G (.cmp .Eq (.var 5) (.cst (.int j)))).t (a::b::c::d::e::some (.int k)::r) μ=.ok o μ:=by
 symm
 rw[h]
theorem jrO (h:decide (6<k)=o):(ev G (.cmp .Gt (.var 5) (.cst (.int 6)))).t (a::b::c::d::e::some (.int k)::r) μ=.ok o μ:=by
 symm
 rw[h]
theorem jqW (h:decide (k=j)=false):(ev G (.and_ (.cmp .Eq (.var 5) (.cst (.int j))) f)).t (a::b::c::d::e::some (.int k)::r) μ=.ok false μ:=by
 rw[jio,jhA h]
 rfl
theorem jia (h:decide (k=j)=true)(hf:(ev G f).t (a::b::c::d::e::some (.int k)::r) μ=.ok o μ):(ev G (.and_ (.cmp .Eq (.var 5) (.cst (.int j))) f)).t (a::b::c::d::e::some (.int k)::r) μ=.ok o μ:=by
 rw[jio,jhA h,jcn]
 exact hf
end
noncomputable abbrev jph (ks:List Nat):D:=.lst (ks.map fun(k:Nat)=>D.int (k:Int))
theorem jkP {xs:List Nat}{i:Int}(h0:0<=i)(h1:i<xs.length)(μ:M):∃n∈xs,ixD (jph xs) (.int i) μ=.ok (.int (n:Int)) μ:=by
 obtain⟨d,hd,e⟩:=jil (a:=jph xs) (ds:=xs.map fun(k:Nat)=>D.int (k:Int)) (i:=i) h0 (by simpa using h1) (μ:=μ) rfl (by simp)
 obtain⟨n,hn,rfl⟩:=j0s.mp hd
 exact⟨n,hn,e⟩
theorem jjH {ks:List Nat}{μ:M}:biD .len false [jph ks] μ=.ok (.int ks.length) μ:=nr (by
 show Out.ok (D.int ((ks.map fun(k:Nat)=>D.int (k:Int)).length:Int)) μ=_
 rw[j0f])
noncomputable abbrev spR (x:Deed) (m k:Int):S3:=[some x.dat,some (jab x.words),some (.int m),some (jph (jf3 x.words)),some (jph (jkF x.words)),some (.int k),none,none]
theorem juw (x:Deed)(h:x.Ok)(m:Int)(μ:M){T:Str}(e:runs jaa (jac.drop 4) (spR x (m / 9) (m % 9)) μ=.ok (.rt (.str T)) μ):jah .frz jbQ.F [x.dat,jab x.words,.int m] μ=.ok (.str T) μ:=by
 obtain⟨l1,l2⟩:=jaI x h
 obtain⟨hw,_⟩:=jbz x h
 refine jak (F:=jdp) ?_ jaw
 unfold jdp
 rw[jgH,if_pos (show [x.dat,jab x.words,D.int m].length=3 from rfl)]
 have e2:runs jaa jac [some x.dat,some (jab x.words),some (.int m),none,none,none,none,none] μ=.ok (.rt (.str T)) μ:=by
  rw[<- e,show jac=.asg (.nm 3) jbZ::.asg (.nm 4) jbO::.asg (.nm 5) (.bin .Mod false (.var 2) (.cst (.int 9)))::.asg (.nm 2) (.bin .FloorDiv false (.var 2) (.cst (.int 9)))::jac.drop 4 from rfl]
  generalize jac.drop 4=ss
  rwa[jbU,jnW,jtR l2 hw]
  rwa[jvY (by omega) l2 hw]
  rfl
 show jgp (runs jaa jac [some x.dat,some (jab x.words),some (.int m),none,none,none,none,none] μ)=_
 rw[e2]
 rfl
theorem jnJ {w:Str} (h:w∉[Str.ofString "buy",Str.ofString "spend",Str.ofString "give",Str.ofString "change",Str.ofString "lend",Str.ofString "back",Str.ofString "fix"]):jbb w jct=none:=by
 simp only[j0d,j0A,or_false,not_or]at h
 obtain⟨h1,h2,h3,h4,h5,h6,h7⟩:=h
 simp only[jct,jbb,Ne.symm h1,Ne.symm h2,Ne.symm h3,Ne.symm h4,Ne.symm h5,Ne.symm h6,Ne.symm h7,if_false]
theorem jtj {z:Str}(h:wnB z=true):wnB (Str.ofString "0" ++ z)=false/\(Str.ofString "0" ++ z).length<=41/\Wd0 (Str.ofString "0" ++ z):=by
 obtain⟨c,r,e,hd,hl⟩:=jiA h
 have ez:(Str.ofString "0" ++ z).cps.toList=48::c::r:=by
  rw[jfu,e]
  rfl
 refine⟨?_,?_,?_,?_⟩
 ·unfold wnB
  split
  ·split
   ·rw[ez]
    have:¬ (Str.ofString "0" ++ z=Str.ofString "0"):=fun q=>by
     have:=congrArg (fun s:Str=>s.cps.toList) q
     simp only[ez]at this
     exact absurd this (by rw[show(Str.ofString "0").cps.toList=[48]from by ac_rfl];simp)
    rw[decide_eq_false this]
    rfl
   ·rfl
  ·rfl
 ·rw[jcr,ez]
  rw[jcr,e]at hl
  simp only[j0b]at hl ⊢
  omega
 ·rw[ez];simp
 ·rw[ez]
  intro q
  rcases j0d.mp q with q|q
  ·cases q
  ·have:=hd 32 q
   omega
theorem jt6 {z:Str}{n:Int}(h:0<=n/\n<=1000/\z.length<=1000)(μ:M):jg0 .Mult false (.str z) (.int n) μ=.ok (.str (Txt.mul z n)) μ:=if_pos h
theorem juV (μ:M):jg0 .Mult false (.str "1") (.int 40) μ=.ok (.str (Txt.mul "1" 40)) μ:=jt6 ⟨by decide,by decide,by ac_rfl⟩ μ
theorem jAO (x:Deed)(h:x.Ok)(m:Int)(hm:0<=m)(μ:M):∃T,jhq T/\runs jaa (jac.drop 4) (spR x m 0) μ=.ok (.rt (.str T)) μ:=by
 obtain⟨l1,l2⟩:=jaI x h
 obtain⟨hw,_⟩:=jbz x h
 have np:=jru h
 obtain⟨n0,hn0,e0⟩:=jkP (xs:=jf3 x.words) (i:=0) (by decide) (by omega) μ
 obtain⟨i1,i2,i3⟩:=joI h hn0
 obtain⟨z1,z2,z3⟩:=jtj i3
 have zl:=(hw _ (jbW i1).1).2.2
 let xs:List Str:=[Str.ofString "0" ++ x.words.getD n0 "","-1","+1","1.0","1000000000000","x","1e3","00",Txt.mul "1" 40,"one"]
 have hxs:∀b∈xs,wnB b=false/\b.length<=41/\Wd0 b:=fun b hb=>by
  have hc:∀b∈(["-1","+1","1.0","1000000000000","x","1e3","00",Txt.mul "1" 40,"one"]:List Str),wnB b=false/\b.length<=41/\(b.cps.toList≠[]/\32∉b.cps.toList):=by ac_rfl
  rcases j0d.mp hb with rfl|hb
  ·exact⟨z1,z2,z3⟩
  ·exact hc b hb
 obtain⟨bd,hbd,eb⟩:=jcI (xs:=xs) (i:=m % 10) (j00 _ (by decide)) (by have:=j0T m (show(0:Int)<10 by decide);show _<((10:Nat):Int);omega) μ
 obtain⟨b1,b2,b3⟩:=hxs bd hbd
 obtain⟨i,hi,ei⟩:=jkP (xs:=jf3 x.words) (i:=m / 10 % ((jf3 x.words).length:Int)) (j00 _ (by omega)) (j0T _ (by omega)) μ
 obtain⟨k1,k2,k3⟩:=joI h hi
 refine⟨_,jfW l2 hw b2 b3 (jx3 h k1 k2 b1),?_⟩
 show runs jaa (_::_::_) _ μ=_
 rwa[jan (jrO rfl),jbr (jhA rfl)]
 rwa[e0]
 rwa[jgt i1]
 rwa[jem (by rw[show(Str.ofString "0").length=1 from by ac_rfl];exact jad (by omega))]
 rwa[juV]
 rwa[show(D.lst [D.str (Str.ofString "0" ++ x.words.getD n0 ""),.str "-1",.str "+1",.str "1.0",.str "1000000000000",.str "x",.str "1e3",.str "00",.str (Txt.mul "1" 40),.str "one"])=jab xs from rfl,eb]
 rwa[jjH]
 rwa[jdy (by omega)]
 rwa[ei]
 rwa[jhP k1 l2 hw b2]
theorem jAM (x:Deed)(h:x.Ok)(m:Int)(hm:0<=m)(μ:M):∃T,jhq T/\runs jaa (jac.drop 4) (spR x m 1) μ=.ok (.rt (.str T)) μ:=by
 obtain⟨l1,l2⟩:=jaI x h
 obtain⟨hw,_⟩:=jbz x h
 have np:0<(jkF x.words).length:=List.length_pos_of_mem (jwd h)
 have hxs:∀b∈(["Ann","abcdefghi","an9","a.b","7","-","annA","0"]:List Str),jal b=false/\b.length<=41/\(b.cps.toList≠[]/\32∉b.cps.toList):=by ac_rfl
 obtain⟨bd,hbd,eb⟩:=jcI (xs:=["Ann","abcdefghi","an9","a.b","7","-","annA","0"]) (i:=m % 8) (j00 _ (by decide)) (by have:=j0T m (show(0:Int)<8 by decide);show _<((8:Nat):Int);omega) μ
 obtain⟨b1,b2,b3⟩:=hxs bd hbd
 obtain⟨i,hi,ei⟩:=jkP (xs:=jkF x.words) (i:=m / 8 % ((jkF x.words).length:Int)) (j00 _ (by omega)) (j0T _ (by omega)) μ
 obtain⟨k1,k2,k3⟩:=jv5 h hi
 refine⟨_,jfW l2 hw b2 b3 (jzj h k1 k2 k3 b1),?_⟩
 show runs jaa (_::_::_::_) _ μ=_
 rwa[jan (jrO rfl),jan (jhA rfl),jbr (jhA rfl)]
 simp only[jab,j0i,j0z]at eb
 rwa[eb]
 rwa[jjH]
 rwa[jdy (by omega)]
 rwa[ei]
 rwa[jhP k1 l2 hw b2]
theorem jAK (x:Deed)(h:x.Ok)(m:Int)(hm:0<=m)(μ:M):∃T,jhq T/\runs jaa (jac.drop 4) (spR x m 2) μ=.ok (.rt (.str T)) μ:=by
 obtain⟨l1,l2⟩:=jaI x h
 obtain⟨hw,_⟩:=jbz x h
 have hxs:∀b∈(["Buy","sell","buys","x","lends","7","BACK"]:List Str),b∉[Str.ofString "buy",Str.ofString "spend",Str.ofString "give",Str.ofString "change",Str.ofString "lend",Str.ofString "back",Str.ofString "fix"]/\b.length<=41/\(b.cps.toList≠[]/\32∉b.cps.toList):=by ac_rfl
 obtain⟨bd,hbd,eb⟩:=jcI (xs:=["Buy","sell","buys","x","lends","7","BACK"]) (i:=m % 7) (j00 _ (by decide)) (by have:=j0T m (show(0:Int)<7 by decide);show _<((7:Nat):Int);omega) μ
 obtain⟨b1,b2,b3⟩:=hxs bd hbd
 refine⟨_,jfW l2 hw b2 b3 (jsx h (jnJ b1)),?_⟩
 show runs jaa (_::_::_::_::_) _ μ=_
 rwa[jan (jrO rfl),jan (jhA rfl),jan (jhA rfl),jbr (jhA rfl)]
 simp only[jab,j0i,j0z]at eb
 rwa[eb]
 rwa[show((0:Int))=((0:Nat):Int)from rfl,jhP (by omega) l2 hw b2]
theorem jeM {zs:List Str}(hl:zs.length<=21)(hw:∀z∈zs,Wd1 z)(μ:M):mtD .join (.str " ") [jab zs] μ=.ok (.str (jn zs)) μ/\(jn zs).length<=273/\((∀y:Deed,y.Ok->y.words≠zs)->jhq (jn zs)):=by
 have h1:=jnn (b:=12) fun z hz=>(hw z hz).2.2
 have h2:zs.length*(12+1)<=21*13:=Nat.mul_le_mul_right 13 hl
 exact⟨juR (by omega) (fun z hz=>by have:=(hw z hz).2.2;omega) μ,by omega,fun h=>⟨by omega,fun y hy=>by rw[jqg fun z hz=>jhX (hw z hz)];exact h y hy⟩⟩
abbrev spS:List S:=[.asg (.nm 7) (.bin .Add false (.cst (.int 1)) (.bin .Mod false (.var 2) (.bin .Sub false (.bi .len false [(.var 1)]) (.cst (.int 1))))),
  .ret (.bin .Add false (.bin .Add false (.mt .join (.cst (.str " ")) [(.sl false (.var 1) [] [(.var 7)])]) (.ix (.lst false [(.cst (.str "\n")),(.cst (.str ",")),(.cst (.str ".")),(.cst (.str "/")),(.cst (.str " \n")),(.cst (.str "- "))]) (.bin .Mod false (.bin .FloorDiv false (.var 2) (.cst (.int 50))) (.cst (.int 6))))) (.mt .join (.cst (.str " ")) [(.sl false (.var 1) [(.var 7)] [])]))]
theorem jvo (x:Deed)(h:x.Ok)(m k:Int)(hm:0<=m)(μ:M):∃T,jhq T/\runs jaa spS (spR x m k) μ=.ok (.rt (.str T)) μ:=by
 obtain⟨l1,l2⟩:=jaI x h
 obtain⟨hw,_⟩:=jbz x h
 have hxs:∀b∈(["\n",",",".","/"," \n","- "]:List Str),b.length<=2/\∃c∈b.cps.toList,c≠32/\¬ (97<=c/\c<=122)/\¬ (48<=c/\c<=57):=by ac_rfl
 obtain⟨bd,hbd,eb⟩:=jcI (xs:=["\n",",",".","/"," \n","- "]) (i:=m / 50 % 6) (j00 _ (by decide)) (by have:=j0T (m / 50) (show(0:Int)<6 by decide);show _<((6:Nat):Int);omega) μ
 obtain⟨b1,c,hc,b2⟩:=hxs bd hbd
 obtain⟨a,ha⟩:∃a:Nat,1+m % ((x.words.length:Int) - 1)=(a:Int):=⟨(1+m % ((x.words.length:Int) - 1)).toNat,by
  have:=j00 m (show((x.words.length:Int) - 1)≠0 by omega)
  omega⟩
 obtain⟨j1,j2,_⟩:=jeM (zs:=x.words.take a) (by rw[j0n];omega) (fun z hz=>hw z (j0R hz)) μ
 obtain⟨j3,j4,_⟩:=jeM (zs:=x.words.drop a) (by rw[j1o];omega) (fun z hz=>hw z (List.mem_of_mem_drop hz)) μ
 have app_len:∀u v:Str,(u++v).length=u.length+v.length:=fun u v=>by rw[jcr,jfu,j0p,<- jcr,<- jcr]
 refine⟨jn (x.words.take a)++bd++jn (x.words.drop a),jqS (c:=c) (by rw[app_len,app_len];omega) (by rw[jfu,jfu];exact j1a _ (j0u _ hc)) b2,?_⟩
 symm
 rwa[jaY]
 rwa[jdy (by omega)]
 rwa[ha,jga]
 rwa[j1]
 simp only[jab,j0i,j0z]at eb
 rwa[eb]
 rwa[jem (jad (by omega))]
 rwa[jfC]
 rwa[j3]
 rwa[jem (jad (by rw[app_len];omega))]
theorem jqu {ds:List D}(h:1<=ds.length):_L3.cutD ds none (some (-1))=ds.take (ds.length - 1):=by
 unfold _L3.cutD
 rw[HT.sIx_none]
 have:HT.sIx ds.length ds.length (some (-1))=ds.length - 1:=by
  have:=HT.clip_eq (-1) ds.length ds.length
  rw[if_pos (by decide)]at this
  omega
 rw[this,j1f,Nat.sub_zero]
theorem juK {zs:List Str}(h:1<=zs.length)(μ:M):slD false (jab zs) none (some (-1)) μ=.ok (jab (zs.take (zs.length - 1))) μ:=by
 show mkL false (_L3.cutD (zs.map D.str) none (some (-1))) μ=_
 rw[jqu (by rw[j0f];exact h),j0f,<- List.map_take]
 rfl
theorem jxN {ds:List D}(μ:M):jdM .Eq (.tup ds) (.tup []) μ=.ok (.bl (ds.length==0)) μ:=by
 cases ds<;>rfl
noncomputable def Deed.noF:Deed->Bool
 |.spend _ _ _ _ fs=>fs.length==0
 |_=>false
theorem jAX (x:Deed)(h:x.Ok)(m:Int)(hm:0<=m)(μ:M):∃T,jhq T/\runs jaa (jac.drop 4) (spR x m 3) μ=.ok (.rt (.str T)) μ:=by
 obtain⟨l1,l2⟩:=jaI x h
 obtain⟨hw,_⟩:=jbz x h
 have lk:=jlt x h
 have hcut:¬ jsH x.kd (x.words.length - 1)->∃T,jhq T/\runs jaa [.ret (.mt .join (.cst (.str " ")) [(.sl false (.var 1) [] [(.neg (.cst (.int 1)))])])] (spR x m 3) μ=.ok (.rt (.str T)) μ:=fun hn=>by
  obtain⟨j1,j2,j3⟩:=jeM (zs:=x.words.take (x.words.length - 1)) (by rw[j0n];omega) (fun z hz=>hw z (j0R hz)) μ
  refine⟨_,j3 (jhN h (by have:=jdf (zs:=[]) (k:=x.words.length - 1) (jf1 x) (by omega);(rw[j0l]at this;assumption)) (by rw[j0n,Nat.min_eq_left (by omega)];exact hn)),?_⟩
  symm
  rwa[juK (by omega)]
  rwa[j1]
 have cond:∀o,(!decide (x.w=Str.ofString "spend")||x.noF)=o->(ev jaa (.or_ (.cmp .NotEq (.ix (.var 0) (.cst (.int 0))) (.cst (.str "spend"))) (.cmp .Eq (.ix (.var 0) (.cst (.int 5))) (.tup [])))).t (spR x m 3) μ=.ok o μ:=fun o ho=>by
  symm
  rwa[jrF]
  cases hs:decide (x.w=Str.ofString "spend")with
  |false=>
   rw[hs]at ho
   simp only[j0M,if_true]
   exact congrArg (Out.ok · μ) ho
  |true=>
   rw[hs]at ho
   simp only[j1z,if_false,j0e]
   have hk:=jof x h
   rw[of_decide_eq_true hs,show kdW (Str.ofString "spend")=1 from by ac_rfl]at hk
   obtain⟨r,d,p,n,fs,rfl⟩:∃r d p n fs,x=.spend r d p n fs:=by cases x<;>first|exact⟨_,_,_,_,_,rfl⟩|cases hk
   rwa[show ixD (Deed.spend r d p n fs).dat (.int 5) μ=.ok (.tup (fs.map D.str)) μ from nr rfl]
   rw[jxN,j0f]
   exact congrArg (Out.ok · μ) ho
 have hpre:∀{r:Out Fl},runs jaa (jac.drop 8) (spR x m 3) μ=r->runs jaa (jac.drop 4) (spR x m 3) μ=r:=fun {r} e=>by
  show runs jaa (_::_::_::_::jac.drop 8) _ μ=_
  rw[jan (jrO rfl),jan (jhA rfl),jan (jhA rfl),jan (jhA rfl)]
  exact e
 cases ho:(!decide (x.w=Str.ofString "spend")||x.noF)with
 |true=>
  obtain⟨T,hT,e⟩:=hcut (by
   cases x with
   |spend r d p n fs=>
    have hf:fs.length=0:=by
     have h0:decide ((Deed.spend r d p n fs).w=Str.ofString "spend")=true:=decide_eq_true rfl
     rw[h0]at ho
     have q:(fs.length==0)=true:=by simpa[Deed.noF]using ho
     exact eq_of_beq q
    rw[jde]
    show ¬ (_/\_)
    simp only[j0b,hf]
    omega
   |buy r d p ls=>have lk':_ % 2=0/\_:=lk;show ¬ (_ % 2=0/\_);omega
   |two w r d p o n=>show ¬ (5=6);decide
   |lend r d p o n t=>show ¬ (6=7);decide
   |back r d f=>show ¬ (3=4);decide
   |fix r f ls=>have lk':_ % 2=1/\_:=lk;show ¬ (_ % 2=1/\_);omega)
  refine⟨T,hT,hpre ?_⟩
  show runs jaa (_::jac.drop 9) _ μ=_
  rw[jbr (jia (j:=3) rfl (cond true ho)),e]
  rfl
 |false=>
  obtain⟨T,hT,e⟩:=jvo x h m 3 hm μ
  refine⟨T,hT,hpre ?_⟩
  show runs jaa (_::_::_::spS) _ μ=_
  rw[jan (jia (j:=3) rfl (cond false ho)),jan (jqW (j:=4) rfl),jan (jqW (j:=5) rfl)]
  exact e
theorem jA6 (x:Deed)(h:x.Ok)(m:Int)(hm:0<=m)(μ:M):∃T,jhq T/\runs jaa (jac.drop 4) (spR x m 4) μ=.ok (.rt (.str T)) μ:=by
 obtain⟨l1,l2⟩:=jaI x h
 obtain⟨hw,_⟩:=jbz x h
 have lk:=jlt x h
 have cond:∀o,(!decide (x.w=Str.ofString "spend"))=o->(ev jaa (.cmp .NotEq (.ix (.var 0) (.cst (.int 0))) (.cst (.str "spend")))).t (spR x m 4) μ=.ok o μ:=fun o ho=>by
  symm
  rwa[jrF]
  rw[ho]
 have hpre:∀{r:Out Fl},runs jaa (jac.drop 9) (spR x m 4) μ=r->runs jaa (jac.drop 4) (spR x m 4) μ=r:=fun {r} e=>by
  show runs jaa (_::_::_::_::_::jac.drop 9) _ μ=_
  rw[jan (jrO rfl),jan (jhA rfl),jan (jhA rfl),jan (jhA rfl),jan (jqW (j:=3) rfl)]
  exact e
 cases ho:(!decide (x.w=Str.ofString "spend"))with
 |true=>
  have hxs:∀b∈(["zz","5"]:List Str),(b.cps.toList≠[]/\32∉b.cps.toList/\b.length<=12):=by ac_rfl
  obtain⟨bd,hbd,eb⟩:=jcI (xs:=["zz","5"]) (i:=m % 2) (j00 _ (by decide)) (by have:=j0T m (show(0:Int)<2 by decide);show _<((2:Nat):Int);omega) μ
  obtain⟨j1,j2,j3⟩:=jeM (zs:=x.words++[bd]) (by rw[j0p];simp only[j0b,j0x];omega) (fun z hz=>by
   rcases j03.mp hz with q|q
   ·exact hw z q
   ·rw[j04.mp q];exact hxs bd hbd) μ
  refine⟨_,j3 (jhN h (by rw[j0Z (by omega)];exact jf1 x) (by
   rw[j0p]
   cases x with
   |spend r d p n fs=>rw[show decide ((Deed.spend r d p n fs).w=Str.ofString "spend")=true from decide_eq_true rfl]at ho;cases ho
   |buy r d p ls=>have lk':_ % 2=0/\_:=lk;show ¬ (_ % 2=0/\_);simp only[j0b,j0x];omega
   |two w r d p o n=>show ¬ (7=6);decide
   |lend r d p o n t=>show ¬ (8=7);decide
   |back r d f=>show ¬ (5=4);decide
   |fix r f ls=>have lk':_ % 2=1/\_:=lk;show ¬ (_ % 2=1/\_);simp only[j0b,j0x];omega)),hpre ?_⟩
  show runs jaa (_::jac.drop 10) _ μ=_
  rwa[jbr (jia (j:=4) rfl (cond true ho))]
  simp only[jab,j0i,j0z]at eb
  rwa[eb]
  rw[show jg0 .Add false (jab x.words) (.lst [.str bd]) μ=.ok (jab (x.words++[bd])) μ from by
   show jg0 .Add false (.lst _) (.lst _) μ=_
   rw[jhd (by rw[j0f];exact jad (by simp only[j0b,j0x];omega))]
   show Out.ok (D.lst _) μ=Out.ok (D.lst ((x.words++[bd]).map D.str)) μ
   rw[j0Q]
   rfl]
  symm
  rwa[j1]
 |false=>
  obtain⟨T,hT,e⟩:=jvo x h m 4 hm μ
  refine⟨T,hT,hpre ?_⟩
  show runs jaa (_::_::spS) _ μ=_
  rw[jan (jia (j:=4) rfl (cond false ho)),jan (jqW (j:=5) rfl)]
  exact e
theorem jir {n:Int} (h:Num 0 n) (e:nTx n=Str.ofString "0"):n=0:=jiv h ⟨by decide,by decide⟩ (e.trans (by ac_rfl))
theorem jAA (x:Deed)(h:x.Ok)(m:Int)(hm:0<=m)(μ:M):∃T,jhq T/\runs jaa (jac.drop 4) (spR x m 5) μ=.ok (.rt (.str T)) μ:=by
 obtain⟨l1,l2⟩:=jaI x h
 obtain⟨hw,_⟩:=jbz x h
 have cond:∀o,decide (x.w∈[Str.ofString "spend",Str.ofString "give",Str.ofString "change",Str.ofString "lend"])=o->(ev jaa (.cmp .In (.ix (.var 0) (.cst (.int 0))) (.tup [(.cst (.str "spend")),(.cst (.str "give")),(.cst (.str "change")),(.cst (.str "lend"))]))).t (spR x m 5) μ=.ok o μ:=fun o ho=>by
  symm
  rwa[jrF]
  rwa[show jdM .In (.str x.w) (.tup [.str "spend",.str "give",.str "change",.str "lend"]) μ=_ from jr1 x.w [Str.ofString "spend",Str.ofString "give",Str.ofString "change",Str.ofString "lend"] μ]
  rw[ho]
 have hpre:∀{r:Out Fl},runs jaa (jac.drop 10) (spR x m 5) μ=r->runs jaa (jac.drop 4) (spR x m 5) μ=r:=fun {r} e=>by
  show runs jaa (_::_::_::_::_::_::jac.drop 10) _ μ=_
  rw[jan (jrO rfl),jan (jhA rfl),jan (jhA rfl),jan (jhA rfl),jan (jqW (j:=3) rfl),jan (jqW (j:=4) rfl)]
  exact e
 have c2:∀o,(decide (x.w=Str.ofString "lend")&&decide (m % 2=0))=o->(ev jaa (.and_ (.cmp .Eq (.ix (.var 0) (.cst (.int 0))) (.cst (.str "lend"))) (.cmp .Eq (.bin .Mod false (.var 2) (.cst (.int 2))) (.cst (.int 0))))).t (spR x m 5) μ=.ok o μ:=fun o ho=>by
  rw[jio,jhU rfl,jcn]
  cases hl:decide (x.w=Str.ofString "lend")with
  |false=>rw[hl]at ho;rw[<- ho];rfl
  |true=>
   rw[hl,j0L]at ho
   rwa[if_pos rfl]
   rw[ho]
 have zero_ok:(Str.ofString "0").length<=41/\((Str.ofString "0").cps.toList≠[]/\32∉(Str.ofString "0").cps.toList):=by ac_rfl
 have yes:∀(i:Nat) {b:Bool},decide (x.w=Str.ofString "spend")=b->(4+(if !b then 1 else 0):Int)=(i:Int)->i<x.words.length->(∀y:Deed,y.Ok->y.words≠x.words.set i (Str.ofString "0"))->∃T,jhq T/\runs jaa [.ret (.call 1 .frz [(.var 1),(.bin .Add false (.cst (.int 4)) (.bi .int false [(.cmp .NotEq (.ix (.var 0) (.cst (.int 0))) (.cst (.str "spend")))])),(.cst (.str "0"))])] (spR x m 5) μ=.ok (.rt (.str T)) μ:=fun i b hb hi hl hn=>by
  refine⟨_,jfW l2 hw zero_ok.1 zero_ok.2 hn,?_⟩
  symm
  rwa[jrF]
  rwa[hb,show biD .int false [.bl !b] μ=.ok (.int (if !b then 1 else 0)) μ from nr rfl]
  rwa[hi,jhP hl l2 hw zero_ok.1]
 have wrap:∀{T:Str} (hc:decide (x.w∈[Str.ofString "spend",Str.ofString "give",Str.ofString "change",Str.ofString "lend"])=true) (h2:(decide (x.w=Str.ofString "lend")&&decide (m % 2=0))=false),runs jaa [.ret (.call 1 .frz [(.var 1),(.bin .Add false (.cst (.int 4)) (.bi .int false [(.cmp .NotEq (.ix (.var 0) (.cst (.int 0))) (.cst (.str "spend")))])),(.cst (.str "0"))])] (spR x m 5) μ=.ok (.rt (.str T)) μ->runs jaa (jac.drop 4) (spR x m 5) μ=.ok (.rt (.str T)) μ:=fun {T} hc h2 e=>by
  refine hpre ?_
  show runs jaa (_::spS) _ μ=_
  rw[jbr (jia (j:=5) rfl (cond true hc)),jan (c2 false h2),e]
  rfl
 cases x with
 |spend r d p n fs=>
  obtain⟨T,hT,e⟩:=yes 4 (b:=true) (decide_eq_true rfl) rfl (by rw[jde];simp only[j0b];omega) fun y hy e=>by
   have hky:=jcE h hy (jc (by decide) e)
   obtain⟨r',d',p',n',fs',rfl⟩:∃r d p n fs,y=.spend r d p n fs:=by cases y<;>first|exact⟨_,_,_,_,_,rfl⟩|cases hky
   rw[jde,jde]at e
   have e':Str.ofString "spend" :: r'::nTx d'::p'::nTx n'::fs'=Str.ofString "spend" :: r::nTx d::p::Str.ofString "0" :: fs:=e
   simp only[j1i]at e'
   have:=jir (je9 hy.2.2.2.1) e'.2.2.2.2.1
   have:=hy.2.2.2.1.1
   omega
  exact⟨T,hT,wrap (decide_eq_true (by show Str.ofString "spend"∈_;ac_rfl)) (by rw[decide_eq_false (show ¬ (Deed.spend r d p n fs).w=Str.ofString "lend" from by show ¬ Str.ofString "spend" =_;ac_rfl)];rfl) e⟩
 |two w r d p o n=>
  have hne:w≠Str.ofString "spend"/\w≠Str.ofString "lend"/\w∈[Str.ofString "spend",Str.ofString "give",Str.ofString "change",Str.ofString "lend"]:=by
   rcases h.1 with q|q
   ·rw[q];ac_rfl
   ·rw[q];ac_rfl
  obtain⟨T,hT,e⟩:=yes 5 (b:=false) (decide_eq_false hne.1) rfl (show 5<6 by decide) fun y hy e=>by
   have hky:=jcE h hy (jc (by decide) e)
   obtain⟨w',r',d',p',o',n',rfl⟩:∃w r d p o n,y=.two w r d p o n:=by cases y<;>first|exact⟨_,_,_,_,_,_,rfl⟩|cases hky
   have e':[w',r',nTx d',p',o',nTx n']=[w,r,nTx d,p,o,Str.ofString "0"]:=e
   simp only[j1i]at e'
   have:=jir (je9 hy.2.2.2.2.2.1) e'.2.2.2.2.2.1
   have:=hy.2.2.2.2.2.1.1
   omega
  exact⟨T,hT,wrap (decide_eq_true hne.2.2) (by rw[decide_eq_false (show ¬ (Deed.two w r d p o n).w=Str.ofString "lend" from hne.2.1)];rfl) e⟩
 |lend r d p o n t=>
  cases hev:decide (m % 2=0)with
  |true=>
   have wd2:Wd1 ((Deed.lend r d p o n t).words.getD 2 ""):=hw _ (jbW (show 2<7 by decide)).1
   refine⟨_,jfW (i:=6) (b:=(Deed.lend r d p o n t).words.getD 2 "") l2 hw (by have:=wd2.2.2;omega) (jhX wd2) fun y hy e=>?_,hpre ?_⟩
   ·have hky:=jcE h hy (jc (by decide) e)
    obtain⟨r',d',p',o',n',t',rfl⟩:∃r d p o n t,y=.lend r d p o n t:=by cases y<;>first|exact⟨_,_,_,_,_,_,rfl⟩|cases hky
    have e':[Str.ofString "lend",r',nTx d',p',o',nTx n',nTx t']=[Str.ofString "lend",r,nTx d,p,o,nTx n,nTx d]:=e
    simp only[j1i]at e'
    have:=jiv hy.2.2.2.2.2.1 hy.2.1 (e'.2.2.2.2.2.2.1.trans e'.2.2.1.symm)
    have:=hy.2.2.2.2.2.2.2
    omega
   ·show runs jaa (_::spS) _ μ=_
    rwa[jbr (jia (j:=5) rfl (cond true (decide_eq_true (by show Str.ofString "lend"∈_;ac_rfl)))),jbr (c2 true (by rw[decide_eq_true (show(Deed.lend r d p o n t).w=Str.ofString "lend" from rfl),hev];rfl))]
    rwa[show((2:Int))=((2:Nat):Int)from rfl,jgt (show 2<7 by decide)]
    rwa[show((6:Int))=((6:Nat):Int)from rfl,jhP (show 6<7 by decide) l2 hw (by have:=wd2.2.2;omega)]
  |false=>
   obtain⟨T,hT,e⟩:=yes 5 (b:=false) (decide_eq_false (by show ¬ Str.ofString "lend" =_;ac_rfl)) rfl (show 5<7 by decide) fun y hy e=>by
    have hky:=jcE h hy (jc (by decide) e)
    obtain⟨r',d',p',o',n',t',rfl⟩:∃r d p o n t,y=.lend r d p o n t:=by cases y<;>first|exact⟨_,_,_,_,_,_,rfl⟩|cases hky
    have e':[Str.ofString "lend",r',nTx d',p',o',nTx n',nTx t']=[Str.ofString "lend",r,nTx d,p,o,Str.ofString "0",nTx t]:=e
    simp only[j1i]at e'
    have:=jir (je9 hy.2.2.2.2.1) e'.2.2.2.2.2.1
    have:=hy.2.2.2.2.1.1
    omega
   exact⟨T,hT,wrap (decide_eq_true (by show Str.ofString "lend"∈_;ac_rfl)) (by rw[hev,Bool.and_false]) e⟩
 |buy r d p ls=>
  obtain⟨T,hT,e⟩:=jvo _ h m 5 hm μ
  refine⟨T,hT,hpre ?_⟩
  show runs jaa (_::spS) _ μ=_
  rw[jan (jia (j:=5) rfl (cond false (decide_eq_false (by show ¬ Str.ofString "buy"∈_;ac_rfl))))]
  exact e
 |back r d f=>
  obtain⟨T,hT,e⟩:=jvo _ h m 5 hm μ
  refine⟨T,hT,hpre ?_⟩
  show runs jaa (_::spS) _ μ=_
  rw[jan (jia (j:=5) rfl (cond false (decide_eq_false (by show ¬ Str.ofString "back"∈_;ac_rfl))))]
  exact e
 |fix r f ls=>
  obtain⟨T,hT,e⟩:=jvo _ h m 5 hm μ
  refine⟨T,hT,hpre ?_⟩
  show runs jaa (_::spS) _ μ=_
  rw[jan (jia (j:=5) rfl (cond false (decide_eq_false (by show ¬ Str.ofString "fix"∈_;ac_rfl))))]
  exact e
theorem jgj {μ:M}{n:Nat}{d:D}{v:V}(h:jhv d=some v)(hv:jer v=true):eqD μ (n+1) d d=some true:=by
 unfold eqD
 simp only[h,jiS hv]
theorem jkX {f:D->D->Option Bool}:∀{ds:List D},(∀d∈ds,f d d=some true)->jlM f ds ds=some true
 |[],_=>rfl
 |d::ds,h=>by
  unfold jlM
  rw[h d (by simp),jkX fun e he=>h e (by simp[he])]
  rfl
theorem joH {f:D->D->Option Bool}{μ:M}{ds:List D}(h:∀d∈ds,f d d=some true):eqN f μ (.tup ds) (.tup ds)=some true:=by
 show(jlM f ds ds).map (· && ds.length==ds.length)=_
 rw[jkX h]
 simp
theorem jkM {μ:M}{n:Nat}{ds:List D}(h:∀d∈ds,eqD μ n d d=some true):eqD μ (n+1) (.tup ds) (.tup ds)=some true:=joH (μ:=μ) h
theorem jv2 (μ:M)(v:PV):eqD μ 8 v.dat v.dat=some true:=by
 cases v with
 |nm z=>exact jgj rfl rfl
 |num n=>exact jgj rfl rfl
 |lns ls=>
  refine jkM fun d hd=>?_
  obtain⟨p,_,rfl⟩:=j0s.mp hd
  refine jkM fun d hd=>?_
  simp only[j0d,j0A,or_false]at hd
  rcases hd with rfl|rfl<;>exact jgj rfl rfl
 |fst fs=>
  refine jkM fun d hd=>?_
  obtain⟨z,_,rfl⟩:=j0s.mp hd
  exact jgj rfl rfl
theorem jjz (x:Deed)(μ:M):jdM .NotEq x.dat x.dat μ=.ok (.bl false) μ:=by
 have e:jkR μ x.dat x.dat=some true:=by
  rw[jhE]
  show eqN (eqD μ 8) μ (.tup _) (.tup _)=_
  refine joH fun d hd=>?_
  obtain⟨v,_,rfl⟩:=j0s.mp hd
  exact jv2 μ v
 unfold jdM
 simp only[jpl,e]
 rfl
theorem jl3 (x:Deed)(h:x.Ok)(m:Int)(hm:0<=m)(μ:M):∃T,jhq T/\jah .frz jbQ.F [x.dat,jab x.words,.int m] μ=.ok (.str T) μ:=by
 have fin:∀{k:Int},m % 9=k->(∃T,jhq T/\runs jaa (jac.drop 4) (spR x (m / 9) k) μ=.ok (.rt (.str T)) μ)->∃T,jhq T/\jah .frz jbQ.F [x.dat,jab x.words,.int m] μ=.ok (.str T) μ:=fun {k} hk ⟨T,hT,e⟩=>⟨T,hT,juw x h m μ (by rw[hk];exact e)⟩
 have hm9:0<=m / 9:=by omega
 have many:∀{k:Int} {b:Bool},decide (6<k)=true->decide (k=8)=b->∃T,jhq T/\runs jaa (jac.drop 4) (spR x (m / 9) k) μ=.ok (.rt (.str T)) μ:=fun {k b} h6 h8=>by
  obtain⟨T,hT,e⟩:=jyR x h b μ
  refine⟨T,hT,?_⟩
  show runs jaa (_::jac.drop 5) _ μ=_
  rwa[jbr (jrO h6)]
  rwa[h8,e]
 have hc:m % 9=0∨m % 9=1∨m % 9=2∨m % 9=3∨m % 9=4∨m % 9=5∨m % 9=6∨m % 9=7∨m % 9=8:=by omega
 rcases hc with q|q|q|q|q|q|q|q|q
 ·exact fin q (jAO x h _ hm9 μ)
 ·exact fin q (jAM x h _ hm9 μ)
 ·exact fin q (jAK x h _ hm9 μ)
 ·exact fin q (jAX x h _ hm9 μ)
 ·exact fin q (jA6 x h _ hm9 μ)
 ·exact fin q (jAA x h _ hm9 μ)
 ·refine fin q ?_
  obtain⟨T,hT,e⟩:=jvo x h (m / 9) 6 hm9 μ
  refine⟨T,hT,?_⟩
  show runs jaa (_::_::_::_::_::_::_::spS) _ μ=_
  rw[jan (jrO rfl),jan (jhA rfl),jan (jhA rfl),jan (jhA rfl),jan (jqW (j:=3) rfl),jan (jqW (j:=4) rfl),jan (jqW (j:=5) rfl)]
  exact e
 ·exact fin q (many rfl rfl)
 ·exact fin q (many rfl rfl)
theorem jni {x y:Deed}(hx:x.Ok)(hy:y.Ok)(e:y.words=x.words):y.dat=x.dat:=by
 rw[ja7,ja7]at e
 injection e with e1 e2
 have l1:=jgE x hx
 have l2:=jgE y hy
 rw[e1,l1]at l2
 injection l2 with l2
 injection l2 with l2
 have s:=jnu (jmT y hy)
 rw[<- jiF l2]at s
 rw[jhE,jhE,e1,jmY s (jnu (jmT x hx)) e2]
theorem ji6 (x:Deed)(hx:x.Ok)(μ:M):jah .frz jcD.F [.str (jn x.words)] μ=.ok x.dat μ:=by
 obtain⟨hw,_⟩:=jbz x hx
 obtain⟨_,l2⟩:=jaI x hx
 have ew:wsT (jn x.words)=x.words:=jqg fun z hz=>jhX (hw z hz)
 have hl:=(jeM (by omega) hw μ).2.1
 rcases jmS (jn x.words) (by omega) μ with⟨y,hy,yw,e⟩|⟨hn,_⟩
 ·rw[e,jni hx hy (yw.trans ew)]
 ·exact absurd ew.symm (hn x hx)
theorem jo1 (ns:List Int)(a:Nat)(ha:a<=900)(x:Deed)(hx:x.Ok)(μ:M)(ok:M->Bool)(hok:ok μ=true):∀(ks:List Nat) (o4 o5:Option D),(∀k∈ks,k<=10)->jds ok (.nm 4) (runs jrx jkt) [4,5] (ks.map fun(k:Nat)=>D.int (k:Int)) [some (jfU ns),some (.int (a:Int)),some x.dat,some (jab x.words),o4,o5] μ=.ok (.nx [some (jfU ns),some (.int (a:Int)),some x.dat,some (jab x.words),none,none]) μ
 |[],o4,o5,_=>by
  rw[j0z,jcw hok]
  rfl
 |k::ks,o4,o5,h=>by
  have hk:=h k (by simp)
  obtain⟨hw,_⟩:=jbz x hx
  obtain⟨l1,l2⟩:=jaI x hx
  obtain⟨c,hc⟩:=jor ns (52+(k:Int)) (by omega)
  obtain⟨m,m0,m1,em⟩:=jgG c ((a:Int)+(k:Int)) (by omega) (by omega) μ
  obtain⟨T,hT,eT⟩:=jl3 x hx m m0 μ
  obtain⟨j,hj⟩:∃j:Nat,m % 4=(j:Int):=⟨(m % 4).toNat,by omega⟩
  have hj3:j<=3:=by omega
  obtain⟨j1,j2,j3⟩:=jeM (zs:=x.words.take j) (by rw[j0n];omega) (fun z hz=>hw z (j0R hz)) μ
  have hB:=j3 fun y hy e=>by
   have:=(jaI y hy).1
   rw[e,j0n]at this
   omega
  rw[j0i,jce (ρ1:=[some (jfU ns),some (.int (a:Int)),some x.dat,some (jab x.words),some (.int (k:Int)),o5]) (ρ2:=[some (jfU ns),some (.int (a:Int)),some x.dat,some (jab x.words),some (.int (k:Int)),some (.int m)]) (μ2:=μ) hok rfl ?_]
  ·exact jo1 ns a ha x hx μ ok hok ks none none fun b hb=>h b (by simp[hb])
  ·unfold jkt
   symm
   rwa[hc]
   rwa[em]
   rwa[eT]
   rwa[jgM hT]
   rwa[hj,jga]
   rwa[j1]
   rwa[jgM hB]
theorem jll (ns:List Int)(ok:M->Bool)(hok:ok []=true):∀(as:List Nat) (o1 o2 o3 o4 o5:Option D),(∀a∈as,a<=900)->jds ok (.nm 1) (runs jrx jkK) [1,2,3,4,5] (as.map fun(a:Nat)=>D.int (a:Int)) [some (jfU ns),o1,o2,o3,o4,o5] []=.ok (.nx [some (jfU ns),none,none,none,none,none]) []
 |[],o1,o2,o3,o4,o5,_=>by
  rw[j0z,jcw hok]
  rfl
 |a::as,o1,o2,o3,o4,o5,h=>by
  have ha:=h a (by simp)
  obtain⟨x,hx,ex⟩:=jtg ns a (by omega) []
  obtain⟨hw,_⟩:=jbz x hx
  obtain⟨l1,l2⟩:=jaI x hx
  have ew:=jnU x hx []
  have ej:=(jeM (by omega) hw []).1
  have hi:∀μ:M,itD .rng1 [.int 4] μ=some (([0,1,2,3]:List Nat).map fun(k:Nat)=>D.int (k:Int)):=fun μ=>jeJ (n:=4) (by decide)
  have hl:=jo1 ns a (by omega) x hx [] (jcv .rng1 [.int 4] (([0,1,2,3]:List Nat).map fun(k:Nat)=>D.int (k:Int))) (jb7 (hi _)) [0,1,2,3] o4 o5 (by decide)
  rw[j0i,jce (ρ1:=[some (jfU ns),some (.int (a:Int)),o2,o3,o4,o5]) (ρ2:=[some (jfU ns),some (.int (a:Int)),some x.dat,some (jab x.words),none,none]) (μ2:=[]) hok rfl ?_]
  ·exact jll ns ok hok as none none none none none fun b hb=>h b (by simp[hb])
  ·unfold jkK
   symm
   rwa[ex]
   rwa[ew]
   rwa[ej]
   rwa[ji6 x hx]
   rwa[jjz]
   rwa[jeD (hi _),hl]
   rwa[ej]
   rwa[ji6 x hx]
   rwa[jjz]
theorem jqm (ns:List Int)(hn:ns.length<=63):∃μ,jtc [.scr (ns.map D.int)] []=.ok (.bl true) μ:=by
 refine⟨[],?_⟩
 show jtc [jfU ns] []=_
 have hi:∀μ:M,itD .seq [.tup [.int 0,.int 13,.int 26,.int 39]] μ=some (([0,13,26,39]:List Nat).map fun(a:Nat)=>D.int (a:Int)):=fun μ=>rfl
 have hl:=jll ns (jcv .seq [.tup [.int 0,.int 13,.int 26,.int 39]] (([0,13,26,39]:List Nat).map fun(a:Nat)=>D.int (a:Int))) (jb7 (hi _)) [0,13,26,39] none none none none none (by decide)
 unfold jtc juW
 symm
 rwa[jeD (hi _),hl]
theorem jAG {α:Type}{us:List α}(h:us.length=1):∃a0,us=[a0]:=by
 obtain⟨a0,us,rfl⟩:=j0N (l:=us) (by rw[h];decide)
 replace h:us.length=0:=Nat.succ.inj h
 cases j1c.mp h
 exact⟨_,rfl⟩
theorem jA2 {α:Type}{us:List α}(h:us.length=2):∃a0 a1,us=[a0,a1]:=by
 obtain⟨a0,us,rfl⟩:=j0N (l:=us) (by rw[h];decide)
 replace h:us.length=1:=Nat.succ.inj h
 obtain⟨a1,us,rfl⟩:=j0N (l:=us) (by rw[h];decide)
 replace h:us.length=0:=Nat.succ.inj h
 cases j1c.mp h
 exact⟨_,_,rfl⟩
theorem jA4 {α:Type}{us:List α}(h:us.length=3):∃a0 a1 a2,us=[a0,a1,a2]:=by
 obtain⟨a0,us,rfl⟩:=j0N (l:=us) (by rw[h];decide)
 replace h:us.length=2:=Nat.succ.inj h
 obtain⟨a1,us,rfl⟩:=j0N (l:=us) (by rw[h];decide)
 replace h:us.length=1:=Nat.succ.inj h
 obtain⟨a2,us,rfl⟩:=j0N (l:=us) (by rw[h];decide)
 replace h:us.length=0:=Nat.succ.inj h
 cases j1c.mp h
 exact⟨_,_,_,rfl⟩
theorem jax {P:Program}{w:World}{K:PySem.W.Frag}{mg:Str->Option Value}{base:Heap}{j:Nat}(hm:∀x∈jdP,mg x=none):Tab P w K mg base j []:=⟨hm,fun i g h=>by simp at h,fun i g d h=>by simp at h⟩
theorem jae {P:Program}{w:World}{K:PySem.W.Frag}{mg:Str->Option Value}{base:Heap}{j:Nat}{g:FnE}{G:List FnE}(hn:g.dat=none)(c:_L2.Callee P w K mg base g.lv g.name g.ps (jmL K g.ps.length g.F))(T:Tab P w K mg base j G):Tab P w K mg base j (g::G):=⟨T.hm,fun i g' h hl=>by
 cases i with
 |zero=>
  simp at h
  subst h
  exact c
 |succ i=>exact T.hf i g' (by simpa using h) hl,fun i g' d h hd=>by
 cases i with
 |zero=>
  simp at h
  subst h
  rw[hn]at hd
  cases hd
 |succ i=>exact T.hd i g' d (by simpa using h) hd⟩
theorem jeH {P:Program}{w:World}{K:PySem.W.Frag}{mg:Str->Option Value}{base:Heap}{j:Nat}{g:FnE}{G:List FnE}{hs:g.dat.isSome=true}(hl:¬ 1000000<=j)(c:jjq K w mg g.name (g.dat.get hs))(T:Tab P w K mg base j G)(h0:g.lv=1000000:=by rfl):Tab P w K mg base j (g::G):=⟨T.hm,fun i g' h hlv=>by
 cases i with
 |zero=>
  simp at h
  subst h
  exact absurd (h0▸hlv) hl
 |succ i=>exact T.hf i g' (by simpa using h) hlv,fun i g' d h hd=>by
 cases i with
 |zero=>
  simp at h
  subst h
  have e:g.dat.get hs=d:=by simp[hd]
  rw[<- e]
  exact c
 |succ i=>exact T.hd i g' d (by simpa using h) hd⟩
set_option maxHeartbeats 0 in
theorem jhl {P:Program} {w:World} {K:PySem.W.Frag} {mg:Str->Option Value} {base:Heap} {f:Addr} {fd:FuncData} {x0 x1 x2 x3 x4 x5 x6 x7 x8 x9 x10:Addr} (F:Fun K "_law_refused" "_law_refused" jcB f fd) (cg:CalleeX P w K mg base 7 "read_deed" ["text"] (spX K mg 1 ja4)) (R:RefOk K x1 x0 [x2,x3,x4,x5,x6,x7,x8,x9,x10]) (mP:mg "PurseError" =some (.ref x0)) (hiN:mg "isinstance" =none) (m1:mg "BadDeed" =some (.ref x1)) (mve:mg "ValueError" =none) (hcs:[("BadBook" : Str),("BadHouse" : Str),("BadText" : Str),("NoDeed" : Str),("NoRate" : Str),("NotOver" : Str),("TooFew" : Str),("Twice" : Str),("WrongDay" : Str)].map mg=[x2,x3,x4,x5,x6,x7,x8,x9,x10].map (fun a=>some (Value.ref a))) :
  FnOk P w K mg base CX0 8 f fd ["_law_text"] (jmL K 1 jcy):=
 jmG F jhj cg R rfl (by ac_rfl) (by ac_rfl) (by ac_rfl) (by ac_rfl) (by ac_rfl) (by ac_rfl) (by ac_rfl) mP (by ac_rfl) hiN (by ac_rfl) m1 (by ac_rfl) mve (jnl (cs:=["BadBook","BadHouse","BadText","NoDeed","NoRate","NotOver","TooFew","Twice","WrongDay"]) (by ac_rfl) hcs) (by ac_rfl) (by decide)
set_option maxHeartbeats 0 in
local macro_rules | `(tactic|walk_at"b")=>`(tactic|(refine fun _ _ _ _ _ _ us hl=>?_;first|(obtain⟨_,h⟩:=jAG hl;subst h;rfl)|(obtain⟨_,_,h⟩:=jA2 hl;subst h;rfl)|(obtain⟨_,_,_,h⟩:=jA4 hl;subst h;rfl)))
local macro_rules | `(tactic|walk_at"d")=>`(tactic|((repeat(unfold DenL;refine⟨_,_,rfl,by unfold Den;rfl,?_⟩));unfold DenL;rfl))
abbrev gA (K:PySem.W.Frag) (x:Str) (f:Addr):Prop:=PySem.W.nsIn K mainGlobals x=some (some (.ref f))
abbrev gL (K:PySem.W.Frag) (f:Addr) (x:Str) (st:Stmt) (oc:Value) (od:Option Addr) (kV dc pm:Value) (an:Option Addr) (cd ct:Value) (sl:Array (Option Value)):Prop:=K.lookup f=some ⟨oc,od,.func (PySem.W.fnOf x x (jfB st) (jap st) (ja st) .none kV dc pm an cd ct),sl⟩
abbrev gC (K:PySem.W.Frag) (c:Value) (x:Str):Prop:=PySem.W.codeIn K c x=true
abbrev gK (K:PySem.W.Frag) (f:Addr):Prop:=PySem.W.keepIn K (.ref f)=true
abbrev gT (P:Program) (w:World) (K:PySem.W.Frag) (mg:Str->Option Value) (base:Heap) (g:FnE):Prop:=Callee P w K mg base g.lv g.name g.ps (jmL K g.ps.length g.F)
abbrev gY (P:Program) (w:World) (K:PySem.W.Frag) (mg:Str->Option Value) (base:Heap) (g:FnE):Prop:=CalleeX P w K mg base g.lv g.name g.ps (spY K mg g.ps.length g.F)
theorem gM {P:Program}{w:World}{K:PySem.W.Frag}{mg:Str->Option Value}{base h:Heap}{g:FnE}{f:Addr}{fd:FuncData}(X:K.In h)(G:h.Ns mainGlobals mg)(a:gA K g.name f)(k:gK K f)(b:jfR K fd g.ps [])(o:FnOk P w K mg base CX0 g.lv f fd g.ps (jmL K g.ps.length g.F)):gT P w K mg base g:=⟨f,fd,o,j0y X G a,k,b⟩
theorem gZ {P:Program}{w:World}{K:PySem.W.Frag}{mg:Str->Option Value}{base h:Heap}{g:FnE}{f:Addr}{fd:FuncData}(X:K.In h)(G:h.Ns mainGlobals mg)(a:gA K g.name f)(k:gK K f)(b:jfR K fd g.ps [])(o:FnOk P w K mg base (CX1 P w) g.lv f fd g.ps (spY K mg g.ps.length g.F)):gY P w K mg base g:=⟨f,fd,o,j0y X G a,k,b⟩
set_option maxHeartbeats 4000000 in
set_option autoImplicit true in
theorem all_mk {l:PySem.W.OpenLaw}{w:World}{K:PySem.W.Frag}{h:Heap}{mg:Str->Option Value}
  (X:K.In h) (G:h.Ns mainGlobals mg) (hfa:mg "law" =some (.ref fa))
  (a1:gA K "is_number" f1)
  (l1:gL K f1 "is_number" jcM oc1 od1 kV1 dc1 pm1 an1 cd1 ct1 sl1) (c1:gC K cd1 "is_number") (k1:gK K f1)
  (a2:gA K "is_tuple_of" f2)
  (l2:gL K f2 "is_tuple_of" jbM oc2 od2 kV2 dc2 pm2 an2 cd2 ct2 sl2) (c2:gC K cd2 "is_tuple_of") (k2:gK K f2)
  (a3:gA K "are_unlike" f3)
  (l3:gL K f3 "are_unlike" jcg oc3 od3 kV3 dc3 pm3 an3 cd3 ct3 sl3) (c3:gC K cd3 "are_unlike") (k3:gK K f3)
  (a4:gA K "is_name" f4)
  (l4:gL K f4 "is_name" jd6 oc4 od4 kV4 dc4 pm4 an4 cd4 ct4 sl4) (c4:gC K cd4 "is_name") (k4:gK K f4)
  (a5:gA K "parts_of" f5)
  (l5:gL K f5 "parts_of" jc5 oc5 od5 kV5 dc5 pm5 an5 cd5 ct5 sl5) (c5:gC K cd5 "parts_of") (k5:gK K f5)
  (a6:gA K "is_number_part" f6)
  (l6:gL K f6 "is_number_part" jbc oc6 od6 kV6 dc6 pm6 an6 cd6 ct6 sl6) (c6:gC K cd6 "is_number_part") (k6:gK K f6)
  (a7:gA K "is_line" f7)
  (l7:gL K f7 "is_line" jdV oc7 od7 kV7 dc7 pm7 an7 cd7 ct7 sl7) (c7:gC K cd7 "is_line") (k7:gK K f7)
  (a8:gA K "are_lines" f8)
  (l8:gL K f8 "are_lines" jcO oc8 od8 kV8 dc8 pm8 an8 cd8 ct8 sl8) (c8:gC K cd8 "are_lines") (k8:gK K f8)
  (a9:gA K "are_unlike_names" f9)
  (l9:gL K f9 "are_unlike_names" jaQ oc9 od9 kV9 dc9 pm9 an9 cd9 ct9 sl9) (c9:gC K cd9 "are_unlike_names") (k9:gK K f9)
  (a10:gA K "is_value_of" f10)
  (l10:gL K f10 "is_value_of" jbN oc10 od10 kV10 dc10 pm10 an10 cd10 ct10 sl10) (c10:gC K cd10 "is_value_of") (k10:gK K f10)
  (a11:gA K "has_its_parts" f11)
  (l11:gL K f11 "has_its_parts" jbl oc11 od11 kV11 dc11 pm11 an11 cd11 ct11 sl11) (c11:gC K cd11 "has_its_parts") (k11:gK K f11)
  (a12:gA K "named_parts" f12)
  (l12:gL K f12 "named_parts" jbX oc12 od12 kV12 dc12 pm12 an12 cd12 ct12 sl12) (c12:gC K cd12 "named_parts") (k12:gK K f12)
  (a13:gA K "go_together" f13)
  (l13:gL K f13 "go_together" jbT oc13 od13 kV13 dc13 pm13 an13 cd13 ct13 sl13) (c13:gC K cd13 "go_together") (k13:gK K f13)
  (a14:gA K "checked_deed" f14)
  (l14:gL K f14 "checked_deed" jbw oc14 od14 kV14 dc14 pm14 an14 cd14 ct14 sl14) (c14:gC K cd14 "checked_deed") (k14:gK K f14)
  (a15:gA K "words_in" f15)
  (l15:gL K f15 "words_in" jda oc15 od15 kV15 dc15 pm15 an15 cd15 ct15 sl15) (c15:gC K cd15 "words_in") (k15:gK K f15)
  (a16:gA K "is_written_number" f16)
  (l16:gL K f16 "is_written_number" jaN oc16 od16 kV16 dc16 pm16 an16 cd16 ct16 sl16) (c16:gC K cd16 "is_written_number") (k16:gK K f16)
  (a17:gA K "read_number" f17)
  (l17:gL K f17 "read_number" jbP oc17 od17 kV17 dc17 pm17 an17 cd17 ct17 sl17) (c17:gC K cd17 "read_number") (k17:gK K f17)
  (a18:gA K "read_lines" f18)
  (l18:gL K f18 "read_lines" jca oc18 od18 kV18 dc18 pm18 an18 cd18 ct18 sl18) (c18:gC K cd18 "read_lines") (k18:gK K f18)
  (a19:gA K "read_part" f19)
  (l19:gL K f19 "read_part" jcP oc19 od19 kV19 dc19 pm19 an19 cd19 ct19 sl19) (c19:gC K cd19 "read_part") (k19:gK K f19)
  (a20:gA K "read_deed" f20)
  (l20:gL K f20 "read_deed" jcV oc20 od20 kV20 dc20 pm20 an20 cd20 ct20 sl20) (c20:gC K cd20 "read_deed") (k20:gK K f20)
  (a21:gA K "_law_at" f21)
  (l21:gL K f21 "_law_at" jeX oc21 od21 kV21 dc21 pm21 an21 cd21 ct21 sl21) (c21:gC K cd21 "_law_at") (k21:gK K f21)
  (a22:gA K "_law_mix" f22)
  (l22:gL K f22 "_law_mix" jd5 oc22 od22 kV22 dc22 pm22 an22 cd22 ct22 sl22) (c22:gC K cd22 "_law_mix") (k22:gK K f22)
  (a23:gA K "_law_names" f23)
  (l23:gL K f23 "_law_names" jcH oc23 od23 kV23 dc23 pm23 an23 cd23 ct23 sl23) (c23:gC K cd23 "_law_names") (k23:gK K f23)
  (a24:gA K "_law_number" f24)
  (l24:gL K f24 "_law_number" jcf oc24 od24 kV24 dc24 pm24 an24 cd24 ct24 sl24) (c24:gC K cd24 "_law_number") (k24:gK K f24)
  (a25:gA K "_law_some_lines" f25)
  (l25:gL K f25 "_law_some_lines" jba oc25 od25 kV25 dc25 pm25 an25 cd25 ct25 sl25) (c25:gC K cd25 "_law_some_lines") (k25:gK K f25)
  (a26:gA K "_law_deed" f26)
  (l26:gL K f26 "_law_deed" jdc oc26 od26 kV26 dc26 pm26 an26 cd26 ct26 sl26) (c26:gC K cd26 "_law_deed") (k26:gK K f26)
  (a27:gA K "_law_words" f27)
  (l27:gL K f27 "_law_words" jcK oc27 od27 kV27 dc27 pm27 an27 cd27 ct27 sl27) (c27:gC K cd27 "_law_words") (k27:gK K f27)
  (a28:gA K "_law_put" f28)
  (l28:gL K f28 "_law_put" jdZ oc28 od28 kV28 dc28 pm28 an28 cd28 ct28 sl28) (c28:gC K cd28 "_law_put") (k28:gK K f28)
  (a29:gA K "_law_no_deed" f29)
  (l29:gL K f29 "_law_no_deed" jbI oc29 od29 kV29 dc29 pm29 an29 cd29 ct29 sl29) (c29:gC K cd29 "_law_no_deed") (k29:gK K f29)
  (a30:gA K "_law_spoiled" f30)
  (l30:gL K f30 "_law_spoiled" jbR oc30 od30 kV30 dc30 pm30 an30 cd30 ct30 sl30) (c30:gC K cd30 "_law_spoiled") (k30:gK K f30)
  (a31:gA K "_law_refused" f31)
  (l31:gL K f31 "_law_refused" jcB oc31 od31 kV31 dc31 pm31 an31 cd31 ct31 sl31) (c31:gC K cd31 "_law_refused") (k31:gK K f31)
  (aX0:gA K "PurseError" x0)
  (aX1:gA K "BadDeed" x1)
  (aX2:gA K "BadBook" x2)
  (aX3:gA K "BadHouse" x3)
  (aX4:gA K "BadText" x4)
  (aX5:gA K "NoDeed" x5)
  (aX6:gA K "NoRate" x6)
  (aX7:gA K "NotOver" x7)
  (aX8:gA K "TooFew" x8)
  (aX9:gA K "Twice" x9)
  (aX10:gA K "WrongDay" x10)
  (aV:PySem.W.nsIn K mainGlobals "ValueError" =some none)
  (aR:RefOk K x1 x0 [x2,x3,x4,x5,x6,x7,x8,x9,x10])
  (a32:gA K "law" f32)
  (l32:gL K f32 "law" jjk oc32 od32 kV32 dc32 pm32 an32 cd32 ct32 sl32) (c32:gC K cd32 "law") (k32:gK K f32)
  (aD1:PySem.W.nsIn K mainGlobals "LONGEST_NAME" =some (some (.int 8 tD1)))
  (aD2:gA K "PARTS" pD2)
  (lD2:K.lookup pD2=some ⟨.type "dict",none,.dict #[⟨hD2_0,.str "buy" kD2_0,.ref pD2_0⟩,⟨hD2_1,.str "spend" kD2_1,.ref pD2_1⟩,⟨hD2_2,.str "give" kD2_2,.ref pD2_2⟩,⟨hD2_3,.str "change" kD2_3,.ref pD2_3⟩,⟨hD2_4,.str "lend" kD2_4,.ref pD2_4⟩,⟨hD2_5,.str "back" kD2_5,.ref pD2_5⟩,⟨hD2_6,.str "fix" kD2_6,.ref pD2_6⟩] mD2,#[]⟩) (yD2:PySem.W.KeysLit w.params [⟨hD2_0,.str "buy" kD2_0,.ref pD2_0⟩,⟨hD2_1,.str "spend" kD2_1,.ref pD2_1⟩,⟨hD2_2,.str "give" kD2_2,.ref pD2_2⟩,⟨hD2_3,.str "change" kD2_3,.ref pD2_3⟩,⟨hD2_4,.str "lend" kD2_4,.ref pD2_4⟩,⟨hD2_5,.str "back" kD2_5,.ref pD2_5⟩,⟨hD2_6,.str "fix" kD2_6,.ref pD2_6⟩]) (sD2:(pD2==sysModules)=false)
  (lD2_0:K.lookup pD2_0=some ⟨.type "tuple",ddD2_0,.seq #[.str "ref" tD2_0_0,.str "day" tD2_0_1,.str "purse" tD2_0_2,.str "lines" tD2_0_3] nD2_0,slD2_0⟩)
  (lD2_1:K.lookup pD2_1=some ⟨.type "tuple",ddD2_1,.seq #[.str "ref" tD2_1_0,.str "day" tD2_1_1,.str "purse" tD2_1_2,.str "points" tD2_1_3,.str "first" tD2_1_4] nD2_1,slD2_1⟩)
  (lD2_2:K.lookup pD2_2=some ⟨.type "tuple",ddD2_2,.seq #[.str "ref" tD2_2_0,.str "day" tD2_2_1,.str "purse" tD2_2_2,.str "other" tD2_2_3,.str "points" tD2_2_4] nD2_2,slD2_2⟩)
  (lD2_3:K.lookup pD2_3=some ⟨.type "tuple",ddD2_3,.seq #[.str "ref" tD2_3_0,.str "day" tD2_3_1,.str "purse" tD2_3_2,.str "other" tD2_3_3,.str "points" tD2_3_4] nD2_3,slD2_3⟩)
  (lD2_4:K.lookup pD2_4=some ⟨.type "tuple",ddD2_4,.seq #[.str "ref" tD2_4_0,.str "day" tD2_4_1,.str "purse" tD2_4_2,.str "other" tD2_4_3,.str "points" tD2_4_4,.str "end" tD2_4_5] nD2_4,slD2_4⟩)
  (lD2_5:K.lookup pD2_5=some ⟨.type "tuple",ddD2_5,.seq #[.str "ref" tD2_5_0,.str "day" tD2_5_1,.str "of" tD2_5_2] nD2_5,slD2_5⟩)
  (lD2_6:K.lookup pD2_6=some ⟨.type "tuple",ddD2_6,.seq #[.str "ref" tD2_6_0,.str "of" tD2_6_1,.str "lines" tD2_6_2] nD2_6,slD2_6⟩)
  (aD3:gA K "LEASTS" pD3)
  (lD3:K.lookup pD3=some ⟨.type "dict",none,.dict #[⟨hD3_0,.str "day" kD3_0,.int 0 tD3_0⟩,⟨hD3_1,.str "points" kD3_1,.int 1 tD3_1⟩,⟨hD3_2,.str "end" kD3_2,.int 0 tD3_2⟩] mD3,#[]⟩) (yD3:PySem.W.KeysLit w.params [⟨hD3_0,.str "day" kD3_0,.int 0 tD3_0⟩,⟨hD3_1,.str "points" kD3_1,.int 1 tD3_1⟩,⟨hD3_2,.str "end" kD3_2,.int 0 tD3_2⟩]) (sD3:(pD3==sysModules)=false)
  (aD4:PySem.W.nsIn K mainGlobals "MOST_IN_A_LIST" =some (some (.int 8 tD4)))
  (aD5:PySem.W.nsIn K mainGlobals "MOST_FIGURES" =some (some (.int 12 tD5)))
  (z1:PySem.W.nsIn K mainGlobals "len" =some none)
  (z2:PySem.W.nsIn K mainGlobals "sum" =some none)
  (z3:PySem.W.nsIn K mainGlobals "min" =some none)
  (z4:PySem.W.nsIn K mainGlobals "max" =some none)
  (z5:PySem.W.nsIn K mainGlobals "list" =some none)
  (z6:PySem.W.nsIn K mainGlobals "tuple" =some none)
  (z7:PySem.W.nsIn K mainGlobals "int" =some none)
  (z8:PySem.W.nsIn K mainGlobals "all" =some none)
  (z9:PySem.W.nsIn K mainGlobals "isinstance" =some none)
  (z10:PySem.W.nsIn K mainGlobals "range" =some none)
  (z11:PySem.W.nsIn K mainGlobals "str" =some none)
  (z12:PySem.W.nsIn K mainGlobals "enumerate" =some none)
  (z13:PySem.W.nsIn K mainGlobals "zip" =some none)
  (z14:PySem.W.nsIn K mainGlobals "bool" =some none)
  (z15:PySem.W.nsIn K mainGlobals "dict" =some none)
  (z16:PySem.W.nsIn K mainGlobals "set" =some none) :
  ∃fd:FuncData,(∀(s:Shared) (v:Value),BindsTo s fd ⟨[v],[]⟩ [("_law_script",v)])/\∀base:Heap,K.In base->base.Ns mainGlobals mg->FnOk l.prog w K mg base CX0 9 fa fd ["_law_script"] (spLaw K):=by
 have e:=hfa.symm.trans (j0y X G a32)
 cases e
 have hm:∀x∈jdP,mg x=none:=by
  intro x hx
  rcases j0d.mp hx with e|hx
  ·rw[e];exact j0t X G z1
  rcases j0d.mp hx with e|hx
  ·rw[e];exact j0t X G z2
  rcases j0d.mp hx with e|hx
  ·rw[e];exact j0t X G z3
  rcases j0d.mp hx with e|hx
  ·rw[e];exact j0t X G z4
  rcases j0d.mp hx with e|hx
  ·rw[e];exact j0t X G z5
  rcases j0d.mp hx with e|hx
  ·rw[e];exact j0t X G z6
  rcases j0d.mp hx with e|hx
  ·rw[e];exact j0t X G z7
  rcases j0d.mp hx with e|hx
  ·rw[e];exact j0t X G z8
  rcases j0d.mp hx with e|hx
  ·rw[e];exact j0t X G z9
  rcases j0d.mp hx with e|hx
  ·rw[e];exact j0t X G z10
  rcases j0d.mp hx with e|hx
  ·rw[e];exact j0t X G z11
  rcases j0d.mp hx with e|hx
  ·rw[e];exact j0t X G z12
  rcases j0d.mp hx with e|hx
  ·rw[e];exact j0t X G z13
  rcases j0d.mp hx with e|hx
  ·rw[e];exact j0t X G z14
  rcases j0d.mp hx with e|hx
  ·rw[e];exact j0t X G z15
  rcases j0d.mp hx with e|hx
  ·rw[e];exact j0t X G z16
  cases hx
 have y0:jjq K w mg jb9.name (Option.get jb9.dat rfl):=⟨_,.int 8,j0y X G aD1,⟨_,rfl⟩,fun _ _=>by unfold Den;rfl⟩
 have y1:jjq K w mg jis.name (Option.get jis.dat rfl):=⟨_,[.ref pD2_0,.ref pD2_1,.ref pD2_2,.ref pD2_3,.ref pD2_4,.ref pD2_5,.ref pD2_6],j0y X G aD2,⟨⟨_,_,lD2,yD2,.cons ⟨⟨_,rfl⟩,rfl⟩ (.cons ⟨⟨_,rfl⟩,rfl⟩ (.cons ⟨⟨_,rfl⟩,rfl⟩ (.cons ⟨⟨_,rfl⟩,rfl⟩ (.cons ⟨⟨_,rfl⟩,rfl⟩ (.cons ⟨⟨_,rfl⟩,rfl⟩ (.cons ⟨⟨_,rfl⟩,rfl⟩ (.nil)))))))⟩,sD2⟩,fun _ _=>by unfold DenL;exact⟨_,_,rfl,by unfold Den;exact⟨pD2_0,[.str "ref",.str "day",.str "purse",.str "lines"],rfl,.inr ⟨_,_,_,lD2_0,rfl,rfl,(by show 4<=sizeLine;decide),.cons ⟨_,rfl⟩ (.cons ⟨_,rfl⟩ (.cons ⟨_,rfl⟩ (.cons ⟨_,rfl⟩ (.nil))))⟩,by walk_at"d"⟩,by unfold DenL;exact⟨_,_,rfl,by unfold Den;exact⟨pD2_1,[.str "ref",.str "day",.str "purse",.str "points",.str "first"],rfl,.inr ⟨_,_,_,lD2_1,rfl,rfl,(by show 5<=sizeLine;decide),.cons ⟨_,rfl⟩ (.cons ⟨_,rfl⟩ (.cons ⟨_,rfl⟩ (.cons ⟨_,rfl⟩ (.cons ⟨_,rfl⟩ (.nil)))))⟩,by walk_at"d"⟩,by unfold DenL;exact⟨_,_,rfl,by unfold Den;exact⟨pD2_2,[.str "ref",.str "day",.str "purse",.str "other",.str "points"],rfl,.inr ⟨_,_,_,lD2_2,rfl,rfl,(by show 5<=sizeLine;decide),.cons ⟨_,rfl⟩ (.cons ⟨_,rfl⟩ (.cons ⟨_,rfl⟩ (.cons ⟨_,rfl⟩ (.cons ⟨_,rfl⟩ (.nil)))))⟩,by walk_at"d"⟩,by unfold DenL;exact⟨_,_,rfl,by unfold Den;exact⟨pD2_3,[.str "ref",.str "day",.str "purse",.str "other",.str "points"],rfl,.inr ⟨_,_,_,lD2_3,rfl,rfl,(by show 5<=sizeLine;decide),.cons ⟨_,rfl⟩ (.cons ⟨_,rfl⟩ (.cons ⟨_,rfl⟩ (.cons ⟨_,rfl⟩ (.cons ⟨_,rfl⟩ (.nil)))))⟩,by walk_at"d"⟩,by unfold DenL;exact⟨_,_,rfl,by unfold Den;exact⟨pD2_4,[.str "ref",.str "day",.str "purse",.str "other",.str "points",.str "end"],rfl,.inr ⟨_,_,_,lD2_4,rfl,rfl,(by show 6<=sizeLine;decide),.cons ⟨_,rfl⟩ (.cons ⟨_,rfl⟩ (.cons ⟨_,rfl⟩ (.cons ⟨_,rfl⟩ (.cons ⟨_,rfl⟩ (.cons ⟨_,rfl⟩ (.nil))))))⟩,by walk_at"d"⟩,by unfold DenL;exact⟨_,_,rfl,by unfold Den;exact⟨pD2_5,[.str "ref",.str "day",.str "of"],rfl,.inr ⟨_,_,_,lD2_5,rfl,rfl,(by show 3<=sizeLine;decide),.cons ⟨_,rfl⟩ (.cons ⟨_,rfl⟩ (.cons ⟨_,rfl⟩ (.nil)))⟩,by walk_at"d"⟩,by unfold DenL;exact⟨_,_,rfl,by unfold Den;exact⟨pD2_6,[.str "ref",.str "of",.str "lines"],rfl,.inr ⟨_,_,_,lD2_6,rfl,rfl,(by show 3<=sizeLine;decide),.cons ⟨_,rfl⟩ (.cons ⟨_,rfl⟩ (.cons ⟨_,rfl⟩ (.nil)))⟩,by walk_at"d"⟩,by unfold DenL;rfl⟩⟩⟩⟩⟩⟩⟩⟩
 have y2:jjq K w mg jfg.name (Option.get jfg.dat rfl):=⟨_,[.int 0,.int 1,.int 0],j0y X G aD3,⟨⟨_,_,lD3,yD3,.cons ⟨⟨_,rfl⟩,⟨_,rfl⟩⟩ (.cons ⟨⟨_,rfl⟩,⟨_,rfl⟩⟩ (.cons ⟨⟨_,rfl⟩,⟨_,rfl⟩⟩ (.nil)))⟩,sD3⟩,fun _ _=>by walk_at"d"⟩
 have y3:jjq K w mg jbd.name (Option.get jbd.dat rfl):=⟨_,.int 8,j0y X G aD4,⟨_,rfl⟩,fun _ _=>by unfold Den;rfl⟩
 have y4:jjq K w mg jb8.name (Option.get jb8.dat rfl):=⟨_,.int 12,j0y X G aD5,⟨_,rfl⟩,fun _ _=>by unfold Den;rfl⟩
 have F1:=jaL (st:=jcM) l1 c1 k1
 have b1:=F1.binds (ps:=["value","least"]) (by walk_at"b")
 have F2:=jaL (st:=jbM) l2 c2 k2
 have b2:=F2.binds (ps:=["value","many"]) (by walk_at"b")
 have F3:=jaL (st:=jcg) l3 c3 k3
 have b3:=F3.binds (ps:=["values"]) (by walk_at"b")
 have F4:=jaL (st:=jd6) l4 c4 k4
 have b4:=F4.binds (ps:=["text"]) (by walk_at"b")
 have F5:=jaL (st:=jc5) l5 c5 k5
 have b5:=F5.binds (ps:=["word"]) (by walk_at"b")
 have F6:=jaL (st:=jbc) l6 c6 k6
 have b6:=F6.binds (ps:=["part"]) (by walk_at"b")
 have F7:=jaL (st:=jdV) l7 c7 k7
 have b7:=F7.binds (ps:=["line"]) (by walk_at"b")
 have F8:=jaL (st:=jcO) l8 c8 k8
 have b8:=F8.binds (ps:=["lines"]) (by walk_at"b")
 have F9:=jaL (st:=jaQ) l9 c9 k9
 have b9:=F9.binds (ps:=["names"]) (by walk_at"b")
 have F10:=jaL (st:=jbN) l10 c10 k10
 have b10:=F10.binds (ps:=["part","value"]) (by walk_at"b")
 have F11:=jaL (st:=jbl) l11 c11 k11
 have b11:=F11.binds (ps:=["deed"]) (by walk_at"b")
 have F12:=jaL (st:=jbX) l12 c12 k12
 have b12:=F12.binds (ps:=["deed"]) (by walk_at"b")
 have F13:=jaL (st:=jbT) l13 c13 k13
 have b13:=F13.binds (ps:=["parts"]) (by walk_at"b")
 have F14:=jaL (st:=jbw) l14 c14 k14
 have b14:=F14.binds (ps:=["deed"]) (by walk_at"b")
 have F15:=jaL (st:=jda) l15 c15 k15
 have b15:=F15.binds (ps:=["text"]) (by walk_at"b")
 have F16:=jaL (st:=jaN) l16 c16 k16
 have b16:=F16.binds (ps:=["word"]) (by walk_at"b")
 have F17:=jaL (st:=jbP) l17 c17 k17
 have b17:=F17.binds (ps:=["word"]) (by walk_at"b")
 have F18:=jaL (st:=jca) l18 c18 k18
 have b18:=F18.binds (ps:=["words"]) (by walk_at"b")
 have F19:=jaL (st:=jcP) l19 c19 k19
 have b19:=F19.binds (ps:=["part","words"]) (by walk_at"b")
 have F20:=jaL (st:=jcV) l20 c20 k20
 have b20:=F20.binds (ps:=["text"]) (by walk_at"b")
 have F21:=jaL (st:=jeX) l21 c21 k21
 have b21:=F21.binds (ps:=["_law_script","_law_k"]) (by walk_at"b")
 have F22:=jaL (st:=jd5) l22 c22 k22
 have b22:=F22.binds (ps:=["_law_cell","_law_k"]) (by walk_at"b")
 have F23:=jaL (st:=jcH) l23 c23 k23
 have b23:=F23.binds (ps:=["_law_cell","_law_many"]) (by walk_at"b")
 have F24:=jaL (st:=jcf) l24 c24 k24
 have b24:=F24.binds (ps:=["_law_m","_law_cell"]) (by walk_at"b")
 have F25:=jaL (st:=jba) l25 c25 k25
 have b25:=F25.binds (ps:=["_law_script","_law_at_here","_law_names_here"]) (by walk_at"b")
 have F26:=jaL (st:=jdc) l26 c26 k26
 have b26:=F26.binds (ps:=["_law_script","_law_at_here"]) (by walk_at"b")
 have F27:=jaL (st:=jcK) l27 c27 k27
 have b27:=F27.binds (ps:=["_law_deed_here"]) (by walk_at"b")
 have F28:=jaL (st:=jdZ) l28 c28 k28
 have b28:=F28.binds (ps:=["_law_words_here","_law_at_here","_law_word"]) (by walk_at"b")
 have F29:=jaL (st:=jbI) l29 c29 k29
 have b29:=F29.binds (ps:=["_law_deed_here","_law_words_here","_law_many"]) (by walk_at"b")
 have F30:=jaL (st:=jbR) l30 c30 k30
 have b30:=F30.binds (ps:=["_law_deed_here","_law_words_here","_law_m"]) (by walk_at"b")
 have F31:=jaL (st:=jcB) l31 c31 k31
 have b31:=F31.binds (ps:=["_law_text"]) (by walk_at"b")
 have hcs:[("BadBook" : Str),("BadHouse" : Str),("BadText" : Str),("NoDeed" : Str),("NoRate" : Str),("NotOver" : Str),("TooFew" : Str),("Twice" : Str),("WrongDay" : Str)].map mg=[x2,x3,x4,x5,x6,x7,x8,x9,x10].map (fun a=>some (Value.ref a)):=by simp only[j0i,j0z,j0y X G aX2,j0y X G aX3,j0y X G aX4,j0y X G aX5,j0y X G aX6,j0y X G aX7,j0y X G aX8,j0y X G aX9,j0y X G aX10]
 have F32:=jaL (st:=jjk) l32 c32 k32
 refine⟨PySem.W.fnOf "law" "law" (jfB jjk) (jap jjk) (ja jjk) .none kV32 dc32 pm32 an32 cd32 ct32,fun s v=>.of_eq rfl,fun base _ _=>?_⟩
 have y5:gT l.prog w K mg base jdg:=gM X G a1 k1 b1 (ja2 F1 jjG (jax hm) jkL)
 have y6:gT l.prog w K mg base jdq:=gM X G a2 k2 b2 (ja2 F2 jho (jax hm) jh7)
 have y7:gT l.prog w K mg base jcZ:=gM X G a3 k3 b3 (ja2 F3 jiH (jax hm) jjE)
 have y8:gT l.prog w K mg base jcN:=gM X G a4 k4 b4 (ja2 F4 jmg (jeH (by decide) y0 (jax hm)) jnR)
 have y9:gT l.prog w K mg base jb4:=gM X G a5 k5 b5 (ja2 F5 jkp (jeH (by decide) y1 (jax hm)) jmw)
 have y10:gT l.prog w K mg base jaB:=gM X G a6 k6 b6 (ja2 F6 jfX (jeH (by decide) y2 (jax hm)) jgd)
 have y11:gT l.prog w K mg base jfi:=gM X G a7 k7 b7 (ja2 F7 jl9 (jae rfl y6 (jae rfl y8 (jae rfl y5 (jax hm)))) jpc)
 have y12:gT l.prog w K mg base jb5:=gM X G a8 k8 b8 (ja2 F8 jiY (jeH (by decide) y3 (jae rfl y11 (jax hm))) jk)
 have y13:gT l.prog w K mg base jaE:=gM X G a9 k9 b9 (ja2 F9 jeF (jeH (by decide) y3 (jae rfl y8 (jae rfl y7 (jax hm)))) jfc)
 have y14:gT l.prog w K mg base jaD:=gM X G a10 k10 b10 (ja2 F10 jhn (jae rfl y12 (jae rfl y13 (jae rfl y10 (jae rfl y5 (jeH (by decide) y2 (jae rfl y8 (jax hm))))))) jiC)
 have y15:gT l.prog w K mg base jaZ:=gM X G a11 k11 b11 (ja2 F11 jgb (jae rfl y9 (jae rfl y14 (jax hm))) jgJ)
 have y16:gT l.prog w K mg base jcx:=gM X G a12 k12 b12 (ja2 F12 jhu (jae rfl y9 (jax hm)) jiK)
 have y17:gT l.prog w K mg base jcA:=gM X G a13 k13 b13 (ja2 F13 jhw (jax hm) jit)
 have y18:gY l.prog w K mg base jaV:=gZ X G a14 k14 b14 (ji5 F14 jgw (jae rfl y15 (jae rfl y17 (jae rfl y16 (jax hm)))) (jfa) (jcq rfl (jcq rfl (jcq rfl (jfz)))) (jcF (j0y X G aX1) aR.c (jc9)) jhx)
 have y19:gT l.prog w K mg base jaV:=y18.toC
 have y20:gT l.prog w K mg base jdb:=gM X G a15 k15 b15 (ja2 F15 jkm (jax hm) jl1)
 have y21:gT l.prog w K mg base jbF:=gM X G a16 k16 b16 (ja2 F16 jeu (jeH (by decide) y4 (jax hm)) jeB)
 have y22:gY l.prog w K mg base jaK:=gZ X G a17 k17 b17 (ji5 F17 jhr (jae rfl y21 (jax hm)) (jfa) (jcq rfl (jfz)) (jcF (j0y X G aX1) aR.c (jc9)) jik)
 have y23:gT l.prog w K mg base jaK:=y22.toC
 have y24:gY l.prog w K mg base jbG:=gZ X G a18 k18 b18 (ji5 F18 ji (jae rfl y23 (jax hm)) (jeg (i:=0) rfl y22 (jfa)) (jcq rfl (jfz)) (jcF (j0y X G aX1) aR.c (jc9)) jjQ)
 have y25:gT l.prog w K mg base jbG:=y24.toC
 have y26:gY l.prog w K mg base jaU:=gZ X G a19 k19 b19 (ji5 F19 jjR (jae rfl y25 (jae rfl y10 (jae rfl y23 (jax hm)))) (jeg (i:=0) rfl y24 (jeg (i:=2) rfl y22 (jfa))) (jcq rfl (jcq rfl (jcq rfl (jfz)))) (jcF (j0y X G aX1) aR.c (jc9)) jkz)
 have y27:gT l.prog w K mg base jaU:=y26.toC
 have y28:gY l.prog w K mg base jcD:=gZ X G a20 k20 b20 (ji5 F20 jjo (jae rfl y20 (jae rfl y27 (jae rfl y9 (jae rfl y19 (jax hm))))) (jeg (i:=1) rfl y26 (jeg (i:=3) rfl y18 (jfa))) (jcq rfl (jcq rfl (jcq rfl (jcq rfl (jfz))))) (jcF (j0y X G aX1) aR.c (jc9)) jkH)
 have y29:gT l.prog w K mg base jcD:=y28.toC
 have y30:gT l.prog w K mg base jc0:=gM X G a21 k21 b21 (ja2 F21 jol (jax hm) jqR)
 have y31:gT l.prog w K mg base jd:=gM X G a22 k22 b22 (ja2 F22 jmd (jax hm) jpg)
 have y32:gT l.prog w K mg base jcS:=gM X G a23 k23 b23 (ja2 F23 jj (jae rfl y31 (jax hm)) jke)
 have y33:gT l.prog w K mg base jc3:=gM X G a24 k24 b24 (ja2 F24 jiy (jax hm) jjr)
 have y34:gT l.prog w K mg base jbx:=gM X G a25 k25 b25 (ja2 F25 jfT (jae rfl y31 (jae rfl y30 (jae rfl y33 (jax hm)))) jg)
 have y35:gT l.prog w K mg base jfP:=gM X G a26 k26 b26 (ja2 F26 jks (jae rfl y30 (jae rfl y31 (jae rfl y32 (jae rfl y33 (jae rfl y34 (jax hm)))))) jmu)
 have y36:gT l.prog w K mg base jeL:=gM X G a27 k27 b27 (ja2 F27 jjK (jax hm) jky)
 have y37:gT l.prog w K mg base jd8:=gM X G a28 k28 b28 (ja2 F28 jme (jax hm) joU)
 have y38:gT l.prog w K mg base jcC:=gM X G a29 k29 b29 (ja2 F29 jht (jae rfl y37 (jax hm)) jiE)
 have y39:gT l.prog w K mg base jbQ:=gM X G a30 k30 b30 (ja2 F30 jhm (jae rfl y38 (jae rfl y37 (jax hm))) jiG)
 have y40:CalleeX l.prog w K mg base 7 "read_deed" ["text"] (spX K mg 1 ja4):=y28.toX
 have y41:gT l.prog w K mg base jdj:=gM X G a31 k31 b31 (jhl F31 y40 aR (j0y X G aX0) (hm "isinstance" (by decide)) (j0y X G aX1) (j0t X G aV) hcs)
 exact ju6 (ja2 F32 jwg (jae rfl y35 (jae rfl y36 (jae rfl y29 (jae rfl y31 (jae rfl y30 (jae rfl y41 (jae rfl y39 (jax hm)))))))) jyX) jqm
end _K11
open PySem PySem.W PyProof.Rows
 def PySem.W.Fast.tw11377409158003764119:Unit:=()
 def PySem.W.Fast.tw12823444142039789448:Unit:=()
 def PySem.W.Fast.tw9225707911315294802:Unit:=()
 def PySem.W.Fast.tw5278692471628875982:Unit:=()
 def PySem.W.Fast.tw6473927889314871258:Unit:=()
 def PySem.W.Fast.tw16674551780919073464:Unit:=()
 def PySem.W.Fast.tw12987629538969417665:Unit:=()
 def PySem.W.Fast.tw4251920076945666515:Unit:=()
 def PySem.W.Fast.tw10473676802923889672:Unit:=()
 def PySem.W.Fast.tw11040672141997933592:Unit:=()
 def PySem.W.Fast.tw13282434800376842608:Unit:=()
 def PySem.W.Fast.tw2366893441419150039:Unit:=()
 def PySem.W.Fast.tw6816594345156930526:Unit:=()
 def PySem.W.Fast.tw2828896177564348556:Unit:=()
 def PySem.W.Fast.tw6736083147963095794:Unit:=()
 def PySem.W.Fast.tw16528078095122240036:Unit:=()
 def PySem.W.Fast.tw12336454182918305969:Unit:=()
 def PySem.W.Fast.tw2400921271455935296:Unit:=()
 def PySem.W.Fast.tw14555026402536574518:Unit:=()
 def PySem.W.Fast.tw11443765811869955366:Unit:=()
 def PySem.W.Fast.tw13809444348823007540:Unit:=()
 def PySem.W.Fast.tw5392423942839831471:Unit:=()
 def PySem.W.Fast.tw6665001339750805592:Unit:=()
 def PySem.W.Fast.tw1146075073091490058:Unit:=()
 def PySem.W.Fast.tw3814445675792802514:Unit:=()
 def PySem.W.Fast.tw9229510902374824435:Unit:=()
 def PySem.W.Fast.tw2543472208584954949:Unit:=()
 def PySem.W.Fast.tw5909041244051670392:Unit:=()
 def PySem.W.Fast.tw13888834038100302876:Unit:=()
 def PySem.W.Fast.tw3803378775634781367:Unit:=()
 def PySem.W.Fast.tw3308355296168179089:Unit:=()
 def PySem.W.Fast.tw15030105933531783907:Unit:=()
 def PySem.W.Fast.tw12328027645543053117:Unit:=()
 def PySem.W.Fast.tw3972845304660927129:Unit:=()
 def PySem.W.Fast.tw8795442654502594962:Unit:=()
 def PySem.W.Fast.tw9705216855550304639:Unit:=()
 def PySem.W.Fast.tw5685695123927638826:Unit:=()
 def PySem.W.Fast.tw4550861492720065237:Unit:=()
 def PySem.W.Fast.tw4665079316348562781:Unit:=()
 def PySem.W.Fast.tw14072619526703465773:Unit:=()
 def PySem.W.Fast.tw13847041663834211529:Unit:=()
 def PySem.W.Fast.tw2456261609086143464:Unit:=()
 def PySem.W.Fast.tw6074800633081424683:Unit:=()
 def PySem.W.Fast.tw18162755739676577599:Unit:=()
 def PySem.W.Fast.tw14053250350035529165:Unit:=()
 def PySem.W.Fast.tw14420338417482936725:Unit:=()
 def PySem.W.Fast.tw1843153518429837102:Unit:=()
 def PySem.W.Fast.tw13202860542386720979:Unit:=()
 def PySem.W.Fast.tw11525087719198793114:Unit:=()
 def PySem.W.Fast.tw3932289175093754359:Unit:=()
set_option compiler.extract_closed true
 def _K11.zb:List PySem.Stmt:=PySem.Challenge.pw_pointpurse_k11_deed_texts_refused.main.body
 def _K11.zN:PySem.Stmt:=.Pass ⟨0,0,0,0⟩
 def _K11.z0:=_K11.zb.getD 0 _K11.zN
 def _K11.z1:=_K11.zb.getD 1 _K11.zN
 def _K11.z2:=_K11.zb.getD 2 _K11.zN
 def _K11.z3:=_K11.zb.getD 3 _K11.zN
 def _K11.z4:=_K11.zb.getD 4 _K11.zN
 def _K11.z5:=_K11.zb.getD 5 _K11.zN
 def _K11.z6:=_K11.zb.getD 6 _K11.zN
 def _K11.z7:=_K11.zb.getD 7 _K11.zN
 def _K11.z8:=_K11.zb.getD 8 _K11.zN
 def _K11.z9:=_K11.zb.getD 9 _K11.zN
 def _K11.z10:=_K11.zb.getD 10 _K11.zN
 def _K11.z11:=_K11.zb.getD 11 _K11.zN
 def _K11.z12:=_K11.zb.getD 12 _K11.zN
 def _K11.z13:=_K11.zb.getD 13 _K11.zN
 def _K11.z14:=_K11.zb.getD 14 _K11.zN
 def _K11.z15:=_K11.zb.getD 15 _K11.zN
 def _K11.z16:=_K11.zb.getD 16 _K11.zN
 def _K11.z17:=_K11.zb.getD 17 _K11.zN
 def _K11.z18:=_K11.zb.getD 18 _K11.zN
 def _K11.z19:=_K11.zb.getD 19 _K11.zN
 def _K11.z20:=_K11.zb.getD 20 _K11.zN
 def _K11.z21:=_K11.zb.getD 21 _K11.zN
 def _K11.z22:=_K11.zb.getD 22 _K11.zN
 def _K11.z23:=_K11.zb.getD 23 _K11.zN
 def _K11.z24:=_K11.zb.getD 24 _K11.zN
 def _K11.z25:=_K11.zb.getD 25 _K11.zN
 def _K11.z26:=_K11.zb.getD 26 _K11.zN
 def _K11.z27:=_K11.zb.getD 27 _K11.zN
 def _K11.z28:=_K11.zb.getD 28 _K11.zN
 def _K11.z29:=_K11.zb.getD 29 _K11.zN
 def _K11.z30:=_K11.zb.getD 30 _K11.zN
 def _K11.z31:=_K11.zb.getD 31 _K11.zN
 def _K11.z32:=_K11.zb.getD 32 _K11.zN
 def _K11.z33:=_K11.zb.getD 33 _K11.zN
 def _K11.z34:=_K11.zb.getD 34 _K11.zN
 def _K11.z35:=_K11.zb.getD 35 _K11.zN
 def _K11.z36:=_K11.zb.getD 36 _K11.zN
 def _K11.z37:=_K11.zb.getD 37 _K11.zN
 def _K11.z38:=_K11.zb.getD 38 _K11.zN
 def _K11.z39:=_K11.zb.getD 39 _K11.zN
 def _K11.z40:=_K11.zb.getD 40 _K11.zN
 def _K11.z41:=_K11.zb.getD 41 _K11.zN
 def _K11.z42:=_K11.zb.getD 42 _K11.zN
 def _K11.z43:=_K11.zb.getD 43 _K11.zN
 def _K11.z44:=_K11.zb.getD 44 _K11.zN
 def _K11.z45:=_K11.zb.getD 45 _K11.zN
 def _K11.z46:=_K11.zb.getD 46 _K11.zN
 def _K11.z47:=_K11.zb.getD 47 _K11.zN
 def _K11.z48:=_K11.zb.getD 48 _K11.zN
 def _K11.z49:=_K11.zb.getD 49 _K11.zN
 def _K11.z50:=_K11.zb.getD 50 _K11.zN
 def _K11.z51:=_K11.zb.getD 51 _K11.zN
 def _K11.z52:=_K11.zb.getD 52 _K11.zN
 def _K11.z53:=_K11.zb.getD 53 _K11.zN
 def _K11.zp:PySem.Program:={PySem.Challenge.pw_pointpurse_k11_deed_texts_refused with main:={PySem.Challenge.pw_pointpurse_k11_deed_texts_refused.main with body:=[_K11.z0,_K11.z1,_K11.z2,_K11.z3,_K11.z4,_K11.z5,_K11.z6,_K11.z7,_K11.z8,_K11.z9,_K11.z10,_K11.z11,_K11.z12,_K11.z13,_K11.z14,_K11.z15,_K11.z16,_K11.z17,_K11.z18,_K11.z19,_K11.z20,_K11.z21,_K11.z22,_K11.z23,_K11.z24,_K11.z25,_K11.z26,_K11.z27,_K11.z28,_K11.z29,_K11.z30,_K11.z31,_K11.z32,_K11.z33,_K11.z34,_K11.z35,_K11.z36,_K11.z37,_K11.z38,_K11.z39,_K11.z40,_K11.z41,_K11.z42,_K11.z43,_K11.z44,_K11.z45,_K11.z46,_K11.z47,_K11.z48,_K11.z49,_K11.z50,_K11.z51,_K11.z52,_K11.z53]}}
 def _K11.zl:PySem.W.OpenLaw:={PySem.Challenge.rw_pointpurse_k11_deed_texts_refused with prog:=_K11.zp}
set_option maxRecDepth 100000 in
theorem _K11.zl_eq:PySem.Challenge.rw_pointpurse_k11_deed_texts_refused=_K11.zl:=rfl
set_option maxRecDepth 100000 in
set_option maxHeartbeats 0 in
theorem PySem.Challenge.cw_pointpurse_k11_deed_texts_refused_holds : PySem.Challenge.rw_pointpurse_k11_deed_texts_refused.Holds := by
 rw[_K11.zl_eq]
 w_on;o_law;k_head;(case hw=>w_witness2)
 k_fill
 refine _L2.walk_ofK (l:=_K11.zl) (n:=63) (k:=9) (x:="_law_script") (CX:=_L2.CX0) (sp:=_L2.spLaw) rfl (by decide) rfl ⟨rfl,by decide,by decide⟩ (fun w h Y=>PySem.W.kIn_of Y) ?F ?S ?C
 case F=>
  intro w mg fa h KX G hmg
  apply _K11.all_mk KX G hmg
  all_goals try dsimp only [_K11.gA,_K11.gL,_K11.gC,_K11.gK]
  all_goals first|k_is|k_keys
  (case aR=>exact⟨_L3.excC_of (by kernel_rfl),⟨by kernel_rfl,by kernel_rfl,by kernel_rfl,by kernel_rfl,by kernel_rfl,by kernel_rfl,by kernel_rfl⟩,by kernel_rfl,by kernel_rfl,by kernel_rfl,by kernel_rfl,by kernel_rfl,by decide⟩)
  (case sD2=>decide)
  (case sD3=>decide)
 case S=>exact fun K H a ns hl hO hS=>⟨a,ns,rfl,hS,hl,fun _=>rfl⟩
 case C=>exact fun _ _ _ _ z=>z
#print axioms PySem.Challenge.cw_pointpurse_k11_deed_texts_refused_holds
