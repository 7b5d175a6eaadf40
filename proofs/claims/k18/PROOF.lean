import PyProof.Rows.All
import Wide.All
import OpenK.AllK
import Wide.FinOn
import Lean
import PyProof.EqAt
import PyProof.EqKinds
import PyProof.TupleCall
import PySem.Challenge.RW_pointpurse_k18_books
set_option Elab.async false
set_option linter.all false
set_option maxRecDepth 100000
set_option maxHeartbeats 4000000
set_option bootstrap.genMatcherCode false
set_option genSizeOf false
set_option genInjectivity false
set_option compiler.extract_closed false
abbrev j0a:=@Bool.and_eq_true
abbrev j0b:=@List.exists_cons_of_length_pos
abbrev j0c:=@PySem.Heap.get?_push_of_some
abbrev j0d:=@List.mem_cons
abbrev j0e:=@List.getElem?_eq_some_iff
abbrev j0f:=@List.length_map
abbrev j0g:=@PySem.Heap.lt_size
abbrev j0h:=@PySem.W.mg_of
abbrev j0i:=@Bool.false_ne_true
abbrev j0j:=@List.size_toArray
abbrev j0k:=@List.map_cons
abbrev j0l:=@Nat.le_refl
abbrev j0m:=@Nat.ne_of_lt
abbrev j0n:=@PySem.Heap.get?_push_size
abbrev j0o:=@Nat.lt_of_lt_of_le
abbrev j0p:=@Bool.false_eq_true
abbrev j0q:=@List.length_cons
abbrev j0r:=@List.filter_eq_self
abbrev j0s:=@List.mem_cons_of_mem
abbrev j0t:=@Array.length_toList
abbrev j0u:=@List.mem_cons_self
abbrev j0v:=@List.length_append
abbrev j0w:=@Array.getD_eq_getD_getElem?
abbrev j0x:=@List.mem_map
abbrev j0y:=@List.length_take
abbrev j0z:=@List.mem_of_getElem?
abbrev j0A:=@PySem.W.mg_none_of
abbrev j0B:=@List.getD_eq_getElem?_getD
abbrev j0C:=@List.append_nil
abbrev j0D:=@List.getElem?_eq_getElem
abbrev j0E:=@List.map_map
abbrev j0F:=@List.map_nil
abbrev j0G:=@Option.some.injEq
abbrev j0H:=@Option.some.inj
abbrev j0I:=@Nat.le_trans
abbrev j0J:=@List.not_mem_nil
abbrev j0K:=@List.mem_append_right
abbrev j0L:=@List.length_singleton
abbrev j0M:=@Nat.succ.inj
abbrev j0N:=@Array.getElem?_eq_some_iff
abbrev j0O:=@Bool.not_eq_true'
abbrev j0P:=@List.mem_of_mem_take
abbrev j0Q:=@PySem.W.kia_one
abbrev j0R:=@Option.map_eq_some_iff
abbrev j0S:=@List.mem_filterMap
abbrev j0T:=@Bool.eq_iff_iff
abbrev j0U:=@List.replicate_succ
abbrev j0V:=@List.find?_cons
abbrev j0W:=@Nat.lt_succ_self
abbrev j0X:=@List.getElem?_map
abbrev j0Y:=@List.all_cons
abbrev j0Z:=@List.mem_range
abbrev j00:=@List.getElem?_append_left
abbrev j01:=@List.all_eq_true
abbrev j02:=@Bool.true_and
abbrev j03:=@Int.emod_nonneg
abbrev j04:=@List.getElem?_cons_zero
abbrev j05:=@List.length_eq_zero_iff
abbrev j06:=@List.getElem?_append_right
abbrev j07:=@List.take_of_length_le
abbrev j08:=@List.filterMap_cons
abbrev j09:=@PySem.mem_of_lookup
abbrev j1a:=@PyProof.Rows.slot_tuple_getitem
abbrev j1b:=@List.append_assoc
abbrev j1c:=@List.pairwise_map
abbrev j1d:=@List.mem_append
abbrev j1e:=@List.nodup_cons
abbrev j1f:=@List.nil_append
abbrev j1g:=@Int.emod_lt_of_pos
abbrev j1h:=@Nat.le_of_not_lt
abbrev j1i:=@Int.eq_ofNat_of_zero_le
abbrev j1j:=@Nat.le_of_eq
abbrev j1k:=@PyProof.Rows.F.plain_set_update_loop
abbrev j1l:=@PyProof.Rows.callWith_type1
abbrev j1m:=@PySem.F.slot_zip_next
abbrev j1n:=@List.map_append
abbrev j1o:=@List.getElem?_set_self
abbrev j1p:=@List.length_eq_one_iff
abbrev j1q:=@PySem.F.slot_tuple_iterator_next
abbrev j1r:=@Nat.zero_le
abbrev j1s:=@List.mem_append_left
abbrev j1t:=@List.getElem?_set_ne
abbrev j1u:=@List.flatten_cons
abbrev j1v:=@Bool.or_eq_true
abbrev j1w:=@PySem.W.kia_tup
abbrev j1x:=@Nat.lt_irrefl
abbrev j1y:=@List.filter_cons_of_pos
abbrev j1z:=@List.filter_cons_of_neg
abbrev j1A:=@List.mem_singleton
namespace _L2
open PySem PySem.Spec PyProof.Rows
noncomputable abbrev Key:=Sum Int Str
noncomputable def jmX:Key->Value->Bool
 |.inl k,v=>Value.isInt k v
 |.inr x,v=>Value.isStrOf x v
noncomputable def jBc (w:World):Key->Int
 |.inl k=>hashInt k
 |.inr x=>hashStr w x
theorem jaT:∀{k:Key} {v:Value},jmX k v=true->(∃i t,k=Sum.inl i/\v=Value.int i t)∨(∃x t,k=Sum.inr x/\v=Value.str x t)
 |.inl i,v,h=>by
  obtain⟨t,e⟩:=Value.isInt_shape (k:=i) (v:=v) h;exact .inl ⟨i,t,rfl,e⟩
 |.inr x,v,h=>by
  obtain⟨t,e⟩:=Value.isStrOf_shape (x:=x) (v:=v) h;exact .inr ⟨x,t,rfl,e⟩
theorem jpt (i:Int)(t:Tok):jmX (.inl i) (.int i t)=true:=by simp[jmX,Value.isInt]
theorem jnJ (x:Str)(t:Tok):jmX (.inr x) (.str x t)=true:=by simp[jmX,Value.isStrOf]
theorem jwU (a b:Int):decide ((Sum.inl a:Key)=Sum.inl b)=(a==b):=by
 by_cases e:a=b
 ·subst e;simp
 ·have h:¬ (Sum.inl a:Key)=Sum.inl b:=fun q=>e (Sum.inl.inj q);rw[decide_eq_false h];exact(beq_eq_false_iff_ne.mpr e).symm
theorem jyH (a b:Str):decide ((Sum.inr a:Key)=Sum.inr b)=decide (a=b):=by
 by_cases e:a=b
 ·subst e;simp
 ·have h:¬ (Sum.inr a:Key)=Sum.inr b:=fun q=>e (Sum.inr.inj q);rw[decide_eq_false h,decide_eq_false e]
theorem jwJ (a:Int)(b:Str):decide ((Sum.inl a:Key)=Sum.inr b)=false:=decide_eq_false (fun q=>nomatch q)
theorem jwO (a:Str)(b:Int):decide ((Sum.inr a:Key)=Sum.inl b)=false:=decide_eq_false (fun q=>nomatch q)
noncomputable def jan (prog:Program)(w:World):PySem.KeyKind prog w Key where
 is:=jmX
 hash:=jBc w
 inj:=fun v a b ha hb=>by
  rcases jaT ha with⟨i,t,rfl,rfl⟩|⟨x,t,rfl,rfl⟩
  ·rcases jaT hb with⟨j,u,rfl,e⟩|⟨y,u,rfl,e⟩
   ·injection e with e1 _;rw[e1]
   ·exact nomatch e
  ·rcases jaT hb with⟨j,u,rfl,e⟩|⟨y,u,rfl,e⟩
   ·exact nomatch e
   ·injection e with e1 _;rw[e1]
 byValue:=fun k v h=>by
  rcases jaT h with⟨i,t,rfl,rfl⟩|⟨x,t,rfl,rfl⟩<;>rfl
 pyHash:=fun hv h=>by
  rcases jaT hv with⟨i,t,rfl,rfl⟩|⟨x,t,rfl,rfl⟩
  ·exact wpAny_pyHash_int h
  ·exact wpAny_pyHash_str h
 eqBool:=fun hu hv h=>by
  rcases jaT hu with⟨i,t,rfl,rfl⟩|⟨x,t,rfl,rfl⟩
  ·rcases jaT hv with⟨j,u,rfl,rfl⟩|⟨y,u,rfl,rfl⟩
   ·rw[jwU]at h;exact wpAny_eqBool_int h
   ·rw[jwJ]at h;exact SeqAt.EqAt.int_str i t y u _ _ _ _ h
  ·rcases jaT hv with⟨j,u,rfl,rfl⟩|⟨y,u,rfl,rfl⟩
   ·rw[jwO]at h;exact SeqAt.EqAt.str_int x t j u _ _ _ _ h
   ·rw[jyH]at h;exact wpAny_eqBool_str h
 «strs»:=fun k x t v h=>by
  rcases jaT h with⟨i,u,rfl,e⟩|⟨y,u,rfl,e⟩
  ·exact nomatch e
  ·injection e with e1 _;subst e1;cases v<;>rfl
theorem jk5 (prog:Program)(w:World)(i:Int)(t:Tok):(jan prog w).is (.inl i) (.int i t)=true:=jpt i t
theorem jkU (prog:Program)(w:World)(x:Str)(t:Tok):(jan prog w).is (.inr x) (.str x t)=true:=jnJ x t
set_option genInjectivity true in
inductive V where
 |non|bl (b:Bool)|int (i:Int)|str (x:Str)|byt (b:Array UInt8)|flt (b:UInt64)|ref (a:Addr)|ty (n:String)
 deriving DecidableEq
noncomputable def jaN:V->Value->Prop
 |.non,u=>u=Value.none
 |.bl b,u=>u=Value.bool b
 |.int i,u=>∃t,u=Value.int i t
 |.str x,u=>∃t,u=Value.str x t
 |.byt b,u=>∃t,u=Value.bytes b t
 |.flt b,u=>∃t,u=Value.float b t
 |.ref a,u=>u=Value.ref a
 |.ty n,u=>u=Value.type n
noncomputable abbrev jaO:List V->List Value->Prop:=Paired jaN
theorem jaO.length {xs:List V}{us:List Value}(r:jaO xs us):xs.length=us.length:=Paired.length r
theorem jaO.get:∀{xs:List V} {us:List Value} {i:Nat} {x:V},jaO xs us->xs[i]?=some x->∃u,us[i]?=some u/\jaN x u
 |_,_,_,_,.nil,e=>by simp at e
 |_,_,0,_,.cons r _,e=>by simp at e;subst e;exact⟨_,rfl,r⟩
 |_,_,i+1,x,.cons _ t,e=>by
  obtain⟨u,h1,h2⟩:=jaO.get (i:=i) (x:=x) t (by simpa using e);exact⟨u,by simpa using h1,h2⟩
theorem jaO.set {x:V}{u:Value}(r:jaN x u):∀{xs:List V} {us:List Value} (i:Nat),jaO xs us->jaO (xs.set i x) (us.set i u)
 |_,_,_,.nil=>.nil
 |_,_,0,.cons _ t=>.cons r t
 |_,_,i+1,.cons q t=>.cons q (jaO.set r i t)
theorem jaO.append:∀{xs ys:List V} {us ws:List Value},jaO xs us->jaO ys ws->jaO (xs++ys) (us++ws)
 |_,_,_,_,.nil,s=>s
 |_,_,_,_,.cons r t,s=>.cons r (jaO.append t s)
theorem jaO.take:∀{xs:List V} {us:List Value} (n:Nat),jaO xs us->jaO (xs.take n) (us.take n)
 |_,_,0,_=>.nil
 |_,_,_+1,.nil=>.nil
 |_,_,n+1,.cons r t=>.cons r (jaO.take n t)
theorem jaO.drop:∀{xs:List V} {us:List Value} (n:Nat),jaO xs us->jaO (xs.drop n) (us.drop n)
 |_,_,0,r=>r
 |_,_,_+1,.nil=>.nil
 |_,_,n+1,.cons _ t=>jaO.drop n t
noncomputable def jjB:Option V->Option Value->Prop
 |some v,some u=>jaN v u
 |none,none=>True
 |_,_=>False
noncomputable def KV {κ:Type}:List (κ×V)->List (κ×Value)->Prop:=Paired fun(p:κ×V) (q:κ×Value)=>p.1=q.1/\jaN p.2 q.2
noncomputable def kV:Key->V
 |.inl i=>.int i
 |.inr x=>.str x
set_option genInjectivity true in
inductive HO where
 |lst (xs:List V)
 |tup (xs:List V)
 |dK (kvs:List (Key×V))|dT (kvs:List (List Key×V))
 |set (S:Int->Bool) (n:Nat)
 |ins (C dx:Addr) (fs:List (Str×V))
 |own (x:Addr)
 |xd (fs:List (Str×V))
 |met (f x:Addr)
 |rng (lo hi:Int)
 |frz (o:Obj) (u:HO)
 |tbl (ps:Array Value)
 |ext (φ:Heap->Prop)
noncomputable abbrev Hp:=Addr->Option HO
noncomputable def upd (H:Hp)(a:Addr)(o:HO):Hp:=fun b=>if b=a then some o else H b
theorem jaz {H:Hp}{a:Addr}{o:HO}:upd H a o a=some o:=by unfold upd;rw[if_pos rfl]
theorem jap {H:Hp}{a b:Addr}{o:HO}(h:b≠a):upd H a o b=H b:=by unfold upd;rw[if_neg h]
theorem jau {H:Hp}{a b:Addr}{o:HO}(h:H a=some o)(h':H b=none):a≠b:=by
 intro e;subst e;rw[h]at h';cases h'
section
variable (P:Program) (w:World)
noncomputable def jbL (H:Hp)(h:Heap)(a:Addr):HO->Prop
 |.lst xs=>xs.length<=sizeLine/\∃(its:List Value) (n:Nat),jaO xs its/\h.get? a=some {cls:=.type "list",data:=.seq its.toArray n}
 |.tup xs=>xs.length<=sizeLine/\∃(its:List Value) (n:Nat),jaO xs its/\h.get? a=some {cls:=.type "tuple",data:=.seq its.toArray n}
 |.dK kvs=>kvs.length<=sizeLine/\(a==sysModules)=false/\∃vs,KV kvs vs/\h.DictOf (jan P w) a vs
 |.dT kvs=>kvs.length<=sizeLine/\(a==sysModules)=false/\∃xs:List (List Key×Addr×Value),
   Paired (fun(p:List Key×V) (q:List Key×Addr×Value)=>p.1=q.1/\H q.2.1=some (.tup (p.1.map kV))/\jaN p.2 q.2.2) kvs xs /\
   ∃o es ep,h.get? a=some o/\o.ExactDict/\o.data=.dict es ep/\es.toList=xs.map (entryOfKey (tupleKind (jan P w)))/\(xs.map (·.1)).Nodup
 |.set S n=>h.SetOf (intKind P w) a S n
 |.ins C dx fs=>H dx=some (.own a)/\fs.length<=1000/\dx≠a/\h.get? a=some (PySem.W.instObj C dx) /\
   ∃mA,h.Ns1 dx mA/\(∀f,jjB (fs.lookup f) (mA f))/\PySem.Within mA (fs.map (·.1))
 |.own _=>∃o,h.get? a=some o
 |.xd fs=>∃mA,h.Ns1 a mA/\∀f,jjB (fs.lookup f) (mA f)
 |.rng lo hi=>∃t u v,h.get? a=some {cls:=.type "range",data:=.fields #[.int lo t,.int hi u,.int 1 v]}
 |.frz o u=>h.get? a=some o/\jbL H h a u
 |.tbl ps=>h.get? a=some {cls:=.none,data:=.fields ps}
 |.met f x=>h.get? a=some (PySem.W.methodObj (.ref f) (.ref x))
 |.ext φ=>φ h/\(∃o,h.get? a=some o)/\∀h1 h2:Heap,φ h1->(∀o,h1.get? a=some o->h2.get? a=some o)->φ h2
def HOk (H:Hp)(h:Heap):Prop:=∀a o,H a=some o->jbL P w H h a o
end
section
variable {P:Program} {w:World} {H H':Hp} {h h':Heap} {a:Addr} {o:HO}
theorem jbL.lt (x:jbL P w H h a o):a<h.objs.size:=by
 cases o with
 |lst xs=>obtain⟨_,_,_,_,e⟩:=x;exact j0g e
 |tup xs=>obtain⟨_,_,_,_,e⟩:=x;exact j0g e
 |dK kvs=>obtain⟨_,_,_,_,o,_,_,e,_⟩:=x;exact j0g e
 |dT kvs=>obtain⟨_,_,_,_,o,_,_,e,_⟩:=x;exact j0g e
 |set S n=>obtain⟨o,_,_,_,e,_⟩:=x;exact j0g e
 |ins C dx fs=>obtain⟨_,_,_,e,_⟩:=x;exact j0g e
 |own y=>obtain⟨_,e⟩:=x;exact j0g e
 |xd fs=>obtain⟨_,⟨_,_,_,e,_⟩,_⟩:=x;exact j0g e
 |rng lo hi=>obtain⟨_,_,_,e⟩:=x;exact j0g e
 |frz ob u=>obtain⟨e,_⟩:=x;exact j0g e
 |tbl ps=>exact j0g (show h.get? a=some _ from x)
 |met f y=>exact j0g (show h.get? a=some _ from x)
 |ext φ=>obtain⟨_,⟨_,e⟩,_⟩:=x;exact j0g e
theorem Paired.mapP {α β:Type}{F G:α->β->Prop}:∀{l₁:List α} {l₂:List β},Paired F l₁ l₂->(∀a b,F a b->G a b)->Paired G l₁ l₂
 |_,_,.nil,_=>.nil
 |_,_,.cons r t,f=>.cons (f _ _ r) (Paired.mapP t f)
theorem Paired.imp' {α β:Type}{F G:α->β->Prop}(f:∀a b,F a b->G a b){l₁:List α}{l₂:List β}(r:Paired F l₁ l₂):Paired G l₁ l₂:=Paired.mapP r f
theorem jbL.stay (x:jbL P w H h a o)(k:∀b u,(b=a∨H b=some (.own a))->h.get? b=some u->h'.get? b=some u)
  (ho:∀b,H b=some (.own a)->H' b=some (.own a)) (ht:∀b xs,H b=some (.tup xs)->H' b=some (.tup xs)):jbL P w H' h' a o:=by
 induction o with
 |lst xs=>obtain⟨z,its,n,r,e⟩:=x;exact⟨z,its,n,r,k _ _ (.inl rfl) e⟩
 |tup xs=>obtain⟨z,its,n,r,e⟩:=x;exact⟨z,its,n,r,k _ _ (.inl rfl) e⟩
 |dK kvs=>obtain⟨z,y,vs,r,ob,es,ep,e,c⟩:=x;exact⟨z,y,vs,r,ob,es,ep,k _ _ (.inl rfl) e,c⟩
 |dT kvs=>
  obtain⟨z,y,xs,r,ob,es,ep,e,c⟩:=x;exact⟨z,y,xs,Paired.mapP r fun p q z=>⟨z.1,ht _ _ z.2.1,z.2.2⟩,ob,es,ep,k _ _ (.inl rfl) e,c⟩
 |set S n=>obtain⟨ob,es,ep,t,e,c⟩:=x;exact⟨ob,es,ep,t,k _ _ (.inl rfl) e,c⟩
 |ins C dx fs=>
  obtain⟨d,z,ne,e,mA,⟨od,es,ep,e2,c⟩,r⟩:=x;exact⟨ho _ d,z,ne,k _ _ (.inl rfl) e,mA,⟨od,es,ep,k _ _ (.inr d) e2,c⟩,r⟩
 |own y=>obtain⟨ob,e⟩:=x;exact⟨ob,k _ _ (.inl rfl) e⟩
 |xd fs=>obtain⟨mA,⟨od,es,ep,e,c⟩,r⟩:=x;exact⟨mA,⟨od,es,ep,k _ _ (.inl rfl) e,c⟩,r⟩
 |rng lo hi=>obtain⟨t,u,v,e⟩:=x;exact⟨t,u,v,k _ _ (.inl rfl) e⟩
 |frz ob u ih=>obtain⟨e,q⟩:=x;exact⟨k _ _ (.inl rfl) e,ih q⟩
 |tbl ps=>
  have e:h.get? a=some {cls:=.none,data:=.fields ps}:=x;show h'.get? a=some {cls:=.none,data:=.fields ps};exact k a _ (.inl rfl) e
 |met f y=>
  have e:h.get? a=some (PySem.W.methodObj (.ref f) (.ref y)):=x;show h'.get? a=some (PySem.W.methodObj (.ref f) (.ref y));exact k a _ (.inl rfl) e
 |ext φ=>obtain⟨p,⟨o,e⟩,st⟩:=x;exact⟨st _ _ p fun o q=>k _ _ (.inl rfl) q,⟨o,k _ _ (.inl rfl) e⟩,st⟩
theorem HOk.lt (x:HOk P w H h)(e:H a=some o):a<h.objs.size:=(x a o e).lt
theorem HOk.fresh (x:HOk P w H h)(e:h.objs.size<=a):H a=none:=by
 cases q:H a with
 |none=>rfl
 |some u=>exact absurd (j0o (x.lt q) e) (j1x _)
theorem HOk.kept (x:HOk P w H h)(k:∀b u,h.get? b=some u->h'.get? b=some u):HOk P w H h':=fun a o e=>
 (x a o e).stay (fun b u _ q=>k b u q) (fun _ q=>q) fun _ _ q=>q
theorem HOk.laid (x:HOk P w H h)(k:∀b u,h.get? b=some u->h'.get? b=some u)(hp:h.objs.size<=a)(new:jbL P w (upd H a o) h' a o):HOk P w (upd H a o) h':=fun b u e=>by
 have hn:=x.fresh hp;by_cases hb:b=a
 ·subst hb;rw[jaz]at e;cases e;exact new
 ·rw[jap hb]at e;exact(x b u e).stay (fun c v _ q=>k c v q) (fun c q=>by rw[jap (jau q hn)];exact q) fun c xs q=>by rw[jap (jau q hn)];exact q
end
def Rd (H:Hp)(a:Addr)(u:HO):Prop:=H a=some u∨∃o,H a=some (.frz o u)
theorem Rd.of {H:Hp}{a:Addr}{u:HO}(h:H a=some u):Rd H a u:=.inl h
theorem Rd.ok {P:Program}{w:World}{H:Hp}{h:Heap}{a:Addr}{u:HO}(r:Rd H a u)(x:HOk P w H h):jbL P w H h a u:=by
 rcases r with r|⟨o,r⟩
 ·exact x a u r
 ·obtain⟨_,q⟩:=x a _ r;exact q
noncomputable def Mut:Option HO->Prop
 |some (.lst _)=>True
 |some (.dK _)=>True
 |some (.dT _)=>True
 |some (.set _ _)=>True
 |some (.ins _ _ _)=>True
 |some (.ext _)=>True
 |_=>False
section
variable {P:Program} {w:World} {H:Hp} {h h':Heap} {x e:Addr} {o':HO}
theorem HOk.write (ok:HOk P w H h)(mu:Mut (H x))(he:e=x∨H e=some (.own x))(k:∀b u,b≠e->h.get? b=some u->h'.get? b=some u)(heo:∃u,h'.get? e=some u)
  (new:jbL P w (upd H x o') h' x o'):HOk P w (upd H x o') h':=fun b u q=>by
 have nown:∀c y,H c=some (.own y)->c≠x:=fun c y r z=>by subst z;rw[r]at mu;exact mu
 have ntup:∀c xs,H c=some (.tup xs)->c≠x:=fun c xs r z=>by subst z;rw[r]at mu;exact mu
 by_cases hb:b=x
 ·subst hb;rw[jaz]at q;cases q;exact new
 ·rw[jap hb]at q;by_cases hbe:b=e
  ·have q':H b=some (.own x):=by
    rcases he with z|z
    ·exact absurd (hbe.trans z) hb
    ·rw[hbe];exact z
   rw[q]at q';cases q';obtain⟨v,hv⟩:=heo;exact⟨v,by rw[hbe];exact hv⟩
  ·refine(ok b u q).stay (fun c v hc r=>k c v ?_ r) (fun c r=>by rw[jap (nown c b r)];exact r) fun c xs r=>by rw[jap (ntup c xs r)];exact r
   rcases hc with rfl|hc
   ·exact hbe
   ·rintro rfl;rcases he with z|z
    ·exact nown c b hc z
    ·rw[hc]at z;cases z;exact hb rfl
end
structure Un (fs ex:List Addr) (H H':Hp) (h h':Heap):Prop where
 keep:∀b o,h.get? b=some o->H b=none->b∉fs->b∉ex->h'.get? b=some o
 slot:∀b o,h.get? b=some o->H b=none->b∈fs->b∉ex->∃sl,h'.get? b=some {o with slots:=sl}
 free:∀b o,h.get? b=some o->H b=none->b∉ex->H' b=none
 there:∀b o,h.get? b=some o->b∉ex->∃o',h'.get? b=some o'
 tups:∀b xs,H b=some (.tup xs)->H' b=some (.tup xs)
 frzs:∀b o u,H b=some (.frz o u)->H' b=some (.frz o u)
 tbls:∀b ps,H b=some (.tbl ps)->∃more,H' b=some (.tbl (ps++more))
section
variable {fs fs' ex ex':List Addr} {H H1 H2:Hp} {h h1 h2 h':Heap} {a x e:Addr} {o:HO}
theorem Un.any (u:Un fs ex H H1 h h1){b:Addr}{ob:Obj}(q:h.get? b=some ob)(n:H b=none)(hx:b∉ex):∃sl,h1.get? b=some {ob with slots:=sl}:=by
 by_cases hb:b∈fs
 ·exact u.slot b ob q n hb hx
 ·exact⟨ob.slots,u.keep b ob q n hb hx⟩
theorem Un.trans (a:Un fs ex H H1 h h1)(b:Un fs ex H1 H2 h1 h2):Un fs ex H H2 h h2 where
 keep:=fun c ob q n hc hx=>b.keep c ob (a.keep c ob q n hc hx) (a.free c ob q n hx) hc hx
 slot:=fun c ob q n hc hx=>by
  obtain⟨sl,e1⟩:=a.slot c ob q n hc hx;obtain⟨sl',e2⟩:=b.slot c _ e1 (a.free c ob q n hx) hc hx;exact⟨sl',e2⟩
 free:=fun c ob q n hx=>by
  obtain⟨o',e1⟩:=a.there c ob q hx;exact b.free c o' e1 (a.free c ob q n hx) hx
 there:=fun c ob q hx=>by
  obtain⟨o',e1⟩:=a.there c ob q hx;exact b.there c o' e1 hx
 tups:=fun c xs q=>b.tups c xs (a.tups c xs q)
 frzs:=fun c ob xs q=>b.frzs c ob xs (a.frzs c ob xs q)
 tbls:=fun c ps q=>by
  obtain⟨m1,e1⟩:=a.tbls c ps q;obtain⟨m2,e2⟩:=b.tbls c _ e1;exact⟨m1++m2,by rw[e2,Array.append_assoc]⟩
theorem Un.kept (k:∀b u,h.get? b=some u->h'.get? b=some u):Un fs ex H H h h':=
 ⟨fun b ob q _ _ _=>k b ob q,fun b ob q _ _ _=>⟨ob.slots,k b ob q⟩,fun _ _ _ n _=>n,fun b ob q _=>⟨ob,k b ob q⟩,fun _ _ q=>q,fun _ _ _ q=>q,fun _ ps q=>⟨#[],by rw[q];simp⟩⟩
theorem Un.refl:Un fs ex H H h h:=Un.kept fun _ _ q=>q
theorem Un.laid (k:∀b u,h.get? b=some u->h'.get? b=some u)(hp:h.objs.size<=a)(hn:H a=none):Un fs ex H (upd H a o) h h' where
 keep:=fun b u q _ _ _=>k b u q
 slot:=fun b u q _ _ _=>⟨u.slots,k b u q⟩
 free:=fun b u q n _=>by rw[jap (j0m (j0o (j0g q) hp))];exact n
 there:=fun b u q _=>⟨u,k b u q⟩
 tups:=fun b xs q=>by rw[jap (jau q hn)];exact q
 frzs:=fun b u xs q=>by rw[jap (jau q hn)];exact q
 tbls:=fun b ps q=>⟨#[],by rw[jap (jau q hn),q];simp⟩
theorem Un.write (mu:Mut (H x))(he:e=x∨H e=some (.own x))(k:∀b u,b≠e->h.get? b=some u->h'.get? b=some u)(heo:∃u,h'.get? e=some u):Un fs ex H (upd H x o) h h':=by
 have hx:∀b,H b=none->b≠x:=fun b n z=>by subst z;rw[n]at mu;exact mu
 have hb:∀b,H b=none->b≠e:=fun b n z=>by
  subst z;rcases he with r|r
  ·exact hx b n r
  ·rw[n]at r;cases r
 have hm:∀b u,H b=some u->¬ Mut (some u)->b≠x:=fun b u q nm z=>by subst z;rw[q]at mu;exact nm mu
 refine⟨fun b u q n _ _=>k b u (hb b n) q,fun b u q n _ _=>⟨u.slots,k b u (hb b n) q⟩,fun b u q n _=>by rw[jap (hx b n)];exact n,fun b u q _=>?_,
  fun b xs q=>by rw[jap (hm b _ q fun z=>z)];exact q,fun b u xs q=>by rw[jap (hm b _ q fun z=>z)];exact q,fun b ps q=>⟨#[],by rw[jap (hm b _ q fun z=>z),q];simp⟩⟩
 by_cases hbe:b=e
 ·subst hbe;exact heo
 ·exact⟨u,k b u hbe q⟩
end
noncomputable def trk (h:Heap)(H:Hp):List Addr:=(List.range h.objs.size).filter fun a=>(H a).isSome
noncomputable def jq6 (h:Heap)(H:Hp):Heap:=PySem.W.hideAll h (trk h H)
theorem joB (h:Heap)(H:Hp):(jq6 h H).objs.size=h.objs.size:=PySem.W.hideAll_size _ _
theorem jqG {h:Heap}{H:Hp}{b:Addr}{o:Obj}(e:h.get? b=some o)(n:H b=none):(jq6 h H).get? b=some o:=
 PySem.W.hideAll_get _ e fun hm=>by
  have q:(H b).isSome=true:=(List.mem_filter.mp hm).2;rw[n]at q;simp at q
theorem jvA {h:Heap}{H:Hp}{b:Addr}{o:Obj}(e:(jq6 h H).get? b=some o):h.get? b=some o/\H b=none:=by
 have e':h.get? b=some o:=PySem.W.of_hideAll (trk h H) e;refine⟨e',?_⟩
 cases q:H b with
 |none=>rfl
 |some x=>
  have hm:b∈trk h H:=List.mem_filter.mpr ⟨j0Z.mpr (j0g e'),by simp[q]⟩;have z:(jq6 h H).get? b=none:=PySem.W.hideAll_none (trk h H) hm;rw[z]at e;cases e
noncomputable def jts (g h:Heap)(L:Addr):List (Addr×Obj):=(List.range h.objs.size).filterMap fun a=>if a=L∨(g.get? a).isSome=true then none else(h.get? a).map fun o=>(a,o)
noncomputable def rest (g h:Heap)(L d:Addr):List (Addr×Obj):=(jts g h L).filter fun p=>decide (p.1≠d)
structure Mod (K:PySem.W.Frag) (mg:Str->Option Value) (base:Heap):Prop where
 kin:K.In base
 glob:base.Ns mainGlobals mg
 blt:∃mb,base.Ns builtinsNs mb/\∀x:Str,x≠"__name__"->mb x=bootBuiltins x
 nolimit:base.NoLimit
structure Cx where
 prog:Program
 w:World
 K:PySem.W.Frag
 mg:Str->Option Value
 base:Heap
 A:Around
 N:List Str
 s₀:Shared
 H₀:Hp
 env:Env
 outer:List Env
 stack:List Env
 ex:List Addr
 fn:Str->Bool
 calm:Bool
 pn:List (Addr×Obj)
 xe:Value->Shared->Prop
noncomputable def frs (l:List Env):List Addr:=l.filterMap (·.frame)
noncomputable abbrev Cx.fs (X:Cx):List Addr:=frs X.outer
def Vis (sc:Scope)(x:Str):Prop:=sc.names.lookup x=some .local∨sc.names.lookup x=some .cell∨sc.names.lookup x=some .free
def Loc (sc:Scope)(x:Str):Prop:=sc.names.lookup x=some .local∨sc.names.lookup x=some .cell
def jAJ (env:Env)(h:Heap)(m:Str->Option Value)(x:Str)(u:Value):Prop:=
 (env.kindOf x=some .local/\m x=some u)∨((env.kindOf x=some .cell∨env.kindOf x=some .free)/\∃c,env.cells.lookup x=some c/\h.IsCell c (some u))
structure Cx.Ok (X:Cx):Prop where
 mod:Mod X.K X.mg X.base
 kind:X.env.scope.kind=.function
 glob:X.env.globals=mainGlobals
 blt:X.env.builtins=builtinsNs
 above:X.s₀.heap.objs.size<=X.env.locals
 inj:∀x y c,X.env.cells.lookup x=some c->X.env.cells.lookup y=some c->x=y
 has:∀x,(X.env.kindOf x=some .cell∨X.env.kindOf x=some .free)->∃c,X.env.cells.lookup x=some c
 cab:∀x c,X.fn x=true->X.env.cells.lookup x=some c->X.s₀.heap.objs.size<=c
 hd:X.calm=true->X.A.handled=none
 frames:X.A.frames=some X.stack
 stk:X.stack=X.outer∨(X.stack=X.env::X.outer/\X.env.frame=some X.env.locals)
 exf:∀b∈X.ex,b≠X.env.locals/\∀x c,X.env.cells.lookup x=some c->c≠b
 bs:∀b o,X.base.get? b=some o->X.s₀.heap.get? b=some o/\X.H₀ b=none
 bsz:X.base.objs.size<=X.s₀.heap.objs.size
 noex:∀b o,X.base.get? b=some o->b∉X.ex
 exfs:∀b∈X.ex,b∉X.fs
 funs:X.s₀.heap.FunFrames X.base X.outer
 frf:∀b∈X.fs,X.H₀ b=none
structure Inv (X:Cx) (pins:List (Addr×Obj)) (σ:List (Option V)) (H:Hp) (s:Shared):Prop where
 ok:X.Ok
 os:s.os=X.s₀.os
 bare:AllBare s.gens
 base:Un X.fs X.ex X.H₀ H X.s₀.heap s.heap
 loc:∃m,s.heap.Ns X.env.locals m/\∀(i:Nat) (x:Str) (v:V),X.N[i]?=some x->σ[i]?=some (some v)->Vis X.env.scope x->∃u,jaN v u/\jAJ X.env s.heap m x u
 cell:∀x c,X.env.cells.lookup x=some c->∃v,s.heap.IsCell c v
 free:H X.env.locals=none
 freeC:∀x c,X.env.cells.lookup x=some c->H c=none
 pin:∀p∈X.pn++pins,s.heap.get? p.1=some p.2/\H p.1=none/\p.1≠X.env.locals/\p.1∉X.fs/\∀v,p.2.data≠.cell v
 hok:HOk X.prog X.w H s.heap
 len:σ.length=X.N.length
section
variable {X:Cx} {pins:List (Addr×Obj)} {σ:List (Option V)} {H H':Hp} {s:Shared} {h':Heap}
theorem Cx.Ok.nofr (ok:X.Ok){b:Addr}{o:Obj}(e:X.base.get? b=some o):b∉X.fs:=fun hb=>by
 have:=(ok.funs.mem hb).1;rw[e]at this;cases this
theorem Inv.bs (I:Inv X pins σ H s):∀b o,X.base.get? b=some o->s.heap.get? b=some o/\H b=none:=fun b o e=>
 ⟨I.base.keep b o (I.ok.bs b o e).1 (I.ok.bs b o e).2 (I.ok.nofr e) (I.ok.noex b o e),I.base.free b o (I.ok.bs b o e).1 (I.ok.bs b o e).2 (I.ok.noex b o e)⟩
theorem Inv.bk (I:Inv X pins σ H s):∀b o,X.base.get? b=some o->s.heap.get? b=some o:=fun b o e=>(I.bs b o e).1
theorem Inv.mod (I:Inv X pins σ H s):Mod X.K X.mg X.base:=I.ok.mod
theorem Inv.kIn (I:Inv X pins σ H s):X.K.In s.heap:=I.ok.mod.kin.keeps I.bk
theorem Inv.nolimit (I:Inv X pins σ H s):s.heap.NoLimit:=I.ok.mod.nolimit.keeps I.bk
theorem Inv.lt (I:Inv X pins σ H s):X.env.locals<s.heap.objs.size:=let⟨_,hn,_⟩:=I.loc;hn.lt
theorem Inv.sz (I:Inv X pins σ H s):X.s₀.heap.objs.size<=s.heap.objs.size:=j0I I.ok.above (Nat.le_of_lt I.lt)
theorem Inv.nofs (I:Inv X pins σ H s){a:Addr}(h:s.heap.objs.size<=a):a∉X.fs:=fun hb=>by
 obtain⟨_,o,ho,_⟩:=I.ok.funs.mem hb;exact absurd (j0o (j0g ho) (j0I I.sz h)) (j1x _)
theorem Inv.cne (I:Inv X pins σ H s):∀x c,X.env.cells.lookup x=some c->c≠X.env.locals:=fun x c e z=>by
 obtain⟨v,o,ho,hd⟩:=I.cell x c e;obtain⟨m,⟨o',es,ep,ho',hd',_⟩,_⟩:=I.loc;rw[z,ho']at ho;cases ho;rw[hd']at hd;cases hd
theorem Inv.funs (I:Inv X pins σ H s):s.heap.FunFrames X.base X.outer:=by
 have all:∀(l:List Env),(∀b∈frs l,b∈X.fs)->X.s₀.heap.FunFrames X.base l->s.heap.FunFrames X.base l:=by
  intro l
  induction l with
  |nil=>intro _ _;trivial
  |cons env r ih=>
   intro hs hl;obtain⟨hk,⟨L,o,hf,hn,ho,hd⟩,hr⟩:=hl;have hL:L∈X.fs:=hs L (by unfold frs;rw[j08,hf];exact j0u);obtain⟨sl,e⟩:=I.base.slot L o ho (I.ok.frf L hL) hL fun z=>I.ok.exfs L z hL;exact⟨hk,⟨L,_,hf,hn,e,hd⟩,ih (fun b hb=>hs b (by unfold frs;rw[j08,hf];exact j0s _ hb)) hr⟩
 exact all X.outer (fun _ hb=>hb) I.ok.funs
theorem Inv.stack (I:Inv X pins σ H s):s.heap.FunFrames X.base X.stack:=by
 rcases I.ok.stk with e|⟨e,hf⟩
 ·rw[e];exact I.funs
 ·rw[e];obtain⟨m,hn,_⟩:=I.loc;refine .cons (by rw[I.ok.kind];decide) hf hn ?_ I.funs;exact Heap.get?_none_of_le (j0I I.ok.bsz I.ok.above)
theorem Inv.stkSub (I:Inv X pins σ H s):∀b∈frs X.stack,b∈X.env.locals::X.fs:=fun b hb=>by
 rcases I.ok.stk with e|⟨e,hf⟩
 ·rw[e]at hb;exact j0s _ hb
 ·rw[e]at hb;unfold frs at hb;rw[j08,hf]at hb;exact hb
theorem Inv.stkFree (I:Inv X pins σ H s):∀b∈frs X.stack,H b=none:=fun b hb=>by
 rcases j0d.mp (I.stkSub b hb)with e|hb
 ·rw[e];exact I.free
 ·obtain⟨_,o,ho,_⟩:=I.ok.funs.mem hb;exact I.base.free b o ho (I.ok.frf b hb) fun z=>I.ok.exfs b z hb
theorem Inv.step {g':Array GenState}{t':Nat}{d':Drawn}{ch:List Addr}(I:Inv X pins σ H s)
  (hch:∀b∈ch,(b∈X.ex∨X.s₀.heap.objs.size<=b)/\b≠X.env.locals/\(∀x c,X.env.cells.lookup x=some c->c≠b)/\∀p∈X.pn++pins,p.1≠b)
  (keep:∀b o,b≠X.env.locals->b∉X.fs->b∉ch->s.heap.get? b=some o->H b=none->h'.get? b=some o)
  (slot:∀b o,b≠X.env.locals->b∈X.fs->b∉ch->s.heap.get? b=some o->H b=none->∃sl,h'.get? b=some {o with slots:=sl}) (free:∀b o,b∉ch->s.heap.get? b=some o->H b=none->H' b=none)
  (there:∀b o,b∉ch->s.heap.get? b=some o->∃o',h'.get? b=some o')
  (tups:∀b xs,H b=some (.tup xs)->H' b=some (.tup xs)) (frzs:∀b o u,H b=some (.frz o u)->H' b=some (.frz o u)) (tbls:∀b ps,H b=some (.tbl ps)->∃more,H' b=some (.tbl (ps++more)))
  (ns:∀m,s.heap.Ns X.env.locals m->h'.Ns X.env.locals m) (hok:HOk X.prog X.w H' h') (hg:AllBare g') :
  Inv X pins σ H' {s with heap:=h',gens:=g',drawn:=d',toks:=t'}:=by
 have neL:∀b o,X.s₀.heap.get? b=some o->b≠X.env.locals:=fun b o e=>j0m (j0o (j0g e) I.ok.above);have neC:∀b o,X.s₀.heap.get? b=some o->b∉X.ex->b∉ch:=fun b o e hx hb=>by
  rcases(hch b hb).1 with z|z
  ·exact hx z
  ·exact absurd (j0o (j0g e) z) (j1x _)
 have cellK:∀x c,X.env.cells.lookup x=some c->∀v,s.heap.IsCell c v->h'.IsCell c v:=fun x c e v ⟨o,ho,hd⟩=>by
  have nch:c∉ch:=fun z=>(hch c z).2.2.1 x c e rfl;by_cases hc:c∈X.fs
  ·obtain⟨sl,q⟩:=slot c o (I.cne x c e) hc nch ho (I.freeC x c e);exact⟨_,q,hd⟩
  ·exact⟨o,keep c o (I.cne x c e) hc nch ho (I.freeC x c e),hd⟩
 refine⟨I.ok,I.os,hg,⟨fun b o e n hb hx=>?_,fun b o e n hb hx=>?_,fun b o e n hx=>?_,fun b o e hx=>?_,fun b xs e=>tups b xs (I.base.tups b xs e),fun b o xs e=>frzs b o xs (I.base.frzs b o xs e),fun b ps e=>?_⟩,?_,fun x c e=>?_,?_,fun x c e=>?_,fun p hp=>?_,hok,I.len⟩
 ·exact keep b o (neL b o e) hb (neC b o e hx) (I.base.keep b o e n hb hx) (I.base.free b o e n hx)
 ·obtain⟨sl,e1⟩:=I.base.slot b o e n hb hx;obtain⟨sl',e2⟩:=slot b _ (neL b o e) hb (neC b o e hx) e1 (I.base.free b o e n hx);exact⟨sl',e2⟩
 ·obtain⟨o',e1⟩:=I.base.there b o e hx;exact free b o' (neC b o e hx) e1 (I.base.free b o e n hx)
 ·obtain⟨o',e1⟩:=I.base.there b o e hx;exact there b o' (neC b o e hx) e1
 ·obtain⟨m1,e1⟩:=I.base.tbls b ps e;obtain⟨m2,e2⟩:=tbls b _ e1;exact⟨m1++m2,by rw[e2,Array.append_assoc]⟩
 ·obtain⟨m,hn,hl⟩:=I.loc;refine⟨m,ns m hn,fun i x v e1 e2 e3=>?_⟩;obtain⟨u,r,l⟩:=hl i x v e1 e2 e3;refine⟨u,r,?_⟩;rcases l with l|⟨k,c,e,z⟩
  ·exact .inl l
  ·exact .inr ⟨k,c,e,cellK x c e _ z⟩
 ·obtain⟨v,z⟩:=I.cell x c e;exact⟨v,cellK x c e v z⟩
 ·obtain⟨m,⟨o,_,_,ho,_⟩,_⟩:=I.loc;exact free _ o (fun z=>(hch _ z).2.1 rfl) ho I.free
 ·obtain⟨v,o,ho,hd⟩:=I.cell x c e;exact free c o (fun z=>(hch c z).2.2.1 x c e rfl) ho (I.freeC x c e)
 ·obtain⟨e,n,ne,nf,d⟩:=I.pin p hp;have nch:p.1∉ch:=fun z=>(hch p.1 z).2.2.2 p hp rfl;exact⟨keep p.1 p.2 ne nf nch e n,free p.1 p.2 nch e n,ne,nf,d⟩
theorem Inv.un {t':Nat}(I:Inv X pins σ H s)(u:Un X.fs [] H H' s.heap h')(hok:HOk X.prog X.w H' h'):Inv X pins σ H' {s with heap:=h',toks:=t'}:=by
 obtain⟨m,⟨o,es,ep,ho,r⟩,_⟩:=id I.loc;obtain⟨sl,hL⟩:=u.any ho I.free (by simp);exact I.step (g':=s.gens) (d':=s.drawn) (ch:=[]) (fun _ z=>nomatch z) (fun b o _ hb _ e n=>u.keep b o e n hb (by simp)) (fun b o _ hb _ e n=>u.slot b o e n hb (by simp)) (fun b o _ e n=>u.free b o e n (by simp)) (fun b o _ e=>u.there b o e (by simp)) u.tups u.frzs u.tbls (fun m' hm=>by
  obtain⟨o',es',ep',ho',r'⟩:=hm;rw[ho]at ho';cases ho';exact⟨_,es',ep',hL,r'⟩) hok I.bare
theorem Inv.call {g':Array GenState}{t':Nat}{d':Drawn}{ch:List Addr}(I:Inv X pins σ H s)(u:Un (frs X.stack) ch H H' s.heap h')(hok:HOk X.prog X.w H' h')(hg:AllBare g')
  (hch:∀b∈ch,(b∈X.ex∨X.s₀.heap.objs.size<=b)/\b≠X.env.locals/\(∀x c,X.env.cells.lookup x=some c->c≠b)/\∀p∈X.pn++pins,p.1≠b) :
  Inv X pins σ H' {s with heap:=h',gens:=g',drawn:=d',toks:=t'}:=by
 obtain⟨m,⟨o,es,ep,ho,r⟩,_⟩:=id I.loc;obtain⟨sl,hL⟩:=u.any ho I.free fun z=>(hch _ z).2.1 rfl;exact I.step (ch:=ch) hch (fun b o hL hb hc e n=>u.keep b o e n (fun z=>(j0d.mp (I.stkSub b z)).elim hL hb) hc) (fun b o _ _ hc e n=>u.any e n hc) (fun b o hc e n=>u.free b o e n hc) (fun b o hc e=>u.there b o e hc) u.tups u.frzs u.tbls (fun m' hm=>by
  obtain⟨o',es',ep',ho',r'⟩:=hm;rw[ho]at ho';cases ho';exact⟨_,es',ep',hL,r'⟩) hok hg
theorem Inv.turned {t':Nat}{it:Addr}(I:Inv X pins σ H s)(k:∀b o,b≠it->s.heap.get? b=some o->h'.get? b=some o)(hn:H it=none)(hL:it≠X.env.locals)
  (h1:it∈X.ex∨X.s₀.heap.objs.size<=it) (h2:∀x c,X.env.cells.lookup x=some c->c≠it) (h3:∀p∈X.pn++pins,p.1≠it):Inv X pins σ H {s with heap:=h',toks:=t'}:=by
 have nit:∀b u,H b=some u->b≠it:=fun b u e z=>by rw[z,hn]at e;cases e
 refine I.step (g':=s.gens) (d':=s.drawn) (ch:=[it]) (fun b hb=>?_) (fun b o _ _ hc e _=>k b o (fun z=>hc (by simp[z])) e) (fun b o _ _ hc e _=>⟨o.slots,k b o (fun z=>hc (by simp[z])) e⟩) (fun _ _ _ _ n=>n)
  (fun b o hc e=>⟨o,k b o (fun z=>hc (by simp[z])) e⟩) (fun _ _ e=>e) (fun _ _ _ e=>e) (fun b ps e=>⟨#[],by rw[e];simp⟩) (fun m hm=>?_) (fun b u e=>?_) I.bare
 ·have e:b=it:=by simpa using hb
  subst e;exact⟨h1,hL,h2,h3⟩
 ·obtain⟨o,es,ep,ho,r⟩:=hm;exact⟨o,es,ep,k _ o (Ne.symm hL) ho,r⟩
 ·refine(I.hok b u e).stay (fun c v hc q=>k c v ?_ q) (fun _ q=>q) fun _ _ q=>q;rcases hc with z|z
  ·rw[z];exact nit b u e
  ·exact nit c _ z
theorem Inv.tok (I:Inv X pins σ H s)(t:Nat):Inv X pins σ H {s with toks:=t}:=I.un (h':=s.heap) (t':=t) Un.refl I.hok
theorem Inv.kept {t':Nat}(I:Inv X pins σ H s)(k:∀b u,s.heap.get? b=some u->h'.get? b=some u):Inv X pins σ H {s with heap:=h',toks:=t'}:=I.un (Un.kept k) (I.hok.kept k)
theorem Inv.laid {a:Addr}{o:HO}{t':Nat}(I:Inv X pins σ H s)(k:∀b u,s.heap.get? b=some u->h'.get? b=some u)(hp:s.heap.objs.size<=a)(new:jbL X.prog X.w (upd H a o) h' a o) :
  Inv X pins σ (upd H a o) {s with heap:=h',toks:=t'}:=I.un (Un.laid k hp (I.hok.fresh hp)) (I.hok.laid k hp new)
theorem Inv.write {x e:Addr}{o:HO}{t':Nat}(I:Inv X pins σ H s)(mu:Mut (H x))(he:e=x∨H e=some (.own x))(k:∀b u,b≠e->s.heap.get? b=some u->h'.get? b=some u)(heo:∃u,h'.get? e=some u)
  (new:jbL X.prog X.w (upd H x o) h' x o):Inv X pins σ (upd H x o) {s with heap:=h',toks:=t'}:=I.un (Un.write mu he k heo) (I.hok.write mu he k heo new)
theorem Inv.pins_of {pins':List (Addr×Obj)}(I:Inv X pins σ H s)(h:∀p∈pins',s.heap.get? p.1=some p.2/\H p.1=none/\p.1≠X.env.locals/\p.1∉X.fs/\∀v,p.2.data≠.cell v):Inv X pins' σ H s:=
 ⟨I.ok,I.os,I.bare,I.base,I.loc,I.cell,I.free,I.freeC,fun p hp=>(j1d.mp hp).elim (fun z=>I.pin p (j1s _ z)) (h p),I.hok,I.len⟩
theorem jiu {N:List Str}(hN:N.Nodup){i j:Nat}{x:Str}(a:N[i]?=some x)(b:N[j]?=some x):i=j:=by
 obtain⟨h1,e1⟩:=j0e.mp a;obtain⟨h2,e2⟩:=j0e.mp b;exact(List.getElem_inj hN).mp (e1.trans e2.symm)
theorem jjX {M:Model}{A:Around}{E:Value->Shared->Prop}{i:Nat}{x:Str}{v:V}{u:Value}{Q:Unit->Shared->Prop}(I:Inv X pins σ H s)(hN:X.N.Nodup)(hi:X.N[i]?=some x)(hx:Loc X.env.scope x)(r:jaN v u)
  (h:∀s',Inv X pins (σ.set i (some v)) H s'->(∃a,Heap.SameBut a s.heap s'.heap/\(a=X.env.locals∨X.env.cells.lookup x=some a))->Q () s') (hf:X.fn x=true∨X.env.scope.names.lookup x=some .local:=by first|exact .inl rfl|exact .inr rfl|assumption):wpAny M A (storeName X.env x u) Q E s:=by
 obtain⟨m,hn,hl⟩:=id I.loc;have hcls:(X.env.scope.kind==.class||(X.env.scope.kind==.module&&X.env.locals !=X.env.globals))=false:=by rw[I.ok.kind];rfl
 have hiσ:i<σ.length:=by rw[I.len];exact(j0e.mp hi).1
 have cne:=I.cne;have tracked:∀{a:Addr} {h':Heap},(∃o,s.heap.get? a=some o/\H a=none)->Heap.SameBut a s.heap h'->HOk X.prog X.w H h':=fun {a h'} ha hs b ob e=>by
  obtain⟨_,_,hfree⟩:=ha;refine(I.hok b ob e).stay (fun c w' hc q=>(hs.2 c ?_).trans q) (fun _ q=>q) fun _ _ q=>q;rintro rfl;rcases hc with rfl|hc
  ·rw[hfree]at e;cases e
  ·rw[hfree]at hc;cases hc
 rcases hx with hk|hk
 ·refine wpAny_storeName_local hk hn (fun h' hn' hs=>?_) hcls;obtain⟨oL,_,_,hoL,_⟩:=id hn;refine h _ ⟨I.ok,I.os,I.bare,⟨fun b o e n hb hx=>?_,fun b o e n hb hx=>?_,I.base.free,fun b o e hx=>?_,I.base.tups,I.base.frzs,I.base.tbls⟩,⟨_,hn',fun j y v' e1 e2 e3=>?_⟩,fun y c e=>?_,I.free,I.freeC,fun p hp=>?_,tracked ⟨oL,hoL,I.free⟩ hs,by simpa using I.len⟩ ⟨_,hs,.inl rfl⟩
  ·exact(hs.2 b (j0m (j0o (j0g e) I.ok.above))).trans (I.base.keep b o e n hb hx)
  ·obtain⟨sl,e1⟩:=I.base.slot b o e n hb hx;exact⟨sl,(hs.2 b (j0m (j0o (j0g e) I.ok.above))).trans e1⟩
  ·obtain⟨o',e1⟩:=I.base.there b o e hx;exact⟨o',(hs.2 b (j0m (j0o (j0g e) I.ok.above))).trans e1⟩
  ·by_cases hj:j=i
   ·subst hj;rw[hi]at e1;cases e1;rw[j1o hiσ]at e2;cases e2;exact⟨u,r,.inl ⟨hk,by simp⟩⟩
   ·rw[j1t (Ne.symm hj)]at e2;obtain⟨u',r',q⟩:=hl j y v' e1 e2 e3;refine⟨u',r',?_⟩;rcases q with⟨k,e⟩|⟨k,c,e,z⟩
    ·refine .inl ⟨k,?_⟩;have:y≠x:=fun e=>hj (jiu hN e1 (e▸hi));simp[this,e]
    ·exact .inr ⟨k,c,e,z.sameBut hs (cne y c e)⟩
  ·obtain⟨w',z⟩:=I.cell y c e;exact⟨w',z.sameBut hs (cne y c e)⟩
  ·obtain⟨e,n,ne,nf,d⟩:=I.pin p hp;exact⟨(hs.2 p.1 ne).trans e,n,ne,nf,d⟩
 ·have hfn:X.fn x=true:=by
   rcases hf with z|z
   ·exact z
   ·rw[z]at hk;cases hk
  obtain⟨c,hc⟩:=I.ok.has x (.inl hk);obtain⟨w',z⟩:=I.cell x c hc;refine wpAny_storeName_cell I.ok.kind hk hc z (fun h' hc' hs=>?_);obtain⟨oc,hoc,hocd⟩:=id z;refine h {s with heap:=h'} ⟨I.ok,I.os,I.bare,⟨fun b o e n hb hx=>?_,fun b o e n hb hx=>?_,I.base.free,fun b o e hx=>?_,I.base.tups,I.base.frzs,I.base.tbls⟩,⟨m,hn.sameBut hs (Ne.symm (cne x c hc)),fun j y v' e1 e2 e3=>?_⟩,fun y c' e=>?_,I.free,I.freeC,fun p hp=>?_,tracked ⟨oc,hoc,I.freeC x c hc⟩ hs,by simpa using I.len⟩ ⟨c,hs,.inr hc⟩
  ·exact(hs.2 b (j0m (j0o (j0g e) (I.ok.cab x c hfn hc)))).trans (I.base.keep b o e n hb hx)
  ·obtain⟨sl,e1⟩:=I.base.slot b o e n hb hx;exact⟨sl,(hs.2 b (j0m (j0o (j0g e) (I.ok.cab x c hfn hc)))).trans e1⟩
  ·obtain⟨o',e1⟩:=I.base.there b o e hx;exact⟨o',(hs.2 b (j0m (j0o (j0g e) (I.ok.cab x c hfn hc)))).trans e1⟩
  ·by_cases hj:j=i
   ·subst hj;rw[hi]at e1;cases e1;rw[j1o hiσ]at e2;cases e2;exact⟨u,r,.inr ⟨.inl hk,c,hc,hc'⟩⟩
   ·rw[j1t (Ne.symm hj)]at e2;obtain⟨u',r',q⟩:=hl j y v' e1 e2 e3;refine⟨u',r',?_⟩;rcases q with q|⟨k,c',e,z'⟩
    ·exact .inl q
    ·refine .inr ⟨k,c',e,z'.sameBut hs ?_⟩;rintro rfl;exact hj (jiu hN e1 (I.ok.inj _ _ _ e hc▸hi))
  ·by_cases hcc:c'=c
   ·subst hcc;exact⟨_,hc'⟩
   ·obtain⟨w2,z2⟩:=I.cell y c' e;exact⟨w2,z2.sameBut hs hcc⟩
  ·obtain⟨e,n,ne,nf,d⟩:=I.pin p hp;refine⟨(hs.2 p.1 ?_).trans e,n,ne,nf,d⟩;intro q;rw[q,hoc]at e;have q':oc=p.2:=j0H e;exact d w' (by rw[<- q'];exact hocd)
theorem jfz {M:Model}{A:Around}{E:Value->Shared->Prop}{i:Nat}{x:Str}{v:V}{u:Value}{Q:Unit->Shared->Prop}(I:Inv X pins σ H s)(hN:X.N.Nodup)(hi:X.N[i]?=some x)(hx:Loc X.env.scope x)(r:jaN v u)
  (h:∀s',Inv X pins (σ.set i (some v)) H s'->Q () s') (hf:X.fn x=true∨X.env.scope.names.lookup x=some .local:=by first|exact .inl rfl|exact .inr rfl|assumption):wpAny M A (storeName X.env x u) Q E s:=
 jjX I hN hi hx r (fun s' I' _=>h s' I') hf
theorem Inv.call' {s':Shared}{ch:List Addr}(I:Inv X pins σ H s)(ho:s'.os=s.os)(u:Un (frs X.stack) ch H H' s.heap s'.heap)(hok:HOk X.prog X.w H' s'.heap)(hg:AllBare s'.gens)
  (hch:∀b∈ch,(b∈X.ex∨X.s₀.heap.objs.size<=b)/\b≠X.env.locals/\(∀x c,X.env.cells.lookup x=some c->c≠b)/\∀p∈X.pn++pins,p.1≠b):Inv X pins σ H' s':=by
 obtain⟨h',g',d',t',o'⟩:=s';have e:o'=s.os:=ho;subst e;exact I.call (g':=g') (t':=t') (d':=d') u hok hg hch
end
noncomputable abbrev XK:=Value->Option Addr->Hp->Prop
noncomputable abbrev St:=List (Option V)
noncomputable abbrev VK:=V->Hp->Prop
noncomputable abbrev TE:=St->Hp->VK->Prop
noncomputable abbrev TT:=St->Hp->(Bool->Hp->Prop)->Prop
noncomputable abbrev TA:=St->Hp->(List V->Hp->Prop)->Prop
structure Ends where
 nx:St->Hp->Prop
 rt:VK
 bk:St->Hp->Prop:=fun _ _=>False
 ct:St->Hp->Prop:=fun _ _=>False
noncomputable abbrev TS:=Ends->St->Hp->Prop
def EP (X:Cx)(pins:List (Addr×Obj))(σ:St)(Q:VK)(u:Value)(s':Shared):Prop:=∃v H',Inv X pins σ H' s'/\jaN v u/\Q v H'
def TP (X:Cx)(pins:List (Addr×Obj))(σ:St)(Q:Bool->Hp->Prop)(b:Bool)(s':Shared):Prop:=∃H',Inv X pins σ H' s'/\Q b H'
def AP (X:Cx)(pins:List (Addr×Obj))(σ:St)(Q:List V->Hp->Prop)(us:List Value)(s':Shared):Prop:=∃vs H',Inv X pins σ H' s'/\jaO vs us/\Q vs H'
def SP (X:Cx)(pins:List (Addr×Obj))(D:Ends)(f:Flow)(s':Shared):Prop:=
 match f with
 |.next=>∃σ' H',Inv X pins σ' H' s'/\D.nx σ' H'
 |.brk=>∃σ' H',Inv X pins σ' H' s'/\D.bk σ' H'
 |.cont=>∃σ' H',Inv X pins σ' H' s'/\D.ct σ' H'
 |.ret u=>∃v σ' H',Inv X pins σ' H' s'/\jaN v u/\D.rt v H'
def PE (X:Cx)(e:Expr)(t:TE):Prop:=
 ∀(pins:List (Addr×Obj)) (s:Shared) (σ:St) (H:Hp) (Q:VK),Inv X pins σ H s->t σ H Q->wpAny (model X.prog X.w) X.A (eval e X.env) (EP X pins σ Q) X.xe s
def PT (X:Cx)(e:Expr)(t:TT):Prop:=
 ∀(pins:List (Addr×Obj)) (s:Shared) (σ:St) (H:Hp) (Q:Bool->Hp->Prop),Inv X pins σ H s->t σ H Q->wpAny (model X.prog X.w) X.A (isTrue e X.env (eval e X.env)) (TP X pins σ Q) X.xe s
def PW (X:Cx)(e:Expr)(t:TT):Prop:=
 ∀(whole:Sem Value) (pins:List (Addr×Obj)) (s:Shared) (σ:St) (H:Hp) (Q:Bool->Hp->Prop),Inv X pins σ H s->t σ H Q->wpAny (model X.prog X.w) X.A (isTrue e X.env whole) (TP X pins σ Q) X.xe s
theorem PW.pt {X:Cx}{e:Expr}{t:TT}(h:PW X e t):PT X e t:=h _
def PA (X:Cx)(es:List Expr)(t:TA):Prop:=
 ∀(pos:Pos) (pins:List (Addr×Obj)) (s:Shared) (σ:St) (H:Hp) (Q:List V->Hp->Prop),Inv X pins σ H s->t σ H Q->wpAny (model X.prog X.w) X.A (spliced (backTo pos (starEach es X.env))) (AP X pins σ Q) X.xe s
def PS (X:Cx)(st:Stmt)(t:TS):Prop:=
 ∀(pins:List (Addr×Obj)) (s:Shared) (σ:St) (H:Hp) (D:Ends),Inv X pins σ H s->t D σ H->wpAny (model X.prog X.w) X.A (exec st X.env) (SP X pins D) X.xe s
def PSs (X:Cx)(st:List Stmt)(t:TS):Prop:=
 ∀(pins:List (Addr×Obj)) (s:Shared) (σ:St) (H:Hp) (D:Ends),Inv X pins σ H s->t D σ H->wpAny (model X.prog X.w) X.A (execs st X.env) (SP X pins D) X.xe s
theorem thn {α:Type}{t:Sem α}{Q Q':α->Shared->Prop}{M:Model}{A:Around}{E:Value->Shared->Prop}{s:Shared}(h:wpAny M A t Q E s)(hQ:∀a s,Q a s->Q' a s):wpAny M A t Q' E s:=wpAny_mono h hQ fun _ _ x=>x
section
variable {X:Cx}
theorem bin {a b:Expr}{ta tb:TE}(ha:PE X a ta)(hb:PE X b tb){pins:List (Addr×Obj)}{s:Shared}{σ:St}{H:Hp}{R:V->V->Hp->Prop}(I:Inv X pins σ H s)(h:ta σ H fun x H1=>tb σ H1 fun y H2=>R x y H2)
  {α:Type} {Q:α->Shared->Prop} {f:Value->Value->Sem α}
  (hf:∀v u s2 x y H2,Inv X pins σ H2 s2->jaN x v->jaN y u->R x y H2->wpAny (model X.prog X.w) X.A (f v u) Q X.xe s2) :
  wpAny (model X.prog X.w) X.A (eval a X.env) (fun v s₁=>wpAny (model X.prog X.w) X.A (eval b X.env) (fun u s₂=>wpAny (model X.prog X.w) X.A (f v u) Q X.xe s₂) X.xe s₁) X.xe s:=by
 refine thn (ha pins s σ H _ I h) fun v s1 ⟨x,H1,I1,r1,q1⟩=>?_;refine thn (hb pins s1 σ H1 _ I1 q1) fun u s2 ⟨y,H2,I2,r2,q2⟩=>?_;exact hf v u s2 x y H2 I2 r1 r2 q2
def jAW (i:Nat):TE:=fun σ H Q=>∃v,σ[i]?=some (some v)/\Q v H
def tC (v:V):TE:=fun _ H Q=>Q v H
theorem jyn {i:Nat} {x:Str} {pos:Pos} (hN:X.N[i]?=some x) (hv:Vis X.env.scope x) (hd:(x==("__debug__" : Str))=false:=by decide) (hcd:(x==("__classdict__" : Str))=false:=by decide):PE X (.Name x pos) (jAW i):=by
 intro pins s σ H Q I h;obtain⟨v,e,h⟩:=h;obtain⟨m,hn,hl⟩:=I.loc;obtain⟨u,r,l⟩:=hl i x v hN e hv;have fin:EP X pins σ Q u s:=⟨v,H,I,r,h⟩;rcases l with⟨hk,hm⟩|⟨hk,c,hc,hcell⟩
 ·exact wpAny_Name (wpAny_loadName_local I.ok.kind hk hn hm fin) hd
 ·rcases hk with hk|hk
  ·exact wpAny_Name (wpAny_loadName_cell I.ok.kind hk hc hcell fin) hd
  ·exact wpAny_Name (wpAny_loadName_free I.ok.kind hk hc hcell fin hcd) hd
theorem jwW {i j pos}:PE X (.Constant (.int i) j pos) (tC (.int i)):=fun _ _ _ H _ I h=>wpAny_Constant_int ⟨.int i,H,I.tok _,⟨_,rfl⟩,h⟩
theorem jzd {b j pos}:PE X (.Constant (.bool b) j pos) (tC (.bl b)):=fun _ _ _ H _ I h=>Constant_bool ⟨.bl b,H,I,rfl,h⟩
theorem jsE {j pos}:PE X (.Constant .none j pos) (tC .non):=fun _ _ _ H _ I h=>Constant_none ⟨.non,H,I,rfl,h⟩
theorem jw2 {x j pos}:PE X (.Constant (.str x) j pos) (tC (.str x)):=fun _ _ _ H _ I h=>Calls.Constant_str ⟨.str x,H,I.tok _,⟨_,rfl⟩,h⟩
def Gl (X:Cx)(x:Str):Prop:=X.env.kindOf x=some .globalImplicit
theorem je4 {E:Value->Shared->Prop}{pins:List (Addr×Obj)}{s:Shared}{σ:St}{H:Hp}{x:Str}{u:Value}{pos:Pos}{Q:Value->Shared->Prop}(I:Inv X pins σ H s)(hg:Gl X x)(hm:X.mg x=some u)(h:Q u s)
  (hd:(x==("__debug__" : Str))=false:=by decide):wpAny (model X.prog X.w) X.A (eval (.Name x pos) X.env) Q E s:=
 Calls.Name_function_global I.ok.kind hg (Calls.loadGlobal_global (by rw[I.ok.glob];exact I.mod.glob.keeps I.bk) hm h) hd
theorem jib {E:Value->Shared->Prop}{pins:List (Addr×Obj)}{s:Shared}{σ:St}{H:Hp}{x:Str}{u:Value}{pos:Pos}{Q:Value->Shared->Prop}(I:Inv X pins σ H s)(hg:Gl X x)(hm:X.mg x=none)(hv:bootBuiltins x=some u)(h:Q u s)
  (hn:x≠"__name__":=by decide) (hd:(x==("__debug__" : Str))=false:=by decide):wpAny (model X.prog X.w) X.A (eval (.Name x pos) X.env) Q E s:=by
 obtain⟨mb,h1,h2⟩:=I.mod.blt;exact Calls.Name_function_global I.ok.kind hg (Calls.loadGlobal_builtin (by rw[I.ok.glob];exact I.mod.glob.keeps I.bk) hm (by rw[I.ok.blt];exact h1.keeps I.bk) ((h2 x hn).trans hv) h) hd
theorem joJ {x:Str} {v:V} {u:Value} {pos:Pos} (hg:Gl X x) (hm:X.mg x=some u) (r:jaN v u) (hd:(x==("__debug__" : Str))=false:=by decide):PE X (.Name x pos) (tC v):=
 fun _ _ _ H _ I h=>je4 I hg hm ⟨v,H,I,r,h⟩ hd
theorem jte {x:Str} {v:V} {u:Value} {pos:Pos} (hg:Gl X x) (hm:X.mg x=none) (hv:bootBuiltins x=some u) (r:jaN v u) (hn:x≠"__name__":=by decide) (hd:(x==("__debug__" : Str))=false:=by decide):PE X (.Name x pos) (tC v):=
 fun _ _ _ H _ I h=>jib I hg hm hv ⟨v,H,I,r,h⟩ hn hd
variable {a b:Expr} {ta tb:TE} {pos:Pos}
def PC (X:Cx)(op:CmpOp)(a b:Expr)(t:TE):Prop:=
 ∀(pins:List (Addr×Obj)) (s:Shared) (σ:St) (H:Hp) (Q:VK),Inv X pins σ H s->t σ H Q ->
  wpAny (model X.prog X.w) X.A (eval a X.env) (fun v s₁=>wpAny (model X.prog X.w) X.A (eval b X.env) (fun u s₂=>wpAny (model X.prog X.w) X.A (compareOp op v u) (EP X pins σ Q) X.xe s₂) X.xe s₁) X.xe s
theorem jmz (b:Expr){op:CmpOp}(h:op≠.In)(h2:op≠.NotIn):behindInMarks op b=false:=by
 have e1:(op==CmpOp.In)=false:=by cases op<;>first|rfl|exact absurd rfl h
 have e2:(op==CmpOp.NotIn)=false:=by cases op<;>first|rfl|exact absurd rfl h2
 cases b<;>simp[behindInMarks,e1,e2]
def jy1 (ta:TE):TE:=fun σ H Q=>ta σ H fun x H1=>Q (.bl (decide (x=.non))) H1
def jrm (ta:TE):TE:=fun σ H Q=>ta σ H fun x H1=>Q (.bl (!decide (x=.non))) H1
theorem jaN.none_iff {x:V}{v:Value}(r:jaN x v):(v==Value.none)=decide (x=.non):=by
 cases x with
 |non=>cases r;rfl
 |bl _=>cases r;rfl
 |int _=>obtain⟨t,rfl⟩:=r;rfl
 |str _=>obtain⟨t,rfl⟩:=r;rfl
 |byt _=>obtain⟨t,rfl⟩:=r;rfl
 |flt _=>obtain⟨t,rfl⟩:=r;rfl
 |ref _=>cases r;rfl
 |ty _=>cases r;rfl
theorem jsn {j pos'}(ha:PE X a ta):PC X .Is a (.Constant .none j pos') (jy1 ta):=by
 intro pins s σ H Q I h;refine thn (ha pins s σ H _ I h) fun v s1 ⟨x,H1,I1,r1,q1⟩=>?_;exact Constant_none (is_none_gen ⟨.bl _,H1,I1,by rw[r1.none_iff];rfl,q1⟩)
theorem jnY {j pos'}(ha:PE X a ta):PC X .IsNot a (.Constant .none j pos') (jrm ta):=by
 intro pins s σ H Q I h;refine thn (ha pins s σ H _ I h) fun v s1 ⟨x,H1,I1,r1,q1⟩=>?_;exact Constant_none (isnot_none_gen ⟨.bl _,H1,I1,by rw[r1.none_iff];rfl,q1⟩)
def tB (t:TE):TT:=fun σ H Q=>t σ H fun x H1=>∃c,x=.bl c/\Q c H1
theorem jsI {op:CmpOp}{t:TE}(h:PC X op a b t)(h1:behindInMarks op b=false:=by first|exact jmz _ (by decide) (by decide)|rfl):PE X (.Compare a [op] [b] pos) t:=fun pins s σ H Q I hw=>wpAny_Compare1 (h pins s σ H Q I hw) h1
theorem jsQ {op:CmpOp}{t:TE}(h:PC X op a b t)(h1:behindInMarks op b=false:=by first|exact jmz _ (by decide) (by decide)|rfl):PT X (.Compare a [op] [b] pos) (tB t):=by
 intro pins s σ H Q I hw;refine wpAny_isTrue_Compare1 (thn (h pins s σ H _ I hw) fun v s1 h1=>thn h1 fun u s2 h2=>thn h2 fun c s3 ⟨x,H1,I1,r1,q1⟩=>?_) h1;obtain⟨d,rfl,q⟩:=q1;cases r1;exact wpAny_truthy_bool ⟨H1,I1,q⟩
variable {tA tB':TT} {rest:List Expr}
def jzX (t u:TT):TT:=fun σ H Q=>t σ H fun c H1=>if c=true then u σ H1 Q else Q false H1
def tOr (t u:TT):TT:=fun σ H Q=>t σ H fun c H1=>if c=true then Q true H1 else u σ H1 Q
def jAv (t:TT):TT:=fun σ H Q=>t σ H fun c H1=>Q (!c) H1
theorem jup (ha:PT X a tA):PW X (.BoolOp .And [a] pos) tA:=by
 intro wh pins s σ H Q I h;refine isTrue_and (thn (ha pins s σ H Q I h) fun c s1 e=>?_)
 cases c with
 |true=>exact isTrue_and_nil e
 |false=>exact e
theorem jww (ha:PT X a tA):PW X (.BoolOp .Or [a] pos) tA:=by
 intro wh pins s σ H Q I h;refine isTrue_or (thn (ha pins s σ H Q I h) fun c s1 e=>?_)
 cases c with
 |false=>exact isTrue_or_nil e
 |true=>exact e
theorem jyv (ha:PT X a tA)(hb:PW X (.BoolOp .And (b::rest) pos) tB'):PW X (.BoolOp .And (a::b::rest) pos) (jzX tA tB'):=by
 intro wh pins s σ H Q I h;refine isTrue_and (thn (ha pins s σ H _ I h) fun c s1 ⟨H1,I1,q1⟩=>?_)
 cases c with
 |true=>exact hb wh pins s1 σ H1 Q I1 q1
 |false=>exact⟨H1,I1,q1⟩
theorem jzk (ha:PT X a tA)(hb:PW X (.BoolOp .Or (b::rest) pos) tB'):PW X (.BoolOp .Or (a::b::rest) pos) (tOr tA tB'):=by
 intro wh pins s σ H Q I h;refine isTrue_or (thn (ha pins s σ H _ I h) fun c s1 ⟨H1,I1,q1⟩=>?_)
 cases c with
 |true=>exact⟨H1,I1,q1⟩
 |false=>exact hb wh pins s1 σ H1 Q I1 q1
theorem jyg (ha:PT X a tA):PT X (.UnaryOp .Not a pos) (jAv tA):=by
 intro pins s σ H Q I h;exact isTrue_not (ha pins s σ H (fun c H1=>Q (!c) H1) I h)
def jtZ (ta tb:TE):TE:=fun σ H Q=>ta σ H fun x H1=>∃c,x=.bl c/\if c=true then tb σ H1 Q else Q (.bl false) H1
def jAk (ta tb:TE):TE:=fun σ H Q=>ta σ H fun x H1=>∃c,x=.bl c/\if c=true then Q (.bl true) H1 else tb σ H1 Q
def jyh (ta:TE):TE:=fun σ H Q=>ta σ H fun x H1=>∃c,x=.bl c/\Q (.bl (!c)) H1
theorem jv5 {op}{t:TE}(h:PE X a t):PE X (.BoolOp op [a] pos) t:=fun pins s σ H Q I hw=>BoolOp_one (h pins s σ H Q I hw)
theorem jwL (ha:PE X a ta)(hb:PE X (.BoolOp .And (b::rest) pos) tb):PE X (.BoolOp .And (a::b::rest) pos) (jtZ ta tb):=by
 intro pins s σ H Q I h;refine BoolOp_and (thn (ha pins s σ H _ I h) fun v s1 ⟨x,H1,I1,r1,q1⟩=>?_);obtain⟨c,rfl,q1⟩:=q1;cases r1;refine wpAny_truthy_bool ?_
 cases c with
 |true=>exact hb pins s1 σ H1 Q I1 q1
 |false=>exact⟨.bl false,H1,I1,rfl,q1⟩
theorem jzW (ha:PE X a ta)(hb:PE X (.BoolOp .Or (b::rest) pos) tb):PE X (.BoolOp .Or (a::b::rest) pos) (jAk ta tb):=by
 intro pins s σ H Q I h;refine BoolOp_or (thn (ha pins s σ H _ I h) fun v s1 ⟨x,H1,I1,r1,q1⟩=>?_);obtain⟨c,rfl,q1⟩:=q1;cases r1;refine wpAny_truthy_bool ?_
 cases c with
 |false=>exact hb pins s1 σ H1 Q I1 q1
 |true=>exact⟨.bl true,H1,I1,rfl,q1⟩
theorem jyJ (ha:PE X a ta):PE X (.UnaryOp .Not a pos) (jyh ta):=by
 intro pins s σ H Q I h;refine UnaryOp_ (thn (ha pins s σ H _ I h) fun v s1 ⟨x,H1,I1,r1,q1⟩=>?_);obtain⟨c,rfl,q1⟩:=q1;cases r1;exact not_of (wpAny_truthy_bool ⟨.bl (!c),H1,I1,rfl,q1⟩)
def tIf (t:TT)(ta tb:TE):TE:=fun σ H Q=>t σ H fun c H1=>if c=true then ta σ H1 Q else tb σ H1 Q
theorem jp0 {c:Expr}(hc:PT X c tA)(ha:PE X a ta)(hb:PE X b tb):PE X (.IfExp c a b pos) (tIf tA ta tb):=by
 intro pins s σ H Q I h;refine wpAny_IfExp (thn (hc pins s σ H _ I h) fun d s1 ⟨H1,I1,q1⟩=>?_)
 cases d with
 |true=>exact ha pins s1 σ H1 Q I1 q1
 |false=>exact hb pins s1 σ H1 Q I1 q1
end
def SqL (K:PySem.W.Frag)(H:Hp)(a:Addr)(xs:List V):Prop:=
 Rd H a (.lst xs) ∨
  ∃(o:Obj) (its:Array Value) (n:Nat),K.lookup a=some o/\o.cls=.type "list"/\o.dict=none/\o.data=.seq its n/\its.size<=sizeLine/\jaO xs its.toList
def SqT (K:PySem.W.Frag)(H:Hp)(a:Addr)(xs:List V):Prop:=
 Rd H a (.tup xs) ∨
  ∃(o:Obj) (its:Array Value) (n:Nat),K.lookup a=some o/\o.cls=.type "tuple"/\o.data=.seq its n/\its.size<=sizeLine/\jaO xs its.toList
noncomputable def jBk:Value->Option V
 |.none=>some .non
 |.bool b=>some (.bl b)
 |.int i _=>some (.int i)
 |.str x _=>some (.str x)
 |.bytes b _=>some (.byt b)
 |.float b _=>some (.flt b)
 |.ref a=>some (.ref a)
 |.type n=>some (.ty n)
 |_=>none
theorem jaN.abs {x:V}{u:Value}(r:jaN x u):jBk u=some x:=by
 cases x with
 |non=>cases r;rfl
 |bl _=>cases r;rfl
 |int _=>obtain⟨t,rfl⟩:=r;rfl
 |str _=>obtain⟨t,rfl⟩:=r;rfl
 |byt _=>obtain⟨t,rfl⟩:=r;rfl
 |flt _=>obtain⟨t,rfl⟩:=r;rfl
 |ref _=>cases r;rfl
 |ty _=>cases r;rfl
theorem jaN.inj {x y:V}{u:Value}(r:jaN x u)(q:jaN y u):x=y:=j0H (r.abs.symm.trans q.abs)
theorem jaO.inj {xs ys:List V}{us:List Value}(h:jaO xs us)(k:jaO ys us):xs=ys:=by
 induction h generalizing ys with
 |nil=>cases k;rfl
 |cons r t ih=>
  cases k with
  |cons r' t'=>rw[r.inj r',ih t']
section
variable {X:Cx} {pins:List (Addr×Obj)} {σ:St} {H:Hp} {s:Shared} {a:Addr} {xs ys:List V}
theorem SqL.of {K:PySem.W.Frag}(h:H a=some (.lst xs)):SqL K H a xs:=.inl (.inl h)
theorem SqT.of {K:PySem.W.Frag}(h:H a=some (.tup xs)):SqT K H a xs:=.inl (.inl h)
theorem Inv.list (I:Inv X pins σ H s)(h:SqL X.K H a xs):∃its:List Value,jaO xs its/\PlainL s.heap a its.toArray/\xs.length<=sizeLine:=by
 rcases h with h|⟨o,its,n,hk,hc,hd,hs,hz,r⟩
 ·obtain⟨z,its,n,r,e⟩:=h.ok I.hok;exact⟨its,r,⟨_,n,e,rfl,rfl,rfl⟩,z⟩
 ·refine⟨its.toList,r,⟨o,n,I.kIn a o hk,hc,hd,by simpa using hs⟩,?_⟩;have e:=r.length;simp only[j0t]at e;omega
theorem Inv.tuple (I:Inv X pins σ H s)(h:SqT X.K H a xs):∃its:List Value,jaO xs its/\IsTup s.heap a its.toArray/\xs.length<=sizeLine:=by
 rcases h with h|⟨o,its,n,hk,hc,hs,hz,r⟩
 ·obtain⟨z,its,n,r,p⟩:=h.ok I.hok;exact⟨its,r,⟨_,p,rfl,n,rfl⟩,z⟩
 ·refine⟨its.toList,r,⟨o,I.kIn a o hk,hc,n,by simpa using hs⟩,?_⟩;have e:=r.length;simp only[j0t]at e;omega
theorem Inv.list_inj (I:Inv X pins σ H s)(h:SqL X.K H a xs)(h':SqL X.K H a ys):xs=ys:=by
 obtain⟨its,r,⟨o,n,e,_,_,d⟩,_⟩:=I.list h;obtain⟨its',r',⟨o',n',e',_,_,d'⟩,_⟩:=I.list h';rw[e]at e';cases e';rw[d]at d';injection d' with d1 _;have:its=its':=by simpa using congrArg Array.toList d1
 subst this;exact r.inj r'
theorem Inv.tuple_inj (I:Inv X pins σ H s)(h:SqT X.K H a xs)(h':SqT X.K H a ys):xs=ys:=by
 obtain⟨its,r,⟨o,e,_,n,d⟩,_⟩:=I.tuple h;obtain⟨its',r',⟨o',e',_,n',d'⟩,_⟩:=I.tuple h';rw[e]at e';cases e';rw[d]at d';injection d' with d1 _;have:its=its':=by simpa using congrArg Array.toList d1
 subst this;exact r.inj r'
end
noncomputable abbrev Cx.wish (X:Cx) (E:Value->Shared->Prop):Cx:={X with xe:=E}
noncomputable abbrev Cx.nox (X:Cx):Cx:=X.wish fun _ _=>False
theorem Cx.Ok.wish {X:Cx}(ok:X.Ok)(E:Value->Shared->Prop):(X.wish E).Ok:=
 ⟨ok.mod,ok.kind,ok.glob,ok.blt,ok.above,ok.inj,ok.has,ok.cab,ok.hd,ok.frames,ok.stk,ok.exf,ok.bs,ok.bsz,ok.noex,ok.exfs,ok.funs,ok.frf⟩
theorem Cx.Ok.unwish {X:Cx}{E:Value->Shared->Prop}(ok:(X.wish E).Ok):X.Ok:=
 ⟨ok.mod,ok.kind,ok.glob,ok.blt,ok.above,ok.inj,ok.has,ok.cab,ok.hd,ok.frames,ok.stk,ok.exf,ok.bs,ok.bsz,ok.noex,ok.exfs,ok.funs,ok.frf⟩
section
variable {X:Cx} {pins:List (Addr×Obj)} {σ:St} {H:Hp} {s:Shared} {E:Value->Shared->Prop}
theorem Inv.wish (I:Inv X pins σ H s)(E:Value->Shared->Prop):Inv (X.wish E) pins σ H s:=⟨I.ok.wish E,I.os,I.bare,I.base,I.loc,I.cell,I.free,I.freeC,I.pin,I.hok,I.len⟩
theorem Inv.unwish (I:Inv (X.wish E) pins σ H s):Inv X pins σ H s:=⟨I.ok.unwish,I.os,I.bare,I.base,I.loc,I.cell,I.free,I.freeC,I.pin,I.hok,I.len⟩
theorem SP.unwish {D:Ends}{f:Flow}{s':Shared}(h:SP (X.wish E) pins D f s'):SP X pins D f s':=by
 cases f with
 |next=>obtain⟨σ',H',I,q⟩:=h;exact⟨σ',H',I.unwish,q⟩
 |brk=>obtain⟨σ',H',I,q⟩:=h;exact⟨σ',H',I.unwish,q⟩
 |cont=>obtain⟨σ',H',I,q⟩:=h;exact⟨σ',H',I.unwish,q⟩
 |ret u=>obtain⟨v,σ',H',I,r,q⟩:=h;exact⟨v,σ',H',I.unwish,r,q⟩
theorem PSs.nox {st:List Stmt}{t:TS}(h:PSs X.nox st t):PSs X st t:=fun pins s σ H D I hw=>
 wpAny_mono (h pins s σ H D (I.wish _) hw) (fun _ _ q=>q.unwish) fun _ _ z=>False.elim z
end
section
variable {X:Cx} {st:Stmt} {rest:List Stmt} {t u:TS} {e:Expr} {te:TE} {pos:Pos}
def ju4:TS:=fun D σ H=>D.nx σ H
def jAH (t u:TS):TS:=fun D σ H=>t {D with nx:=u D} σ H
theorem jkO:PSs X [] ju4:=fun _ _ σ H _ I h=>wpAny_execs_nil ⟨σ,H,I,h⟩
theorem jgy (h1:PS X st t)(h2:PSs X rest u):PSs X (st::rest) (jAH t u):=by
 intro pins s σ H D I h;refine wpAny_execs_cons (thn (h1 pins s σ H {D with nx:=u D} I h) fun f s1 q=>?_)
 cases f with
 |next=>
  obtain⟨σ',H',I',q⟩:=q;exact h2 pins s1 σ' H' D I' q
 |ret v=>exact q
 |brk=>exact q
 |cont=>exact q
theorem jpd (h1:PS X st t):PSs X [st] t:=by
 intro pins s σ H D I h;refine wpAny_execs_cons (thn (h1 pins s σ H D I h) fun f s1 q=>?_)
 cases f with
 |next=>exact wpAny_execs_nil q
 |ret v=>exact q
 |brk=>exact q
 |cont=>exact q
theorem jtP:PS X (.Pass pos) ju4:=fun _ _ σ H _ I h=>wpAny_Pass ⟨σ,H,I,h⟩
theorem Inv.quiet {pins:List (Addr×Obj)}{σ:St}{H:Hp}{s:Shared}(I:Inv X pins σ H s):interactive X.env=false:=by simp[interactive,I.ok.kind]
def jzp (te:TE):TS:=fun D σ H=>te σ H fun _ H1=>D.nx σ H1
theorem joi (he:PE X e te)(hs:swapsWith e none pos.line X.env=pure false:=by rfl):PS X (.Expr e pos) (jzp te):=by
 intro pins s σ H D I h;exact wpAny_Expr_any (thn (he pins s σ H _ I h) fun v s1 ⟨x,H1,I1,r1,q1⟩=>⟨σ,H1,I1,q1⟩) I.quiet hs
def jAF (te:TE):TS:=fun D σ H=>te σ H D.rt
theorem joR (he:PE X e te):PS X (.Return (some e) pos) (jAF te):=by
 intro pins s σ H D I h;exact wpAny_Return_some (thn (he pins s σ H _ I h) fun v s1 ⟨x,H1,I1,r1,q1⟩=>⟨x,σ,H1,I1,r1,q1⟩)
def jzg:TS:=fun D _ H=>D.rt .non H
theorem jt3:PS X (.Return none pos) jzg:=fun _ _ σ H _ I h=>wpAny_Return_none ⟨.non,σ,H,I,rfl,h⟩
def jAZ (c:TT)(t u:TS):TS:=fun D σ H=>c σ H fun b H1=>if b=true then t D σ H1 else u D σ H1
theorem juM {c:Expr}{a b:List Stmt}{tc:TT}(hc:PT X c tc)(ha:PSs X a t)(hb:PSs X b u):PS X (.If c a b pos) (jAZ tc t u):=by
 intro pins s σ H D I h;refine wpAny_If (thn (hc pins s σ H _ I h) fun d s1 ⟨H1,I1,q1⟩=>?_)
 cases d with
 |true=>exact ha pins s1 σ H1 D I1 q1
 |false=>exact hb pins s1 σ H1 D I1 q1
def jxX:TS:=fun _ _ _=>False
theorem jr2:PS X st jxX:=fun _ _ _ _ _ _ h=>h.elim
end
noncomputable abbrev TG:=V->St->Hp->(St->Hp->Prop)->Prop
noncomputable abbrev TGs:=List V->St->Hp->(St->Hp->Prop)->Prop
def PG (X:Cx)(target:Expr)(t:TG):Prop:=
 ∀(pins:List (Addr×Obj)) (s:Shared) (σ:St) (H:Hp) (v:V) (u:Value) (Q:St->Hp->Prop),Inv X pins σ H s->jaN v u->t v σ H Q ->
  wpAny (model X.prog X.w) X.A (assign target X.env u) (fun _ s'=>∃σ' H',Inv X pins σ' H' s'/\Q σ' H') X.xe s
def PGs (X:Cx)(ts:List Expr)(t:TGs):Prop:=
 ∀(pins:List (Addr×Obj)) (s:Shared) (σ:St) (H:Hp) (vs:List V) (us:List Value) (Q:St->Hp->Prop),Inv X pins σ H s->jaO vs us->t vs σ H Q ->
  wpAny (model X.prog X.w) X.A (assignInOrder ((assignEach ts X.env).map (·.2)) us) (fun _ s'=>∃σ' H',Inv X pins σ' H' s'/\Q σ' H') X.xe s
section
variable {X:Cx} {pos:Pos}
noncomputable def jfd (i:Nat):TG:=fun v σ H Q=>Q (σ.set i (some v)) H
theorem jov {i:Nat}{x:Str}(hN:X.N.Nodup)(hi:X.N[i]?=some x)(hx:Loc X.env.scope x)(hf:X.fn x=true∨X.env.scope.names.lookup x=some .local:=by first|exact .inl rfl|exact .inr rfl|assumption):PG X (.Name x pos) (jfd i):=by
 intro pins s σ H v u Q I r h;exact wpAny_assign_Name (jfz I hN hi hx r (fun s' I'=>⟨_,H,I',h⟩) hf)
noncomputable def jAT:TGs:=fun vs σ H Q=>vs=[]/\Q σ H
noncomputable def jv4 (t:TG)(u:TGs):TGs:=fun vs σ H Q=>∃v r,vs=v::r/\t v σ H fun σ' H'=>u r σ' H' Q
theorem jvd:PGs X [] jAT:=by
 intro pins s σ H vs us Q I r h;obtain⟨e,h⟩:=h;subst e;cases r;exact assignInOrder_nil ⟨σ,H,I,h⟩
theorem jqn {e:Expr}{es:List Expr}{t:TG}{u:TGs}(h1:PG X e t)(h2:PGs X es u)
  (hs:(assignEach (e::es) X.env).map (·.2)=assign e X.env::(assignEach es X.env).map (·.2):=by rfl):PGs X (e::es) (jv4 t u):=by
 intro pins s σ H vs us Q I r h;obtain⟨v,vr,e1,h⟩:=h;subst e1
 cases r with
 |cons r rr=>
  rw[hs];refine assignInOrder_cons (thn (h1 pins s σ H _ _ _ I r h) fun _ s1 ⟨σ1,H1,I1,q1⟩=>?_);exact h2 pins s1 σ1 H1 _ _ Q I1 rr q1
noncomputable def jAn (K:PySem.W.Frag)(n:Nat)(t:TGs):TG:=fun v σ H Q=>∃a xs,v=.ref a/\SqT K H a xs/\xs.length=n/\t xs σ H Q
theorem jwB {es:List Expr}{k:Nat}{t:TGs}{n:Nat}(hc:X.calm=true)(h:PGs X es t)
  (hn:(assignEach es X.env).length=n:=by rfl) (hst:(assignEach es X.env).findIdx? (·.1)=none:=by rfl):PG X (.Tuple es k pos) (jAn X.K n t):=by
 intro pins s σ H v u Q I r hw;obtain⟨a,xs,e1,hq,hl,hw⟩:=hw;subst e1;cases r;obtain⟨its,rv,ht,hz⟩:=I.tuple hq;refine assign_Tuple_tuple (I.ok.hd hc) ht (by simp[hn,<- hl,rv.length]) hst fun h' hx=>?_;have I1:Inv X pins σ H {s with heap:=h'}:=I.kept (t':=s.toks) fun b o e=>hx b o (j0m (j0g e)) e;exact h pins _ σ H xs _ Q I1 (by simpa using rv) hw
def jvS (te:TE)(g:TG):TS:=fun D σ H=>te σ H fun x H1=>g x σ H1 D.nx
theorem jpU {tg e:Expr}{te:TE}{g:TG}(he:PE X e te)(hg:PG X tg g)(hs:swapsWithSole [tg] e pos.line X.env=pure false:=by rfl)(hw:swappedStores [tg] e X.env=pure none:=by rfl)
  (h1:(assignEach [tg] X.env).map (·.2)=[assign tg X.env]:=by rfl):PS X (.Assign [tg] e pos) (jvS te g):=by
 intro pins s σ H D I h;refine wpAny_Assign_stores (thn (he pins s σ H _ I h) fun v s1 ⟨x,H1,I1,r1,q1⟩=>?_) hs hw;rw[h1];exact thn (hg pins s1 σ H1 x v _ I1 r1 q1) fun _ s2 q=>q
theorem jsi {i:Nat}{x:Str}{e:Expr}{te:TE}{pos':Pos}(hN:X.N.Nodup)(hi:X.N[i]?=some x)(hx:Loc X.env.scope x)(he:PE X e te)(hs:swapsWith e (some (.Name x pos')) pos.line X.env=pure false:=by rfl)(hf:X.fn x=true∨X.env.scope.names.lookup x=some .local:=by first|exact .inl rfl|exact .inr rfl|assumption) :
  PS X (.Assign [.Name x pos'] e pos) (jvS te (jfd i)):=by
 intro pins s σ H D I h;refine wpAny_Assign_Name (thn (he pins s σ H _ I h) fun v s1 ⟨y,H1,I1,r1,q1⟩=>?_) hs;exact jfz I1 hN hi hx r1 (fun s2 I2=>⟨_,H1,I2,q1⟩) hf
def jA2 (i j:Nat)(ta:TA):TS:=fun D σ H=>ta σ H fun vs H1=>∃v w,vs=[v,w]/\D.nx ((σ.set i (some v)).set j (some w)) H1
theorem jyf {i j:Nat}{x y:Str}{a b:Expr}{ta:TA}{px py pt:Pos}{kt k2 pt2}(hc:X.calm=true)(hN:X.N.Nodup)(hi:X.N[i]?=some x)(hj:X.N[j]?=some y)(hij:i≠j)
  (hx:X.env.scope.names.lookup x=some .local) (hy:X.env.scope.names.lookup y=some .local) (ha:PA X [a,b] ta)
  (hw:swappedStores [.Tuple [.Name x px,.Name y py] kt pt] (.Tuple [a,b] k2 pt2) X.env=pure (some [x,y]))
  (hs:swapsWithSole [.Tuple [.Name x px,.Name y py] kt pt] (.Tuple [a,b] k2 pt2) pos.line X.env=pure false:=by rfl) :
  PS X (.Assign [.Tuple [.Name x px,.Name y py] kt pt] (.Tuple [a,b] k2 pt2) pos) (jA2 i j ta):=by
 intro pins s σ H D I h;rw[exec_Assign_arm];refine wpAny_bind (wpAny_standAt ?_);rw[hs];refine wpAny_bind (wpAny_pure ?_);rw[if_neg (by decide)];refine wpAny_bind (Tuple_ (thn (ha _ pins s σ H _ I h) fun us s1 ⟨vs,H1,I1,r1,q1⟩=>?_));obtain⟨v,w,e1,q1⟩:=q1;subst e1;obtain⟨u1,u2,rfl,rv,rw'⟩:∃u1 u2,us=[u1,u2]/\jaN v u1/\jaN w u2:=by
  cases r1 with
  |cons p q=>
   cases q with
   |cons p' q'=>
    cases q';exact⟨_,_,rfl,p,p'⟩
 refine wpAny_newObj_type ?_ (by show 2<=sizeLine;decide);have I2:Inv X pins σ H1 {s1 with heap:=s1.heap.push {cls:=.type "tuple",data:=.seq [u1,u2].toArray}}:=I1.kept (t':=s1.toks) fun b o e=>j0c _ e;rw[hw];refine wpAny_bind (wpAny_pure ?_);show wpAny (model X.prog X.w) X.A (do rule "assign.swapped-stores";let items <- unpackItems (.ref s1.heap.objs.size) 2 none;assignInOrder [fun v=>bindName X.env y v,fun v=>bindName X.env x v] items.reverse;pure Flow.next) _ _ _;refine wpAny_bind (wpAny_rule (wpAny_bind (unpackItems_tuple (items:=#[u1,u2]) (I.ok.hd hc) (IsTup.new s1.heap _) fun h' hx'=>?_)));have I3:=I2.kept (h':=h') (t':=s1.toks) fun b o e=>hx' b o (j0m (j0g e)) e;show wpAny _ _ (assignInOrder [fun v=>bindName X.env y v,fun v=>bindName X.env x v] [u2,u1] >>=fun _=>pure Flow.next) _ _ _;refine wpAny_bind (assignInOrder_cons (wpAny_bindName (jfz I3 hN hj (.inl hy) rw' (fun s2 I4=>?_) (.inr hy))));refine assignInOrder_cons (wpAny_bindName (jfz I4 hN hi (.inl hx) rv (fun s3 I5=>assignInOrder_nil (wpAny_pure ?_)) (.inr hx)));rw[List.set_comm _ _ (Ne.symm hij)]at I5;exact⟨_,H1,I5,q1⟩
end
section
variable {X:Cx} {pos:Pos}
end
structure It where
 go:Nat->Hp->Prop
 yld:Nat->Hp->V->Hp->Prop
 stop:Nat->Hp->Prop
def jpY (X:Cx)(pins:List (Addr×Obj))(H:Hp)(b:Addr):Prop:=
 H b=none/\b≠X.env.locals/\b∉X.fs/\(b∈X.ex∨X.s₀.heap.objs.size<=b)/\(∀x c,X.env.cells.lookup x=some c->c≠b)/\∀p∈X.pn++pins,p.1≠b
theorem Inv.fpOk {X:Cx}{pins:List (Addr×Obj)}{σ:St}{H H':Hp}{s:Shared}{b:Addr}(I:Inv X pins σ H s)(hb:s.heap.objs.size<=b)(hn:H' b=none):jpY X pins H' b:=by
 refine⟨hn,Nat.ne_of_gt (j0o I.lt hb),I.nofs hb,.inr (j0I I.sz hb),fun x c e z=>?_,fun p hp z=>?_⟩
 ·obtain⟨v,q⟩:=I.cell x c e;exact absurd (j0o q.lt (by rw[z];exact hb)) (j1x _)
 ·exact absurd (j0o (j0g (I.pin p hp).1) (by rw[z];exact hb)) (j1x _)
structure Turn (P:Program) (w:World) (K:PySem.W.Frag) (tg:Expr) (J:It) (fp:List Addr) (it:Addr) (tn:Nat->Heap->Prop):Prop where
 mem:it∈fp
 obj:∀i h,tn i h->∀b∈fp,∃o,h.get? b=some o/\∀v,o.data≠.cell v
 keep:∀i h h',tn i h->(∀b∈fp,∀o,h.get? b=some o->h'.get? b=some o)->tn i h'
 item:∀(X:Cx),X.prog=P->X.w=w->X.K=K->X.calm=true->∀(i:Nat) (pins:List (Addr×Obj)) (s:Shared) (σ:St) (H:Hp) (E:Value->Shared->Prop),Inv X pins σ H s->(∀b∈fp,jpY X pins H b)->tn i s.heap->J.go i H ->
  wpAny (model P w) X.A (pyNext (.ref it)) (fun r s1=>∃u,r=some u /\
   wpAny (model P w) X.A (letOwnedTupleGo tg (.ref it) u) (fun _ s2=>∃x H',Inv X pins σ H' s2/\jaN x u/\J.yld i H x H'/\tn (i+1) s2.heap/\∀b∈fp,H' b=none) E s1) E s
 done:∀(X:Cx),X.prog=P->X.w=w->X.K=K->X.calm=true->∀(i:Nat) (pins:List (Addr×Obj)) (s:Shared) (σ:St) (H:Hp) (E:Value->Shared->Prop),Inv X pins σ H s->(∀b∈fp,jpY X pins H b)->tn i s.heap->J.stop i H ->
  wpAny (model P w) X.A (pyNext (.ref it)) (fun r s1=>r=none/\Inv X pins σ H s1) E s
 self:∀(A:Around) (i:Nat) (s:Shared) (Q:Value->Shared->Prop) (E:Value->Shared->Prop),tn i s.heap->Q (.ref it) s->wpAny (model P w) A (pyIter (.ref it)) Q E s
noncomputable abbrev TI:=St->Hp->(It->Hp->Prop)->Prop
def PIE (X:Cx)(pins:List (Addr×Obj))(σ:St)(tg:Expr)(R:It->Hp->Prop)(itv:Value)(s2:Shared):Prop:=
 ∃(it:Addr) (fp:List Addr) (tn:Nat->Heap->Prop) (J:It) (H':Hp),itv=.ref it/\Inv X pins σ H' s2/\Turn X.prog X.w X.K tg J fp it tn/\tn 0 s2.heap/\(∀b∈fp,jpY X pins H' b)/\R J H'
def PI (X:Cx)(tg iter:Expr)(wi:TI):Prop:=
 ∀(pins:List (Addr×Obj)) (s:Shared) (σ:St) (H:Hp) (R:It->Hp->Prop),Inv X pins σ H s->wi σ H R ->
  wpAny (model X.prog X.w) X.A (eval iter X.env) (fun v s1=>wpAny (model X.prog X.w) X.A (pyIter v) (PIE X pins σ tg R) X.xe s1) X.xe s
theorem jrh {M:Model}{A:Around}{E:Value->Shared->Prop}{s:Shared}{tg:Expr}{it:Addr}{u:Value}{o:Obj}{n:String}{vs:Array Value}{Q:Unit->Shared->Prop}(ho:s.heap.get? it=some o)(hc:o.cls=.type n)(hd:o.data=.fields vs)
  (hn:["enumerate","zip","dict_itemiterator","dict_reverseitemiterator","odict_iterator","itertools.zip_longest","itertools.pairwise"].contains n=false) (hQ:Q () s):wpAny M A (letOwnedTupleGo tg (.ref it) u) Q E s:=by
 unfold letOwnedTupleGo;cases tg<;>first
  |exact wpAny_pure hQ
  |(cases u<;>first
    |exact wpAny_pure hQ
    |(refine wpAny_bind (wpAny_load ho ?_)
      rw[hc,hd];show wpAny M A (if(["enumerate","zip","dict_itemiterator","dict_reverseitemiterator","odict_iterator","itertools.zip_longest","itertools.pairwise"].contains n&&vs[0]?==some (rawInt _))=true then _ else _) Q E s;rw[if_neg (by intro h;rw[hn,Bool.false_and]at h;cases h)];exact wpAny_pure hQ))
noncomputable def Itl (K:PySem.W.Frag)(a:Addr):It:=
 ⟨fun i H=>∃xs x,SqL K H a xs/\xs[i]?=some x,fun i H x H'=>H'=H/\∀xs,SqL K H a xs->xs[i]?=some x,fun i H=>∃xs,SqL K H a xs/\xs.length<=i⟩
noncomputable def Itt (K:PySem.W.Frag)(a:Addr):It:=
 ⟨fun i H=>∃xs x,SqT K H a xs/\xs[i]?=some x,fun i H x H'=>H'=H/\∀xs,SqT K H a xs->xs[i]?=some x,fun i H=>∃xs,SqT K H a xs/\xs.length<=i⟩
noncomputable def Itr (lo:Int)(n:Nat):It:=⟨fun i _=>i<n,fun i H x H'=>H'=H/\x=.int (lo+i),fun i _=>n<=i⟩
theorem jn3 {P:Program}{w:World}{K:PySem.W.Frag}{tg:Expr}(a it:Addr):Turn P w K tg (Itl K a) [it] it (fun i h=>h.IsListIter it a i) where
 mem:=by simp
 obj:=fun i h st b hb=>by
  have e:b=it:=by simpa using hb
  subst e;obtain⟨o,e,c,d⟩:=st;exact⟨o,e,fun v z=>by rw[d]at z;cases z⟩
 keep:=fun i h h' st k=>st.at fun o e=>k it (by simp) o e
 item:=by
  intro X hP hw hK hc i pins s σ H E I hf st hg;subst hP hw hK;obtain⟨xs,x,hq,hx⟩:=hg;obtain⟨its,rv,p,hz⟩:=I.list hq;obtain⟨u,hu,ru⟩:=rv.get hx;obtain⟨f0,f1,f2,f3,f4,f5⟩:=hf it (by simp);refine wpAny_pyNext_list_item st p.isList (x:=u) (by simpa using hu) fun h' st' sb=>?_;have I1:Inv X pins σ H {s with heap:=h'}:=I.turned (t':=s.toks) (fun b o hb e=>(sb.2 b hb).trans e) f0 f1 f3 f4 f5;obtain⟨o,e,c,d⟩:=id st';exact⟨u,rfl,jrh (s:={s with heap:=h'}) e c d (by decide) ⟨x,H,I1,ru,⟨rfl,fun ys hy=>by rw[I.list_inj hy hq];exact hx⟩,st',fun b hb=>(hf b hb).1⟩⟩
 done:=by
  intro X hP hw hK hc i pins s σ H E I hf st hg;subst hP hw hK;obtain⟨xs,hq,hx⟩:=hg;obtain⟨its,rv,p,hz⟩:=I.list hq;obtain⟨f0,f1,f2,f3,f4,f5⟩:=hf it (by simp);have hl:=rv.length;exact wpAny_pyNext_list_end (I.ok.hd hc) st p.isList (by simp;omega) fun h' eb=>⟨rfl,I.turned (t':=s.toks) (fun b o hb e=>eb b o hb e) f0 f1 f3 f4 f5⟩
 self:=fun _ _ _ _ _ st h=>wpAny_pyIter_listiter st h
theorem jm7 {P:Program}{w:World}{K:PySem.W.Frag}{tg:Expr}(a it:Addr):Turn P w K tg (Itt K a) [it] it (fun i h=>h.IsTupleIter it a i) where
 mem:=by simp
 obj:=fun i h st b hb=>by
  have e:b=it:=by simpa using hb
  subst e;obtain⟨o,e,c,d⟩:=st;exact⟨o,e,fun v z=>by rw[d]at z;cases z⟩
 keep:=fun i h h' st k=>st.at fun o e=>k it (by simp) o e
 item:=by
  intro X hP hw hK hc i pins s σ H E I hf st hg;subst hP hw hK;obtain⟨xs,x,hq,hx⟩:=hg;obtain⟨its,rv,p,hz⟩:=I.tuple hq;obtain⟨u,hu,ru⟩:=rv.get hx;obtain⟨f0,f1,f2,f3,f4,f5⟩:=hf it (by simp);refine wpAny_pyNext_tuple_item st (show s.heap.IsTuple a its.toArray from p) (x:=u) (by simpa using hu) fun h' st' sb=>?_;have I1:Inv X pins σ H {s with heap:=h'}:=I.turned (t':=s.toks) (fun b o hb e=>(sb.2 b hb).trans e) f0 f1 f3 f4 f5;obtain⟨o,e,c,d⟩:=id st';exact⟨u,rfl,jrh (s:={s with heap:=h'}) e c d (by decide) ⟨x,H,I1,ru,⟨rfl,fun ys hy=>by rw[I.tuple_inj hy hq];exact hx⟩,st',fun b hb=>(hf b hb).1⟩⟩
 done:=by
  intro X hP hw hK hc i pins s σ H E I hf st hg;subst hP hw hK;obtain⟨xs,hq,hx⟩:=hg;obtain⟨its,rv,p,hz⟩:=I.tuple hq;obtain⟨f0,f1,f2,f3,f4,f5⟩:=hf it (by simp);have hl:=rv.length;exact wpAny_pyNext_tuple_end (I.ok.hd hc) st (show s.heap.IsTuple a its.toArray from p) (by simp;omega) fun h' eb=>⟨rfl,I.turned (t':=s.toks) (fun b o hb e=>eb b o hb e) f0 f1 f3 f4 f5⟩
 self:=fun _ _ _ _ _ st h=>wpAny_pyIter_tupleiter st h
theorem jm1 {P:Program}{w:World}{K:PySem.W.Frag}{tg:Expr}(it:Addr)(lo:Int)(n:Nat):Turn P w K tg (Itr lo n) [it] it (fun i h=>IsRangeIter h it (lo+(i:Nat)*1) ((n:Int) - (i:Nat)) 1) where
 mem:=by simp
 obj:=fun i h st b hb=>by
  have e:b=it:=by simpa using hb
  subst e;exact⟨_,st,fun v z=>by
   have z':Data.fields _=Data.cell v:=z;cases z'⟩
 keep:=fun i h h' st k=>k it (by simp) _ st
 item:=by
  intro X hP hw hK hc i pins s σ H E I hf st hg;subst hP hw hK;obtain⟨f0,f1,f2,f3,f4,f5⟩:=hf it (by simp);have W:=Walks.range (prog:=X.prog) (w:=X.w) (I.ok.hd hc) it lo 1 n;refine W.item i s _ _ hg st fun v h' tk hv st' kk=>?_;obtain⟨t,rfl⟩:=hv;have I1:Inv X pins σ H {s with heap:=h',toks:=tk}:=I.turned (fun b o hb e=>kk b o (by simpa using hb) e) f0 f1 f3 f4 f5;refine⟨_,rfl,jrh (s:={s with heap:=h',toks:=tk}) (n:="range_iterator") st' rfl rfl (by decide) ⟨.int (lo+i),H,I1,⟨t,?_⟩,⟨rfl,rfl⟩,st',fun b hb=>(hf b hb).1⟩⟩;rw[Int.mul_one]
 done:=by
  intro X hP hw hK hc i pins s σ H E I hf st hg;subst hP hw hK;obtain⟨f0,f1,f2,f3,f4,f5⟩:=hf it (by simp);exact wpAny_pyNext_range_end (I.ok.hd hc) st (by have:n<=i:=hg;omega) fun h' eb=>⟨rfl,I.turned (t':=s.toks) (fun b o hb e=>eb b o hb e) f0 f1 f3 f4 f5⟩
 self:=fun _ _ _ _ _ st h=>wpAny_pyIter_rangeiter st h
section
variable {X:Cx} {tg:Expr}
theorem jlG {pins:List (Addr×Obj)}{σ:St}{H:Hp}{s:Shared}{R:It->Hp->Prop}{E:Value->Shared->Prop}{lo hi:Int}{t u v:Tok}{tk:Nat}(I:Inv X pins σ H s)(h1 : -(2 ^ 62)<=lo)(h2:lo<2 ^ 62)(h3 : -(2 ^ 62)<=hi)(h4:hi<2 ^ 62)
  (q:R (Itr lo (hi - lo).toNat) H):wpAny (model X.prog X.w) X.A (pyIter (.ref s.heap.objs.size)) (PIE X pins σ tg R) E {s with heap:=s.heap.push {cls:=.type "range",data:=.fields #[.int lo t,.int hi u,.int 1 v]},toks:=tk}:=by
 refine wpAny_pyIter_range (IsRange.new ..) (small_one h1 h2 h3 h4) ?_;have I1:Inv X pins σ H {s with heap:=s.heap.push {cls:=.type "range",data:=.fields #[.int lo t,.int hi u,.int 1 v]},toks:=tk}:=I.kept fun b o e=>j0c _ e;refine⟨(s.heap.push {cls:=.type "range",data:=.fields #[.int lo t,.int hi u,.int 1 v]}).objs.size,[(s.heap.push {cls:=.type "range",data:=.fields #[.int lo t,.int hi u,.int 1 v]}).objs.size],_,_,H,rfl,
  I1.kept (t':=tk) fun b o e=>j0c _ e,jm1 _ lo (hi - lo).toNat,?_,fun b hb=>?_,q⟩
 ·have e1:lo+((0:Nat):Int)*1=lo:=by simp
  have e2:(((hi - lo).toNat:Nat):Int) - ((0:Nat):Int)=Builtin.Range.rangeSize lo hi 1:=by rw[rangeSize_one];split<;>omega
  show IsRangeIter _ _ (lo+((0:Nat):Int)*1) ((((hi - lo).toNat:Nat):Int) - ((0:Nat):Int)) 1;rw[e1,e2];exact j0n _ rfl
 ·have e:b=(s.heap.push {cls:=.type "range",data:=.fields #[.int lo t,.int hi u,.int 1 v]}).objs.size:=by simpa using hb
  subst e;exact I1.fpOk (j0l _) (I1.hok.fresh (j0l _))
def jxN (ta:TA):TI:=fun σ H R=>ta σ H fun vs H1=>∃j:Int,vs=[.int j]/\-(2 ^ 62)<=j/\j<2 ^ 62/\R (Itr 0 j.toNat) H1
def jv1 (ta:TA):TI:=fun σ H R=>ta σ H fun vs H1=>∃i j:Int,vs=[.int i,.int j]/\(-(2 ^ 62)<=i/\i<2 ^ 62/\-(2 ^ 62)<=j/\j<2 ^ 62)/\R (Itr i (j - i).toNat) H1
theorem jnL {a:Expr} {ta:TA} {p pos:Pos} (hg:Gl X "range") (hm:X.mg "range" =none) (ha:PA X [a] ta) (hs:starEach [a] X.env=[(false,eval a X.env)]:=by rfl):PI X tg (.Call (.Name "range" p) [a] [] pos) (jxN ta):=by
 intro pins s σ H R I h;refine Call_ (jib I hg hm boot_range (j1l (thn (ha pos pins s σ H _ I h) fun us s1 ⟨vs,H1,I1,r1,q1⟩=>?_) hs rfl));obtain⟨j,e,q1,q2,q⟩:=q1;subst e
 cases r1 with
 |cons r rr=>
  cases rr;obtain⟨t,rfl⟩:=r;exact call_range_1 (jlG I1 (by omega) (by omega) q1 q2 (by simpa using q))
theorem jnG {a b:Expr} {ta:TA} {p pos:Pos} (hg:Gl X "range") (hm:X.mg "range" =none) (ha:PA X [a,b] ta) (hs:starEach [a,b] X.env=[(false,eval a X.env),(false,eval b X.env)]:=by rfl) (hs2:starEach [b] X.env=[(false,eval b X.env)]:=by rfl) :
  PI X tg (.Call (.Name "range" p) [a,b] [] pos) (jv1 ta):=by
 intro pins s σ H R I h;refine Call_ (jib I hg hm boot_range (j1l (thn (ha pos pins s σ H _ I h) fun us s1 ⟨vs,H1,I1,r1,q1⟩=>?_) (by rw[hs,hs2]) (by rw[hs2];rfl)));obtain⟨i,j,e,⟨q1,q2,q3,q4⟩,q⟩:=q1;subst e
 cases r1 with
 |cons r rr=>
  cases rr with
  |cons r' rr=>
   cases rr;obtain⟨t,rfl⟩:=r;obtain⟨t',rfl⟩:=r';exact call_range_2 (jlG I1 q1 q2 q3 q4 q)
def jA6 (wi:TI)(g:TG)(tb:TS):TS:=fun D σ H=>wi σ H fun J H1=>∃W:Nat->Nat->St->Hp->Prop,(∃m,W 0 m σ H1)/\∀i m σ H,W i m σ H ->
 (J.stop i H/\D.nx σ H)∨(J.go i H/\∃N:St->Hp->Prop,(∀σ' H',N σ' H'->∃m',m'<m/\W (i+1) m' σ' H')/\∀x H',J.yld i H x H'->g x σ H' fun σ2 H2=>tb {D with nx:=N,ct:=N,bk:=D.nx} σ2 H2)
noncomputable def jjS (fp:List Addr)(h:Heap):List (Addr×Obj):=fp.filterMap fun b=>(h.get? b).map fun o=>(b,o)
theorem jex {fp:List Addr}{h:Heap}{b:Addr}{o:Obj}(hb:b∈fp)(e:h.get? b=some o):(b,o)∈jjS fp h:=j0S.mpr ⟨b,hb,by rw[e];rfl⟩
theorem joz {fp:List Addr}{h:Heap}{p:Addr×Obj}(hp:p∈jjS fp h):p.1∈fp/\h.get? p.1=some p.2:=by
 obtain⟨b,hb,e⟩:=j0S.mp hp
 cases q:h.get? b with
 |none=>rw[q]at e;cases e
 |some o=>
  rw[q]at e;have e':(b,o)=p:=j0H e;subst e';exact⟨hb,q⟩
theorem Inv.pinned {pins:List (Addr×Obj)}{σ:St}{H:Hp}{s:Shared}{fp:List Addr}(I:Inv X pins σ H s)(hf:∀b∈fp,jpY X pins H b)(ho:∀b∈fp,∃o,s.heap.get? b=some o/\∀v,o.data≠.cell v):Inv X (pins++jjS fp s.heap) σ H s:=
 I.pins_of fun p hp=>(j1d.mp hp).elim (fun z=>I.pin p (j0K _ z)) fun z=>by
  obtain⟨hb,e⟩:=joz z;obtain⟨f0,f1,f2,_⟩:=hf p.1 hb;obtain⟨o,e',d⟩:=ho p.1 hb;rw[e]at e';cases e';exact⟨e,f0,f1,f2,d⟩
theorem Inv.unpinned {pins pl:List (Addr×Obj)}{σ:St}{H:Hp}{s:Shared}(I:Inv X (pins++pl) σ H s):Inv X pins σ H s:=I.pins_of fun p hp=>I.pin p (j0K _ (j1s _ hp))
theorem jsr {iter:Expr}{body:List Stmt}{wi:TI}{g:TG}{tb:TS}{pos:Pos}(hp:PassesOwn (model X.prog X.w) X.A X.env X.xe)(hc:X.calm=true)(hi:PI X tg iter wi)(hg:PG X tg g)(hb:PSs X body tb)
  (hs:∀x,foldedSetIterable iter X.env x=pure x:=by intro _;rfl):PS X (.For tg iter body [] pos) (jA6 wi g tb):=by
 intro pins s σ H D I h;refine wpAny_For (thn (hi pins s σ H _ I h) fun v s1 h1=>thn h1 fun itv s2 h2=>?_) hs;obtain⟨it,fp,tn,J,H2,e,I2,T,st2,f2,W,⟨m0,w0⟩,turn⟩:=h2;subst e;have stat:∀{H':Hp},(∀b∈fp,H' b=none)->∀b∈fp,jpY X pins H' b:=fun hn b hb=>⟨hn b hb,(f2 b hb).2⟩;refine codeAny_forLoop_any (fun n s'=>∃i σ' H',Inv X pins σ' H' s'/\tn i s'.heap/\(∀b∈fp,H' b=none)/\W i n σ' H') ?_ m0 ⟨0,σ,H2,I2,st2,fun b hb=>(f2 b hb).1,w0⟩;rintro n s3 ⟨i,σ3,H3,I3,st3,fr3,w3⟩;rcases turn i n σ3 H3 w3 with⟨stop,qn⟩|⟨go,N,hN,step⟩
 ·refine wpAny_passesOwn hp (thn (T.done X rfl rfl rfl hc i pins s3 σ3 H3 X.xe I3 (stat fr3) st3 stop) fun r s4 ⟨hr,I4⟩=>?_);subst hr;exact wpAny_execs_nil ⟨σ3,H3,I4,qn⟩
 ·refine wpAny_passesOwn hp (thn (T.item X rfl rfl rfl hc i pins s3 σ3 H3 X.xe I3 (stat fr3) st3 go) fun r s4 ⟨u,hr,h4⟩=>?_);subst hr;refine wpAny_passesOwn hp (thn h4 fun _ s5 ⟨x,H5,I5,r5,y5,st5,fr5⟩=>?_);have I5':=I5.pinned (stat fr5) (T.obj _ _ st5);refine wpAny_passesOwn hp (thn (hg _ s5 σ3 H5 x u _ I5' r5 (step x H5 y5)) fun _ s6 ⟨σ6,H6,I6,q6⟩=>?_);refine wpAny_passesOwn hp (thn (hb _ s6 σ6 H6 _ I6 q6) fun f s7 q7=>?_);have again:∀{σ7:St} {H7:Hp},Inv X (pins++jjS fp s5.heap) σ7 H7 s7->N σ7 H7->∃m,m<n/\∃i σ' H',Inv X pins σ' H' s7/\tn i s7.heap/\(∀b∈fp,H' b=none)/\W i m σ' H':=fun {σ7 H7} I7 n7=>by
   obtain⟨m',hm,w7⟩:=hN σ7 H7 n7;refine⟨m',hm,i+1,σ7,H7,I7.unpinned,T.keep _ _ _ st5 fun b hb o e=>(I7.pin (b,o) (j0K _ (j0K _ (jex hb e)))).1,fun b hb=>?_,w7⟩;obtain⟨o,e,d⟩:=T.obj _ _ st5 b hb;exact(I7.pin (b,o) (j0K _ (j0K _ (jex hb e)))).2.1
  cases f with
  |next=>obtain⟨σ7,H7,I7,n7⟩:=q7;exact again I7 n7
  |cont=>obtain⟨σ7,H7,I7,n7⟩:=q7;exact again I7 n7
  |brk=>obtain⟨σ7,H7,I7,q7⟩:=q7;exact⟨σ7,H7,I7.unpinned,q7⟩
  |ret v=>obtain⟨x7,σ7,H7,I7,r7,q7⟩:=q7;exact⟨x7,σ7,H7,I7.unpinned,r7,q7⟩
end
noncomputable abbrev R2:=V->V->Hp->VK->Prop
def OpR (X:Cx)(f:Value->Value->Sem Value)(r:R2):Prop:=
 ∀(pins:List (Addr×Obj)) (s:Shared) (σ:St) (H:Hp) (x y:V) (v u:Value) (Q:VK),Inv X pins σ H s->jaN x v->jaN y u->r x y H Q ->
  wpAny (model X.prog X.w) X.A (f v u) (EP X pins σ Q) X.xe s
def UnR (X:Cx)(f:Value->Sem Value)(r:V->Hp->VK->Prop):Prop:=
 ∀(pins:List (Addr×Obj)) (s:Shared) (σ:St) (H:Hp) (x:V) (v:Value) (Q:VK),Inv X pins σ H s->jaN x v->r x H Q ->
  wpAny (model X.prog X.w) X.A (f v) (EP X pins σ Q) X.xe s
def jbx (X:Cx)(f:Value)(r:List V->Hp->VK->Prop):Prop:=
 ∀(pins:List (Addr×Obj)) (s:Shared) (σ:St) (H:Hp) (xs:List V) (us:List Value) (Q:VK),Inv X pins σ H s->jaO xs us->r xs H Q ->
  wpAny (model X.prog X.w) X.A (call f us) (EP X pins σ Q) X.xe s
def jA0 (X:Cx)(r:V->Hp->(Bool->Hp->Prop)->Prop):Prop:=
 ∀(pins:List (Addr×Obj)) (s:Shared) (σ:St) (H:Hp) (x:V) (v:Value) (Q:Bool->Hp->Prop),Inv X pins σ H s->jaN x v->r x H Q ->
  wpAny (model X.prog X.w) X.A (truthy v) (TP X pins σ Q) X.xe s
def tOp (r:R2)(ta tb:TE):TE:=fun σ H Q=>ta σ H fun x H1=>tb σ H1 fun y H2=>r x y H2 Q
def tUn (r:V->Hp->VK->Prop)(ta:TE):TE:=fun σ H Q=>ta σ H fun x H1=>r x H1 Q
def rI (C:Int->Int->Prop)(g:Int->Int->V):R2:=fun x y H Q=>∃i j,x=.int i/\y=.int j/\C i j/\Q (g i j) H
def rI0 (g:Int->Int->V):R2:=fun x y H Q=>∃i j,x=.int i/\y=.int j/\Q (g i j) H
noncomputable def rU (g:Int->V):V->Hp->VK->Prop:=fun x H Q=>∃i,x=.int i/\Q (g i) H
section
variable {X:Cx} {a b c:Expr} {ta tb tc:TE} {pos:Pos}
theorem jzv (ha:PE X a ta)(hb:PE X b tb){pins:List (Addr×Obj)}{s:Shared}{σ:St}{H:Hp}{R:V->V->Hp->Prop}(I:Inv X pins σ H s)
  (h:ta σ H fun x H1=>tb σ H1 fun y H2=>R x y H2) {Q:Value->Shared->Prop} {f:Value->Value->Sem Value}
  (hf:∀v u s2 x y H2,Inv X pins σ H2 s2->jaN x v->jaN y u->R x y H2->wpAny (model X.prog X.w) X.A (f v u) Q X.xe s2) :
  wpAny (model X.prog X.w) X.A (eval a X.env) (fun v s₁=>wpAny (model X.prog X.w) X.A (eval b X.env) (fun u s₂=>wpAny (model X.prog X.w) X.A (f v u) Q X.xe s₂) X.xe s₁) X.xe s:=by
 refine thn (ha pins s σ H _ I h) fun v s1 ⟨x,H1,I1,r1,q1⟩=>?_;refine thn (hb pins s1 σ H1 _ I1 q1) fun u s2 ⟨y,H2,I2,r2,q2⟩=>?_;exact hf v u s2 x y H2 I2 r1 r2 q2
theorem jz1 {op:Operator}{r:R2}(ho:OpR X (binaryOp op) r)(ha:PE X a ta)(hb:PE X b tb):PE X (.BinOp a op b pos) (tOp r ta tb):=by
 intro pins s σ H Q I h;exact wpAny_BinOp (jzv ha hb I h fun v u s2 x y H2 I2 rx ry q=>ho pins s2 σ H2 x y v u Q I2 rx ry q)
theorem jzm {op:UnaryOp}{r:V->Hp->VK->Prop}(ho:UnR X (unaryOp op) r)(ha:PE X a ta):PE X (.UnaryOp op a pos) (tUn r ta):=by
 intro pins s σ H Q I h;exact UnaryOp_ (thn (ha pins s σ H _ I h) fun v s1 ⟨x,H1,I1,r1,q1⟩=>ho pins s1 σ H1 x v Q I1 r1 q1)
theorem opI {f:Value->Value->Sem Value}{C:Int->Int->Prop}{g:Int->Int->Int}
  (rule:∀(i j:Int) (t u:Tok) (s:Shared) (Q:Value->Shared->Prop) (E:Value->Shared->Prop),C i j->Q (.int (g i j) s.toks) {s with toks:=s.toks+1}->wpAny (model X.prog X.w) X.A (f (.int i t) (.int j u)) Q E s) :
  OpR X f (rI C fun i j=>.int (g i j)):=by
 intro pins s σ H x y v u Q I rx ry h;obtain⟨i,j,rfl,rfl,hc,q⟩:=h;obtain⟨t,rfl⟩:=rx;obtain⟨t',rfl⟩:=ry;exact rule i j t t' s _ _ hc ⟨.int (g i j),H,I.tok _,⟨_,rfl⟩,q⟩
theorem jAu {f:Value->Value->Sem Value}{g:Int->Int->Int}
  (rule:∀(i j:Int) (t u:Tok) (s:Shared) (Q:Value->Shared->Prop) (E:Value->Shared->Prop),Q (.int (g i j) s.toks) {s with toks:=s.toks+1}->wpAny (model X.prog X.w) X.A (f (.int i t) (.int j u)) Q E s) :
  OpR X f (rI0 fun i j=>.int (g i j)):=by
 intro pins s σ H x y v u Q I rx ry h;obtain⟨i,j,rfl,rfl,q⟩:=h;obtain⟨t,rfl⟩:=rx;obtain⟨t',rfl⟩:=ry;exact rule i j t t' s _ _ ⟨.int (g i j),H,I.tok _,⟨_,rfl⟩,q⟩
theorem jy8 {f:Value->Value->Sem Value}{g:Int->Int->Bool}
  (rule:∀(i j:Int) (t u:Tok) (s:Shared) (Q:Value->Shared->Prop) (E:Value->Shared->Prop),Q (.bool (g i j)) s->wpAny (model X.prog X.w) X.A (f (.int i t) (.int j u)) Q E s) :
  OpR X f (rI0 fun i j=>.bl (g i j)):=by
 intro pins s σ H x y v u Q I rx ry h;obtain⟨i,j,rfl,rfl,q⟩:=h;obtain⟨t,rfl⟩:=rx;obtain⟨t',rfl⟩:=ry;exact rule i j t t' s _ _ ⟨.bl (g i j),H,I,rfl,q⟩
def jBh (i j:Int):Prop:=0<=j/\j<=1000000/\i.natAbs<2 ^ 64
def jyR (i j:Int):Prop:=(-(2 ^ 64)<i/\i<2 ^ 64)∨(-(2 ^ 64)<j/\j<2 ^ 64)
theorem jyR.ok {i j:Int}(h:jyR i j):IntMulOk i j:=by
 rcases h with⟨h1,h2⟩|⟨h1,h2⟩
 ·exact .of_left (intBits_le_64 h1 h2)
 ·exact .of_right (intBits_le_64 h1 h2)
theorem jxa:OpR X (binaryOp .Add) (rI0 fun i j=>.int (i+j)):=jAu fun _ _ _ _ _ _ _ q=>add_int q
theorem jxZ:OpR X (binaryOp .Sub) (rI0 fun i j=>.int (i - j)):=jAu fun _ _ _ _ _ _ _ q=>sub_int q
theorem jwp:OpR X (binaryOp .Mult) (rI jyR fun i j=>.int (i*j)):=opI fun _ _ _ _ _ _ _ hc q=>mul_int q hc.ok
theorem jxr:OpR X (binaryOp .Mod) (rI (fun _ j=>0<j) fun i j=>.int (i % j)):=opI fun i j _ _ _ _ _ hc q=>by
 have h1:(0:Int)<j:=hc;exact mod_int' (by omega) (by rw[Int.fmod_eq_emod_of_nonneg i (by omega)];exact q)
theorem jyq:OpR X (binaryOp .Pow) (rI jBh fun i j=>.int (i ^ j.toNat)):=opI fun _ _ _ _ _ _ _ hc q=>pow_int_small hc.1 hc.2.1 hc.2.2 q
theorem unI {f:Value->Sem Value}{g:Int->Int}
  (rule:∀(i:Int) (t:Tok) (s:Shared) (Q:Value->Shared->Prop) (E:Value->Shared->Prop),Q (.int (g i) s.toks) {s with toks:=s.toks+1}->wpAny (model X.prog X.w) X.A (f (.int i t)) Q E s) :
  UnR X f (rU fun i=>.int (g i)):=by
 intro pins s σ H x v Q I rx h;obtain⟨i,rfl,q⟩:=h;obtain⟨t,rfl⟩:=rx;exact rule i t s _ _ ⟨.int (g i),H,I.tok _,⟨_,rfl⟩,q⟩
theorem jxy:UnR X (unaryOp .USub) (rU fun i=>.int (-i)):=unI fun _ _ _ _ _ q=>neg_int q
end
noncomputable def jy5:V->V->Bool
 |.non,.non=>true|.non,.int _=>true|.int _,.non=>true|.non,.bl _=>true|.bl _,.non=>true|.non,.str _=>true|.str _,.non=>true
 |.int _,.int _=>true|.bl _,.bl _=>true|.str _,.str _=>true|.byt _,.byt _=>true
 |.int _,.str _=>true|.str _,.int _=>true|.bl _,.str _=>true|.str _,.bl _=>true
 |_,_=>false
def rEq:R2:=fun x y H Q=>jy5 x y=true/\Q (.bl (decide (x=y))) H
def rNe:R2:=fun x y H Q=>jy5 x y=true/\Q (.bl (!decide (x=y))) H
theorem joe {i j:Int}:decide (V.int i=V.int j)=(i==j):=by
 rw[j0T];simp
theorem jsF {i j:Bool}:decide (V.bl i=V.bl j)=(i==j):=by
 rw[j0T];simp
theorem jpx {i j:Str}:decide (V.str i=V.str j)=(i==j):=by
 rw[j0T];simp
theorem jpg {i j:Array UInt8}:decide (V.byt i=V.byt j)=(i.toList==j.toList):=by
 rw[j0T];cases i;cases j;simp
section
variable {X:Cx} {a b c:Expr} {ta tb tc:TE} {pos:Pos}
theorem jaD {pins:List (Addr×Obj)}{σ:St}{H:Hp}{s:Shared}{Q:VK}{k k':Bool}(I:Inv X pins σ H s)(q:Q (.bl k) H)(e:k=k'):EP X pins σ Q (.bool k') s:=by
 subst e;exact⟨.bl k,H,I,rfl,q⟩
theorem jzB:OpR X (compareOp .Eq) rEq:=by
 intro pins s σ H x y v u Q I rx ry h;obtain⟨hs,q⟩:=h
 cases x with
 |non=>
  cases rx
  cases y with
  |non=>cases ry;exact PySem.EqNone.eq_none_none (jaD I q (by simp))
  |bl j=>cases ry;exact PySem.EqNone.eq_none_bool (jaD I q (by simp))
  |int j=>obtain⟨t',rfl⟩:=ry;exact PySem.EqNone.eq_none_int (jaD I q (by simp))
  |str j=>obtain⟨t',rfl⟩:=ry;exact PySem.EqNone.eq_none_str (jaD I q (by simp))
  |_=>exact absurd (show false=true from hs) j0i
 |bl i=>
  cases rx
  cases y with
  |non=>cases ry;exact PySem.EqNone.eq_bool_none (jaD I q (by simp))
  |bl j=>cases ry;exact eq_bool (jaD I q jsF)
  |str j=>obtain⟨t',rfl⟩:=ry;exact PySem.EqMixed.eq_bool_str (jaD I q (by simp))
  |_=>exact absurd (show false=true from hs) j0i
 |int i=>
  obtain⟨t,rfl⟩:=rx
  cases y with
  |non=>cases ry;exact PySem.EqNone.eq_int_none (jaD I q (by simp))
  |int j=>obtain⟨t',rfl⟩:=ry;exact eq_int (jaD I q joe)
  |str j=>obtain⟨t',rfl⟩:=ry;exact PySem.EqMixed.eq_int_str (jaD I q (by simp))
  |_=>exact absurd (show false=true from hs) j0i
 |str i=>
  obtain⟨t,rfl⟩:=rx
  cases y with
  |non=>cases ry;exact PySem.EqNone.eq_str_none (jaD I q (by simp))
  |bl j=>cases ry;exact PySem.EqMixed.eq_str_bool (jaD I q (by simp))
  |int j=>obtain⟨t',rfl⟩:=ry;exact PySem.EqMixed.eq_str_int (jaD I q (by simp))
  |str j=>obtain⟨t',rfl⟩:=ry;exact eq_str (jaD I q jpx)
  |_=>exact absurd (show false=true from hs) j0i
 |byt i=>
  obtain⟨t,rfl⟩:=rx
  cases y with
  |byt j=>obtain⟨t',rfl⟩:=ry;exact PySem.W.eq_bytes (jaD I q jpg)
  |_=>exact absurd (show false=true from hs) j0i
 |_=>cases y<;>exact absurd (show false=true from hs) j0i
theorem jzQ:OpR X (compareOp .NotEq) rNe:=by
 intro pins s σ H x y v u Q I rx ry h;obtain⟨hs,q⟩:=h
 cases x with
 |non=>
  cases rx
  cases y with
  |non=>cases ry;exact PySem.EqNone.ne_none_none (jaD I q (by simp))
  |bl j=>cases ry;exact PySem.EqNone.ne_none_bool (jaD I q (by simp))
  |int j=>obtain⟨t',rfl⟩:=ry;exact PySem.EqNone.ne_none_int (jaD I q (by simp))
  |str j=>obtain⟨t',rfl⟩:=ry;exact PySem.EqNone.ne_none_str (jaD I q (by simp))
  |_=>exact absurd (show false=true from hs) j0i
 |bl i=>
  cases rx
  cases y with
  |non=>cases ry;exact PySem.EqNone.ne_bool_none (jaD I q (by simp))
  |bl j=>cases ry;exact ne_bool (jaD I q (congrArg not jsF))
  |str j=>obtain⟨t',rfl⟩:=ry;exact PySem.EqMixed.ne_bool_str (jaD I q (by simp))
  |_=>exact absurd (show false=true from hs) j0i
 |int i=>
  obtain⟨t,rfl⟩:=rx
  cases y with
  |non=>cases ry;exact PySem.EqNone.ne_int_none (jaD I q (by simp))
  |int j=>obtain⟨t',rfl⟩:=ry;exact ne_int (jaD I q (congrArg not joe))
  |str j=>obtain⟨t',rfl⟩:=ry;exact PySem.EqMixed.ne_int_str (jaD I q (by simp))
  |_=>exact absurd (show false=true from hs) j0i
 |str i=>
  obtain⟨t,rfl⟩:=rx
  cases y with
  |non=>cases ry;exact PySem.EqNone.ne_str_none (jaD I q (by simp))
  |bl j=>cases ry;exact PySem.EqMixed.ne_str_bool (jaD I q (by simp))
  |int j=>obtain⟨t',rfl⟩:=ry;exact PySem.EqMixed.ne_str_int (jaD I q (by simp))
  |str j=>obtain⟨t',rfl⟩:=ry;exact ne_str (jaD I q (congrArg not jpx))
  |_=>exact absurd (show false=true from hs) j0i
 |byt i=>
  obtain⟨t,rfl⟩:=rx
  cases y with
  |byt j=>obtain⟨t',rfl⟩:=ry;exact PySem.W.ne_bytes (jaD I q (congrArg not jpg))
  |_=>exact absurd (show false=true from hs) j0i
 |_=>cases y<;>exact absurd (show false=true from hs) j0i
theorem jAl:OpR X (compareOp .Lt) (rI0 fun i j=>.bl (decide (i<j))):=jy8 fun _ _ _ _ _ _ _ q=>lt_int q
theorem jzN:OpR X (compareOp .LtE) (rI0 fun i j=>.bl (decide (i<=j))):=jy8 fun _ _ _ _ _ _ _ q=>le_int q
theorem jA:OpR X (compareOp .Gt) (rI0 fun i j=>.bl (decide (j<i))):=jy8 fun _ _ _ _ _ _ _ q=>gt_int q
theorem jz5:OpR X (compareOp .GtE) (rI0 fun i j=>.bl (decide (j<=i))):=jy8 fun _ _ _ _ _ _ _ q=>ge_int q
theorem joC:OpR X (compareOp .Lt) (fun x y H Q=>∃i j,x=.str i/\y=.str j/\Q (.bl (decide (i.cps.toList<j.cps.toList))) H):=by
 intro pins s σ H x y v u Q I rx ry h;obtain⟨i,j,rfl,rfl,q⟩:=h;obtain⟨t,rfl⟩:=rx;obtain⟨t',rfl⟩:=ry;exact lt_str (jaD I q rfl)
theorem OpR.or {f:Value->Value->Sem Value}{r r':R2}(h:OpR X f r)(h':OpR X f r'):OpR X f (fun x y H Q=>r x y H Q∨r' x y H Q):=by
 intro pins s σ H x y v u Q I rx ry q;rcases q with q|q
 ·exact h pins s σ H x y v u Q I rx ry q
 ·exact h' pins s σ H x y v u Q I rx ry q
theorem jvx {op:CmpOp}{r:R2}(ho:OpR X (compareOp op) r)(ha:PE X a ta)(hb:PE X b tb)(hm:behindInMarks op b=false):PE X (.Compare a [op] [b] pos) (tOp r ta tb):=by
 intro pins s σ H Q I h;exact wpAny_Compare1 (jzv ha hb I h fun v u s2 x y H2 I2 rx ry q=>ho pins s2 σ H2 x y v u Q I2 rx ry q) hm
def jp2 (t:TE):TT:=fun σ H Q=>t σ H fun x H'=>∃k,x=.bl k/\Q k H'
theorem jvc {op:CmpOp}{r:R2}(ho:OpR X (compareOp op) r)(ha:PE X a ta)(hb:PE X b tb)(hm:behindInMarks op b=false):PT X (.Compare a [op] [b] pos) (jp2 (tOp r ta tb)):=by
 intro pins s σ H Q I h;refine wpAny_isTrue_Compare1 (thn (ha pins s σ H _ I h) fun v s1 ⟨x,H1,I1,r1,q1⟩=>thn (hb pins s1 σ H1 _ I1 q1) fun u s2 ⟨y,H2,I2,r2,q2⟩=>
  thn (ho pins s2 σ H2 x y v u _ I2 r1 r2 q2) fun c s3 ⟨z,H3,I3,r3,k,e,q3⟩=>?_) hm
 subst e;cases r3;exact wpAny_truthy_bool ⟨H3,I3,q3⟩
def jjO (r r':R2)(ta tb tc:TE):TE:=fun σ H Q=>ta σ H fun x H1=>tb σ H1 fun y H2=>r x y H2 fun z H3=>∃k,z=.bl k /\
 (if k=true then tc σ H3 fun w' H4=>r' y w' H4 Q else Q (.bl false) H3)
theorem jqW {op op':CmpOp}{r r':R2}(ho:OpR X (compareOp op) r)(ho':OpR X (compareOp op') r')(ha:PE X a ta)(hb:PE X b tb)(hc:PE X c tc)
  (hm:lastMarks [op,op'] [b,c]=false:=by with_unfolding_all rfl):PE X (.Compare a [op,op'] [b,c] pos) (jjO r r' ta tb tc):=by
 intro pins s σ H Q I h;refine Compare_chain (thn (ha pins s σ H _ I h) fun v s1 ⟨x,H1,I1,r1,q1⟩=>chain_link (thn (hb pins s1 σ H1 _ I1 q1) fun u s2 ⟨y,H2,I2,r2,q2⟩=>
  thn (ho pins s2 σ H2 x y v u _ I2 r1 r2 q2) fun d s3 ⟨z,H3,I3,r3,k,e,q3⟩=>?_)) hm
 subst e;cases r3;refine wpAny_truthy_bool ?_
 cases k with
 |false=>exact ite_ff ⟨.bl false,H3,I3,rfl,q3⟩
 |true=>exact ite_tt (chain_last (thn (hc pins s3 σ H3 _ I3 q3) fun w' s4 ⟨z',H4,I4,r4,q4⟩=>ho' pins s4 σ H4 y z' u w' Q I4 r2 r4 q4))
theorem jqC {op op':CmpOp}{r r':R2}(ho:OpR X (compareOp op) r)(ho':OpR X (compareOp op') r')(ha:PE X a ta)(hb:PE X b tb)(hc:PE X c tc)
  (hm:lastMarks [op,op'] [b,c]=false:=by with_unfolding_all rfl):PT X (.Compare a [op,op'] [b,c] pos) (jp2 (jjO r r' ta tb tc)):=by
 intro pins s σ H Q I h;refine isTrue_chain (thn (ha pins s σ H _ I h) fun v s1 ⟨x,H1,I1,r1,q1⟩=>test_link (thn (hb pins s1 σ H1 _ I1 q1) fun u s2 ⟨y,H2,I2,r2,q2⟩=>
  thn (ho pins s2 σ H2 x y v u _ I2 r1 r2 q2) fun d s3 ⟨z,H3,I3,r3,k,e,q3⟩=>?_)) hm
 subst e;cases r3;refine wpAny_truthy_bool ?_
 cases k with
 |false=>
  obtain⟨k',e',q'⟩:=q3;cases e';exact ite_ff ⟨H3,I3,q'⟩
 |true=>
  refine ite_tt (test_last (thn (hc pins s3 σ H3 _ I3 q3) fun w' s4 ⟨z',H4,I4,r4,q4⟩=>thn (ho' pins s4 σ H4 y z' u w' _ I4 r2 r4 q4) fun d' s5 ⟨z2,H5,I5,r5,k2,e2,q5⟩=>?_));subst e2;cases r5;exact wpAny_truthy_bool ⟨H5,I5,q5⟩
def jw4 (K:PySem.W.Frag)(x:V)(H:Hp)(k:Bool):Prop:=
 match x with
 |.non=>k=false
 |.bl b=>k=b
 |.int i=>k=(i !=0)
 |.str y=>y.length<=sizeLine/\k=((y.length:Int) !=0)
 |.byt y=>y.size<=sizeLine/\k=((y.size:Int) !=0)
 |.ref p=>(∃xs,SqL K H p xs/\k =!xs.isEmpty)∨(∃xs,SqT K H p xs/\k =!xs.isEmpty)∨∃kvs,H p=some (.dK kvs)/\k =!kvs.isEmpty
 |_=>False
theorem jnu {κ:Type}{kvs:List (κ×V)}{vs:List (κ×Value)}(r:KV kvs vs):(!vs.isEmpty) =!kvs.isEmpty:=by
 cases r<;>rfl
theorem jhY {xs:List V}{its:List Value}(r:jaO xs its):(!its.toArray.isEmpty) =!xs.isEmpty:=by
 cases r<;>simp
theorem jh1:(sizeLine:Nat)<2 ^ 63:=by rw[sizeLine_eq];decide
theorem jwo:jA0 X (fun x H Q=>∃k,jw4 X.K x H k/\Q k H):=by
 intro pins s σ H x v Q I rx h;obtain⟨k,e,q⟩:=h;have hl:=jh1;have hs:sizeLine=16777216:=sizeLine_eq
 cases x with
 |non=>
  cases rx;have e':k=false:=e;subst e';exact truthy_none ⟨H,I,q⟩
 |bl b=>
  cases rx;have e':k=b:=e;subst e';exact wpAny_truthy_bool ⟨H,I,q⟩
 |int i=>
  obtain⟨t,rfl⟩:=rx;have e':k=(i !=0):=e;subst e';exact PySem.P.truthy_int ⟨H,I,q⟩
 |str y=>
  obtain⟨t,rfl⟩:=rx;obtain⟨hy,e'⟩:y.length<=sizeLine/\k=((y.length:Int) !=0):=e;subst e';exact PySem.P.truthy_str (by omega) ⟨H,I.tok _,q⟩
 |byt y=>
  obtain⟨t,rfl⟩:=rx;obtain⟨hy,e'⟩:y.size<=sizeLine/\k=((y.size:Int) !=0):=e;subst e';exact PySem.W.truthy_bytes (by omega) ⟨H,I.tok _,q⟩
 |ref p=>
  cases rx;have e':(∃xs,SqL X.K H p xs/\k =!xs.isEmpty)∨(∃xs,SqT X.K H p xs/\k =!xs.isEmpty)∨∃kvs,H p=some (.dK kvs)/\k =!kvs.isEmpty:=e;rcases e' with⟨xs,hx,e'⟩|⟨xs,hx,e'⟩|⟨kvs,hx,e'⟩
  ·subst e';obtain⟨its,r,pl,hz⟩:=I.list hx;have hlen:=r.length;exact wpAny_truthy_list pl.isList (by simp only[j0j];omega) ⟨H,I.tok _,by rw[jhY r];exact q⟩
  ·subst e';obtain⟨its,r,pl,hz⟩:=I.tuple hx;have hlen:=r.length;exact truthy_tuple pl (by simp only[j0j];omega) ⟨H,I.tok _,by rw[jhY r];exact q⟩
  ·subst e';obtain⟨hz,hS,vs,r,m⟩:kvs.length<=sizeLine/\(p==sysModules)=false/\∃vs,KV kvs vs/\s.heap.DictOf (jan X.prog X.w) p vs:=I.hok p _ hx;have hlen:kvs.length=vs.length:=Paired.length r;exact wpAny_truthy_dict hS m (by omega) ⟨H,I.tok _,by rw[jnu r];exact q⟩
 |_=>exact(show False from e).elim
theorem jr6 (ha:PE X a ta)(he:∀whole,isTrue a X.env whole=(do let v <- whole;standAt a.pos;holding [v] (truthy v))) :
  PT X a (fun σ H Q=>ta σ H fun x H'=>∃k,jw4 X.K x H' k/\Q k H'):=by
 intro pins s σ H Q I h;exact isTrue_plain (thn (ha pins s σ H _ I h) fun v s1 ⟨x,H1,I1,r1,q1⟩=>jwo pins s1 σ H1 x v Q I1 r1 q1) (he _)
theorem jm0:OpR X (binaryOp .Add) (fun x y H Q=>∃i j,x=.str i/\y=.str j/\i.length+j.length<=sizeLine/\Q (.str (i++j)) H):=by
 intro pins s σ H x y v u Q I rx ry h;obtain⟨i,j,rfl,rfl,hz,q⟩:=h;obtain⟨t,rfl⟩:=rx;obtain⟨t',rfl⟩:=ry;exact add_str (fun t' tk=>⟨.str (i++j),H,I.tok _,⟨_,rfl⟩,q⟩) hz
theorem jkc {x:V}{us:List Value}(r:jaO [x] us):∃u,us=[u]/\jaN x u:=by
 cases r with
 |cons r1 r2=>cases r2;exact⟨_,rfl,r1⟩
theorem joZ {x y:V}{us:List Value}(r:jaO [x,y] us):∃u w',us=[u,w']/\jaN x u/\jaN y w':=by
 cases r with
 |cons r1 r2=>
  cases r2 with
  |cons r3 r4=>cases r4;exact⟨_,_,rfl,r1,r3⟩
theorem jop (hc:X.calm=true):jbx X (.builtin "max") (fun xs H Q=>∃i j,xs=[.int i,.int j]/\Q (.int (if j > i then j else i)) H):=by
 intro pins s σ H xs us Q I r h;obtain⟨i,j,rfl,q⟩:=h;obtain⟨u,w',rfl,⟨t,rfl⟩,⟨t',rfl⟩⟩:=joZ r;refine max_two_ints (I.ok.hd hc) fun h' tk k=>⟨_,H,I.kept k,?_,q⟩;by_cases hj:j > i
 ·rw[if_pos hj,if_pos hj];exact⟨_,rfl⟩
 ·rw[if_neg hj,if_neg hj];exact⟨_,rfl⟩
theorem jpz (hc:X.calm=true):jbx X (.builtin "min") (fun xs H Q=>∃i j,xs=[.int i,.int j]/\Q (.int (if j<i then j else i)) H):=by
 intro pins s σ H xs us Q I r h;obtain⟨i,j,rfl,q⟩:=h;obtain⟨u,w',rfl,⟨t,rfl⟩,⟨t',rfl⟩⟩:=joZ r;refine min_two_ints (I.ok.hd hc) fun h' tk k=>⟨_,H,I.kept k,?_,q⟩;by_cases hj:j<i
 ·rw[if_pos hj,if_pos hj];exact⟨_,rfl⟩
 ·rw[if_neg hj,if_neg hj];exact⟨_,rfl⟩
end
structure ObjM (h:Heap) (x dx C:Addr) (mA:Str->Option Value):Prop where
 obj:h.get? x=some (PySem.W.instObj C dx)
 ns:h.Ns1 dx mA
 ne:dx≠x
theorem joI {h:Heap}{dx:Addr}{mA:Str->Option Value}(n:h.Ns1 dx mA):∃od,h.get? dx=some od/\∀name,PySem.W.lookIn name od=some (mA name):=by
 obtain⟨o,es,ep,ho,hd,hk,_,hm⟩:=n;refine⟨o,ho,fun name=>?_⟩;have e:=hm name;unfold nsFind findBy at e;rw[<- Array.find?_toList]at e;unfold PySem.W.lookIn;rw[hd];dsimp only;split
 ·rename_i y q;rw[q]at e;exact congrArg some e
 ·rename_i q;rw[q]at e;have a:es.toList.any (·.refKey)=false:=by
   rw[List.any_eq_false];intro y hy;obtain⟨z,t,hkey⟩:=hk y (Array.mem_toList_iff.mp hy);simp[DictEntry.refKey,hkey]
  have a':¬ es.toList.any (·.refKey)=true:=by rw[a];exact j0i
  rw[if_neg a'];exact congrArg some e
theorem ObjM.look {h:Heap}{x dx C:Addr}{mA:Str->Option Value}(I:ObjM h x dx C mA):∃od,PySem.W.InstAt h x (PySem.W.instObj C dx) C (some od)/\∀name,PySem.W.lookIn name od=some (mA name):=
 let⟨od,ho,hl⟩:=joI I.ns
 ⟨od,⟨I.obj,rfl,rfl,ho⟩,hl⟩
section
variable {prog:Program} {w:World} {A:Around} {E:Value->Shared->Prop} {s:Shared} {K:PySem.W.Frag} {x dx C f:Addr} {mA:Str->Option Value} {name:Str} {v:Value}
theorem js4 {expr:Bool}{Q:Value->Shared->Prop}(X:K.In s.heap)(I:ObjM s.heap x dx C mA)(hg:PySem.W.plainGet K C name=true)(hh:PySem.W.hasDictIn K C=true)
  (ha:PySem.W.findIn K (.ref C) name=some none) (hv:mA name=some v) (hv':PySem.W.handedIn v=true) (h:Q v {s with toks:=s.toks+1}) :
  wpAny (model prog w) A (getAttr (.ref x) name expr) Q E s:=by
 obtain⟨od,J,hl⟩:=I.look;exact PySem.W.get_value X J (PySem.W.plainGet_of hg).1 (PySem.W.findObj_own hh ha rfl (by rw[hl,hv])) hv' h
theorem jul {ns:List Str}{Q:Unit->Shared->Prop}(X:K.In s.heap)(I:ObjM s.heap x dx C mA)
  (hs:PySem.W.findIn K (.ref C) "__setattr__" =some (some (.builtin "object.__setattr__"))) (hp:PySem.W.plainOver K C=true) (ht:PySem.W.takerIn K C name=some none) (hh:PySem.W.hasDictIn K C=true)
  (hw:PySem.Within mA ns) (hsz:ns.length<=sizeLine)
  (h:∀h',ObjM h' x dx C (fun y=>if y=name then some v else mA y)->Heap.SameBut dx s.heap h'->Q () {s with heap:=h',toks:=s.toks+2}) :
  wpAny (model prog w) A (setAttr (.ref x) name v) Q E s:=by
 obtain⟨od,J,hl⟩:=I.look;refine PySem.W.set_plain X J hs (PySem.W.osa_open (s:={s with toks:=s.toks+1}) (r:=none) X J hp ht fun b=>?_);obtain⟨cd,hc,hd'⟩:=PySem.W.any_some hh;have hx:s.heap.get? x=some ⟨.ref C,some dx,.plain,#[]⟩:=I.obj;refine wpAny_bind (wpAny_pure (wpAny_bind (wpAny_bind (wpAny_loadPart hx (wpAny_bind (PySem.W.Looks.here (s:={s with toks:=s.toks+1}) (PySem.W.looks_clsIn X hc) ?_))))));rw[hd'];refine wpAny_pure (a:=some dx) (wpAny_bind (wpAny_pure (wpAny_bind ?_)));refine wpAny_nsSet1 (s:={s with toks:=s.toks+1}) I.ns fun h' hn2 hs2=>?_;obtain⟨oD,esD,epD,hoD,hdD,hcD⟩:=hn2.count (PySem.Within.cons name v hw);refine wpAny_bind (wpAny_lookBehind hoD (by rw[hdD];exact pastItsLine_dict (j0I hcD (by rw[j0q];omega))) ?_);exact wpAny_pure (h _ ⟨(hs2.2 _ (Ne.symm I.ne)).trans I.obj,hn2,I.ne⟩ hs2)
theorem jmi {R:Result->Shared->Prop}{vs:List Value}{kw:List (Str×Value)}(X:K.In s.heap)(hm:PySem.W.makesIn K C=true)
  (hi:PySem.W.findIn K (.ref C) "__init__" =some (some (.ref f))) (hf:PySem.W.typeIn K (.ref f)=some (.type "function"))
  (h:codeAny (model prog w) (A.under (.builtin "type.__call__" ⟨.ref C::vs,kw⟩)) (.call (.ref f) ⟨.ref (s.heap.objs.size+1)::vs,kw⟩) (PySem.W.InitBack (s.heap.objs.size+1) R)
   {s with heap:=(s.heap.push PySem.W.emptyDict).push (PySem.W.instObj C s.heap.objs.size)}) :
  codeAny (model prog w) A (.call (.ref C) ⟨vs,kw⟩) R s:=by
 obtain⟨hh,g,d,t,os⟩:=s;exact PySem.W.make_core (PySem.W.makes_of X hm) (PySem.W.looks_findIn X hi) (fun self=>PySem.W.bind_fn X self hf) (.inl rfl) h
end
noncomputable def jjf (f:Str)(v:V):List (Str×V)->List (Str×V)
 |[]=>[(f,v)]
 |(g,x)::r=>if g=f then(g,v)::r else(g,x)::jjf f v r
theorem jhg (f g:Str)(v:V):∀fs:List (Str×V),(jjf f v fs).lookup g=if g=f then some v else fs.lookup g
 |[]=>by
  show List.lookup g [(f,v)]=_;by_cases h:g=f
  ·have hb:(g==f)=true:=beq_iff_eq.mpr h;simp only[List.lookup,hb,if_pos h]
  ·have hb:(g==f)=false:=beq_eq_false_iff_ne.mpr h;simp only[List.lookup,hb,if_neg h]
 |(k,x)::r=>by
  have ih:=jhg f g v r;rw[show jjf f v ((k,x)::r)=(if k=f then(k,v)::r else(k,x)::jjf f v r)from rfl];by_cases hk:k=f
  ·rw[if_pos hk];by_cases h:g=k
   ·have hb:(g==k)=true:=beq_iff_eq.mpr h;simp only[List.lookup,hb,if_pos (h.trans hk)]
   ·have hb:(g==k)=false:=beq_eq_false_iff_ne.mpr h;simp only[List.lookup,hb,if_neg (fun e:g=f=>h (e.trans hk.symm))]
  ·rw[if_neg hk];by_cases h:g=k
   ·have hb:(g==k)=true:=beq_iff_eq.mpr h;simp only[List.lookup,hb,if_neg (fun e:g=f=>hk (h.symm.trans e))]
   ·have hb:(g==k)=false:=beq_eq_false_iff_ne.mpr h;simp only[List.lookup,hb];exact ih
theorem jgU (f:Str)(v:V):∀fs:List (Str×V),f∈(jjf f v fs).map (·.1)/\∀g,g∈fs.map (·.1)->g∈(jjf f v fs).map (·.1)
 |[]=>⟨by simp[jjf],fun g h=>by simp at h⟩
 |(k,x)::r=>by
  obtain⟨i1,i2⟩:=jgU f v r;rw[show jjf f v ((k,x)::r)=(if k=f then(k,v)::r else(k,x)::jjf f v r)from rfl];by_cases hk:k=f
  ·rw[if_pos hk];subst hk;exact⟨by simp,fun g h=>by simpa using h⟩
  ·rw[if_neg hk];refine⟨?_,fun g h=>?_⟩
   ·rw[j0k];exact j0s _ i1
   ·rw[j0k]at h ⊢;rcases j0d.mp h with e|e
    ·exact j0d.mpr (.inl e)
    ·exact j0s _ (i2 g e)
theorem jhd (f:Str)(v:V):∀fs:List (Str×V),(jjf f v fs).length<=fs.length+1
 |[]=>by simp[jjf]
 |(k,x)::r=>by
  have ih:=jhd f v r;rw[show jjf f v ((k,x)::r)=(if k=f then(k,v)::r else(k,x)::jjf f v r)from rfl];by_cases hk:k=f
  ·rw[if_pos hk,j0q,j0q];omega
  ·rw[if_neg hk,j0q,j0q];omega
theorem jjB.some_of {v:V}{o:Option Value}(r:jjB (some v) o):∃u,o=some u/\jaN v u:=by
 cases o with
 |none=>exact(show False from r).elim
 |some u=>exact⟨u,rfl,r⟩
theorem jnV {v:V}{u:Value}(r:jaN v u):PySem.W.handedIn u=true:=by
 cases v with
 |non=>cases(show u=Value.none from r);rfl
 |bl b=>cases(show u=Value.bool b from r);rfl
 |int i=>obtain⟨t,e⟩:=(show ∃t,u=Value.int i t from r);cases e;rfl
 |str x=>obtain⟨t,e⟩:=(show ∃t,u=Value.str x t from r);cases e;rfl
 |byt b=>obtain⟨t,e⟩:=(show ∃t,u=Value.bytes b t from r);cases e;rfl
 |flt b=>obtain⟨t,e⟩:=(show ∃t,u=Value.float b t from r);cases e;rfl
 |ref a=>cases(show u=Value.ref a from r);rfl
 |ty n=>cases(show u=Value.type n from r);rfl
section
variable {P:Program} {w:World} {H H':Hp} {h h':Heap} {a C dx:Addr} {fs fs':List (Str×V)}
theorem jkG (hok:HOk P w H h)(e:H a=some (.ins C dx fs)):∃mA,ObjM h a dx C mA/\(∀f,jjB (fs.lookup f) (mA f))/\PySem.Within mA (fs.map (·.1))/\fs.length<=1000/\H dx=some (.own a):=by
 obtain⟨d,z,ne,ob,mA,n,r,q⟩:=(show jbL P w H h a (.ins C dx fs)from hok a _ e);exact⟨mA,⟨ob,n,ne⟩,r,q,z,d⟩
end
structure Cls (K:PySem.W.Frag) (C:Addr):Prop where
 pg:PySem.W.plainGet K C Str.empty=true
 hd:PySem.W.hasDictIn K C=true
 po:PySem.W.plainOver K C=true
 sa:PySem.W.findIn K (.ref C) "__setattr__" =some (some (.builtin "object.__setattr__"))
theorem Cls.get {K:PySem.W.Frag}{C:Addr}(c:Cls K C)(f:Str):PySem.W.plainGet K C f=true:=c.pg
def jeJ (K:PySem.W.Frag)(C:Addr)(f:Str):Prop:=PySem.W.findIn K (.ref C) f=some none
theorem jeJ.taker {K:PySem.W.Frag}{C:Addr}{f:Str}(n:jeJ K C f):PySem.W.takerIn K C f=some none:=by
 unfold PySem.W.takerIn;rw[show PySem.W.findIn K (.ref C) f=some none from n];rfl
structure Con (K:PySem.W.Frag) (C:Addr) (f:Str) (v:V) (u:Value):Prop where
 at_:PySem.W.findIn K (.ref C) f=some (some u)
 rel:jaN v u
 get:PySem.W.specialIn K u "__get__" =some none
 cp:PySem.W.copiedNames.contains f=false
structure Meth (K:PySem.W.Frag) (C:Addr) (m:Str) (f:Addr):Prop where
 at_:PySem.W.findIn K (.ref C) m=some (some (.ref f))
 fn:PySem.W.isFn K (.ref f)=true
 kp:PySem.W.keepIn K (.ref f)=true
section
variable {X:Cx} {pins:List (Addr×Obj)} {σ:St} {H:Hp} {s:Shared} {a C dx:Addr} {fs:List (Str×V)} {f:Str} {v:V} {A:Around} {E:Value->Shared->Prop}
theorem jnf {b:Bool}{Q:Value->Shared->Prop}(I:Inv X pins σ H s)(e:H a=some (.ins C dx fs))(c:Cls X.K C)(n:jeJ X.K C f)(l:fs.lookup f=some v)
  (h:∀u s',Inv X pins σ H s'->jaN v u->Q u s'):wpAny (model X.prog X.w) A (getAttr (.ref a) f b) Q E s:=by
 obtain⟨mA,O,r,_,_,_⟩:=jkG I.hok e;obtain⟨u,hu,ru⟩:=jjB.some_of (v:=v) (o:=mA f) (by rw[<- l];exact r f);exact js4 I.kIn O (c.get f) c.hd n hu (jnV ru) (h u _ (I.tok _) ru)
theorem jmK {y:V}{u:Value}{Q:Unit->Shared->Prop}(I:Inv X pins σ H s)(e:H a=some (.ins C dx fs))(c:Cls X.K C)(n:jeJ X.K C f)(hl:fs.length<1000)(ry:jaN y u)
  (h:∀s',Inv X pins σ (upd H a (.ins C dx (jjf f y fs))) s'->Q () s'):wpAny (model X.prog X.w) A (setAttr (.ref a) f u) Q E s:=by
 obtain⟨mA,O,r,wi,_,ho⟩:=jkG I.hok e;have hz:(fs.map (·.1)).length<=sizeLine:=by rw[j0f,sizeLine_eq];omega
 refine jul I.kIn O c.sa c.po n.taker c.hd wi hz fun h' O' sb=>h _ ?_;have hd:∃o,h'.get? dx=some o:=let⟨o,_,_,e',_⟩:=O'.ns;⟨o,e'⟩;refine I.write (x:=a) (e:=dx) (by rw[e];exact True.intro) (.inr ho) (fun b q hb z=>(sb.2 b hb).trans z) hd ?_;refine⟨by rw[jap O.ne];exact ho,?_,O.ne,O'.obj,_,O'.ns,fun g=>?_,fun g hg=>?_⟩
 ·have:=jhd f y fs;omega
 ·show jjB ((jjf f y fs).lookup g) (if g=f then some u else mA g);rw[jhg];by_cases q:g=f
  ·rw[if_pos q,if_pos q];exact ry
  ·rw[if_neg q,if_neg q];exact r g
 ·by_cases q:g=f
  ·rw[q];exact(jgU f y fs).1
  ·refine(jgU f y fs).2 g (wi g fun z=>hg ?_);show(if g=f then some u else mA g)=none;rw[if_neg q];exact z
theorem Inv.made (I:Inv X pins σ H s):Inv X pins σ (upd (upd H s.heap.objs.size (.own (s.heap.objs.size+1))) (s.heap.objs.size+1) (.ins C s.heap.objs.size []))
  {s with heap:=(s.heap.push PySem.W.emptyDict).push (PySem.W.instObj C s.heap.objs.size)}:=by
 have e1:(s.heap.push PySem.W.emptyDict).get? s.heap.objs.size=some PySem.W.emptyDict:=j0n s.heap rfl;have e2:((s.heap.push PySem.W.emptyDict).push (PySem.W.instObj C s.heap.objs.size)).get? (s.heap.objs.size+1)=some (PySem.W.instObj C s.heap.objs.size):=by
  have:=j0n (s.heap.push PySem.W.emptyDict) (o:=PySem.W.instObj C s.heap.objs.size) rfl;rwa [Heap.size_push]at this
 have e3:(s.heap.push PySem.W.emptyDict).Ns s.heap.objs.size (fun _=>none):=⟨PySem.W.emptyDict,#[],_,e1,rfl,(fun e he=>absurd he (by simp)),fun _=>rfl⟩;have I1:=I.laid (a:=s.heap.objs.size) (o:=.own (s.heap.objs.size+1)) (h':=s.heap.push PySem.W.emptyDict) (t':=s.toks) (fun b u q=>j0c _ q) (j0l _) ⟨_,e1⟩;refine I1.laid (a:=s.heap.objs.size+1) (o:=.ins C s.heap.objs.size []) (t':=s.toks) (fun b u q=>j0c _ q) (j1j (Heap.size_push _ _)) ?_;have ne:s.heap.objs.size≠s.heap.objs.size+1:=j0m (j0W _);refine⟨by rw[jap ne,jaz],j1r _,ne,e2,fun _=>none,(Heap.Ns1.of_empty e3).at fun o q=>j0c _ q,fun _=>True.intro,fun y hy=>absurd rfl hy⟩
theorem js1 {prog:Program}{w:World}{env:Env}{e:Expr}{f:Str}{pos:Pos}{s:Shared}{Q:Value->Shared->Prop}(hb:attributeBase e f env (eval e env)=eval e env)
  (h:wpAny (model prog w) A (eval e env) (fun o s₁=>wpAny (model prog w) A (getAttr o f true) Q E s₁) E s):wpAny (model prog w) A (eval (.Attribute e f pos) env) Q E s:=
 Attribute_any_ h (by rw[arm_eval_Attribute,hb])
end
def jBr (K:PySem.W.Frag)(ta:TE)(f:Str):TE:=fun σ H Q=>ta σ H fun x H1=>∃a C dx fs v,x=.ref a/\H1 a=some (.ins C dx fs)/\Cls K C/\jeJ K C f/\fs.lookup f=some v/\Q v H1
def jA4 (K:PySem.W.Frag)(ta tv:TE)(f:Str):TS:=fun D σ H=>tv σ H fun y H1=>ta σ H1 fun x H2=>∃a C dx fs,x=.ref a/\H2 a=some (.ins C dx fs)/\Cls K C/\jeJ K C f/\fs.length<1000 /\
 D.nx σ (upd H2 a (.ins C dx (jjf f y fs)))
section
variable {X:Cx} {o e value:Expr} {f:Str} {pos pos' tpos:Pos} {ta tv:TE}
theorem jxR (he:PE X e ta)(hb:attributeBase e f X.env (eval e X.env)=eval e X.env):PE X (.Attribute e f pos) (jBr X.K ta f):=by
 intro pins s σ H Q I h;refine js1 hb (thn (he pins s σ H _ I h) fun u s1 ⟨x,H1,I1,rx,a,C,dx,fs,v,ex,ea,c,n,l,q⟩=>?_);subst ex;obtain rfl:u=Value.ref a:=rx;exact jnf I1 ea c n l fun u' s2 I2 ru=>⟨v,H1,I2,ru,q⟩
theorem jyl (ha:PE X o ta)(hv:PE X value tv)(hs:swapsWith value (some (.Attribute o f pos')) pos.line X.env=pure false):PS X (.Assign [.Attribute o f pos'] value pos) (jA4 X.K ta tv f):=by
 intro pins s σ H D I h;refine plainObj_wpAny_Assign_Attribute (thn (hv pins s σ H _ I h) fun u s1 ⟨y,H1,I1,ry,q⟩=>thn (ha pins s1 σ H1 _ I1 q) fun ov s2 ⟨x,H2,I2,rx,a,C,dx,fs,ex,ea,c,n,l,q2⟩=>?_) hs;subst ex;obtain rfl:ov=Value.ref a:=rx;exact jmK I2 ea c n l ry fun s3 I3=>⟨σ,_,I3,q2⟩
end
section
variable {X:Cx} {pins:List (Addr×Obj)} {σ:St} {H:Hp} {s:Shared} {A:Around} {E:Value->Shared->Prop} {Q:Value->Shared->Prop} {c:Value} {b:Bool}
inductive TyOf (K:PySem.W.Frag) (H:Hp):V->Value->Prop where
 |non:TyOf K H .non (.type "NoneType")
 |bl (x:Bool):TyOf K H (.bl x) (.type "bool")
 |int (i:Int):TyOf K H (.int i) (.type "int")
 |str (x:Str):TyOf K H (.str x) (.type "str")
 |flt (x:UInt64):TyOf K H (.flt x) (.type "float")
 |lst {a:Addr} {xs:List V} (e:H a=some (.lst xs)):TyOf K H (.ref a) (.type "list")
 |frz {a:Addr} {o:Obj} {xs:List V} (e:H a=some (.frz o (.lst xs))):TyOf K H (.ref a) (.type "list")
 |tup {a:Addr} {xs:List V} (e:H a=some (.tup xs)):TyOf K H (.ref a) (.type "tuple")
 |dK {a:Addr} {kvs:List (Key×V)} (e:H a=some (.dK kvs)):TyOf K H (.ref a) (.type "dict")
 |dT {a:Addr} {kvs:List (List Key×V)} (e:H a=some (.dT kvs)):TyOf K H (.ref a) (.type "dict")
 |ins {a C dx:Addr} {fs:List (Str×V)} (e:H a=some (.ins C dx fs)) (cl:Cls K C) (ha:PySem.W.findIn K (.ref C) "__class__" =some (some (.builtin "object.__class__")))
   (hn:PySem.W.specialIn K (.builtin "object.__class__") "__get__" =some (some (.builtin "getset_descriptor.__get__"))) (htk:PySem.W.takesIn K (.builtin "object.__class__")=some true)
   (hm:PySem.W.mroIn K C (.type "object")=some true):TyOf K H (.ref a) (.ref C)
theorem jd8 {x:V}{u t:Value}(I:Inv X pins σ H s)(rx:jaN x u)(ty:TyOf X.K H x t)(e:PySem.W.kitOne X.K t c=some b)(h:∀tk,Q (.bool b) {s with toks:=tk}) :
  wpAny (model X.prog X.w) A (call (.builtin "isinstance") [u,c]) Q E s:=by
 cases ty with
 |non=>cases(show u=Value.none from rx);exact j0Q PySem.W.kitx_none I.kIn True.intro e (fun z=>nomatch z) h
 |bl y=>cases(show u=Value.bool y from rx);exact j0Q PySem.W.kitx_bool I.kIn True.intro e (fun z=>nomatch z) h
 |int i=>obtain⟨t,q⟩:=(show ∃t,u=Value.int i t from rx);cases q;exact j0Q PySem.W.kitx_int I.kIn True.intro e (fun z=>nomatch z) h
 |str y=>obtain⟨t,q⟩:=(show ∃t,u=Value.str y t from rx);cases q;exact j0Q PySem.W.kitx_str I.kIn True.intro e (fun z=>nomatch z) h
 |flt y=>obtain⟨t,q⟩:=(show ∃t,u=Value.float y t from rx);cases q;exact j0Q PySem.W.kitx_float I.kIn True.intro e (fun z=>nomatch z) h
 | @lst a xs ea=>
  cases(show u=Value.ref a from rx);obtain⟨_,_,n,_,h1⟩:=(show jbL X.prog X.w H s.heap a (.lst xs)from I.hok a _ ea);exact j0Q PySem.W.kitx_list I.kIn ⟨_,h1,rfl⟩ e (fun z=>nomatch z) h
 | @frz a ob xs ea=>
  cases(show u=Value.ref a from rx);obtain⟨_,_,_,n,_,h1⟩:=(show jbL X.prog X.w H s.heap a (.frz ob (.lst xs))from I.hok a _ ea);exact j0Q PySem.W.kitx_list I.kIn ⟨_,h1,rfl⟩ e (fun z=>nomatch z) h
 | @tup a xs ea=>
  cases(show u=Value.ref a from rx);obtain⟨_,_,n,_,h1⟩:=(show jbL X.prog X.w H s.heap a (.tup xs)from I.hok a _ ea);exact j0Q PySem.W.kitx_tuple I.kIn ⟨_,h1,rfl⟩ e (fun z=>nomatch z) h
 | @dK a kvs ea=>
  cases(show u=Value.ref a from rx);obtain⟨_,_,vs,_,p⟩:=(show jbL X.prog X.w H s.heap a (.dK kvs)from I.hok a _ ea);obtain⟨o,es,ep,h1,h2,_⟩:=p;exact j0Q PySem.W.kitx_dict I.kIn ⟨o,h1,h2.1⟩ e (fun z=>nomatch z) h
 | @dT a kvs ea=>
  cases(show u=Value.ref a from rx);obtain⟨_,_,xs,_,o,es,ep,h1,h2,_⟩:=(show jbL X.prog X.w H s.heap a (.dT kvs)from I.hok a _ ea);exact j0Q PySem.W.kitx_dict I.kIn ⟨o,h1,h2.1⟩ e (fun z=>nomatch z) h
 | @ins a C dx fs ea cl ha hn htk hm=>
  cases(show u=Value.ref a from rx);obtain⟨mA,O,_⟩:=jkG I.hok ea;obtain⟨od,J,_⟩:=O.look;exact j0Q (PySem.W.kitx_own (cl.get _) cl.hd ha hn htk hm) I.kIn J e (fun z=>nomatch z) h
end
structure Room (k:Nat) (A:Around):Prop where
 hd:A.handled=none
 dp:A.depth+3*k+5<recursionLimit
 un:A.units+16*k+200<cLine
theorem Room.mono {j k:Nat}{A:Around}(r:Room k A)(h:j<=k):Room j A:=⟨r.hd,by have:=r.dp;omega,by have:=r.un;omega⟩
theorem Room.deeper {k:Nat}{A:Around}(r:Room (k+1) A)(env:Env):Room k (A.deeper env):=
 ⟨r.hd,by have:=r.dp;show A.depth+1+3*k+5<_;omega,by have:=r.un;show A.units+3+16*k+200<_;omega⟩
theorem Room.in1 {k:Nat}{A:Around}(r:Room (k+1) A):Room k A.in1:=
 ⟨r.hd,by have:=r.dp;show A.depth+3*k+5<_;omega,by have:=r.un;show A.units+1+16*k+200<_;omega⟩
theorem jmQ {A:Around}{C:Addr}{us:List Value}{kw:List (Str×Value)}:(A.under (.builtin "type.__call__" ⟨.ref C::us,kw⟩)).depth=A.depth+1:=by
 first|rfl|simp[Around.under,Code.weight,Code.isCreation,Code.isGuard,Code.isCaller,Code.frames,Code.isFrame,guardIds]
theorem jmG {A:Around}{C:Addr}{us:List Value}{kw:List (Str×Value)}:(A.under (.builtin "type.__call__" ⟨.ref C::us,kw⟩)).units=A.units+1:=by
 first|rfl|simp[Around.under,Code.cUnits,Code.frames,Code.isFrame]
theorem Room.make {k:Nat}{A:Around}(r:Room (k+1) A)(C:Addr)(us:List Value)(kw:List (Str×Value)):Room k (A.under (.builtin "type.__call__" ⟨.ref C::us,kw⟩)):=
 ⟨r.hd,by have:=r.dp;rw[jmQ];omega,by have:=r.un;rw[jmG];omega⟩
theorem Room.depth {k:Nat}{A:Around}(r:Room k A):A.depth<recursionLimit:=by have:=r.dp;omega
theorem Room.units {k:Nat}{A:Around}(r:Room k A):A.units+64<cLine:=by have:=r.un;omega
def jAt:TA:=fun _ H Q=>Q [] H
def jon (ta:TE)(tr:TA):TA:=fun σ H Q=>ta σ H fun x H1=>tr σ H1 fun xs H2=>Q (x::xs) H2
section
variable {X:Cx} {e:Expr} {es:List Expr} {te:TE} {t:TA} {pos:Pos}
theorem jdQ:PA X [] jAt:=fun _ _ _ _ H Q I h=>Calls.spliced_nil ⟨[],H,I,.nil,h⟩
theorem jcz (ha:PE X e te)(hr:PA X es t)(hs:starEach (e::es) X.env=(false,eval e X.env)::starEach es X.env:=by rfl):PA X (e::es) (jon te t):=by
 intro pos pins s σ H Q I h;rw[hs];show wpAny _ _ (spliced ((false,eval e X.env)::backTo pos (starEach es X.env))) _ _ s;refine Calls.spliced_cons (thn (ha pins s σ H _ I h) fun u s1 ⟨x,H1,I1,r1,q1⟩=>?_);exact thn (hr pos pins s1 σ H1 _ I1 q1) fun us s2 ⟨xs,H2,I2,r2,q2⟩=>⟨x::xs,H2,I2,.cons r1 r2,q2⟩
def jBa (t:TA):TE:=fun σ H Q=>t σ H fun xs H1=>xs.length<=sizeLine/\∀p,H1 p=none->Q (.ref p) (upd H1 p (.tup xs))
def jBo (t:TA):TE:=fun σ H Q=>t σ H fun xs H1=>xs.length<=sizeLine/\∀p,H1 p=none->Q (.ref p) (upd H1 p (.lst xs))
theorem jmy {x1}(h:PA X es t):PE X (.Tuple es x1 pos) (jBa t):=by
 intro pins s σ H Q I hq;refine wpAny_Tuple_spliced (thn (h pos pins s σ H _ I hq) fun us s1 ⟨xs,H1,I1,r,z,q⟩=>⟨by rw[<- r.length];exact z,?_⟩);have hf:H1 s1.heap.objs.size=none:=I1.hok.fresh (j0l _);refine⟨.ref s1.heap.objs.size,upd H1 s1.heap.objs.size (.tup xs),I1.laid (t':=s1.toks) (fun b u e=>j0c _ e) (j0l _) ?_,rfl,q _ hf⟩;exact⟨z,us,0,r,j0n _ rfl⟩
theorem jwv (h:PA X es t):PE X (.List es pos) (jBo t):=by
 intro pins s σ H Q I hq;refine wpAny_List_spliced (thn (h pos pins s σ H _ I hq) fun us s1 ⟨xs,H1,I1,r,z,q⟩=>⟨by rw[<- r.length];exact z,?_⟩);have hf:H1 s1.heap.objs.size=none:=I1.hok.fresh (j0l _);refine⟨.ref s1.heap.objs.size,upd H1 s1.heap.objs.size (.lst xs),I1.laid (t':=s1.toks) (fun b u e=>j0c _ e) (j0l _) ?_,rfl,q _ hf⟩;exact⟨z,us,0,r,j0n _ rfl⟩
end
noncomputable abbrev Sp:=List V->Hp->VK->XK->Prop
noncomputable abbrev CXT:=List Env->Hp->Shared->XK->Value->Shared->Prop
structure Env0 (P:Program) (w:World) (K:PySem.W.Frag) (mg:Str->Option Value) (base:Heap) (A:Around) (outer:List Env) (s:Shared) (H:Hp):Prop where
 frames:A.frames=some outer
 mod:Mod K mg base
 bs:∀b o,base.get? b=some o->s.heap.get? b=some o/\H b=none
 bsz:base.objs.size<=s.heap.objs.size
 funs:s.heap.FunFrames base outer
 frf:∀b∈frs outer,H b=none
 hok:HOk P w H s.heap
 bare:AllBare s.gens
def CE (outer:List Env)(P:Program)(w:World)(H:Hp)(s:Shared)(Q:VK)(u:Value)(s':Shared):Prop:=
 ∃v H',s'.os=s.os/\AllBare s'.gens/\Un (frs outer) [] H H' s.heap s'.heap/\HOk P w H' s'.heap/\jaN v u/\Q v H'
def CR (CX:CXT)(outer:List Env)(P:Program)(w:World)(H:Hp)(s:Shared)(Q:VK)(E:XK)(r:Result)(s':Shared):Prop:=
 match r with
 |.ok (.ret u)=>CE outer P w H s Q u s'
 |.ok _=>False
 |.error e=>CX outer H s E e s'
structure FnOk (P:Program) (w:World) (K:PySem.W.Frag) (mg:Str->Option Value) (base:Heap) (CX:CXT) (k:Nat) (f:Addr) (fd:FuncData) (ps:List Str) (sp:Sp):Prop where
 len:∀vs H Q E,sp vs H Q E->vs.length=ps.length
 run:∀(A:Around) (outer:List Env) (s:Shared) (H:Hp) (args:Args) (us:List Value) (vs:List V) (Q:VK) (E:XK),Room k A->Env0 P w K mg base A outer s H->BindsTo s fd args (ps.zip us)->jaO vs us->sp vs H Q E ->
  codeAny (model P w) A (.call (.ref f) args) (CR CX outer P w H s Q E) s
theorem FnOk.imp {P:Program}{w:World}{K:PySem.W.Frag}{mg:Str->Option Value}{base:Heap}{CX:CXT}{k:Nat}{f:Addr}{fd:FuncData}{ps:List Str}{sp sp':Sp}(F:FnOk P w K mg base CX k f fd ps sp)
  (h:∀vs H Q E,sp' vs H Q E->sp vs H Q E):FnOk P w K mg base CX k f fd ps sp':=
 ⟨fun vs H Q E q=>F.len vs H Q E (h _ _ _ _ q),fun A outer s H args us vs Q E hr he hb hv hs=>F.run A outer s H args us vs Q E hr he hb hv (h _ _ _ _ hs)⟩
theorem Env0.make {P:Program}{w:World}{K:PySem.W.Frag}{mg:Str->Option Value}{base:Heap}{A:Around}{outer:List Env}{s:Shared}{H:Hp}(e:Env0 P w K mg base A outer s H)(C:Addr)(us:List Value)(kw:List (Str×Value)) :
  Env0 P w K mg base (A.under (.builtin "type.__call__" ⟨.ref C::us,kw⟩)) outer s H:=⟨by first|exact e.frames|(simpa[Around.under,Code.envs,Code.isFrame,pushEnvs]using e.frames),e.mod,e.bs,e.bsz,e.funs,e.frf,e.hok,e.bare⟩
theorem Env0.in1 {P:Program}{w:World}{K:PySem.W.Frag}{mg:Str->Option Value}{base:Heap}{A:Around}{outer:List Env}{s:Shared}{H:Hp}(e:Env0 P w K mg base A outer s H) :
  Env0 P w K mg base A.in1 outer s H:=⟨e.frames,e.mod,e.bs,e.bsz,e.funs,e.frf,e.hok,e.bare⟩
section
variable {X:Cx} {pins:List (Addr×Obj)} {σ:St} {H:Hp} {s s':Shared}
theorem Inv.env0 (I:Inv X pins σ H s):Env0 X.prog X.w X.K X.mg X.base X.A X.stack s H:=
 ⟨I.ok.frames,I.ok.mod,I.bs,j0I I.ok.bsz I.sz,I.stack,I.stkFree,I.hok,I.bare⟩
theorem Inv.after {Q:VK}{u:Value}(I:Inv X pins σ H s)(h:CE X.stack X.prog X.w H s Q u s'):EP X pins σ Q u s':=by
 obtain⟨v,H',os,bare,un,hok,r,q⟩:=h;obtain⟨hh,g,d,t,os'⟩:=s';obtain rfl:os'=s.os:=os;exact⟨v,H',I.call (h':=hh) (g':=g) (d':=d) (t':=t) (ch:=[]) un hok bare (fun b z=>absurd z (by simp)),r,q⟩
end
def jv6 (sp:Sp)(dvs:List V)(E:XK)(t:TA):TE:=fun σ H Q=>t σ H fun vs H1=>sp (vs++dvs) H1 Q E
def jzq (C:Addr)(sp:Sp)(dvs:List V)(E:XK)(t:TA):TE:=fun σ H Q=>t σ H fun vs H1=>∀x dx,H1 x=none->H1 dx=none->dx≠x ->
 sp (.ref x::(vs++dvs)) (upd (upd H1 dx (.own x)) x (.ins C dx [])) (fun v H2=>v=.non/\Q (.ref x) H2) E
def jeR (K:PySem.W.Frag)(fd:FuncData)(ps:List Str)(ds:List Value):Prop:=
 ∀(s:Shared) (us:List Value),K.In s.heap->(us++ds).length=ps.length->BindsTo s fd ⟨us,[]⟩ (ps.zip (us++ds))
theorem jeR.all {K:PySem.W.Frag}{fd:FuncData}{ps:List Str}(h:∀us:List Value,us.length=ps.length->bindArgs fd ⟨us,[]⟩=pure (ps.zip us)):jeR K fd ps []:=fun s us _ hl=>by
 rw[j0C]at hl ⊢;exact .of_eq (h us hl)
def jf9 (CX:CXT)(X:Cx)(E:XK):Prop:=∀(pins:List (Addr×Obj)) (σ:St) (H:Hp) (s:Shared) (e:Value) (s':Shared),Inv X pins σ H s->CX X.stack H s E e s'->X.xe e s'
section
variable {X:Cx} {CX:CXT} {k:Nat} {f C:Addr} {fd:FuncData} {ps:List Str} {sp:Sp} {dvs:List V} {ds:List Value} {E:XK} {x m:Str} {p pos apos:Pos} {e o:Expr} {es:List Expr} {ta:TE} {t:TA}
theorem jyz {pins:List (Addr×Obj)}{σ:St}{H:Hp}{s:Shared}{Q:VK}{us:List Value}{vs:List V}(F:FnOk X.prog X.w X.K X.mg X.base CX k f fd ps sp)(hr:Room k X.A)(hb:jeR X.K fd ps ds)(hd:jaO dvs ds)(hx:jf9 CX X E)
  (I:Inv X pins σ H s) (r:jaO vs us) (h:sp (vs++dvs) H Q E):wpAny (model X.prog X.w) X.A (call (.ref f) us) (EP X pins σ Q) X.xe s:=by
 have r2:jaO (vs++dvs) (us++ds):=r.append hd;have hl:(us++ds).length=ps.length:=by rw[<- r2.length];exact F.len _ _ _ _ h
 refine wpAny_call (codeAny_mono (F.run X.A X.stack s H ⟨us,[]⟩ (us++ds) (vs++dvs) Q E hr I.env0 (hb s us I.kIn hl) r2 h) fun r s' hq=>?_)
 cases r with
 |error e=>exact hx pins σ H s e s' I hq
 |ok fl=>
  cases fl with
  |ret u=>exact I.after hq
  |next=>exact False.elim hq
  |brk=>exact False.elim hq
  |cont=>exact False.elim hq
theorem juB (F:FnOk X.prog X.w X.K X.mg X.base CX k f fd ps sp)(hr:Room k X.A)(hg:Gl X x)(hm:X.mg x=some (.ref f))(hk:PySem.W.keepIn X.K (.ref f)=true)(hb:jeR X.K fd ps ds)(hd:jaO dvs ds)(hx:jf9 CX X E)
  (ha:PA X (e::es) t) (hdb:(x==("__debug__" : Str))=false:=by decide) (he:starEach (e::es) X.env=(false,eval e X.env)::starEach es X.env:=by rfl) (hpl:(backTo pos (starEach es X.env)).any (·.1)=false:=by rfl) :
  PE X (.Call (.Name x p) (e::es) [] pos) (jv6 sp dvs E t):=by
 intro pins s σ H Q I h;refine wpAny_Call_Name_kw (je4 I hg hm ?_ hdb);refine PySem.W.callWith_K (h₀:=X.base) I.ok.mod.kin hk (thn (ha pos pins s σ H _ I h) fun us s1 ⟨vs,H1,I1,r,q⟩=>⟨I1.kIn,?_⟩) he hpl;exact jyz F hr hb hd hx I1 r q
structure Mk (K:PySem.W.Frag) (C f:Addr):Prop where
 makes:PySem.W.makesIn K C=true
 init:PySem.W.findIn K (.ref C) "__init__" =some (some (.ref f))
 fn:PySem.W.isFn K (.ref f)=true
 kp:PySem.W.keepIn K (.ref C)=true
theorem jrr {pins:List (Addr×Obj)}{σ:St}{H:Hp}{s:Shared}{Q:VK}{us:List Value}{vs:List V}(M:Mk X.K C f)(F:FnOk X.prog X.w X.K X.mg X.base CX k f fd ps sp)(hr:Room (k+1) X.A)(hb:jeR X.K fd ps ds)(hd:jaO dvs ds)
  (hx:jf9 CX X E) (I:Inv X pins σ H s) (r:jaO vs us)
  (h:∀x dx,H x=none->H dx=none->dx≠x->sp (.ref x::(vs++dvs)) (upd (upd H dx (.own x)) x (.ins C dx [])) (fun v H2=>v=.non/\Q (.ref x) H2) E) :
  wpAny (model X.prog X.w) X.A (call (.ref C) us) (EP X pins σ Q) X.xe s:=by
 have hq:=h (s.heap.objs.size+1) s.heap.objs.size (I.hok.fresh (Nat.le_succ _)) (I.hok.fresh (j0l _)) (j0m (j0W _));have I2:=Inv.made (C:=C) I;have r2:jaO (V.ref (s.heap.objs.size+1)::(vs++dvs)) (Value.ref (s.heap.objs.size+1)::(us++ds)):=.cons rfl (r.append hd);have hl:(Value.ref (s.heap.objs.size+1)::us++ds).length=ps.length:=by
  have e:=r2.length;rw[F.len _ _ _ _ hq]at e;exact e.symm
 refine wpAny_call (jmi (f:=f) I.kIn M.makes M.init (beq_iff_eq.mp M.fn) (codeAny_mono (F.run _ X.stack _ _ ⟨Value.ref (s.heap.objs.size+1)::us,[]⟩ (Value.ref (s.heap.objs.size+1)::(us++ds)) _ _ E (hr.make C us [])
  (I2.env0.make C us []) (hb _ (Value.ref (s.heap.objs.size+1)::us) I2.kIn hl) r2 hq) fun r s' hq'=>?_))
 cases r with
 |error e=>exact hx pins σ _ _ e s' I2 hq'
 |ok fl=>
  cases fl with
  |ret u=>
   obtain⟨v,H',I3,rv,ev,q3⟩:=I2.after hq';subst ev;exact⟨rv,⟨V.ref (s.heap.objs.size+1),H',I3,rfl,q3⟩⟩
  |next=>exact False.elim hq'
  |brk=>exact False.elim hq'
  |cont=>exact False.elim hq'
theorem jug (M:Mk X.K C f)(F:FnOk X.prog X.w X.K X.mg X.base CX k f fd ps sp)(hr:Room (k+1) X.A)(hg:Gl X x)(hm:X.mg x=some (.ref C))(hb:jeR X.K fd ps ds)(hd:jaO dvs ds)(hx:jf9 CX X E)
  (ha:PA X (e::es) t) (hdb:(x==("__debug__" : Str))=false:=by decide) (he:starEach (e::es) X.env=(false,eval e X.env)::starEach es X.env:=by rfl) (hpl:(backTo pos (starEach es X.env)).any (·.1)=false:=by rfl) :
  PE X (.Call (.Name x p) (e::es) [] pos) (jzq C sp dvs E t):=by
 intro pins s σ H Q I h;refine wpAny_Call_Name_kw (je4 I hg hm ?_ hdb);refine PySem.W.callWith_K (h₀:=X.base) I.ok.mod.kin M.kp (thn (ha pos pins s σ H _ I h) fun us s1 ⟨vs,H1,I1,r,q⟩=>⟨I1.kIn,?_⟩) he hpl;exact jrr M F hr hb hd hx I1 r q
end
section
variable {X:Cx} {CX:CXT} {k:Nat} {f C:Addr} {fd:FuncData} {ps ks:List Str} {sp:Sp} {E:XK} {x m:Str} {p pos apos kpos:Pos} {e o:Expr} {es:List Expr} {kws:List Keyword} {te ta:TE} {t tk:TA} {nm:Option Str}
structure KBinds (K:PySem.W.Frag) (fd:FuncData) (ps ks:List Str) (g:List Value->List Value->List Value) (gV:List V->List V->List V):Prop where
 to:∀(s:Shared) (us ws:List Value),K.In s.heap->(g us ws).length=ps.length->BindsTo s fd ⟨us,ks.zip ws⟩ (ps.zip (g us ws))
 rel:∀{vs:List V} {us:List Value} {zs:List V} {ws:List Value},jaO vs us->jaO zs ws->jaO (gV vs zs) (g us ws)
variable {g:List Value->List Value->List Value} {gV:List V->List V->List V}
end
structure FnScope (N P:List Str) (sc:Scope):Prop where
 kind:sc.kind=.function
 co:sc.isCoroutine=false
 gen:sc.isGenerator=false
 nd:N.Nodup
 pre:N.take P.length=P
 par:∀x∈P,sc.names.lookup x=some .local∨sc.names.lookup x=some .cell
 nofree:∀y∈sc.names,y.2≠.free
theorem jjD {kindOf:Str->Option NameKind}{x:Str}:∀{binds:List (Str×Value)} {m:Str->Option Value},(∀v,(x,v)∉binds)->bindL kindOf binds m x=m x
 |[],_,_=>rfl
 |(n,v)::r,m,h=>by
  unfold bindL;rw[jjD fun w hw=>h w (j0s _ hw)];split
  ·have:x≠n:=by rintro rfl;exact h v j0u
   simp[this]
  ·rfl
theorem jj7 {kindOf:Str->Option NameKind}{x:Str}:∀{binds:List (Str×Value)} {m:Str->Option Value},(∀v,(x,v)∉binds)->bindC kindOf binds m x=m x
 |[],_,_=>rfl
 |(n,v)::r,m,h=>by
  unfold bindC;rw[jj7 fun w hw=>h w (j0s _ hw)];split
  ·rfl
  ·have:x≠n:=by rintro rfl;exact h v j0u
   simp[this]
theorem jks {kindOf:Str->Option NameKind}{x:Str}{v:Value}:∀{P:List Str} {vs:List Value} {i:Nat} {m:Str->Option Value},P.Nodup->P[i]?=some x->vs[i]?=some v->kindOf x=some .local ->
  bindL kindOf (P.zip vs) m x=some v
 |[],_,_,_,_,h,_,_=>by simp at h
 |_::_,[],_,_,_,_,h,_=>by simp at h
 |p::P,w::vs,0,m,nd,h1,h2,hk=>by
  simp at h1 h2;subst h1;subst h2;show bindL kindOf ((p,w)::P.zip vs) m p=_;unfold bindL;rw[jjD fun v hv=>(j1e.mp nd).1 (List.of_mem_zip hv).1,if_pos hk];simp
 |p::P,w::vs,i+1,m,nd,h1,h2,hk=>by
  show bindL kindOf ((p,w)::P.zip vs) m x=_;unfold bindL;exact jks (i:=i) (j1e.mp nd).2 (by simpa using h1) (by simpa using h2) hk
theorem jjG {kindOf:Str->Option NameKind}{x:Str}{v:Value}:∀{P:List Str} {vs:List Value} {i:Nat} {m:Str->Option Value},P.Nodup->P[i]?=some x->vs[i]?=some v->kindOf x≠some .local ->
  bindC kindOf (P.zip vs) m x=some v
 |[],_,_,_,_,h,_,_=>by simp at h
 |_::_,[],_,_,_,_,h,_=>by simp at h
 |p::P,w::vs,0,m,nd,h1,h2,hk=>by
  simp at h1 h2;subst h1;subst h2;show bindC kindOf ((p,w)::P.zip vs) m p=_;unfold bindC;rw[jj7 fun v hv=>(j1e.mp nd).1 (List.of_mem_zip hv).1,if_neg hk];simp
 |p::P,w::vs,i+1,m,nd,h1,h2,hk=>by
  show bindC kindOf ((p,w)::P.zip vs) m x=_;unfold bindC;exact jjG (i:=i) (j1e.mp nd).2 (by simpa using h1) (by simpa using h2) hk
noncomputable def start (N:List Str)(vs:List V):St:=vs.map some++List.replicate (N.length - vs.length) none
noncomputable def jjC (CX:CXT)(P:Program)(w:World)(K:PySem.W.Frag)(mg:Str->Option Value)(base:Heap)(N:List Str)(qual:Str)(scope:Scope)(f:Addr)(cd:Value)(A:Around)(outer:List Env)(s:Shared)(H:Hp)(E:XK):Cx where
 prog:=P
 w:=w
 K:=K
 mg:=mg
 base:=base
 A:=A.deeper (envOfC qual scope s.heap.objs.size f cd)
 N:=N
 s₀:=s
 H₀:=H
 env:=envOfC qual scope s.heap.objs.size f cd
 outer:=outer
 stack:=envOfC qual scope s.heap.objs.size f cd::outer
 ex:=[]
 calm:=true
 fn:=fun _=>true
 pn:=[]
 xe:=fun e s'=>wpAny (model P w) (A.deeper (envOfC qual scope s.heap.objs.size f cd)) (leaving (envOfC qual scope s.heap.objs.size f cd) e) (fun _ s''=>CX outer H s E e s'') (fun e' s''=>CX outer H s E e' s'') s'
theorem jlM {sc:Scope}{n:Nat}{x:Str}(h:sc.names.lookup x=some .cell):∃c,(cellsFrom n sc.names []).lookup x=some c:=by
 have q:=PySem.W.cellsFrom_some sc.names n [] (.inl h);exact Option.isSome_iff_exists.mp q
theorem joY {CX:CXT}{P:Program}{w:World}{K:PySem.W.Frag}{mg:Str->Option Value}{base:Heap}{N ps:List Str}{qual:Str}{scope:Scope}{f:Addr}{cd:Value}{A:Around}{outer:List Env}{s s1:Shared}{H:Hp}{E:XK}{us:List Value}{vs:List V}
  (S:FnScope N ps scope) (hd:A.handled=none) (e0:Env0 P w K mg base A outer s H) (hl:vs.length=ps.length) (r:jaO vs us)
  (x:InCallC s s.heap.objs.size (bindL (envOfC qual scope s.heap.objs.size f cd).kindOf (ps.zip us) fun _=>none) (cellsFrom (s.heap.objs.size+1) scope.names []) (bindC (envOfC qual scope s.heap.objs.size f cd).kindOf (ps.zip us) fun _=>none) s1) :
  Inv (jjC CX P w K mg base N qual scope f cd A outer s H E) [] (start N vs) H s1:=by
 have hpl:ps.length<=N.length:=by have:=congrArg List.length S.pre;rw[j0y]at this;omega
 obtain⟨h1,tk,rfl,hk⟩:=x.done;have noA:∀b:Addr,b∉(jjC CX P w K mg base N qual scope f cd A outer s H E).ex:=fun b z=>absurd (show b∈([]:List Addr)from z) (by simp);refine⟨⟨e0.mod,S.kind,rfl,rfl,j0l _,fun y z c h1 h2=>?_,fun y hy=>?_,fun y c _ h=>?_,fun _=>hd,Around.frames_deeper e0.frames,.inr ⟨rfl,rfl⟩,fun b z=>absurd z (noA b),e0.bs,e0.bsz,fun b _ _=>noA b,fun b z=>absurd z (noA b),e0.funs,e0.frf⟩,
  rfl,e0.bare,Un.kept hk,⟨_,x.toInCall.ns,fun i y v h1 h2 h3=>?_⟩,fun y c h=>⟨_,x.cell y c h⟩,e0.hok.fresh (j0l _),fun y c h=>?_,fun p hp=>absurd (show p∈([]:List (Addr×Obj))from hp) (by simp),e0.hok.kept hk,?_⟩
 ·exact name_of_addr x.apart (j09 h1) (j09 h2)
 ·have hy:scope.names.lookup y=some .cell∨scope.names.lookup y=some .free:=hy;rcases hy with hy|hy
  ·exact jlM hy
  ·exact absurd rfl (S.nofree _ (j09 hy))
 ·exact Nat.le_of_lt (x.above y c (j09 h))
 ·have hi:i<vs.length:=by
   unfold start at h2;by_cases hi:i<vs.length
   ·exact hi
   ·rw[j06 (by simpa using hi)]at h2;rw[List.getElem?_replicate]at h2;split at h2<;>cases h2
  have ha:vs[i]?=some v:=by
   unfold start at h2;rw[j00 (by simpa using hi),j0X]at h2
   cases e:vs[i]? with
   |none=>rw[e]at h2;cases h2
   |some a=>rw[e]at h2;cases h2;rfl
  obtain⟨u,hu,rv⟩:=r.get ha;have hp:ps[i]?=some y:=by
   rw[<- S.pre,List.getElem?_take_of_lt (by omega)];exact h1
  have ndP:ps.Nodup:=by rw[<- S.pre];exact S.nd.sublist (List.take_sublist _ _)
  refine⟨u,rv,?_⟩;rcases S.par y (j0z hp)with k|k
  ·exact .inl ⟨k,jks ndP hp hu k⟩
  ·obtain⟨c,e⟩:=jlM (n:=s.heap.objs.size+1) k;refine .inr ⟨.inl k,c,e,?_⟩;have q:=x.cell y c e;rw[jjG ndP hp hu (by show scope.names.lookup y≠_;rw[k];decide)]at q;exact q
 ·exact e0.hok.fresh (Nat.le_of_lt (x.above y c (j09 h)))
 ·unfold start;show _=N.length;rw[j0v,j0f,List.length_replicate];omega
theorem jwi {CX:CXT}{P:Program}{w:World}{K:PySem.W.Frag}{mg:Str->Option Value}{base:Heap}{k:Nat}{f:Addr}{name qual:Str}{params:Arguments}{body:List Stmt}{scope:Scope}{dV kV doc pm cdv ct oc:Value}{an od:Option Addr}
  {osl:Array (Option Value)} {N ps:List Str} {sp:Sp} (lk:K.lookup f=some ⟨oc,od,.func (PySem.W.fnOf name qual params body scope dV kV doc pm an cdv ct),osl⟩) (hcd:PySem.W.codeIn K cdv qual=true) (S:FnScope N ps scope)
  (len:∀vs H Q E,sp vs H Q E->vs.length=ps.length)
  (hbody:∀(A:Around) (outer:List Env) (s:Shared) (H:Hp) (vs:List V) (Q:VK) (E:XK),Room k (A.deeper (envOfC qual scope s.heap.objs.size f cdv))->sp vs H Q E ->
   ∃t,PSs (jjC CX P w K mg base N qual scope f cdv A outer s H E) body t/\t {nx:=fun _ H'=>Q .non H',rt:=Q} (start N vs) H) :
  FnOk P w K mg base CX (k+1) f (PySem.W.fnOf name qual params body scope dV kV doc pm an cdv ct) ps sp:=by
 refine⟨len,fun A outer s H args us vs Q E hr e0 hb r hsp=>?_⟩;have hl:=len _ _ _ _ hsp;have KX:K.In s.heap:=e0.mod.kin.keeps fun b o e=>(e0.bs b o e).1;have lim:s.heap.NoLimit:=e0.mod.nolimit.keeps fun b o e=>(e0.bs b o e).1;have hkind:∀y∈ps.zip us,scope.names.lookup y.1=some .local∨(scope.names.lookup y.1=some .cell/\((cellsFrom (s.heap.objs.size+1) scope.names []).lookup y.1).isSome=true):=fun⟨n,v⟩ hy=>by
  rcases S.par n (List.of_mem_zip hy).1 with q|q
  ·exact .inl q
  ·exact .inr ⟨q,PySem.W.cellsFrom_some _ _ _ (.inl q)⟩
 refine codeAny_call_function hr.depth (KX _ _ lk) rfl S.co S.gen rfl (PySem.W.codeRec_of KX hcd) (hb _ _ _ _ ?_);refine wpAny_newFunctionEnv_cells S.kind hkind fun env he s1 x=>?_;subst he;refine⟨lim.keeps x.toInCall.keep,codeAny_func ?_⟩;obtain⟨t,ht,hq⟩:=hbody A outer s H vs Q E (hr.deeper _) hsp;have I:Inv (jjC CX P w K mg base N qual scope f cdv A outer s H E) [] (start N vs) H s1:=joY S hr.hd e0 hl r x;refine wpAny_mono (ht [] s1 (start N vs) H _ I hq) (fun fl s' hs=>?_) fun e s' hs=>hs;have fin:∀{σ':St} {H':Hp} {v:V} {u:Value},Inv (jjC CX P w K mg base N qual scope f cdv A outer s H E) [] σ' H' s'->jaN v u->Q v H'->CE outer P w H s Q u s':=
  fun {σ' H' v u} J rv q=>⟨v,H',J.os,J.bare,J.base,J.hok,rv,q⟩
 cases fl with
 |ret u=>
  obtain⟨v,σ',H',J,rv,q⟩:=hs;exact fin J rv q
 |next=>
  obtain⟨σ',H',J,q⟩:=hs;exact fin (v:=V.non) (u:=Value.none) J rfl q
 |brk=>
  obtain⟨_,_,_,q⟩:=hs;exact False.elim q
 |cont=>
  obtain⟨_,_,_,q⟩:=hs;exact False.elim q
section
variable {X:Cx} {x:Str} {p pos:Pos} {e:Expr} {es:List Expr} {t:TA} {id T:String} {r:List V->Hp->VK->Prop}
def tCB (r:List V->Hp->VK->Prop)(t:TA):TE:=fun σ H Q=>t σ H fun vs H1=>r vs H1 Q
theorem jqF (hc:jbx X (.builtin id) r) (hg:Gl X x) (hm:X.mg x=none) (hv:bootBuiltins x=some (.builtin id)) (ha:PA X (e::es) t) (hn:x≠"__name__":=by decide) (hdb:(x==("__debug__" : Str))=false:=by decide)
  (he:starEach (e::es) X.env=(false,eval e X.env)::starEach es X.env:=by rfl) (hpl:(backTo pos (starEach es X.env)).any (·.1)=false:=by rfl):PE X (.Call (.Name x p) (e::es) [] pos) (tCB r t):=by
 intro pins s σ H Q I h;refine wpAny_Call_Name_kw (jib I hg hm hv ?_ hn hdb);exact PyProof.Rows.callWith_builtin1 (thn (ha pos pins s σ H _ I h) fun us s1 ⟨vs,H1,I1,r1,q1⟩=>hc pins s1 σ H1 vs us Q I1 r1 q1) he hpl
theorem jn2 (hc:jbx X (.type T) r) (hg:Gl X x) (hm:X.mg x=none) (hv:bootBuiltins x=some (.type T)) (ha:PA X (e::es) t) (hn:x≠"__name__":=by decide) (hdb:(x==("__debug__" : Str))=false:=by decide)
  (he:starEach (e::es) X.env=(false,eval e X.env)::starEach es X.env:=by rfl) (hpl:(backTo pos (starEach es X.env)).any (·.1)=false:=by rfl):PE X (.Call (.Name x p) (e::es) [] pos) (tCB r t):=by
 intro pins s σ H Q I h;refine wpAny_Call_Name_kw (jib I hg hm hv ?_ hn hdb);exact j1l (thn (ha pos pins s σ H _ I h) fun us s1 ⟨vs,H1,I1,r1,q1⟩=>hc pins s1 σ H1 vs us Q I1 r1 q1) he hpl
end
end _L2
namespace HT
open PySem PyProof.Rows
section
open PySem.SeqAt
open PySem.AutoSeq1 (wpAny_loadPart')
open PySem.MeetsSeq PySem.MeetsSeq2 PySem.MeetsSeq3
end
section
variable {prog:Program} {w:World} {A:Around} {E:Value->Shared->Prop} {s:Shared}
theorem cat_tup {t b:Addr}{vs ws:List Value}{Q:Value->Shared->Prop}(ht:IsTup s.heap t vs.toArray)(hb:IsTup s.heap b ws.toArray)(hv:vs≠[])
  (h1:ws=[]->Q (.ref t) s) (h2:ws≠[]->Q (.ref s.heap.objs.size) {s with heap:=s.heap.push {cls:=.type "tuple",data:=.seq (vs++ws).toArray}})
  (hsz:vs.length+ws.length<=sizeLine):wpAny (model prog w) A (binaryOp .Add (.ref t) (.ref b)) Q E s:=by
 obtain⟨⟨cls,dd,data,sl⟩,ho,hc,n,hd⟩:=id ht;obtain⟨⟨cls2,dd2,data2,sl2⟩,ho2,hc2,n2,hd2⟩:=id hb;simp only at hc hd hc2 hd2;subst hc hd hc2 hd2;have e:vs.toArray++ws.toArray=(vs++ws).toArray:=by simp
 by_cases hw:ws=[]
 ·exact concat_meets ⟨_,ho,rfl⟩ ⟨_,ho2,rfl⟩ noFill_tuple_add seq_tuple_add PySem.F.slot_tuple_add PySem.F.entry_tuple_add (PySem.F.args_tuple_add_2 _ _)
   (tuple_addW1 t b vs.toArray ws.toArray n n2 dd dd2 sl sl2 (by simpa using hv) (by simp[hw])) ⟨ho,ho2,h1 hw⟩
 ·refine concat_meets ⟨_,ho,rfl⟩ ⟨_,ho2,rfl⟩ noFill_tuple_add seq_tuple_add PySem.F.slot_tuple_add PySem.F.entry_tuple_add (PySem.F.args_tuple_add_2 _ _)
   (tuple_addW2 t b vs.toArray ws.toArray n n2 dd dd2 sl sl2 (by simpa using hv) (by simpa using hw) (by rw[j0j,j0j];exact hsz)) ⟨ho,ho2,?_⟩
  rw[e];exact h2 hw
noncomputable def sIx (n d:Nat):Option Int->Nat
 |none=>d
 |some v=>if v<0 then(v+(n:Int)).toNat else min v.toNat n
theorem sIx_none (n d:Nat):sIx n d none=d:=rfl
theorem sIx_nat (n d k:Nat):sIx n d (some (k:Int))=min k n:=by
 show(if(k:Int)<0 then((k:Int)+(n:Int)).toNat else min (k:Int).toNat n)=min k n;rw[if_neg (by omega),Int.toNat_natCast]
theorem jwA (n d:Nat)(hd:d<=n)(o:Option Int):sIx n d o<=n:=by
 cases o with
 |none=>exact hd
 |some v=>
  show(if v<0 then(v+(n:Int)).toNat else min v.toNat n)<=n;by_cases hv:v<0
  ·rw[if_pos hv];omega
  ·rw[if_neg hv];exact Nat.min_le_right _ _
theorem joP (v:Int)(n d:Nat):(if v<0 then max (v+(n:Int)) 0 else min v (n:Int))=((sIx n d (some v):Nat):Int):=by
 show(if v<0 then max (v+(n:Int)) 0 else min v (n:Int))=(((if v<0 then(v+(n:Int)).toNat else min v.toNat n):Nat):Int);by_cases hv:v<0
 ·simp only[if_pos hv];omega
 ·simp only[if_neg hv];omega
theorem jnd (lo hi:Option Int)(n:Nat):Builtin.Slice.sliceAdjust lo hi 1 (n:Int)=(((sIx n 0 lo:Nat):Int),((sIx n n hi:Nat):Int)):=by
 have h1:¬ ((1:Int)<0):=by omega
 unfold Builtin.Slice.sliceAdjust;simp only[h1,if_false];refine Prod.ext ?_ ?_
 ·cases lo with
  |none=>rfl
  |some v=>exact joP v n 0
 ·cases hi with
  |none=>rfl
  |some v=>exact joP v n n
theorem jnc (i j:Nat):Builtin.Slice.slicePlaces (i:Int) (j:Int) 1=j - i:=by
 unfold Builtin.Slice.slicePlaces;have h1:(1:Int) > 0:=by omega
 simp only[h1,if_true,Int.ediv_one];split<;>omega
theorem jid {v:Value}{o:Option Int}{Q:Option Int->Shared->Prop}(p:IsPart v o)(h:Q o s):wpAny (model prog w) A (Builtin.Slice.slicePartIndex v) Q E s:=by
 cases p with
 |none=>exact slicePart_none h
 |int i t=>exact slicePart_int h
theorem jdR {sl:Addr}{vl vu:Value}{lo hi:Option Int}{n:Nat}{Q:Int×Int×Nat->Shared->Prop}(hs:s.heap.IsSliceOf sl vl vu .none)(pl:IsPart vl lo)(pu:IsPart vu hi)
  (h:Q (((sIx n 0 lo:Nat):Int),1,sIx n n hi - sIx n 0 lo) s):wpAny (model prog w) A (Builtin.Slice.sliceApplied (.ref sl) (pure (n:Int))) Q E s:=by
 obtain⟨os,hos,hcs,hds⟩:=id hs;unfold Builtin.Slice.sliceApplied Builtin.Slice.sliceFields;refine wpAny_bind (wpAny_bind (wpAny_field hos hds (x:=vl) rfl (wpAny_bind (wpAny_field hos hds (x:=vu) rfl (wpAny_bind (wpAny_field hos hds (x:=.none) rfl (wpAny_pure ?_)))))));refine wpAny_bind (slicePart_none ?_);show wpAny _ _ (if((1:Int)==0)=true then _ else _) _ _ s;rw[if_neg (by decide)];refine wpAny_bind (jid pl (wpAny_bind (jid pu (wpAny_bind (wpAny_pure ?_)))));show wpAny _ _ (match Builtin.Slice.sliceAdjust lo hi 1 (n:Int)with|(lo,hi)=>pure (lo,(1:Int),Builtin.Slice.slicePlaces lo hi 1)) _ _ s;rw[jnd lo hi n];show wpAny _ _ (pure (((sIx n 0 lo:Nat):Int),(1:Int),Builtin.Slice.slicePlaces ((sIx n 0 lo:Nat):Int) ((sIx n n hi:Nat):Int) 1)) _ _ s;rw[jnc];exact wpAny_pure h
theorem jrU (xs:Array Value)(i k:Nat):((List.range k).filterMap fun(m:Nat)=>xs[((i:Int)+(m:Int)*1).toNat]?).toArray=((xs.toList.drop i).take k).toArray:=by
 have e:(fun(m:Nat)=>xs[((i:Int)+(m:Int)*1).toNat]?)=fun m=>xs[i+m]?:=by
  funext m
  have:((i:Int)+(m:Int)*1).toNat=i+m:=by omega
  rw[this]
 rw[e];have:=pick_run xs i k;rw[List.filterMap_map]at this;have e2:((fun x=>xs[x]?) ∘ fun x=>i+x)=fun m=>xs[i+m]?:=rfl;rw[e2]at this;rw[this]
theorem getItem_tuple_cut {t sl:Addr}{items:Array Value}{vl vu:Value}{lo hi:Option Int}{Q:Value->Shared->Prop}(ht:IsTup s.heap t items)(hs:s.heap.IsSliceOf sl vl vu .none)(pl:IsPart vl lo)(pu:IsPart vu hi)
  (hw:¬ (sIx items.size 0 lo=0/\sIx items.size items.size hi=items.size))
  (h:Q (.ref s.heap.objs.size) {s with heap:=s.heap.push {cls:=.type "tuple",data:=.seq ((items.toList.drop (sIx items.size 0 lo)).take (sIx items.size items.size hi - sIx items.size 0 lo)).toArray}})
  (hsz:items.size<=sizeLine):wpAny (model prog w) A (getItem (.ref t) (.ref sl)) Q E s:=by
 have htake:sizeOk (.seq ((items.toList.drop (sIx items.size 0 lo)).take (sIx items.size items.size hi - sIx items.size 0 lo)).toArray):=by
  show((items.toList.drop (sIx items.size 0 lo)).take (sIx items.size items.size hi - sIx items.size 0 lo)).toArray.size<=sizeLine;rw[j0j,j0y,List.length_drop,j0t];omega
 have hj:sIx items.size items.size hi<=items.size:=jwA _ _ (j0l _) hi;obtain⟨os,hos,hcs,hds⟩:=id hs;have hTs:s.TypeIs (.ref sl) "slice":=⟨os,hos,hcs⟩;unfold getItem
 try with_reducible refine wpAny_holding ?_
 first|refine wpAny_bind (wpAny_pure ?_)|skip
 refine wpAny_bind (wpAny_sequenceKey ht.typeIs (by decide) ?_);refine wpAny_bind (wpAny_callSpecial?_slot (name:=Str.ofString "__getitem__") ht.typeIs j1a
  (wpAny_call_entry j1a ht.typeIs entry_tuple_getitem ?_ (args_tuple_getitem _ _)))
 show wpAny _ _ (Builtin.Tuple.tupleItemsOf (.ref t) >>=_) _ _ s;refine wpAny_bind (tupleItemsOf_ ht ?_);refine wpAny_bind (wpAny_typeOf hTs ?_);rw[if_pos (by decide)];refine wpAny_bind (jdR hs pl pu ?_);have hno:¬ ((((sIx items.size 0 lo:Nat):Int)==0&&(1:Int)==1&&(sIx items.size items.size hi - sIx items.size 0 lo)==items.size)=true):=by
  intro q;rw[j0a,j0a]at q;have q1:((sIx items.size 0 lo:Nat):Int)=0:=eq_of_beq q.1.1;have q2:sIx items.size items.size hi - sIx items.size 0 lo=items.size:=eq_of_beq q.2;exact hw ⟨by omega,by omega⟩
 show wpAny _ _ (if(((sIx items.size 0 lo:Nat):Int)==0&&(1:Int)==1&&(sIx items.size items.size hi - sIx items.size 0 lo)==items.size)=true then _ else _) _ _ s;rw[if_neg hno,jrU]
 first
  |exact wpAny_bind (m:=Builtin.Tuple.tupleExact _) (wpAny_newObj_type (wpAny_pure ⟨_,rfl,wpAny_pure h⟩) htake)
  |exact wpAny_bind (m:=Builtin.Tuple.tupleExact _) (wpAny_newObj_type (wpAny_bind (wpAny_pure (wpAny_pure ⟨_,rfl,wpAny_pure h⟩))) htake)
  |exact wpAny_bind (wpAny_bind (m:=Builtin.Tuple.tupleExact _) (wpAny_newObj_type (wpAny_pure (wpAny_pure ⟨_,rfl,wpAny_pure h⟩)) htake))
  |exact wpAny_bind (wpAny_bind (m:=Builtin.Tuple.tupleExact _) (wpAny_newObj_type (wpAny_pure ⟨_,rfl,wpAny_pure h⟩) htake))
end
end HT
namespace _L2
open PySem PySem.Spec PyProof.Rows
noncomputable abbrev TO:=St->Hp->(Option Int->Hp->Prop)->Prop
def PO (X:Cx)(e:Option Expr)(t:TO):Prop:=
 ∀(pins:List (Addr×Obj)) (s:Shared) (σ:St) (H:Hp) (Q:Option Int->Hp->Prop),Inv X pins σ H s->t σ H Q ->
  wpAny (model X.prog X.w) X.A (evalPart e X.env) (fun u s'=>∃o H',Inv X pins σ H' s'/\IsPart u o/\Q o H') X.xe s
noncomputable def js6:TO:=fun _ H Q=>Q none H
noncomputable def jzr (t:TE):TO:=fun σ H Q=>t σ H fun x H1=>∃i,x=.int i/\Q (some i) H1
section
variable {X:Cx} {e:Expr} {te:TE} {lo hi:Option Expr} {tl th:TO} {pos p2:Pos}
theorem jud:PO X none js6:=by
 intro pins s σ H Q I h;rw[evalPart_none];exact wpAny_pure ⟨none,H,I,.none,h⟩
theorem jtj (h:PE X e te):PO X (some e) (jzr te):=by
 intro pins s σ H Q I hw;rw[evalPart_some];refine thn (h pins s σ H _ I hw) fun u s1 ⟨x,H1,I1,r1,q1⟩=>?_;obtain⟨i,rfl,q⟩:=q1;obtain⟨t,rfl⟩:=r1;exact⟨some i,H1,I1,.int i t,q⟩
def SlR (X:Cx)(r:V->Option Int->Option Int->Hp->VK->Prop):Prop:=
 ∀(pins:List (Addr×Obj)) (s:Shared) (σ:St) (H:Hp) (x:V) (v vl vu:Value) (lo hi:Option Int) (sl:Addr) (Q:VK),Inv X pins σ H s->jaN x v->s.heap.IsSliceOf sl vl vu .none->IsPart vl lo->IsPart vu hi->r x lo hi H Q ->
  ∃T id,typeLookup (.type T) "__getitem__" =pure (some (.builtin id))/\s.TypeIs v T/\wpAny (model X.prog X.w) X.A (getItem v (.ref sl)) (EP X pins σ Q) X.xe s
theorem SlR.or {r r':V->Option Int->Option Int->Hp->VK->Prop}(h:SlR X r)(h':SlR X r'):SlR X (fun x lo hi H Q=>r x lo hi H Q∨r' x lo hi H Q):=by
 intro pins s σ H x v vl vu lo hi sl Q I rx hs pl pu q;rcases q with q|q
 ·exact h pins s σ H x v vl vu lo hi sl Q I rx hs pl pu q
 ·exact h' pins s σ H x v vl vu lo hi sl Q I rx hs pl pu q
def tSl (r:V->Option Int->Option Int->Hp->VK->Prop)(te:TE)(tl th:TO):TE:=fun σ H Q=>te σ H fun x H1=>tl σ H1 fun l H2=>th σ H2 fun u H3=>r x l u H3 Q
theorem jqc {r:V->Option Int->Option Int->Hp->VK->Prop}(hr:SlR X r)(he:PE X e te)(hl:PO X lo tl)(hu:PO X hi th):PE X (.Subscript e (.Slice lo hi none p2) pos) (tSl r te tl th):=by
 intro pins s σ H Q I h;refine Subscript_ (thn (he pins s σ H _ I h) fun v s1 ⟨x,H1,I1,r1,q1⟩=>?_);refine wpAny_Slice (thn (hl pins s1 σ H1 _ I1 q1) fun vl s2 ⟨l,H2,I2,pl,q2⟩=>thn (hu pins s2 σ H2 _ I2 q2) fun vu s3 ⟨u,H3,I3,pu,q3⟩=>?_);rw[evalPart_none];refine wpAny_pure ?_;have I4:Inv X pins σ H3 {s3 with heap:=s3.heap.push {cls:=.type "slice",data:=.fields #[vl,vu,.none]}}:=I3.kept (t':=s3.toks) fun b ob q=>j0c _ q;obtain⟨T,id,hT,ht,hg⟩:=hr pins {s3 with heap:=s3.heap.push {cls:=.type "slice",data:=.fields #[vl,vu,.none]}} σ H3 x v vl vu l u s3.heap.objs.size Q I4 r1 (Heap.IsSliceOf.new ..) pl pu q3;show wpAny (model X.prog X.w) X.A (subscriptTail e (.Slice lo hi none p2) v (.ref s3.heap.objs.size)) (EP X pins σ Q) X.xe {s3 with heap:=s3.heap.push {cls:=.type "slice",data:=.fields #[vl,vu,.none]}};exact tail_any (ops:=[.ref s3.heap.objs.size,v]) ht hT hg (by with_unfolding_all rfl)
noncomputable def jsa (xs:List V)(lo hi:Option Int):List V:=(xs.drop (HT.sIx xs.length 0 lo)).take (HT.sIx xs.length xs.length hi - HT.sIx xs.length 0 lo)
theorem jg4 (xs:List V)(lo hi:Option Int):(jsa xs lo hi).length<=xs.length:=by
 unfold jsa;rw[j0y,List.length_drop];omega
noncomputable def jAx (K:PySem.W.Frag):V->Option Int->Option Int->Hp->VK->Prop:=fun x lo hi H Q=>∃a xs,x=.ref a/\SqT K H a xs /\
 ¬ (HT.sIx xs.length 0 lo=0/\HT.sIx xs.length xs.length hi=xs.length)/\∀p,H p=none->Q (.ref p) (upd H p (.tup (jsa xs lo hi)))
theorem jxo:SlR X (jAx X.K):=by
 intro pins s σ H x v vl vu lo hi sl Q I rx hs pl pu h;obtain⟨a,xs,rfl,hx,hw,q⟩:=h;cases rx;obtain⟨its,r,ht,hz⟩:=I.tuple hx;have hlen:its.toArray.size=xs.length:=by rw[j0j];exact r.length.symm
 refine⟨"tuple",_,PyProof.Rows.slot_tuple_getitem.lookup,ht.typeIs,?_⟩;refine HT.getItem_tuple_cut ht hs pl pu (by rw[hlen];exact hw) ?_ (by rw[hlen];exact hz);rw[hlen];refine⟨.ref s.heap.objs.size,_,I.laid (t':=s.toks) (o:=.tup (jsa xs lo hi)) (fun b ob q=>j0c _ q) (j0l _) ?_,rfl,q _ (I.hok.fresh (j0l _))⟩;exact⟨j0I (jg4 xs lo hi) hz,_,0,(r.drop (HT.sIx xs.length 0 lo)).take (HT.sIx xs.length xs.length hi - HT.sIx xs.length 0 lo),j0n _ rfl⟩
def jws (K:PySem.W.Frag):R2:=fun x y H Q=>∃a b xs ys,x=.ref a/\y=.ref b/\SqT K H a xs/\SqT K H b ys/\xs≠[]/\xs.length+ys.length<=sizeLine /\
 (ys=[]->Q (.ref a) H)/\(ys≠[]->∀p,H p=none->Q (.ref p) (upd H p (.tup (xs++ys))))
theorem jaO.nil_iff {xs:List V}{us:List Value}(r:jaO xs us):us=[]↔xs=[]:=by
 cases r with
 |nil=>simp
 |cons _ _=>simp
theorem jvn:OpR X (binaryOp .Add) (jws X.K):=by
 intro pins s σ H x y v u Q I rx ry h;obtain⟨a,b,xs,ys,rfl,rfl,ha,hb,hx,hz,q1,q2⟩:=h;cases rx;cases ry;obtain⟨its,r1,p1,_⟩:=I.tuple ha;obtain⟨its2,r2,p2,_⟩:=I.tuple hb;refine HT.cat_tup p1 p2 (fun z=>hx (r1.nil_iff.mp z)) (fun z=>⟨.ref a,H,I,rfl,q1 (r2.nil_iff.mp z)⟩) (fun z=>?_) (by rw[<- r1.length,<- r2.length];exact hz);refine⟨.ref s.heap.objs.size,_,I.laid (t':=s.toks) (o:=.tup (xs++ys)) (fun b ob q=>j0c _ q) (j0l _) ?_,rfl,q2 (fun w=>z (r2.nil_iff.mpr w)) _ (I.hok.fresh (j0l _))⟩;exact⟨by rw[j0v];exact hz,_,0,r1.append r2,j0n _ rfl⟩
end
noncomputable def ixN (n:Nat)(i:Int):Option Nat:=if 0<=i then(if i<n then some i.toNat else none)else if -(n:Int)<=i then some (i+n).toNat else none
noncomputable def atI {α:Type}(xs:List α)(i:Int):Option α:=(ixN xs.length i).bind fun j=>xs[j]?
theorem juG {n:Nat}{i:Int}{j:Nat}(h:ixN n i=some j):seqIndex? i n=some j/\j<n/\-(n:Int)<=i/\i<n:=by
 unfold ixN at h;by_cases h0:0<=i
 ·rw[if_pos h0]at h;by_cases h1:i<n
  ·rw[if_pos h1]at h;have e:i.toNat=j:=j0H h;exact⟨by rw[seqIndex_of h0 h1,e],by omega,by omega,h1⟩
  ·rw[if_neg h1]at h;cases h
 ·rw[if_neg h0]at h;by_cases h1 : -(n:Int)<=i
  ·rw[if_pos h1]at h;have e:(i+n).toNat=j:=j0H h;exact⟨by rw[seqIndex_neg (by omega) h1,e],by omega,h1,by omega⟩
  ·rw[if_neg h1]at h;cases h
theorem jkY {α:Type}{xs:List α}{i:Int}{v:α}(h:atI xs i=some v):∃j,seqIndex? i xs.length=some j/\xs[j]?=some v/\j<xs.length/\-(xs.length:Int)<=i/\i<xs.length:=by
 unfold atI at h
 cases e:ixN xs.length i with
 |none=>rw[e]at h;cases h
 |some j=>
  rw[e]at h;obtain⟨h1,h2,h3,h4⟩:=juG e;exact⟨j,h1,h,h2,h3,h4⟩
theorem jfY {α:Type}{xs:List α}{j:Nat}{v:α}(h:xs[j]?=some v):atI xs (j:Int)=some v:=by
 have hj:j<xs.length:=(j0e.mp h).1;have e:ixN xs.length (j:Int)=some j:=by
  unfold ixN;rw[if_pos (by omega),if_pos (by omega)];simp
 unfold atI;rw[e];exact h
def joj (b:Expr):Prop:=∀o i,subscripted b false o i=operate [o,i] (getItem o i)
def IxR (X:Cx)(r:R2):Prop:=
 ∀(value slice:Expr) (pins:List (Addr×Obj)) (s:Shared) (σ:St) (H:Hp) (x y:V) (v u:Value) (Q:VK),Inv X pins σ H s->jaN x v->jaN y u->r x y H Q ->
  subscripted slice false v u=operate [v,u] (getItem v u)->wpAny (model X.prog X.w) X.A (subscriptTail value slice v u) (EP X pins σ Q) X.xe s
def MtR (X:Cx)(id:String)(r:V->List V->Hp->VK->Prop):Prop:=
 ∀(pins:List (Addr×Obj)) (s:Shared) (σ:St) (H:Hp) (x:V) (xs:List V) (v:Value) (us:List Value) (Q:VK),Inv X pins σ H s->jaN x v->jaO xs us->r x xs H Q ->
  wpAny (model X.prog X.w) X.A (call (.builtin id) (v::us)) (EP X pins σ Q) X.xe s
section
variable {X:Cx} {a b:Expr} {ta tb:TE} {pos:Pos}
theorem IxR.or {r r':R2}(h:IxR X r)(h':IxR X r'):IxR X (fun x y H Q=>r x y H Q∨r' x y H Q):=by
 intro value slice pins s σ H x y v u Q I rx ry q hs;rcases q with q|q
 ·exact h value slice pins s σ H x y v u Q I rx ry q hs
 ·exact h' value slice pins s σ H x y v u Q I rx ry q hs
theorem jzI {r:R2}(hr:IxR X r)(ha:PE X a ta)(hb:PE X b tb)(hs:joj b):PE X (.Subscript a b pos) (tOp r ta tb):=by
 intro pins s σ H Q I h;exact Subscript_ (jzv ha hb I h fun v u s2 x y H2 I2 rx ry q=>hr a b pins s2 σ H2 x y v u Q I2 rx ry q (hs _ _))
def jAq (K:PySem.W.Frag):R2:=fun x y H Q=>∃p xs i v,x=.ref p/\y=.int i/\SqL K H p xs/\atI xs i=some v/\Q v H
def jAC (K:PySem.W.Frag):R2:=fun x y H Q=>∃p xs i v,x=.ref p/\y=.int i/\SqT K H p xs/\atI xs i=some v/\Q v H
def jAD:R2:=fun x y H Q=>∃z i c,x=.str z/\y=.int i/\z.length<=sizeLine/\atI z.cps.toList i=some c/\Q (.str ⟨#[c]⟩) H
theorem ju2:IxR X (jAq X.K):=by
 intro value slice pins s σ H x y v u Q I rx ry h hs;obtain⟨p,xs,i,z,rfl,rfl,hq,he,q⟩:=h;cases rx;obtain⟨t,rfl⟩:=ry;obtain⟨its,r,pl,hz⟩:=I.list hq;obtain⟨j,h1,h2,h3,h4,h5⟩:=jkY he;obtain⟨w,ew,rw'⟩:=r.get h2;have hl:=r.length;have hn:=jh1;have fin:EP X pins σ Q w s:=⟨z,H,I,rw',q⟩;by_cases h0:0<=i
 ·have hj:i.toNat=j:=by
   rw[seqIndex_of h0 h5]at h1;exact j0H h1
  exact item_listR pl.isList h0 (by omega) (by rw[hj];simpa using ew) fin hs
 ·have hj:(i+(its.toArray.size:Int)).toNat=j:=by
   rw[seqIndex_neg (by omega) h4]at h1;rw[j0j,<- hl];exact j0H h1
  exact subscriptTail_builtinR (x:=w) pl.isList.typeIs slot_list_getitem.lookup
   (wpAny_getItem_list_neg (Q:=fun r s'=>r=w/\EP X pins σ Q r s') pl.isList (by omega) (by rw[j0j]<;>omega) (by omega) (by rw[hj];simpa using ew) ⟨rfl,fin⟩) hs
theorem jwt:IxR X (jAC X.K):=by
 intro value slice pins s σ H x y v u Q I rx ry h hs;obtain⟨p,xs,i,z,rfl,rfl,hq,he,q⟩:=h;cases rx;obtain⟨t,rfl⟩:=ry;obtain⟨its,r,pl,hz⟩:=I.tuple hq;obtain⟨j,h1,h2,h3,h4,h5⟩:=jkY he;obtain⟨w,ew,rw'⟩:=r.get h2;have hl:=r.length;have hn:=jh1;have fin:EP X pins σ Q w s:=⟨z,H,I,rw',q⟩;exact subscriptTail_builtinR (x:=w) pl.typeIs slot_tuple_getitem.lookup
  (getItem_tuple (j:=j) (Q:=fun r s'=>r=w/\EP X pins σ Q r s') pl (by omega) (by omega) (by rw[j0j,<- hl];exact h1) (by simpa using ew) ⟨rfl,fin⟩) hs
theorem jwx:IxR X jAD:=by
 intro value slice pins s σ H x y v u Q I rx ry h hs;obtain⟨z,i,c,rfl,rfl,hz,he,q⟩:=h;obtain⟨t,rfl⟩:=rx;obtain⟨t',rfl⟩:=ry;obtain⟨j,h1,h2,h3,h4,h5⟩:=jkY he;have hl:z.cps.toList.length=z.length:=by simp[Str.length]
 rw[hl]at h1 h4 h5;have hn:=jh1;exact tail_any (typeIs_str s z t) slot_str_getitem.lookup (getItem_str (c:=c) (by
  have e1:decide (i < -(2 ^ 63:Int))=false:=decide_eq_false (by omega);have e2:decide (i ≥ 2 ^ 63)=false:=decide_eq_false (by omega);rw[e1,e2,Bool.or_false]) (by rw[h1];simpa using h2) ⟨.str ⟨#[c]⟩,H,I.tok _,⟨_,rfl⟩,q⟩) hs
def rIx (K:PySem.W.Frag):R2:=fun x y H Q=>jAq K x y H Q∨jAC K x y H Q∨jAD x y H Q
theorem jyu:IxR X (rIx X.K):=ju2.or (jwt.or jwx)
theorem Inv.lst {pins:List (Addr×Obj)}{σ:St}{H:Hp}{s:Shared}{p:Addr}{xs:List V}(I:Inv X pins σ H s)(h:H p=some (.lst xs)) :
  ∃(its:List Value) (n:Nat),jaO xs its/\s.heap.get? p=some {cls:=.type "list",data:=.seq its.toArray n}/\xs.length<=sizeLine:=by
 obtain⟨z,its,n,r,e⟩:=I.hok p _ h;exact⟨its,n,r,e,z⟩
theorem jkk (lo hi:Option Int)(n:Nat):(sliceBounds lo hi none n).1=((HT.sIx n 0 lo:Nat):Int)/\(sliceBounds lo hi none n).2.1=((HT.sIx n n hi:Nat):Int)/\(sliceBounds lo hi none n).2.2=1:=by
 refine⟨?_,?_,rfl⟩
 ·cases lo with
  |none=>simp[sliceBounds,HT.sIx]
  |some i=>
   simp only[sliceBounds,HT.sIx,Option.getD_none,show(1:Int) > 0 by decide,if_true];by_cases h:i<0
   ·simp only[h,if_true]<;>omega
   ·simp only[h,if_false]<;>omega
 ·cases hi with
  |none=>simp[sliceBounds,HT.sIx]
  |some i=>
   simp only[sliceBounds,HT.sIx,Option.getD_none,show(1:Int) > 0 by decide,if_true];by_cases h:i<0
   ·simp only[h,if_true]<;>omega
   ·simp only[h,if_false]<;>omega
theorem jiH (its:List Value)(lo hi:Option Int):slicePick its.toArray lo hi none=((its.drop (HT.sIx its.length 0 lo)).take (HT.sIx its.length its.length hi - HT.sIx its.length 0 lo)).toArray:=by
 obtain⟨h1,h2,h3⟩:=jkk lo hi its.toArray.size;unfold slicePick;rw[h1,h2,h3];simp only[sliceRange_one,pick_run,j0j]<;>rfl
noncomputable def jAN (K:PySem.W.Frag):V->Option Int->Option Int->Hp->VK->Prop:=fun x lo hi H Q=>∃a xs,x=.ref a/\SqL K H a xs/\∀p,H p=none->Q (.ref p) (upd H p (.lst (jsa xs lo hi)))
theorem jtO:SlR X (jAN X.K):=by
 intro pins s σ H x v vl vu lo hi sl Q I rx hs pl pu h;obtain⟨a,xs,rfl,hx,q⟩:=h;cases rx;obtain⟨its,r,ht,hz⟩:=I.list hx;have hlen:=r.length;refine⟨"list",_,slot_list_getitem.lookup,ht.isList.typeIs,?_⟩;refine wpAny_getItem_list_slice ht.isList hs pl pu .none (by simp) ?_ (by rw[j0j]<;>omega);rw[jiH,<- hlen];refine⟨.ref s.heap.objs.size,_,I.laid (t':=s.toks) (o:=.lst (jsa xs lo hi)) (fun b ob q=>j0c _ q) (j0l _) ?_,rfl,q _ (I.hok.fresh (j0l _))⟩;exact⟨j0I (jg4 xs lo hi) hz,_,0,(r.drop (HT.sIx xs.length 0 lo)).take (HT.sIx xs.length xs.length hi - HT.sIx xs.length 0 lo),j0n _ rfl⟩
noncomputable def jfG:V->Bool
 |.non=>true
 |.bl _=>true
 |.int _=>true
 |.str _=>true
 |_=>false
noncomputable def eqV:V->V->Bool
 |.non,.non=>true
 |.bl a,.bl b=>a==b
 |.bl a,.int b=>(if a then 1 else 0)==b
 |.int a,.bl b=>a==(if b then 1 else 0)
 |.int a,.int b=>a==b
 |.str a,.str b=>a==b
 |_,_=>false
theorem jso {A:Around}{s:Shared}{y x:V}{u v:Value}(ry:jaN y u)(rx:jaN x v)(fy:jfG y=true)(fx:jfG x=true):SeqAt.EqAt A s u v (eqV y x):=by
 cases y with
 |non=>
  cases ry
  cases x with
  |non=>cases rx;exact SeqAt.EqAt.same _
  |bl b=>cases rx;exact SeqAt.EqAt.none_bool b
  |int b=>obtain⟨t,rfl⟩:=rx;exact SeqAt.EqAt.none_int b t
  |str b=>obtain⟨t,rfl⟩:=rx;exact SeqAt.EqAt.none_str b t
  |_=>exact absurd (show false=true from fx) j0i
 |bl a=>
  cases ry
  cases x with
  |non=>cases rx;exact SeqAt.EqAt.bool_none a
  |bl b=>cases rx;exact SeqAt.EqAt.bool_bool a b
  |int b=>obtain⟨t,rfl⟩:=rx;exact SeqAt.EqAt.bool_int a b t
  |str b=>obtain⟨t,rfl⟩:=rx;exact SeqAt.EqAt.bool_str a b t
  |_=>exact absurd (show false=true from fx) j0i
 |int a=>
  obtain⟨t',rfl⟩:=ry
  cases x with
  |non=>cases rx;exact SeqAt.EqAt.int_none a t'
  |bl b=>cases rx;exact SeqAt.EqAt.int_bool a t' b
  |int b=>obtain⟨t,rfl⟩:=rx;exact SeqAt.EqAt.int_int a t' b t
  |str b=>obtain⟨t,rfl⟩:=rx;exact SeqAt.EqAt.int_str a t' b t
  |_=>exact absurd (show false=true from fx) j0i
 |str a=>
  obtain⟨t',rfl⟩:=ry
  cases x with
  |non=>cases rx;exact SeqAt.EqAt.str_none a t'
  |bl b=>cases rx;exact SeqAt.EqAt.str_bool a t' b
  |int b=>obtain⟨t,rfl⟩:=rx;exact SeqAt.EqAt.str_int a t' b t
  |str b=>obtain⟨t,rfl⟩:=rx;exact SeqAt.EqAt.str_str a t' b t
  |_=>exact absurd (show false=true from fx) j0i
 |_=>exact absurd (show false=true from fy) j0i
noncomputable def eqU (x:V)(u:Value):Bool:=match u with
 |.none=>eqV .non x
 |.bool b=>eqV (.bl b) x
 |.int i _=>eqV (.int i) x
 |.str z _=>eqV (.str z) x
 |_=>false
theorem jsd {x y:V}{u:Value}(r:jaN y u)(f:jfG y=true):eqU x u=eqV y x:=by
 cases y with
 |non=>cases r;rfl
 |bl b=>cases r;rfl
 |int i=>obtain⟨t,rfl⟩:=r;rfl
 |str z=>obtain⟨t,rfl⟩:=r;rfl
 |_=>exact absurd (show false=true from f) j0i
theorem jhi {x:V}:∀{xs:List V} {us:List Value},jaO xs us->xs.all jfG=true->us.any (eqU x)=xs.any fun y=>eqV y x
 |_,_,.nil,_=>rfl
 |y::xs,u::us,.cons r t,f=>by
  rw[j0Y,j0a]at f;rw[List.any_cons,List.any_cons,jsd r f.1,jhi t f.2]
theorem jfm {A:Around}{s:Shared}{x:V}{v:Value}(rx:jaN x v)(fx:jfG x=true):∀{xs:List V} {us:List Value},jaO xs us->xs.all jfG=true->∀u∈us,SeqAt.EqAt A s u v (eqU x u)
 |_,_,.nil,_=>fun u hu=>by cases hu
 |y::xs,u::us,.cons r t,f=>fun u' hu=>by
  rw[j0Y,j0a]at f;rcases j0d.mp hu with rfl|hu
  ·rw[jsd r f.1];exact jso r rx f.1 fx
  ·exact jfm rx fx t f.2 u' hu
noncomputable def inV (x:V)(xs:List V):Bool:=xs.any fun y=>eqV y x
def rIn (K:PySem.W.Frag)(neg:Bool):R2:=fun x y H Q=>∃p xs,y=.ref p/\(SqL K H p xs∨SqT K H p xs)/\jfG x=true/\xs.all jfG=true/\Q (.bl (if neg then !inV x xs else inV x xs)) H
theorem joX:OpR X (compareOp .In) (rIn X.K false):=by
 intro pins s σ H x y v u Q I rx ry h;obtain⟨p,xs,rfl,hq,fx,fs,q⟩:=h;cases ry;rcases hq with hq|hq
 ·obtain⟨its,r,pl,hz⟩:=I.list hq;refine SeqAt.in_listAt (eqU x) pl.isList (fun w hw=>jfm rx fx r fs w (by simpa using hw)) ⟨.bl _,H,I,rfl,?_⟩;rw[show its.toArray.any (eqU x)=its.any (eqU x)by simp,jhi r fs];exact q
 ·obtain⟨its,r,pl,hz⟩:=I.tuple hq;refine SeqAt.in_tupleAt (eqU x) pl (fun w hw=>jfm rx fx r fs w (by simpa using hw)) ⟨.bl _,H,I,rfl,?_⟩;rw[show its.toArray.any (eqU x)=its.any (eqU x)by simp,jhi r fs];exact q
theorem jjF:OpR X (compareOp .NotIn) (rIn X.K true):=by
 intro pins s σ H x y v u Q I rx ry h;obtain⟨p,xs,rfl,hq,fx,fs,q⟩:=h;cases ry;rcases hq with hq|hq
 ·obtain⟨its,r,pl,hz⟩:=I.list hq;refine SeqAt.notIn_listAt (eqU x) pl.isList (fun w hw=>jfm rx fx r fs w (by simpa using hw)) ⟨.bl _,H,I,rfl,?_⟩;rw[show its.toArray.any (eqU x)=its.any (eqU x)by simp,jhi r fs];exact q
 ·obtain⟨its,r,pl,hz⟩:=I.tuple hq;refine SeqAt.notIn_tupleAt (eqU x) pl (fun w hw=>jfm rx fx r fs w (by simpa using hw)) ⟨.bl _,H,I,rfl,?_⟩;rw[show its.toArray.any (eqU x)=its.any (eqU x)by simp,jhi r fs];exact q
theorem jkq:jbx X (.builtin "len") (fun xs H Q=>∃p ys,xs=[.ref p]/\(SqL X.K H p ys∨SqT X.K H p ys)/\Q (.int ys.length) H):=by
 intro pins s σ H xs us Q I r h;obtain⟨p,ys,rfl,hq,q⟩:=h;obtain⟨u,rfl,rx⟩:=jkc r;cases rx;have hn:=jh1;rcases hq with hq|hq
 ·obtain⟨its,r',pl,hz⟩:=I.list hq;have hlen:=r'.length;exact Calls.call_len_list pl.isList (by simp only[j0j]<;>omega) ⟨.int ys.length,H,I.tok _,⟨s.toks+1,by rw[j0j,hlen]⟩,q⟩
 ·obtain⟨its,r',pl,hz⟩:=I.tuple hq;have hlen:=r'.length;exact len_tuple pl (by simp only[j0j]<;>omega) ⟨.int ys.length,H,I.tok _,⟨s.toks+1,by rw[j0j,hlen]⟩,q⟩
theorem jko:jbx X (.builtin "len") (fun xs H Q=>∃z,xs=[.str z]/\z.length<=sizeLine/\Q (.int z.length) H):=by
 intro pins s σ H xs us Q I r h;obtain⟨z,rfl,hz,q⟩:=h;obtain⟨u,rfl,t,rfl⟩:=jkc r;have hn:=jh1;exact len_str (by omega) ⟨.int z.length,H,I.tok _,⟨_,rfl⟩,q⟩
theorem jbx.or {f:Value}{r r':List V->Hp->VK->Prop}(h:jbx X f r)(h':jbx X f r'):jbx X f (fun xs H Q=>r xs H Q∨r' xs H Q):=by
 intro pins s σ H xs us Q I rs q;rcases q with q|q
 ·exact h pins s σ H xs us Q I rs q
 ·exact h' pins s σ H xs us Q I rs q
theorem jkx:jbx X (.type "list") (fun xs H Q=>∃p ys,xs=[.ref p]/\(SqL X.K H p ys∨SqT X.K H p ys)/\∀l,H l=none->Q (.ref l) (upd H l (.lst ys))):=by
 intro pins s σ H xs us Q I r h;obtain⟨p,ys,rfl,hq,q⟩:=h;obtain⟨u,rfl,rx⟩:=jkc r;cases rx
 have fin:∀(its:List Value),jaO ys its->ys.length<=sizeLine->∀(h':Heap) (c':Nat),(∀b o',s.heap.get? b=some o'->h'.get? b=some o') ->
   h'.get? s.heap.objs.size=some {cls:=.type "list",dict:=none,data:=.seq its.toArray c',slots:=#[]}->EP X pins σ Q (.ref s.heap.objs.size) {s with heap:=h'}:=fun its r' hz h' c' kp e=>
  ⟨.ref s.heap.objs.size,_,I.laid (t':=s.toks) kp (j0l _) (show jbL X.prog X.w _ h' _ (.lst ys)from⟨hz,its,c',r',e⟩),rfl,q _ (I.hok.fresh (j0l _))⟩
 rcases hq with hq|hq
 ·obtain⟨its,r',pl,hz⟩:=I.list hq;have hlen:=r'.length;obtain⟨o,ho,hc,n,hd⟩:=pl.isList;exact call_list_seq p (.inl rfl) ho hc hd (fun h' c' kp e=>fin its r' hz h' c' kp e) (by simp only[j0j]<;>omega)
 ·obtain⟨its,r',pl,hz⟩:=I.tuple hq;have hlen:=r'.length;obtain⟨o,ho,hc,n,hd⟩:=pl;exact call_list_seq p (.inr rfl) ho hc hd (fun h' c' kp e=>fin its r' hz h' c' kp e) (by simp only[j0j]<;>omega)
theorem jiN:jbx X (.type "tuple") (fun xs H Q=>∃p ys,xs=[.ref p]/\((SqL X.K H p ys/\∀l,H l=none->Q (.ref l) (upd H l (.tup ys)))∨(SqT X.K H p ys/\Q (.ref p) H))):=by
 intro pins s σ H xs us Q I r h;obtain⟨p,ys,rfl,h⟩:=h;obtain⟨u,rfl,rx⟩:=jkc r;cases rx;rcases h with⟨hq,q⟩|⟨hq,q⟩
 ·obtain⟨its,r',pl,hz⟩:=I.list hq;have hlen:=r'.length;refine call_tuple_list pl.isList (fun h' kp=>?_) (by simp only[j0j]<;>omega);have I1:Inv X pins σ H {s with heap:=h'}:=I.kept (t':=s.toks) kp;have I2:Inv X pins σ (upd H h'.objs.size (.tup ys)) {s with heap:=h'.push {cls:=.type "tuple",data:=.seq its.toArray}}:=
   I1.laid (t':=s.toks) (fun b o e=>j0c _ e) (j0l _) (show jbL X.prog X.w _ _ _ (.tup ys)from⟨hz,its,0,r',j0n _ rfl⟩)
  exact⟨.ref h'.objs.size,_,I2,rfl,q _ (I1.hok.fresh (j0l _))⟩
 ·obtain⟨its,r',pl,hz⟩:=I.tuple hq;exact call_tuple_same pl ⟨.ref p,H,I,rfl,q⟩
def tyV (K:PySem.W.Frag)(T:String)(x:V)(H:Hp):Prop:=match x with
 |.str _=>T = "str"
 |.int _=>T = "int"
 |.ref p=>(T = "list"/\∃xs,SqL K H p xs)∨(T = "tuple"/\∃o,K.lookup p=some o/\o.cls=.type "tuple"/\o.dict=none) ∨
   (T = "dict"/\((∃kvs,H p=some (.dK kvs))∨∃kvs,H p=some (.dT kvs)))∨(T = "set"/\∃S n,H p=some (.set S n))
 |_=>False
theorem jsG {pins:List (Addr×Obj)}{σ:St}{H:Hp}{s:Shared}{T:String}{x:V}{v:Value}(I:Inv X pins σ H s)(r:jaN x v)(ty:tyV X.K T x H) :
  s.TypeIs v T/\∀a,v=.ref a->∃ob,s.heap.get? a=some ob/\ob.dict=none:=by
 cases x with
 |str z=>
  obtain⟨t,rfl⟩:=r;cases(show T = "str" from ty);exact⟨typeIs_str s z t,fun _ e=>nomatch e⟩
 |int i=>
  obtain⟨t,rfl⟩:=r;cases(show T = "int" from ty);exact⟨typeIs_int s i t,fun _ e=>nomatch e⟩
 |ref p=>
  cases r;rcases ty with⟨rfl,xs,hq⟩|⟨rfl,o,hk,hc,hd⟩|⟨rfl,hk⟩|⟨rfl,S,n,hk⟩
  ·obtain⟨its,_,pl,_⟩:=I.list hq;refine⟨pl.isList.typeIs,fun a e=>?_⟩;cases e;obtain⟨o,n,e,c,hd,_⟩:=pl;exact⟨o,e,hd⟩
  ·refine⟨⟨o,I.kIn p o hk,hc⟩,fun a e=>?_⟩;cases e;exact⟨o,I.kIn _ o hk,hd⟩
  ·have z:∃o,s.heap.get? p=some o/\o.ExactDict:=by
    rcases hk with⟨kvs,hk⟩|⟨kvs,hk⟩
    ·obtain⟨_,_,_,_,o,_,_,e,ex,_⟩:=I.hok p _ hk;exact⟨o,e,ex⟩
    ·obtain⟨_,_,_,_,o,_,_,e,ex,_⟩:=I.hok p _ hk;exact⟨o,e,ex⟩
   obtain⟨o,e,ex⟩:=z;refine⟨⟨o,e,ex.1⟩,fun a e2=>?_⟩;cases e2;exact⟨o,e,ex.2.1⟩
  ·obtain⟨o,_,_,_,e,ex,_⟩:=I.hok p _ hk;refine⟨⟨o,e,ex.1⟩,fun a e2=>?_⟩;cases e2;exact⟨o,e,ex.2.1⟩
 |_=>exact False.elim ty
def jAE (K:PySem.W.Frag)(T:String)(r:V->List V->Hp->VK->Prop)(to:TE):TE:=fun σ H Q=>to σ H fun x H1=>tyV K T x H1/\r x [] H1 Q
def tBM (K:PySem.W.Frag)(T:String)(r:V->List V->Hp->VK->Prop)(to:TE)(t:TA):TE:=fun σ H Q=>to σ H fun x H1=>tyV K T x H1/\t σ H1 fun xs H2=>r x xs H2 Q
variable {o e:Expr} {es:List Expr} {to:TE} {t:TA} {name:Str} {apos cpos:Pos} {T id:String} {r:V->List V->Hp->VK->Prop}
theorem jyi (pa:PlainAttrs T) (slot:Slot T name id) (hty:typeOf (.builtin id)=pure (.type "method_descriptor")) (hm:MtR X id r) (ho:PE X o to)
  (hbase:attributeBase o name X.env (eval o X.env)=eval o X.env:=by rfl) (hline:(apos.endLine==cpos.line)=true:=by rfl):PE X (.Call (.Attribute o name apos) [] [] cpos) (jAE X.K T r to):=by
 intro pins s σ H Q I h;refine wpAny_Call_method0_late hbase hline (thn (ho pins s σ H _ I h) fun v s1 ⟨x,H1,I1,r1,ty,q1⟩=>?_);obtain⟨h1,h2⟩:=jsG I1 r1 ty;exact⟨T,id,pa,slot,hty,h1,h2,Calls.callWith_builtin rfl (PySem.evalArgs_none (hm pins s1 σ H1 x [] v [] Q I1 r1 .nil q1))⟩
theorem jz3 (pa:PlainAttrs T) (slot:Slot T name id) (hty:typeOf (.builtin id)=pure (.type "method_descriptor")) (hm:MtR X id r) (ho:PE X o to) (ha:PA X (e::es) t)
  (hbase:attributeBase o name X.env (eval o X.env)=eval o X.env:=by rfl)
  (hfew:((backTo cpos (starEach (e::es) X.env)).all (fun x=>!x.1)&&(backToKw cpos (keywordEach [] X.env)).all (fun x=>x.1.isSome)
   && decide ((e::es).length+([]:List Keyword).length+(if([]:List Keyword).isEmpty then 0 else 1)<30))=true:=by rfl)
  (hline:(apos.endLine==cpos.line)=true:=by rfl) (hs:starEach (e::es) X.env=(false,eval e X.env)::starEach es X.env:=by rfl) (hplain:(backTo cpos (starEach es X.env)).any (·.1)=false:=by rfl) :
  PE X (.Call (.Attribute o name apos) (e::es) [] cpos) (tBM X.K T r to t):=by
 intro pins s σ H Q I h;refine wpAny_Call_method_late hbase hfew hline rfl (thn (ho pins s σ H _ I h) fun v s1 ⟨x,H1,I1,r1,ty,q1⟩=>?_);obtain⟨h1,h2⟩:=jsG I1 r1 ty;refine⟨T,id,pa,slot,hty,h1,h2,?_⟩;have hA:=ha cpos pins s1 σ H1 _ I1 q1;rw[hs]at hA ⊢;refine Calls.callWith_builtin (by show(false||(backTo cpos (starEach es X.env)).any (·.1))=false;rw[hplain]<;>rfl) (Calls.evalArgs_plain ?_);exact thn hA fun us s2 ⟨vs,H2,I2,r2,q2⟩=>hm pins s2 σ H2 x vs v us Q I2 r1 r2 q2
end
def MtM (X:Cx)(id:String)(r:V->List V->Hp->VK->Prop):Prop:=
 ∀(pins:List (Addr×Obj)) (s:Shared) (σ:St) (H:Hp) (x:V) (xs:List V) (v:Value) (us:List Value) (Q:VK),Inv X pins σ H s->jaN x v->jaO xs us->r x xs H Q ->
  wpAny (model X.prog X.w) X.A (call (.builtin id) (v::us)) (EP X pins σ Q) X.xe s
theorem jaO.one:∀{x:V} {us:List Value},jaO [x] us->∃u,us=[u]/\jaN x u
 |_,_,.cons r .nil=>⟨_,rfl,r⟩
theorem jaO.two {x y:V}{us:List Value}(h:jaO [x,y] us):∃u v,us=[u,v]/\jaN x u/\jaN y v:=by
 cases h with
 |cons r t=>
  cases t with
  |cons q s=>
   cases s;exact⟨_,_,rfl,r,q⟩
theorem jaO.zero:∀{us:List Value},jaO [] us->us=[]
 |_,.nil=>rfl
theorem jaO.rep {xs:List V}{us:List Value}(h:jaO xs us):∀k:Nat,jaO (List.replicate k xs).flatten (List.replicate k us).flatten
 |0=>.nil
 |k+1=>by
  rw[j0U,j0U,j1u,j1u];exact jaO.append h (jaO.rep h k)
theorem foldl_rep (its:List Value):∀(k:Nat) (acc:List Value),
  List.foldl (fun x1 x2=>x1++x2) acc.toArray (List.replicate k its.toArray)=(acc++(List.replicate k its).flatten).toArray
 |0,acc=>by simp
 |k+1,acc=>by
  have e:acc.toArray++its.toArray=(acc++its).toArray:=by simp
  have e2:(acc++its)++(List.replicate k its).flatten=acc++(List.replicate (k+1) its).flatten:=by
   rw[j0U,j1u,j1b]
  rw[<- e2,<- foldl_rep its k (acc++its),<- e,j0U,List.foldl_cons]
section
variable {X:Cx} {pins:List (Addr×Obj)} {σ:St} {H:Hp} {s:Shared} {l b:Addr} {xs ys zs:List V}
theorem Inv.lset {its its':List Value}{n:Nat}{f:Array Value->Array Value}{t':Nat}(I:Inv X pins σ H s)(hH:H l=some (.lst xs))
  (e:s.heap.get? l=some {cls:=.type "list",data:=.seq its.toArray n}) (hf:f its.toArray=its'.toArray) (hv:jaO ys its') (hz:ys.length<=sizeLine) :
  Inv X pins σ (upd H l (.lst ys)) {s with heap:=s.heap.update l (Obj.mapSeq f),toks:=t'}:=by
 have q:=PySem.IsL.update e f;rw[hf]at q;refine I.write (x:=l) (e:=l) (by rw[hH];exact trivial) (.inl rfl) (fun b' u hb hu=>(Heap.get?_update_other s.heap (Obj.mapSeq f) (Ne.symm hb)).trans hu) ⟨_,q⟩ ?_;exact⟨hz,its',_,hv,q⟩
theorem Inv.lnew {its:List Value}{t':Nat}(I:Inv X pins σ H s)(hv:jaO ys its)(hz:ys.length<=sizeLine) :
  Inv X pins σ (upd H s.heap.objs.size (.lst ys)) {s with heap:=s.heap.push {cls:=.type "list",data:=.seq its.toArray},toks:=t'}:=
 I.laid (fun _ _ q=>j0c _ q) (j0l _) ⟨hz,its,0,hv,j0n _ rfl⟩
theorem Inv.fresh (I:Inv X pins σ H s):H s.heap.objs.size=none:=I.hok.fresh (j0l _)
theorem Inv.lstM (I:Inv X pins σ H s)(hH:H l=some (.lst xs)):xs.length<=sizeLine/\∃(its:List Value) (n:Nat),jaO xs its/\xs.length=its.length/\s.heap.get? l=some {cls:=.type "list",data:=.seq its.toArray n}:=by
 obtain⟨z,its,n,r,e⟩:=I.hok l _ hH;exact⟨z,its,n,r,r.length,e⟩
end
section
variable {X:Cx}
noncomputable def rAppend:V->List V->Hp->VK->Prop:=fun x vs H Q=>∃l xs y,x=.ref l/\vs=[y]/\H l=some (.lst xs)/\xs.length<sizeLine/\Q .non (upd H l (.lst (xs++[y])))
theorem jnX:MtM X "list.append" rAppend:=by
 intro pins s σ H x vs v us Q I rx rv h;obtain⟨l,xs,y,rfl,rfl,hH,hz,q⟩:=h;cases rx;obtain⟨u,rfl,ru⟩:=rv.one;obtain⟨z,its,n,r,hl,e⟩:=I.lstM hH;refine call_meets F.slot_list_append ⟨_,e,rfl⟩ F.entry_list_append (F.args_list_append_2 _ _) (PySem.list_append l its.toArray n u (by rw[j0j];omega)) ⟨e,?_⟩;refine⟨.non,_,I.lset (its':=its++[u]) hH e (by simp) (r.append (.cons ru .nil)) ?_,rfl,q⟩;rw[j0v,j0L];omega
noncomputable def rClear:V->List V->Hp->VK->Prop:=fun x vs H Q=>∃l xs,x=.ref l/\vs=[]/\H l=some (.lst xs)/\Q .non (upd H l (.lst []))
theorem jqZ:MtM X "list.clear" rClear:=by
 intro pins s σ H x vs v us Q I rx rv h;obtain⟨l,xs,rfl,rfl,hH,q⟩:=h;cases rx;have hus:=rv.zero;subst hus;obtain⟨z,its,n,r,hl,e⟩:=I.lstM hH;refine call_meets F.slot_list_clear ⟨_,e,rfl⟩ F.entry_list_clear (F.args_list_clear_1 _) (AutoSeq1.list_clear_list_0 l its.toArray n (by rw[j0j];omega)) ⟨e,?_⟩;exact⟨.non,_,I.lset (its':=[]) (ys:=[]) hH e rfl .nil (j1r _),rfl,q⟩
theorem juz {α:Type}(xs:List α)(k:Nat):(List.replicate k xs).flatten.length=k*xs.length:=by
 induction k with
 |zero=>simp
 |succ k ih=>rw[j0U,j1u,j0v,ih,Nat.succ_mul,Nat.add_comm]
end
section
variable {prog:Program} {w:World} {A:Around} {E:Value->Shared->Prop} {s:Shared}
end
section
variable {X:Cx}
end
end _L2
namespace Att
open PySem PySem.W PySem.Calls PyProof.Rows
theorem jgD {P:Params}{h:Heap}:∀(ns:List Int) (vs:List Value),WellAll P h vs (ns.map WData.int)->IntsAre vs ns:=by
 intro ns
 induction ns with
 |nil=>
  intro vs w;rw[j0F]at w;cases w;exact .nil
 |cons n ns ih=>
  intro vs w;rw[j0k]at w
  cases w with
  |cons a b=>
   cases a;exact .cons _ _ (ih _ b)
theorem jnU {l:OpenLaw}{n:Nat}(hn:l.most=some n){P:Params}{h:Heap}{args:List WData}{vals:List Value}
  (hpre:l.row.toRowW.claim.pre args=true) (hwl:WellAll P h vals args) :
  ∃a vs ns,vals=[Value.ref a]/\args=[WData.list (ns.map WData.int)]/\h.get? a=some {cls:=.type "list",data:=.seq vs.toArray}/\IntsAre vs ns/\ns.length<=n:=by
 have hsh:WShape.hasAll [] args [.list .int]=true:=(pre_splitW hpre).1;have hc:l.pre.holds [] {args:=args}=true:=(pre_splitW hpre).2;obtain⟨d,r,rfl,h1,h2⟩:=hasAllW_cons hsh;obtain rfl:=hasAllW_nil h2;obtain⟨xs,rfl,h3⟩:=hasW_list h1;obtain⟨ns,rfl⟩:=items_int h3;have hlen:ns.length<=n:=by
  unfold OpenLaw.pre at hc;have h4:(WTm.not (.lt (.lit (.int (n:Int))) (.len (.arg 0)))).holds [] {args:=[.list (ns.map .int)]}=true:=by
   have h4:=(holds_andW hc).1;rw[hn]at h4;exact h4
  have h5:=condW_of h4 (w_not (w_lt w_lit (w_len_list (w_arg rfl))));rw[j0f]at h5;refine j1h fun q=>?_;have q':(n:Int)<((ns.length:Nat):Int):=by omega
  first
   |(rw[decide_eq_true q']at h5;exact absurd h5 (by decide))
   |(simp at h5;omega)
 cases hwl with
 |cons w1 w2=>
  cases w2
  cases w1 with
  |list ho hall=>exact⟨_,_,ns,rfl,rfl,ho,jgD ns _ hall,hlen⟩
theorem jpC (l:OpenLaw)(args:List WData):l.row.toRowW.claim.post args (.bool true) args=true:=
 postW_of (r:=l.row.toRowW) (X:=(true==true))
  (show WShape.has [] (.bool true) .bool=true by first|rfl|decide|simp[WShape.has,WShape.arms,WShape.armsAll])
  (show(WTm.eq .res (.lit (.bool true))).value [] {args:=args,res:=some (.bool true),after:=args}=some (.bool (true==true))from w_eq_bool (w_res rfl) w_lit) rfl
theorem attach_call {l:OpenLaw}{n:Nat}{q:Program}{loose:List Str}{XP:(Str->Option Value)->Heap->Prop}{YP:World->Heap->Prop}{d:DefRec}
  (hn:l.most=some n) (hdf:d.params.defaults=[])
  (call:∀(w:World) (s₀ s₁:Shared) (mg mb:Str->Option Value) (fa:Addr) (o:Obj) (pm cd doc:Value) (a:Addr) (vs:List Value) (ns:List Int),
   Ground q loose [] XP w s₀ mg mb s₁.heap->YP w s₁.heap ->
   s₁.heap.get? fa=some o->o.data=.func (docDef d.name d.params d.body d.scope pm cd doc)->s₁.heap.CodeRec cd d.name->mg d.name=some (.ref fa) ->
   s₁.heap.get? a=some {cls:=.type "list",data:=.seq vs.toArray}->IntsAre vs ns->ns.length<=n->s₁.gens = #[] ->
   codeAny (model l.prog w) callerA (.call (.ref fa) ⟨[.ref a],[]⟩) (fun r s'=>r=.ok (.ret (.bool true))/\OldK s₁.heap s'.heap/\s'.os=s₁.os/\AllBare s'.gens) s₁) :
  WalkO q loose XP YP l.row.toRowW d [] (fun f vs=>PySem.call f vs):=by
 intro w s₀ s₁ mg mb G Y fa o pm cd doc dV kV ho hd hcd hD hmg hg args vals as hpre hlay hrd hwl hlo;obtain rfl:dV=.none:=Dflts.none hD hdf;obtain rfl:kV=.none:=Dflts.noKw hD;obtain⟨a,vs,ns,rfl,rfl,hobj,hints,hlen⟩:=jnU hn hpre hwl;refine enter_call (codeAny_mono (call w s₀ s₁ mg mb fa o pm cd doc a vs ns G Y ho (fd_plain hd) hcd hmg hobj hints hlen hg) fun r s' hq=>?_);obtain⟨rfl,h2,h3,h4⟩:=hq;exact⟨.inl ⟨.bool true,.bool true,[],rfl,fun _=>rfl,.bool true,jpC l _,fun _=>⟨List.Pairwise.nil,fun _ hm=>(nomatch hm)⟩⟩,h2,h3,h4⟩
section
variable {prog:Program} {w:World} {A:Around} {E:Value->Shared->Prop} {s:Shared} {K:Frag}
end
end Att
namespace _L2
open PySem PySem.Spec PyProof.Rows
theorem jjW:∀{vs:List Value} {ns:List Int},IntsAre vs ns->jaO (ns.map V.int) vs
 |_,_,.nil=>.nil
 |_,_,.cons n t h=>.cons ⟨t,rfl⟩ (jjW h)
def jyW (H:Hp):Prop:=∀b,H b=none∨∃o xs,H b=some (.frz o (.lst xs))
theorem jq7 {P:Program}{w:World}{K:PySem.W.Frag}{mg mb:Str->Option Value}{CX:CXT}{k:Nat}{fa a:Addr}{fd:FuncData}{x:Str}{sp:Sp}{s₁:Shared}{vs:List Value}{ns:List Int}
  (KX:K.In s₁.heap) (hns:s₁.heap.Ns mainGlobals mg) (hb:s₁.heap.Ns builtinsNs mb) (hbb:∀x:Str,x≠"__name__"->mb x=bootBuiltins x) (hlim:s₁.heap.NoLimit) (hg:s₁.gens = #[])
  (ha:s₁.heap.get? a=some {cls:=.type "list",data:=.seq vs.toArray}) (hi:IntsAre vs ns) (hl:ns.length<=sizeLine) (hr:Room k callerA)
  (F:∀base:Heap,K.In base->base.Ns mainGlobals mg->FnOk P w K mg base CX k fa fd [x] sp) (hbind:∀(s:Shared) (u:Value),BindsTo s fd ⟨[u],[]⟩ [(x,u)])
  (hsp:∀H:Hp,jyW H->SqL K H a (ns.map V.int)->sp [.ref a] H (fun v _=>v=.bl true) fun _ _ _=>False)
  (hCX:∀H e s',CX [] H s₁ (fun _ _ _=>False) e s'->False) :
  codeAny (model P w) callerA (.call (.ref fa) ⟨[.ref a],[]⟩) (fun r s'=>r=.ok (.ret (.bool true))/\OldK s₁.heap s'.heap/\s'.os=s₁.os/\AllBare s'.gens) s₁:=by
 have rv:=jjW hi;have lenV:=hi.length
 have core:∀H:Hp,jyW H->SqL K H a (ns.map V.int)->HOk P w H s₁.heap->(∀b,H b≠none->b=a)->(H a≠none->K.lookup a=none) ->
   codeAny (model P w) callerA (.call (.ref fa) ⟨[.ref a],[]⟩) (fun r s'=>r=.ok (.ret (.bool true))/\OldK s₁.heap s'.heap/\s'.os=s₁.os/\AllBare s'.gens) s₁:=by
  intro H hO hS hok hA hK;have base_of:∀{b:Addr} {o:Obj},s₁.heap.get? b=some o->H b=none->(jq6 s₁.heap H).get? b=some o:=fun e n=>jqG e n;have noA:∀{b:Addr} {o:Obj} {es:Array DictEntry} {ep:Nat},s₁.heap.get? b=some o->o.data=.dict es ep->H b=none:=fun {b o es ep} e d=>by
   cases q:H b with
   |none=>rfl
   |some u=>
    have e':b=a:=hA b (by rw[q];simp);subst e';rw[ha]at e;cases e;have d':Data.seq vs.toArray _=Data.dict es ep:=d;cases d'
  have nsK:∀{b:Addr} {m:Str->Option Value},s₁.heap.Ns b m->(jq6 s₁.heap H).Ns b m:=fun {b m} ⟨o,es,ep,e,d,r⟩=>⟨o,es,ep,base_of e (noA e d),d,r⟩;have hKb:K.In (jq6 s₁.heap H):=fun b o e=>base_of (KX b o e) (by
   cases q:H b with
   |none=>rfl
   |some u=>
    have e':b=a:=hA b (by rw[q];simp);subst e';rw[hK (by rw[q];simp)]at e;cases e)
  have hM:Mod K mg (jq6 s₁.heap H):=⟨hKb,nsK hns,⟨mb,nsK hb,hbb⟩,let⟨mc,h1,h2⟩:=hlim;⟨mc,nsK h1,h2⟩⟩;have e0:Env0 P w K mg (jq6 s₁.heap H) callerA [] s₁ H:=⟨rfl,hM,fun b o e=>jvA e,j1j (joB _ _),trivial,fun b hb=>absurd (show b∈([]:List Addr)from hb) (by simp),hok,.of_eq hg⟩;refine codeAny_mono ((F _ hKb (nsK hns)).run callerA [] s₁ H ⟨[.ref a],[]⟩ [.ref a] [.ref a] _ _ hr e0 (hbind s₁ (.ref a)) (.cons rfl .nil) (hsp H hO hS)) fun r s' h=>?_
  cases r with
  |error e=>exact(hCX H e s' h).elim
  |ok fl=>
   cases fl with
   |next=>exact False.elim h
   |brk=>exact False.elim h
   |cont=>exact False.elim h
   |ret u=>
    obtain⟨v,H',os,bare,un,hok',r',q⟩:=h;have q':v=.bl true:=q;subst q';obtain rfl:u=Value.bool true:=r';refine⟨rfl,OldK.of_keep fun b o e=>?_,os,bare⟩
    cases q:H b with
    |none=>exact un.keep b o e q (by intro z;exact absurd (show b∈([]:List Addr)from z) (by simp)) (by simp)
    |some u=>
     rcases hO b with z|⟨ob,xs,z⟩
     ·rw[q]at z;cases z
     ·have z2:=un.frzs b ob _ z;obtain⟨e1,_⟩:=hok b _ z;obtain⟨e2,_⟩:=hok' b _ z2;rw[e]at e1;cases e1;exact e2
 cases hk:K.lookup a with
 |some o=>
  have e:=KX a o hk;rw[ha]at e;cases e;refine core (fun _=>none) (fun _=>.inl rfl) (.inr ⟨_,vs.toArray,_,hk,rfl,rfl,rfl,by rw[j0j,lenV];exact hl,by simpa using rv⟩) (fun b u z=>by have z':(none:Option HO)=some u:=z;cases z') (fun b z=>absurd rfl z) fun z=>absurd rfl z
 |none=>
  refine core (fun b=>if b=a then some (.frz {cls:=.type "list",data:=.seq vs.toArray} (.lst (ns.map V.int)))else none) (fun b=>?_) (.inl (.inr ⟨{cls:=.type "list",data:=.seq vs.toArray},if_pos rfl⟩)) (fun b u z=>?_) (fun b z=>?_) fun _=>hk
  ·by_cases hb:b=a
   ·exact .inr ⟨_,_,if_pos hb⟩
   ·exact .inl (if_neg hb)
  ·by_cases hb:b=a
   ·have z':=(if_pos hb).symm.trans z;cases z';subst hb;exact⟨ha,by rw[j0f];exact hl,vs,_,rv,ha⟩
   ·have z':=(if_neg hb).symm.trans z;cases z'
  ·by_cases hb:b=a
   ·exact hb
   ·exact absurd (if_neg hb) z
theorem jtU {l:PySem.W.OpenLaw}{n k:Nat}{q:Program}{loose:List Str}{XP:(Str->Option Value)->Heap->Prop}{YP:World->Heap->Prop}{d:DefRec}{K:Params->PySem.W.Frag}{CX:World->CXT}{sp:World->Sp}{x:Str}
  (hn:l.most=some n) (hn2:n<=sizeLine) (hdf:d.params.defaults=[]) (hr:Room k callerA)
  (hY:∀(w:World) (h:Heap),YP w h->(K w.params).In h)
  (F:∀(w:World) (mg:Str->Option Value) (fa:Addr) (h:Heap),(K w.params).In h->h.Ns mainGlobals mg->mg d.name=some (.ref fa) ->
   ∃fd:FuncData,(∀(s:Shared) (u:Value),BindsTo s fd ⟨[u],[]⟩ [(x,u)]) /\
    ∀base:Heap,(K w.params).In base->base.Ns mainGlobals mg->FnOk l.prog w (K w.params) mg base (CX w) k fa fd [x] (sp w))
  (hsp:∀(w:World) (H:Hp) (a:Addr) (ns:List Int),ns.length<=n->jyW H->SqL (K w.params) H a (ns.map V.int)->sp w [.ref a] H (fun v _=>v=.bl true) fun _ _ _=>False)
  (hCX:∀(w:World) (H:Hp) (s:Shared) (e:Value) (s':Shared),CX w [] H s (fun _ _ _=>False) e s'->False) :
  PySem.W.WalkO q loose XP YP l.row.toRowW d [] (fun f vs=>PySem.call f vs):=by
 refine Att.attach_call hn hdf fun w s₀ s₁ mg mb fa o pm cd doc a vs ns G Y ho hd hcd hmg hobj hints hlen hg=>?_;have KX:=hY w _ Y;obtain⟨fd,hb,hF⟩:=F w mg fa _ KX G.T.g hmg;exact jq7 KX G.T.g G.T.b G.T.builtins G.T.nolimit hg hobj hints (j0I hlen hn2) hr hF hb (fun H hO hS=>hsp w H a ns hlen hO hS) fun H e s'=>hCX w H s₁ e s'
theorem walk_ofK {l:PySem.W.OpenLaw}{n k:Nat}{q:Program}{loose:List Str}{XP:(Str->Option Value)->Heap->Prop}{YP:World->Heap->Prop}{d:DefRec}{K:Params->PySem.W.Frag}{CX:CXT}{sp:PySem.W.Frag->Sp}{x:Str}
  (hn:l.most=some n) (hn2:n<=sizeLine) (hdf:d.params.defaults=[]) (hr:Room k callerA)
  (hY:∀(w:World) (h:Heap),YP w h->(K w.params).In h)
  (F:∀(w:World) (mg:Str->Option Value) (fa:Addr) (h:Heap),(K w.params).In h->h.Ns mainGlobals mg->mg d.name=some (.ref fa) ->
   ∃fd:FuncData,(∀(s:Shared) (u:Value),BindsTo s fd ⟨[u],[]⟩ [(x,u)]) /\
    ∀base:Heap,(K w.params).In base->base.Ns mainGlobals mg->FnOk l.prog w (K w.params) mg base CX k fa fd [x] (sp (K w.params)))
  (hsp:∀(K:PySem.W.Frag) (H:Hp) (a:Addr) (ns:List Int),ns.length<=n->jyW H->SqL K H a (ns.map V.int)->sp K [.ref a] H (fun v _=>v=.bl true) fun _ _ _=>False)
  (hCX:∀(H:Hp) (s:Shared) (e:Value) (s':Shared),CX [] H s (fun _ _ _=>False) e s'->False) :
  PySem.W.WalkO q loose XP YP l.row.toRowW d [] (fun f vs=>PySem.call f vs):=
 jtU (K:=K) (CX:=fun _=>CX) (sp:=fun w=>sp (K w.params)) hn hn2 hdf hr hY F (fun w H a ns h1 h2 h3=>hsp (K w.params) H a ns h1 h2 h3) fun _ H s e s'=>hCX H s e s'
noncomputable def jnK (s:Stmt)(j:Nat):Stmt:=match s with
 |.ClassDef _ _ _ body _ _ _ _ _ _ _=>body.getD j (.Pass ⟨0,0,0,0⟩)
 |_=>.Pass ⟨0,0,0,0⟩
noncomputable def jeg (s:Stmt):Arguments:=match s with
 |.FunctionDef _ a _ _ _ _ _ _ _ _=>a
 |_=>{posonlyargs:=[],args:=[],vararg:=none,kwonlyargs:=[],kw_defaults:=[],kwarg:=none,defaults:=[]}
noncomputable def jae (s:Stmt):List Stmt:=match s with
 |.FunctionDef _ _ b _ _ _ _ _ _ _=>b
 |_=>[]
noncomputable def ja (s:Stmt):Scope:=match s with
 |.FunctionDef _ _ _ _ _ _ sc _ _ _=>sc
 |_=>{kind:=.function,names:=[],isGenerator:=false,isCoroutine:=false}
noncomputable abbrev CX0:CXT:=fun _ _ _ _ _ _=>False
noncomputable abbrev E0:XK:=fun _ _ _=>False
theorem jAf {X:Cx}:jf9 CX0 X E0:=fun _ _ _ _ _ _ _ h=>h.elim
structure Fun (K:PySem.W.Frag) (x qual:Str) (st:Stmt) (f:Addr) (fd:FuncData):Prop where
 ex:∃(oc:Value) (od:Option Addr) (kV doc pm:Value) (an:Option Addr) (cdv ct:Value) (osl:Array (Option Value)),
  fd=PySem.W.fnOf x qual (jeg st) (jae st) (ja st) .none kV doc pm an cdv ct/\K.lookup f=some ⟨oc,od,.func fd,osl⟩/\PySem.W.codeIn K cdv qual=true
 kp:PySem.W.keepIn K (.ref f)=true
section
variable {P:Program} {w:World} {K:PySem.W.Frag} {mg:Str->Option Value} {base:Heap}
theorem Fun.ok {x qual:Str}{st:Stmt}{f:Addr}{fd:FuncData}{N ps:List Str}{k:Nat}{sp:Sp}(F:Fun K x qual st f fd)(S:FnScope N ps (ja st))(len:∀vs H Q E,sp vs H Q E->vs.length=ps.length)
  (hbody:∀(cdv:Value) (A:Around) (outer:List Env) (s:Shared) (H:Hp) (vs:List V) (Q:VK) (E:XK),Room k (A.deeper (envOfC qual (ja st) s.heap.objs.size f cdv))->sp vs H Q E ->
   ∃t,PSs (jjC CX0 P w K mg base N qual (ja st) f cdv A outer s H E).nox (jae st) t/\t {nx:=fun _ H'=>Q .non H',rt:=Q} (start N vs) H):FnOk P w K mg base CX0 (k+1) f fd ps sp:=by
 obtain⟨oc,od,kV,doc,pm,an,cdv,ct,osl,rfl,lk,hcd⟩:=F.ex;refine jwi lk hcd S len fun A outer s H vs Q E hr hsp=>?_;obtain⟨t,h,q⟩:=hbody cdv A outer s H vs Q E hr hsp;exact⟨t,h.nox,q⟩
theorem Fun.binds {x qual:Str}{st:Stmt}{f:Addr}{fd:FuncData}{ps:List Str}(F:Fun K x qual st f fd)
  (h:∀(kV doc pm:Value) (an:Option Addr) (cdv ct:Value) (us:List Value),us.length=ps.length->bindArgs (PySem.W.fnOf x qual (jeg st) (jae st) (ja st) .none kV doc pm an cdv ct) ⟨us,[]⟩=pure (ps.zip us)):jeR K fd ps []:=by
 obtain⟨oc,od,kV,doc,pm,an,cdv,ct,osl,rfl,lk,hcd⟩:=F.ex;exact .all (h kV doc pm an cdv ct)
theorem jaw {x qual:Str}{st:Stmt}{f:Addr}{oc:Value}{od an:Option Addr}{osl:Array (Option Value)}{kV doc pm cdv ct:Value}(l:K.lookup f=some ⟨oc,od,.func (PySem.W.fnOf x qual (jeg st) (jae st) (ja st) .none kV doc pm an cdv ct),osl⟩)
  (c:PySem.W.codeIn K cdv qual=true) (k:PySem.W.keepIn K (.ref f)=true):Fun K x qual st f (PySem.W.fnOf x qual (jeg st) (jae st) (ja st) .none kV doc pm an cdv ct):=⟨⟨oc,od,kV,doc,pm,an,cdv,ct,osl,rfl,l,c⟩,k⟩
end
section
variable {X:Cx}
end
def jfK (H H':Hp):Prop:=∀b o,H b=some o->H' b=some o
theorem jfK.refl (H:Hp):jfK H H:=fun _ _ h=>h
theorem jfK.trans {H H1 H2:Hp}(a:jfK H H1)(b:jfK H1 H2):jfK H H2:=fun c o h=>b c o (a c o h)
theorem jfK.free {H H':Hp}(e:jfK H H'){l:Addr}(h:H' l=Option.none):H l=Option.none:=by
 cases q:H l with
 |none=>rfl
 |some o=>
  rw[e l o q]at h;cases h
theorem jfK.seq {K:PySem.W.Frag}{H H':Hp}{a:Addr}{xs:List V}(e:jfK H H')(h:SqL K H a xs):SqL K H' a xs:=by
 rcases h with(h|⟨o,h⟩)|h
 ·exact .inl (.inl (e _ _ h))
 ·exact .inl (.inr ⟨o,e _ _ h⟩)
 ·exact .inr h
end _L2
namespace _L2
open PySem
def Rsg (xs:Array Nat):Prop:=∀i k a b:Nat,i<k->xs[i]?=some a->xs[k]?=some b->a<b
abbrev Occ (xs:Array Nat) (j:Nat):Prop:=∃i:Nat,xs[i]?=some j
theorem Rsg.inj {xs:Array Nat}(h:Rsg xs){i k a:Nat}(hi:xs[i]?=some a)(hk:xs[k]?=some a):i=k:=by
 rcases Nat.lt_trichotomy i k with l|l|l
 ·exact absurd (h _ _ _ _ l hi hk) (j1x _)
 ·exact l
 ·exact absurd (h _ _ _ _ l hk hi) (j1x _)
theorem jjs {xs:Array Nat}{j:Nat}(hr:Rsg xs):∀(f lo hi:Nat),lo<=hi->hi<=xs.size->hi - lo<=f->(∀i a,i<lo->xs[i]?=some a->a<j)->(∀i a,hi<=i->xs[i]?=some a->j<=a) ->
  SetTable.below.go xs j f lo hi<=xs.size/\(∀i a,i<SetTable.below.go xs j f lo hi->xs[i]?=some a->a<j)/\(∀i a,SetTable.below.go xs j f lo hi<=i->xs[i]?=some a->j<=a)
 |0,lo,hi,h1,h2,h3,ha,hb=>by
  unfold SetTable.below.go;exact⟨by omega,ha,fun i a hi e=>hb i a (by omega) e⟩
 |f+1,lo,hi,h1,h2,h3,ha,hb=>by
  unfold SetTable.below.go;by_cases hl:lo<hi
  ·rw[if_pos hl];dsimp only;obtain⟨v,hv⟩:∃v,xs[(lo+hi) / 2]?=some v:=⟨xs[(lo+hi) / 2]'(by omega),by simp⟩;have hg:xs.getD ((lo+hi) / 2) j=v:=by simp[j0w,hv]
   rw[hg];split
   ·rename_i hvj;refine jjs hr f _ hi (by omega) h2 (by omega) (fun i a hi' e=>?_) hb;by_cases e2:i=(lo+hi) / 2
    ·subst e2;rw[hv]at e;cases e;exact hvj
    ·exact Nat.lt_trans (hr i _ a v (by omega) e hv) hvj
   ·rename_i hvj;refine jjs hr f lo _ (by omega) (by omega) (by omega) ha (fun i a hi' e=>?_);by_cases e2:i=(lo+hi) / 2
    ·subst e2;rw[hv]at e;cases e;omega
    ·exact j0I (j1h hvj) (Nat.le_of_lt (hr _ i v a (by omega) hv e))
  ·rw[if_neg hl];exact⟨by omega,ha,fun i a hi e=>hb i a (by omega) e⟩
theorem jiB {xs:Array Nat}(hr:Rsg xs)(j:Nat):SetTable.below xs j<=xs.size/\(∀i a,i<SetTable.below xs j->xs[i]?=some a->a<j)/\(∀i a,SetTable.below xs j<=i->xs[i]?=some a->j<=a):=by
 unfold SetTable.below;exact jjs hr _ _ _ (j1r _) (j0l _) (by omega) (fun i a h=>by omega) (fun i a h e=>by have:=(j0N.mp e).1;omega)
theorem jrZ {xs:Array Nat}(hr:Rsg xs){i j:Nat}(h:xs[i]?=some j):SetTable.below xs j=i:=by
 obtain⟨_,h1,h2⟩:=jiB hr j;rcases Nat.lt_trichotomy (SetTable.below xs j) i with l|l|l
 ·obtain⟨v,hv⟩:∃v,xs[SetTable.below xs j]?=some v:=⟨xs[SetTable.below xs j]'(by have:=(j0N.mp h).1;omega),by simp⟩;have:=hr _ _ _ _ l hv h;have:=h2 _ _ (j0l _) hv;omega
 ·exact l
 ·have:=h1 _ _ l h;omega
theorem jkp {t:SetTable}(hr:Rsg t.place){i j:Nat}(h:t.place[i]?=some j):t.slot j=.live i:=by
 unfold SetTable.slot;simp only[jrZ hr h,h,BEq.rfl,if_true]
theorem jmL {t:SetTable}(hd:t.dummies = #[]){j:Nat}(h:¬ Occ t.place j):t.slot j=.empty:=by
 unfold SetTable.slot SetTable.has;have h1:(t.place[SetTable.below t.place j]?==some j)=false:=by
  rw[beq_eq_false_iff_ne];exact fun e=>h ⟨_,e⟩
 simp only[h1,hd,Array.size_empty,j0p,if_false];simp
noncomputable def T0 (m:Nat):SetTable:={SetTable.fresh 0 0 true with mask:=m}
noncomputable def wk (m:Nat)(p:SetTable.Probe):Nat->SetTable.Probe
 |0=>p
 |n+1=>wk m ((T0 m).advance p) n
theorem jix (m:Nat):∀(n:Nat) (p:SetTable.Probe),wk m p (n+1)=(T0 m).advance (wk m p n)
 |0,_=>rfl
 |n+1,p=>jix m n ((T0 m).advance p)
theorem jgL (m:Nat):∀(n k:Nat) (p:SetTable.Probe),wk m p (n+k)=wk m (wk m p n) k
 |0,k,p=>by rw[Nat.zero_add];rfl
 |n+1,k,p=>by
  rw[Nat.add_right_comm];exact jgL m n k _
noncomputable def st0 (m:Nat)(h:Int):SetTable.Probe:=(T0 m).probeStart h
theorem jj1 (m:Nat)(p:SetTable.Probe):((T0 m).advance p).dummy=p.dummy:=by
 unfold SetTable.advance;split<;>rfl
theorem jl2 (m:Nat):∀(n:Nat) (p:SetTable.Probe),(wk m p n).dummy=p.dummy
 |0,_=>rfl
 |n+1,p=>(jl2 m n _).trans (jj1 m p)
theorem jlQ {t:SetTable}(hr:Rsg t.place)(hd:t.dummies = #[])(g:Nat->Int)(h:Int):∀(f:Nat) (p:SetTable.Probe),p.dummy=none->(∃n,n<f/\¬ Occ t.place (wk t.mask p n).j) ->
  ∃n,(∀k,k<n->∃i:Nat,t.place[i]?=some (wk t.mask p k).j/\g i≠h) /\
   (((¬ Occ t.place (wk t.mask p n).j)/\SetTable.probe.go t g h f p=some (.empty (wk t.mask p n).j none)) ∨
    ∃i:Nat,t.place[i]?=some (wk t.mask p n).j/\g i=h/\SetTable.probe.go t g h f p=some (.candidate (wk t.mask p n).j i (wk t.mask p (n+1))))
 |0,p,_,⟨n,hn,_⟩=>by omega
 |f+1,p,hp,⟨n,hn,he⟩=>by
  unfold SetTable.probe.go;by_cases h0:Occ t.place p.j
  ·obtain⟨i,hi⟩:=h0;rw[jkp hr hi];dsimp only;by_cases hg:g i=h
   ·rw[if_pos (by simpa using hg)];exact⟨0,fun k hk=>by omega,.inr ⟨i,hi,hg,rfl⟩⟩
   ·rw[if_neg (by simpa using hg)];have hn0:n≠0:=fun z=>by subst z;exact he ⟨i,hi⟩
    obtain⟨n',rfl⟩:∃n',n=n'+1:=⟨n - 1,by omega⟩;obtain⟨m,h1,h2⟩:=jlQ hr hd g h f (t.advance p) ((jj1 t.mask p).trans hp) ⟨n',by omega,he⟩;refine⟨m+1,fun k hk=>?_,h2⟩
    cases k with
    |zero=>exact⟨i,hi,hg⟩
    |succ k=>exact h1 k (by omega)
  ·rw[jmL hd h0];dsimp only;exact⟨0,fun k hk=>by omega,.inl ⟨h0,by rw[hp];rfl⟩⟩
noncomputable def rs (m i q:Nat):SetTable.Probe:={j:=i,more:=SetTable.runEnd m i - i,i:=i,perturb:=q,dummy:=none}
theorem jsq (m:Nat)(h:Int):st0 m h=rs m (SetTable.bits h % (m+1)) (SetTable.bits h):=rfl
theorem jxl (m i:Nat):SetTable.runEnd m i - i<=9:=by
 unfold SetTable.runEnd;split<;>omega
theorem joA (m i:Nat):i<=SetTable.runEnd m i:=by
 unfold SetTable.runEnd;split<;>omega
theorem jhX (m i q:Nat):∀k,k<=SetTable.runEnd m i - i->wk m (rs m i q) k={rs m i q with j:=i+k,more:=SetTable.runEnd m i - i - k}
 |0,_=>rfl
 |k+1,h=>by
  rw[jix,jhX m i q k (by omega)];unfold SetTable.advance;rw[if_pos (show SetTable.runEnd m i - i - k > 0 by omega)];rfl
noncomputable def lps (m:Nat):Nat->Nat×Nat->Nat×Nat
 |0,x=>x
 |n+1,x=>lps m n (SetTable.leap m x.1 x.2)
theorem jiy (m i q:Nat):wk m (rs m i q) (SetTable.runEnd m i - i+1)=rs m (SetTable.leap m i q).1 (SetTable.leap m i q).2:=by
 rw[jix,jhX m i q _ (j0l _)];unfold SetTable.advance;rw[if_neg (show ¬ SetTable.runEnd m i - i - (SetTable.runEnd m i - i) > 0 by omega)];rfl
theorem jsJ (m:Nat):∀(n i q:Nat),∃k,k<=10*n/\wk m (rs m i q) k=rs m (lps m n (i,q)).1 (lps m n (i,q)).2
 |0,i,q=>⟨0,j1r _,rfl⟩
 |n+1,i,q=>by
  obtain⟨k,hk,e⟩:=jsJ m n (SetTable.leap m i q).1 (SetTable.leap m i q).2;have:=jxl m i;refine⟨SetTable.runEnd m i - i+1+k,by omega,?_⟩;rw[jgL,jiy];exact e
theorem jpk (m:Nat):∀(n k:Nat) (x:Nat×Nat),lps m (n+k) x=lps m k (lps m n x)
 |0,k,x=>by rw[Nat.zero_add];rfl
 |n+1,k,x=>by
  rw[Nat.add_right_comm];exact jpk m n k _
theorem jpD (m:Nat):∀(n:Nat) (x:Nat×Nat),(lps m n x).2=x.2 / 32 ^ n
 |0,x=>by simp[lps]
 |n+1,x=>by
  show(lps m n (SetTable.leap m x.1 x.2)).2=_;rw[jpD m n];show x.2 / 32 / 32 ^ n=_;rw[Nat.div_div_eq_div_mul,Nat.pow_succ,Nat.mul_comm]
theorem jve (m:Nat)(n:Nat)(x:Nat×Nat)(hx:x.1<=m):(lps m n x).1<=m:=by
 induction n generalizing x with
 |zero=>exact hx
 |succ n ih=>exact ih _ (Nat.le_of_lt_succ (Nat.mod_lt _ (Nat.succ_pos _)))
abbrev Msk (m:Nat):Prop:=m=7∨m=31
theorem jxE {m:Nat}(hm:Msk m)(i j:Nat)(hi:i<=m)(hj:j<=m):∃n,n<=m/\(lps m n (i,0)).1=j:=by
 have h7:∀i:Fin 8,∀j:Fin 8,∃n:Fin 8,(lps 7 n (i,0)).1=j:=by decide +kernel
 have h31:∀i:Fin 32,∀j:Fin 32,∃n:Fin 32,(lps 31 n (i,0)).1=j:=by decide +kernel
 rcases hm with rfl|rfl
 ·obtain⟨n,e⟩:=h7 ⟨i,by omega⟩ ⟨j,by omega⟩;exact⟨n,by omega,e⟩
 ·obtain⟨n,e⟩:=h31 ⟨i,by omega⟩ ⟨j,by omega⟩;exact⟨n,by omega,e⟩
theorem ju0 (h:Int):SetTable.bits h<2 ^ 64:=by
 unfold SetTable.bits;have:=j1g h (show(0:Int)<2 ^ 64 by decide);have:=j03 h (show(2 ^ 64:Int)≠0 by decide);omega
theorem jw7 {m:Nat}(hm:Msk m)(h:Int)(j:Nat)(hj:j<=m):∃n,n<m+14/\(lps m n (SetTable.bits h % (m+1),SetTable.bits h)).1=j:=by
 have h1:=jve m 13 (SetTable.bits h % (m+1),SetTable.bits h) (Nat.le_of_lt_succ (Nat.mod_lt _ (Nat.succ_pos _)));have h2:=jpD m 13 (SetTable.bits h % (m+1),SetTable.bits h);rw[Nat.div_eq_of_lt (j0o (ju0 h) (by decide))]at h2;obtain⟨n,hn,e⟩:=jxE hm _ j h1 hj;refine⟨13+n,by omega,?_⟩;rw[jpk,show lps m 13 (SetTable.bits h % (m+1),SetTable.bits h)=((lps m 13 (SetTable.bits h % (m+1),SetTable.bits h)).1,0)from Prod.ext rfl h2];exact e
theorem jmV {m:Nat}(hm:Msk m)(h:Int)(j:Nat)(hj:j<=m):∃n,n<10*SetTable.turns m/\(wk m (st0 m h) n).j=j:=by
 obtain⟨n,hn,e⟩:=jw7 hm h j hj;obtain⟨k,hk,e2⟩:=jsJ m n (SetTable.bits h % (m+1)) (SetTable.bits h);refine⟨k,by unfold SetTable.turns;omega,?_⟩;rw[jsq,e2];exact e
theorem jpa {xs:Array Nat}(hr:Rsg xs){m:Nat}(hs:xs.size<=m):∃j,j<=m/\¬ Occ xs j:=by
 refine Classical.byContradiction fun hn=>?_;have all:∀j,j<=m->Occ xs j:=fun j hj=>Classical.byContradiction fun h=>hn ⟨j,hj,h⟩;have eq:∀k j,j<k->j<=m->xs[j]?=some j:=by
  intro k
  induction k with
  |zero=>intro j h;omega
  |succ k ih=>
   intro j hj hm;obtain⟨i,hi⟩:=all j hm;rcases Nat.lt_trichotomy i j with l|l|l
   ·have:=ih i (by omega) (by omega);rw[hi]at this;cases this;omega
   ·subst l;exact hi
   ·obtain⟨v,hv⟩:∃v,xs[j]?=some v:=⟨xs[j]'(by have:=(j0N.mp hi).1;omega),by simp⟩;have l1:=hr _ _ _ _ l hv hi;have e:=ih v (by omega) (by omega);have:=hr.inj e hv;omega
 have:=(j0N.mp (eq (m+1) m (by omega) (j0l _))).1;omega
def Rch (m:Nat)(O:Nat->Prop)(h:Int)(j:Nat):Prop:=∃n,(wk m (st0 m h) n).j=j/\∀k,k<n->O (wk m (st0 m h) k).j
structure Tab (m:Nat) (pl:Array Nat) (hs:List Int):Prop where
 msk:Msk m
 len:pl.size=hs.length
 few:hs.length<=m
 rsg:Rsg pl
 rch:∀(i j:Nat) (h:Int),pl[i]?=some j->hs[i]?=some h->Rch m (Occ pl) h j
theorem Tab.free {m:Nat}{pl:Array Nat}{hs:List Int}(T:Tab m pl hs)(h:Int):∃N,N<10*SetTable.turns m/\¬ Occ pl (wk m (st0 m h) N).j/\∀k,k<N->Occ pl (wk m (st0 m h) k).j:=by
 obtain⟨j,hj,hf⟩:=jpa T.rsg (show pl.size<=m by rw[T.len];exact T.few);obtain⟨n,hn,e⟩:=jmV T.msk h j hj;have key:∀k,(∃N,N<=k/\¬ Occ pl (wk m (st0 m h) N).j/\∀i,i<N->Occ pl (wk m (st0 m h) i).j)∨∀i,i<=k->Occ pl (wk m (st0 m h) i).j:=by
  intro k
  induction k with
  |zero=>
   by_cases h0:Occ pl (wk m (st0 m h) 0).j
   ·exact .inr fun i hi=>by cases Nat.le_zero.mp hi;exact h0
   ·exact .inl ⟨0,j0l _,h0,fun i hi=>by omega⟩
  |succ k ih=>
   rcases ih with⟨N,h1,h2⟩|ih
   ·exact .inl ⟨N,by omega,h2⟩
   ·by_cases h0:Occ pl (wk m (st0 m h) (k+1)).j
    ·exact .inr fun i hi=>by
      by_cases e:i=k+1
      ·subst e;exact h0
      ·exact ih i (by omega)
    ·exact .inl ⟨k+1,j0l _,h0,fun i hi=>ih i (by omega)⟩
 rcases key n with⟨N,h1,h2⟩|hall
 ·exact⟨N,by omega,h2⟩
 ·exact absurd (e▸hall n (j0l _)) hf
noncomputable def jmZ {α:Type}(l:List α)(p:Nat)(x:α):List α:=l.take p++x::l.drop p
theorem jm {α:Type}{l:List α}{p:Nat}{x:α}(hp:p<=l.length)(i:Nat):(jmZ l p x)[i]?=if i<p then l[i]? else if i=p then some x else l[i - 1]?:=by
 unfold jmZ;rw[List.getElem?_append];have e:(l.take p).length=p:=by rw[j0y];omega
 rw[e];split
 ·rw[List.getElem?_take];simp[*]
 ·split
  ·rename_i h;subst h;simp
  ·rename_i h1 h2;obtain⟨k,rfl⟩:∃k,i=p+1+k:=⟨i - p - 1,by omega⟩;rw[show p+1+k - p=k+1 by omega,List.getElem?_cons_succ,List.getElem?_drop];congr 1;omega
theorem jrB {α β:Type}(f:α->β)(l:List α)(p:Nat)(x:α):(jmZ l p x).map f=jmZ (l.map f) p (f x):=by
 unfold jmZ;simp[List.map_take,List.map_drop]
theorem jgg {α:Type}(l:List α)(p:Nat)(x:α)(hp:p<=l.length):(jmZ l p x).length=l.length+1:=by
 unfold jmZ;simp;omega
theorem jgj {α:Type}{l:List α}{p:Nat}{x y:α}:y∈jmZ l p x↔y=x∨y∈l:=by
 unfold jmZ;rw[j1d,j0d];constructor
 ·rintro(h|h|h)
  ·exact .inr (j0P h)
  ·exact .inl h
  ·exact .inr (List.mem_of_mem_drop h)
 ·rintro(h|h)
  ·exact .inr (.inl h)
  ·rw[<- List.take_append_drop p l,j1d]at h;exact h.elim .inl fun h=>.inr (.inr h)
theorem jb9 {α:Type}(xs:Array α)(p:Nat)(x:α):(SetTable.insertAt xs p x).toList=jmZ xs.toList p x:=by
 unfold SetTable.insertAt jmZ;simp;exact j07 (by simp)
theorem jbh {α:Type}{xs:Array α}{p:Nat}{x:α}(hp:p<=xs.size)(i:Nat):(SetTable.insertAt xs p x)[i]?=if i<p then xs[i]? else if i=p then some x else xs[i - 1]?:=by
 rw[<- Array.getElem?_toList,jb9,jm (by simpa using hp)];simp
theorem jyI {t:SetTable}(hd:t.dummies = #[])(j:Nat):t.put j=({t with place:=SetTable.insertAt t.place (SetTable.below t.place j) j},SetTable.below t.place j):=by
 unfold SetTable.put SetTable.has;simp[hd]
theorem jpB {xs:Array Nat}{p j:Nat}(hp:p<=xs.size)(k:Nat):Occ (SetTable.insertAt xs p j) k↔Occ xs k∨k=j:=by
 constructor
 ·rintro⟨i,hi⟩;rw[jbh hp]at hi;split at hi
  ·exact .inl ⟨i,hi⟩
  ·split at hi
   ·exact .inr (j0H hi).symm
   ·exact .inl ⟨_,hi⟩
 ·rintro(⟨i,hi⟩|rfl)
  ·by_cases h:i<p
   ·exact⟨i,by rw[jbh hp,if_pos h];exact hi⟩
   ·exact⟨i+1,by rw[jbh hp,if_neg (by omega),if_neg (by omega)];exact hi⟩
  ·exact⟨p,by rw[jbh hp,if_neg (by omega),if_pos rfl]⟩
theorem Tab.put {m:Nat}{pl:Array Nat}{hs:List Int}(T:Tab m pl hs){h:Int}{N:Nat}(hf:¬ Occ pl (wk m (st0 m h) N).j)(hb:∀k,k<N->Occ pl (wk m (st0 m h) k).j)(hm:hs.length+1<=m) :
  Tab m (SetTable.insertAt pl (SetTable.below pl (wk m (st0 m h) N).j) (wk m (st0 m h) N).j) (jmZ hs (SetTable.below pl (wk m (st0 m h) N).j) h):=by
 obtain⟨hp,b1,b2⟩:=jiB T.rsg (wk m (st0 m h) N).j;have hp':=hp;rw[T.len]at hp';generalize ej:(wk m (st0 m h) N).j=j at hf hp hp' b1 b2 ⊢;generalize SetTable.below pl j=p at hp hp' b1 b2 ⊢;have b2':∀i a,p<=i->pl[i]?=some a->j<a:=fun i a hi e=>Nat.lt_of_le_of_ne (b2 i a hi e) fun z=>hf ⟨i,z▸e⟩;refine⟨T.msk,?_,?_,fun i k a b l hi hk=>?_,fun i k g hi hk=>?_⟩
 ·rw[jgg _ _ _ hp',<- j0t,jb9,jgg _ _ _ (by simpa using hp),<- T.len];simp
 ·rw[jgg _ _ _ hp'];exact hm
 ·rw[jbh hp]at hi hk;by_cases h1:i<p
  ·rw[if_pos h1]at hi;by_cases h2:k<p
   ·rw[if_pos h2]at hk;exact T.rsg _ _ _ _ l hi hk
   ·rw[if_neg h2]at hk;have:=b1 _ _ h1 hi;split at hk
    ·cases hk;exact this
    ·exact Nat.lt_trans this (b2' _ _ (by omega) hk)
  ·rw[if_neg h1]at hi;rw[if_neg (by omega),if_neg (by omega)]at hk;split at hi
   ·cases hi;exact b2' _ _ (by omega) hk
   ·exact T.rsg _ _ _ _ (by omega) hi hk
 ·rw[jbh hp]at hi;rw[jm hp']at hk;have old:∀i,pl[i]?=some k->hs[i]?=some g->Rch m (Occ (SetTable.insertAt pl p j)) g k:=fun i h1 h2=>by
   obtain⟨n,e,hn⟩:=T.rch i k g h1 h2;exact⟨n,e,fun r hr=>(jpB hp _).mpr (.inl (hn r hr))⟩
  split at hi
  ·rename_i h1;rw[if_pos h1]at hk;exact old i hi hk
  ·rename_i h1;rw[if_neg h1]at hk;split at hi
   ·rename_i h2;rw[if_pos h2]at hk;cases hi;cases hk;exact⟨N,ej,fun r hr=>(jpB hp _).mpr (.inl (hb r hr))⟩
   ·rename_i h2;rw[if_neg h2]at hk;exact old _ hi hk
structure Own (m:Nat) (ow:Array (Option Nat)) (hs:List Int):Prop where
 size:ow.size=m+1
 cnt:(List.range (m+1)).countP (fun j=>(ow.getD j none).isSome)=hs.length
 all:∀k,k<hs.length->∃j:Nat,ow[j]?=some (some k)
 rch:∀(j k:Nat),ow[j]?=some (some k)->∃h,hs[k]?=some h/\Rch m (fun r=>∃x,ow[r]?=some (some x)) h j
theorem jom {p q:Nat->Bool}{j:Nat}(hp:p j=false)(hq:q j=true)(he:∀i,i≠j->q i=p i):∀n,j<n->(List.range n).countP q=(List.range n).countP p+1
 |0,h=>by omega
 |n+1,h=>by
  rw[List.range_succ,List.countP_append,List.countP_append];by_cases e:j=n
  ·subst e;have:(List.range j).countP q=(List.range j).countP p:=List.countP_congr fun i hi=>by rw[he i (by have:=j0Z.mp hi;omega)]
   rw[this];simp[hp,hq]
  ·rw[jom hp hq he n (by omega)];have:List.countP q [n]=List.countP p [n]:=by simp[he n fun z=>e z.symm]
   omega
theorem js7 {p:Nat->Bool}(n:Nat)(h:∀i,i<n->p i=true):(List.range n).countP p=n:=by
 have:=(List.countP_eq_length (p:=p) (l:=List.range n)).mpr fun i hi=>h i (j0Z.mp hi);rw[this,List.length_range]
theorem jnD {m:Nat}{ow:Array (Option Nat)}:∀(f i q:Nat),(∃n,n<f/\(ow.getD (lps m n (i,q)).1 (some 0)).isNone=true) ->
  ∃r,SetTable.layClean.free m ow f i q=some (wk m (rs m i q) r).j/\(ow.getD (wk m (rs m i q) r).j (some 0)).isNone=true/\∀k,k<r->(ow.getD (wk m (rs m i q) k).j (some 0)).isNone=false
 |0,_,_,⟨_,h,_⟩=>by omega
 |f+1,i,q,⟨n,hn,he⟩=>by
  unfold SetTable.layClean.free;have hge:=joA m i
  cases hf:(List.range (SetTable.runEnd m i+1 - i)).find? fun k=>(ow.getD (i+k) (some 0)).isNone with
  |some k=>
   obtain⟨h1,h2,h3⟩:=List.find?_range_eq_some.mp hf;have hk:=j0Z.mp h2;refine⟨k,?_,?_,fun r hr=>?_⟩
   ·rw[jhX m i q k (by omega)]
   ·rw[jhX m i q k (by omega)];exact h1
   ·rw[jhX m i q r (by omega)];simpa using h3 r hr
  |none=>
   have h1:=List.find?_range_eq_none.mp hf;have hn0:n≠0:=fun z=>by
    subst z;have:=h1 0 (by omega);have e:(ow.getD (i+0) (some 0)).isNone=true:=he;rw[e]at this;cases this
   obtain⟨n',rfl⟩:∃n',n=n'+1:=⟨n - 1,by omega⟩;obtain⟨r,e1,e2,e3⟩:=jnD f (SetTable.leap m i q).1 (SetTable.leap m i q).2 ⟨n',by omega,he⟩;refine⟨SetTable.runEnd m i - i+1+r,?_,?_,fun k hk=>?_⟩
   ·rw[jgL,jiy];exact e1
   ·rw[jgL,jiy];exact e2
   ·by_cases h2:k<=SetTable.runEnd m i - i
    ·rw[jhX m i q k h2];have:=h1 k (by omega);simpa using this
    ·obtain⟨k',rfl⟩:∃k',k=SetTable.runEnd m i - i+1+k':=⟨k - (SetTable.runEnd m i - i+1),by omega⟩;rw[jgL,jiy];exact e3 k' (by omega)
theorem jz9 (m:Nat)(h:Int)(n:Nat):(wk m (st0 m h) n).j<=m:=by
 have run:∀i,i<=m->SetTable.runEnd m i<=m:=fun i hi=>by unfold SetTable.runEnd;split<;>omega
 have key:(wk m (st0 m h) n).j+(wk m (st0 m h) n).more<=m:=by
  induction n with
  |zero=>
   have h1:SetTable.bits h % (m+1)<=m:=Nat.le_of_lt_succ (Nat.mod_lt _ (Nat.succ_pos _));have h2:=run _ h1;have h3:=joA m (SetTable.bits h % (m+1));show SetTable.bits h % (m+1)+(SetTable.runEnd m (SetTable.bits h % (m+1)) - SetTable.bits h % (m+1))<=m;omega
  |succ n ih=>
   rw[jix];generalize wk m (st0 m h) n=p at ih;unfold SetTable.advance;split
   ·show p.j+1+(p.more - 1)<=m;omega
   ·have h1:(SetTable.leap m p.i p.perturb).1<=m:=Nat.le_of_lt_succ (Nat.mod_lt _ (Nat.succ_pos _));have h2:=run _ h1;have h3:=joA m (SetTable.leap m p.i p.perturb).1;show(SetTable.leap m p.i p.perturb).1+(SetTable.runEnd m (SetTable.leap m p.i p.perturb).1 - (SetTable.leap m p.i p.perturb).1)<=m;omega
 omega
theorem Own.step {m:Nat}{ow:Array (Option Nat)}{hs:List Int}(hm:Msk m)(O:Own m ow hs)(few:hs.length<=m)(h:Int) :
  ∃j,SetTable.layClean.free m ow (SetTable.turns m) (SetTable.bits h % (m+1)) (SetTable.bits h)=some j/\Own m (ow.setIfInBounds j (some hs.length)) (hs++[h]):=by
 have some_of:∀j:Nat,(ow.getD j (some 0)).isNone=true->ow[j]?=some none:=fun j hj=>by
  rw[j0w]at hj
  cases e:ow[j]? with
  |none=>rw[e]at hj;cases hj
  |some x=>
   rw[e]at hj
   cases x with
   |none=>rfl
   |some y=>cases hj
 have taken:∀j:Nat,j<ow.size->(ow.getD j (some 0)).isNone=false->∃x,ow[j]?=some (some x):=fun j hl hj=>by
  rw[j0w]at hj
  cases e:ow[j]? with
  |none=>rw[Array.getElem?_eq_none_iff]at e;omega
  |some x=>
   rw[e]at hj
   cases x with
   |none=>cases hj
   |some y=>exact⟨y,rfl⟩
 obtain⟨j,hj,hjf⟩:∃j,j<=m/\(ow.getD j (some 0)).isNone=true:=by
  refine Classical.byContradiction fun hn=>?_;have:=js7 (p:=fun j=>(ow.getD j none).isSome) (m+1) fun i hi=>by
   obtain⟨x,hx⟩:=taken i (by rw[O.size];exact hi) (by cases e:(ow.getD i (some 0)).isNone with
    |false=>rfl
    |true=>exact absurd ⟨i,by omega,e⟩ hn)
   simp[j0w,hx]
  rw[O.cnt]at this;omega
 obtain⟨n,hn,e⟩:=jw7 hm h j hj;obtain⟨r,e1,e2,e3⟩:=jnD (m:=m) (ow:=ow) (SetTable.turns m) (SetTable.bits h % (m+1)) (SetTable.bits h) ⟨n,by unfold SetTable.turns;omega,by rw[e];exact hjf⟩;rw[<- jsq]at e1 e2 e3;refine⟨_,e1,?_⟩;have hs0:=some_of _ e2;generalize ej:(wk m (st0 m h) r).j=s at hs0 ⊢;have hsl:s<ow.size:=(j0N.mp hs0).1;have hget:∀i:Nat,(ow.setIfInBounds s (some hs.length))[i]?=if s=i then some (some hs.length)else ow[i]?:=fun i=>by
  rw[Array.getElem?_setIfInBounds,if_pos hsl]
 have keep:∀i:Nat,(∃x,ow[i]?=some (some x))->∃x,(ow.setIfInBounds s (some hs.length))[i]?=some (some x):=fun i ⟨x,hx⟩=>by
  rw[hget];split
  ·exact⟨_,rfl⟩
  ·exact⟨x,hx⟩
 refine⟨by rw[Array.size_setIfInBounds];exact O.size,?_,fun k hk=>?_,fun i k hi=>?_⟩
 ·rw[jom (p:=fun j=>(ow.getD j none).isSome) (j:=s) (by simp[j0w,hs0]) (by simp[j0w,hget]) (fun i hi=>by simp[j0w,hget,Ne.symm hi]) (m+1) (by rw[<- O.size];exact hsl),O.cnt];simp
 ·rw[j0v,j0L]at hk;by_cases e:k=hs.length
  ·subst e;exact⟨s,by rw[hget,if_pos rfl]⟩
  ·obtain⟨i,hi⟩:=O.all k (by omega);refine⟨i,?_⟩;rw[hget,if_neg fun z=>?_]
   ·exact hi
   ·subst z;rw[hi]at hs0;cases hs0
 ·rw[hget]at hi;split at hi
  ·rename_i e4;subst e4;cases hi;refine⟨h,by simp,r,ej,fun k hk=>keep _ (taken _ ?_ (e3 k hk))⟩;have:=jz9 m h k;rw[O.size];omega
  ·obtain⟨g,hg,n,h1,h2⟩:=O.rch i k hi;have:=(j0e.mp hg).1;exact⟨g,by rw[j00 this];exact hg,n,h1,fun k hk=>keep _ (h2 k hk)⟩
noncomputable def jwe (m:Nat)(acc:Option (Array (Option Nat)×Nat))(h:Int):Option (Array (Option Nat)×Nat):=
 acc.bind fun x=>(SetTable.layClean.free m x.1 (SetTable.turns m) (SetTable.bits h % (m+1)) (SetTable.bits h)).map fun j=>(x.1.setIfInBounds j (some x.2),x.2+1)
theorem jsR {m:Nat}(hm:Msk m):∀(gs hs:List Int) (ow:Array (Option Nat)),Own m ow hs->hs.length+gs.length<=m+1 ->
  ∃ow',gs.foldl (jwe m) (some (ow,hs.length))=some (ow',hs.length+gs.length)/\Own m ow' (hs++gs)
 |[],hs,ow,O,_=>⟨ow,rfl,by rw[j0C];exact O⟩
 |g::gs,hs,ow,O,h=>by
  rw[j0q]at h;obtain⟨j,e,O1⟩:=O.step hm (by omega) g;obtain⟨ow',e1,O2⟩:=jsR hm gs (hs++[g]) _ O1 (by rw[j0v];simp;omega);refine⟨ow',?_,by rw[j1b]at O2;exact O2⟩;rw[j0v,j0L]at e1;rw[List.foldl_cons,show jwe m (some (ow,hs.length)) g=some (ow.setIfInBounds j (some hs.length),hs.length+1)by simp[jwe,e],e1];simp;omega
theorem jyN {m:Nat}(hm:Msk m)(hs:Array Int)(few:hs.size<=m):∃ow,SetTable.layClean m hs=some ow/\Own m ow hs.toList:=by
 have O0:Own m (Array.replicate (m+1) none) []:=by
  refine⟨by simp,?_,fun k hk=>by simp at hk,fun j k h=>?_⟩
  ·rw[List.length_nil,List.countP_eq_zero];intro j hj;simp[j0w,Array.getElem?_replicate];split<;>simp
  ·rw[Array.getElem?_replicate]at h;split at h<;>simp at h
 obtain⟨ow,e,O⟩:=jsR hm hs.toList [] _ O0 (by simp;omega);refine⟨ow,?_,by simpa using O⟩;rw[List.length_nil]at e;unfold SetTable.layClean;rw[<- Array.foldl_toList,show hs.toList.foldl _ _=hs.toList.foldl (jwe m) _ from congrFun (congrFun (congrArg List.foldl (funext fun acc=>funext fun h=>?_)) _) _,e]
 ·rfl
 ·cases acc with
  |none=>rfl
  |some x=>
   obtain⟨o,k⟩:=x;unfold jwe;simp only[Option.bind_eq_bind,Option.bind_some];cases SetTable.layClean.free m o (SetTable.turns m) (SetTable.bits h % (m+1)) (SetTable.bits h)<;>rfl
theorem jsk {α β:Type}(f:α->Option β):∀(l:List α),(∀x∈l,(f x).isSome=true)->∀i:Nat,(l.filterMap f)[i]?=(l[i]?).bind f
 |[],_,i=>by simp
 |x::l,h,i=>by
  obtain⟨y,hy⟩:=Option.isSome_iff_exists.mp (h x j0u);rw[List.filterMap_cons_some hy]
  cases i with
  |zero=>simp[hy]
  |succ i=>simpa using jsk f l (fun z hz=>h z (j0s _ hz)) i
theorem jqA {α:Type}{t:SetTable}{es:Array (Int×α)}{W:Nat}(hm:Msk (SetTable.sizeAbove W - 1))(few:es.size<=SetTable.sizeAbove W - 1) :
  ∃pl ord,t.relaid (es.map (·.1)) W=some ({t with mask:=SetTable.sizeAbove W - 1,place:=pl,dummies:=#[],moves:=t.movedTo (SetTable.sizeAbove W - 1)},ord)/\(ord.filterMap (es[·]?)).size=es.size /\
   Tab (SetTable.sizeAbove W - 1) pl ((ord.filterMap (es[·]?)).toList.map (·.1))/\∀e,e∈(ord.filterMap (es[·]?)).toList↔e∈es.toList:=by
 unfold SetTable.relaid SetTable.laid;generalize SetTable.sizeAbove W - 1=m at hm few;obtain⟨ow,e,O⟩:=jyN hm (es.map (·.1)) (by simpa using few);rw[e];generalize eL:((List.range (m+1)).filterMap fun j=>(ow.getD j none).map fun x=>(j,x))=L;have hL:∀p∈L,ow[p.1]?=some (some p.2):=fun p hp=>by
  rw[<- eL,j0S]at hp;obtain⟨j,_,h2⟩:=hp;obtain⟨k,h3,h4⟩:=j0R.mp h2;subst h4;rw[j0w]at h3
  cases h5:ow[j]? with
  |none=>rw[h5]at h3;cases h3
  |some x=>rw[h5]at h3;cases h3;rfl
 have hk:∀p∈L,∃x,es[p.2]?=some x/\Rch m (fun r=>∃y,ow[r]?=some (some y)) x.1 p.1:=fun p hp=>by
  obtain⟨h,h1,h2⟩:=O.rch _ _ (hL p hp);rw[Array.toList_map,j0X]at h1;obtain⟨x,h3,rfl⟩:=j0R.mp h1;exact⟨x,by simpa using h3,h2⟩
 have hlen:L.length=es.size:=by
  rw[<- eL,List.length_filterMap_eq_countP];have:=O.cnt;rw[j0t,Array.size_map]at this;rw[<- this];exact List.countP_congr fun j _=>by simp
 have hget:∀i:Nat,((L.map (·.2)).toArray.filterMap (es[·]?)).toList[i]?=(L[i]?).bind fun p=>es[p.2]?:=fun i=>by
  rw[Array.toList_filterMap,jsk _ _ (fun k hk'=>by
   obtain⟨p,hp,rfl⟩:=j0x.mp hk';obtain⟨x,hx,_⟩:=hk p hp;simp[hx]),j0X]
  cases L[i]?<;>rfl
 have hsz:((L.map (·.2)).toArray.filterMap (es[·]?)).size=es.size:=by
  rw[<- j0t,Array.toList_filterMap,List.length_filterMap_eq_countP,List.countP_eq_length.mpr (fun k hk'=>by
   obtain⟨p,hp,rfl⟩:=j0x.mp hk';obtain⟨x,hx,_⟩:=hk p hp;simp[hx])]
  simpa using hlen
 have occ:∀r:Nat,(∃y,ow[r]?=some (some y))->Occ (L.map (·.1)).toArray r:=fun r ⟨y,hy⟩=>by
  have hr:r<m+1:=by rw[<- O.size];exact(j0N.mp hy).1
  have:(r,y)∈L:=by
   rw[<- eL,j0S];exact⟨r,j0Z.mpr hr,by simp[j0w,hy]⟩
  obtain⟨i,hi⟩:=List.mem_iff_getElem?.mp this;exact⟨i,by simp[hi]⟩
 have srt:L.Pairwise fun a b=>a.1<b.1:=by
  rw[<- eL];refine List.Pairwise.filterMap _ (fun a b hab x hx y hy=>?_) List.pairwise_lt_range;obtain⟨_,_,rfl⟩:=j0R.mp hx;obtain⟨_,_,rfl⟩:=j0R.mp hy;exact hab
 refine⟨(L.map (·.1)).toArray,(L.map (·.2)).toArray,by rw[<- eL];rfl,hsz,⟨hm,?_,?_,fun i k a b l hi hk'=>?_,fun i j h hi hh=>?_⟩,fun x=>⟨fun hx=>?_,fun hx=>?_⟩⟩
 ·rw[j0f,j0t,hsz,j0j,j0f,hlen]
 ·rw[j0f,j0t,hsz];exact few
 ·obtain⟨x,hx,rfl⟩:=j0R.mp (show(L[i]?).map (·.1)=some a by simpa using hi);obtain⟨y,hy,rfl⟩:=j0R.mp (show(L[k]?).map (·.1)=some b by simpa using hk');obtain⟨i1,rfl⟩:=j0e.mp hx;obtain⟨k1,rfl⟩:=j0e.mp hy;exact List.pairwise_iff_getElem.mp srt i k i1 k1 l
 ·obtain⟨p,hp,rfl⟩:=j0R.mp (show(L[i]?).map (·.1)=some j by simpa using hi);rw[j0X,hget,hp]at hh;obtain⟨x,hx,n,h1,h2⟩:=hk p (j0z hp);rw[Option.bind_some,hx]at hh;cases hh;exact⟨n,h1,fun r hr=>occ _ (h2 r hr)⟩
 ·rw[Array.toList_filterMap,j0S]at hx;obtain⟨k,_,h⟩:=hx;exact j0z (by simpa using h)
 ·obtain⟨k,hk'⟩:=List.mem_iff_getElem?.mp hx;obtain⟨j,hj⟩:=O.all k (by rw[Array.toList_map,j0f];exact(j0e.mp hk').1);have hr:j<m+1:=by rw[<- O.size];exact(j0N.mp hj).1
  rw[Array.toList_filterMap,j0S];refine⟨k,j0x.mpr ⟨(j,k),?_,rfl⟩,by simpa using hk'⟩;rw[<- eL,j0S];exact⟨j,j0Z.mpr hr,by simp[j0w,hj]⟩
end _L2
namespace _L2
open PySem PySem.Spec PyProof.Rows
theorem jfU {a b c:Nat}(h:a<b)(k:b<=c):a≠c:=j0m (j0o h k)
theorem jze {a b:Nat}(h:a<b)(k:b<=a):False:=absurd (j0o h k) (j1x _)
noncomputable def jjy (names:List (Str×NameKind))(cells:List (Str×Addr)):List (Str×Addr):=
 (names.filterMap fun p=>if p.2==.free then(cells.lookup p.1).map fun c=>(p.1,c)else none).reverse
theorem jd (env:Env):∀(names:List (Str×NameKind)) (acc:List (Str×Addr)),(∀p∈names,p.2=.free->∃c,env.cells.lookup p.1=some c) ->
  (forIn names acc fun(x:Str×NameKind) cs=>(match x with
   |(name,kind)=>if(kind==.free)=true then(do let c <- cellOf env name;pure (ForInStep.yield ((name,c)::cs)))else pure (ForInStep.yield cs)):Sem (List (Str×Addr)))
   =pure (jjy names env.cells++acc)
 |[],acc,_=>rfl
 |(n,k)::r,acc,h=>by
  have hr:∀p∈r,p.2=.free->∃c,env.cells.lookup p.1=some c:=fun p hp=>h p (j0s _ hp);rw[List.forIn_cons];by_cases hk:k=.free
  ·subst hk;obtain⟨c,hc⟩:=h (n,.free) j0u rfl;have e1:cellOf env n=pure c:=by
    unfold cellOf;have hc':env.cells.lookup n=some c:=hc;rw[hc']
   have e2:jjy ((n,NameKind.free)::r) env.cells=jjy r env.cells++[(n,c)]:=by
    have hc':env.cells.lookup n=some c:=hc;unfold jjy;rw[j08];simp[hc']
   simp only[beq_self_eq_true,if_true,e1,pure_bind];rw[jd env r _ hr,e2,j1b];rfl
  ·have hb:(k==NameKind.free)=false:=by simpa using hk
   have e2:jjy ((n,k)::r) env.cells=jjy r env.cells:=by
    unfold jjy;rw[j08];simp[hb]
   simp only[hb,j0p,if_false,pure_bind];rw[jd env r _ hr,e2]
theorem jjc {scope:Scope}{env:Env}(h:∀p∈scope.names,p.2=.free->∃c,env.cells.lookup p.1=some c):closureFor scope env=pure (jjy scope.names env.cells):=by
 have q:=jd env scope.names [] h;rw[j0C]at q;unfold closureFor;simp only[bind_pure];exact q
theorem jp5 {names:List (Str×NameKind)}{cells:List (Str×Addr)}{x:Str}{c:Addr}(h:(x,c)∈jjy names cells):(x,NameKind.free)∈names/\cells.lookup x=some c:=by
 unfold jjy at h;rw[List.mem_reverse,j0S]at h;obtain⟨⟨n,k⟩,hm,e⟩:=h;by_cases hk:k=.free
 ·subst hk;simp only[beq_self_eq_true,if_true]at e
  cases q:cells.lookup n with
  |none=>rw[q]at e;cases e
  |some a=>
   rw[q]at e;have e':(n,a)=(x,c):=j0H e;cases e';exact⟨hm,q⟩
 ·have hb:(k==NameKind.free)=false:=by simpa using hk
  simp only[hb,j0p,if_false]at e;cases e
theorem jaG {names:List (Str×NameKind)}{cells:List (Str×Addr)}{x:Str}{c:Addr}(h:(jjy names cells).lookup x=some c):cells.lookup x=some c:=(jp5 (j09 h)).2
theorem jj {α:Type}{x:Str}{l:List (Str×α)}{a:α}(h:(x,a)∈l):∃b,l.lookup x=some b:=by
 induction l with
 |nil=>cases h
 |cons p r ih=>
  obtain⟨n,b⟩:=p;by_cases e:x=n
  ·subst e;exact⟨b,by simp[List.lookup_cons]⟩
  ·rcases j0d.mp h with z|z
   ·cases z;exact absurd rfl e
   ·obtain⟨b',q⟩:=ih z;exact⟨b',by rw[List.lookup_cons,(by simpa using e:(x==n)=false)];exact q⟩
theorem jlF {names:List (Str×NameKind)}{cells:List (Str×Addr)}{x:Str}{c:Addr}(h:(x,NameKind.free)∈names)(hc:cells.lookup x=some c):(jjy names cells).lookup x=some c:=by
 have hm:(x,c)∈jjy names cells:=by
  unfold jjy;rw[List.mem_reverse,j0S];exact⟨(x,.free),h,by simp[hc]⟩
 obtain⟨b,q⟩:=jj hm;have:=jaG q;rw[hc]at this;cases this;exact q
theorem jd1 {scope:Scope}{env:Env}{x:Str}(hc:∀y∈scope.names,y.2≠.cell)(h:(relabel scope env).names.lookup x=some .cell∨(relabel scope env).names.lookup x=some .free):(x,NameKind.free)∈scope.names:=by
 have key:∀k,(relabel scope env).names.lookup x=some k->(k=.cell∨k=.free)->(x,NameKind.free)∈scope.names:=fun k q hk=>by
  have m:=j09 q;unfold relabel at m;rw[j0x]at m;obtain⟨⟨n,k'⟩,hm,e⟩:=m;dsimp only at e;by_cases hf:k'=.free
  ·subst hf;split at e<;>cases e<;>exact hm
  ·have hb:(k'==NameKind.free)=false:=by simpa using hf
   simp only[hb,Bool.false_and,j0p,if_false]at e;cases e;rcases hk with rfl|rfl
   ·exact absurd rfl (hc _ hm)
   ·exact absurd rfl hf
 rcases h with h|h
 ·exact key _ h (.inl rfl)
 ·exact key _ h (.inr rfl)
noncomputable def jaX (X:Cx)(N':List Str)(scope:Scope)(C:Addr)(fp:List Addr)(s₂:Shared)(H₂:Hp):Cx where
 prog:=X.prog
 w:=X.w
 K:=X.K
 mg:=X.mg
 base:=X.base
 A:=X.A
 N:=N'
 s₀:=s₂
 H₀:=H₂
 env:=compEnvC scope (jjy scope.names X.env.cells) C X.env
 outer:=X.stack
 stack:=X.stack
 ex:=fp
 fn:=fun _=>false
 calm:=X.calm
 pn:=[]
 xe:=fun _ _=>False
structure CompScope (X:Cx) (own N':List Str) (scope:Scope):Prop where
 kind:scope.kind=.function
 nocell:∀y∈scope.names,y.2≠.cell
 names:∀y∈scope.names,y.2=.local->scope.names.lookup y.1=some .local
 free:∀y∈scope.names,y.2=.free->(X.env.kindOf y.1=some .cell∨X.env.kindOf y.1=some .free)
 len:N'.length=own.length+X.N.length
 outer:∀(i:Nat) (x:Str),(N'.drop own.length)[i]?=some x->(x,NameKind.free)∈scope.names->X.N[i]?=some x
 apart:∀x∈N'.drop own.length,(relabel scope X.env).names.lookup x≠some .local
def Cmp (J:It)(k:Nat)(g:TG)(tt:TT)(te:TE)(σ:St)(Q:VK)(H1:Hp):Prop:=∃W:Nat->Nat->List V->Hp->Prop,(∃m,W 0 m [] H1)/\∀i m ys H,W i m ys H ->
 (J.stop i H/\∀p,H p=none->Q (.ref p) (upd H p (.lst ys))) ∨
 (J.go i H/\ys.length<sizeLine/\∃(N1:V->Hp->Prop) (N0:Hp->Prop),(∀y H',N1 y H'->∃m',m'<m/\W (i+1) m' (ys++[y]) H')/\(∀H',N0 H'->∃m',m'<m/\W (i+1) m' ys H') /\
  ∀x H',J.yld i H x H'->g x (List.replicate k none++σ) H' fun σ2 H2=>tt σ2 H2 fun b H3=>if b=true then te σ2 H3 N1 else N0 H3)
def js9 (k:Nat)(wi:TI)(g:TG)(tt:TT)(te:TE):TE:=fun σ H Q=>wi σ H fun J H1=>Cmp J k g tt te σ Q H1
def PTs (X:Cx)(ifs:List Expr)(t:TT):Prop:=
 ∀(pins:List (Addr×Obj)) (s:Shared) (σ:St) (H:Hp) (Q:Bool->Hp->Prop),Inv X pins σ H s->t σ H Q ->
  wpAny (model X.prog X.w) X.A (forIn ifs true fun c r=>if r=true then do let ok <- isTrue c X.env (eval c X.env);pure (ForInStep.yield ok)else pure (ForInStep.yield r)) (TP X pins σ Q) X.xe s
def jBm:TT:=fun _ H Q=>Q true H
theorem juc {X:Cx}:PTs X [] jBm:=fun _ _ σ H Q I h=>wpAny_tests_nil ⟨H,I,h⟩
theorem jub {X:Cx}{c:Expr}{t:TT}(h:PT X c t):PTs X [c] t:=fun pins s σ H Q I q=>wpAny_tests_one (h pins s σ H Q I q)
noncomputable abbrev jwF (cs:List Expr) (en:Env):Sem Bool:=forIn cs true fun c yes=>if yes=true then isTrue c en (eval c en) >>=fun b=>pure (ForInStep.yield b)else pure (ForInStep.yield yes)
noncomputable abbrev jvb (P:Program) (W:World) (B:Around) (elt tgt:Expr) (cs:List Expr) (src lst:Value) (en:Env) (Er:Value->Shared->Prop) (Go:Shared->Prop) (v:Value):Shared->Prop:=wpAny (model P W) B (letOwnedTupleGo tgt src v) (fun _ t2=>
 wpAny (model P W) B (assign tgt en v) (fun _ t3=>wpAny (model P W) B (jwF cs en) (fun yes t4=>if yes=true then wpAny (model P W) B (eval elt en) (fun x t5=>wpAny (model P W) B (call (.builtin "list.append") [lst,x]) (fun _ t6=>Go t6) Er t5) Er t4 else Go t4) Er t3) Er t2) Er
theorem jjR {P:Program}{W:World}{B:Around}{R:Result->Shared->Prop}{s:Shared}{elt tgt iter:Expr}{cs:List Expr}{scope:Scope}{pos:Pos}{src lst:Value}{en:Env}{Er:Value->Shared->Prop}(hEr:∀x t,Er x t->notedBy (model P W) B en (fun y t'=>R (.error y) t') x t)(J:Nat->Shared->Prop)
  (turn:∀k t,J k t->wpAny (model P W) B (pyNext src) (fun got t1=>match got with|none=>R (.ok .next) t1|some v=>jvb P W B elt tgt cs src lst en Er (fun t6=>∃j,j<k/\J j t6) v t1) Er t)
  (k:Nat) (start:J k s):codeAny (model P W) B (.compLoop (.ListComp elt [⟨tgt,iter,cs,0⟩] scope pos) 0 src lst en) R s:=by
 refine codeAny_loop rfl J (fun j t hj=>?_) k start;refine(?_:wpAny _ B ((compTurn (.ListComp elt [⟨tgt,iter,cs,0⟩] scope pos) 0 src lst en).onRaise fun x=>do noteFrame x en;theTreesLotGoes x) _ _ t);refine wpAny_noted ?_;rw[compTurn_list];refine wpAny_bind (wpAny_standAt (wpAny_bind (wpAny_mono (turn j t hj) (fun got t1 h1=>?_) hEr)))
 match got,h1 with
 |none,h1=>exact wpAny_pure h1
 |some v,h1=>
  refine wpAny_bind (wpAny_mono h1 (fun _ t2 h2=>wpAny_bind (wpAny_mono h2 (fun _ t3 h3=>wpAny_bind (wpAny_mono h3 (fun yes t4 h4=>?_) hEr)) hEr)) hEr)
  match yes,h4 with
  |true,h4=>exact wpAny_bind (wpAny_bind (wpAny_mono h4 (fun x t5 h5=>wpAny_bind (wpAny_mono h5 (fun _ t6 h6=>wpAny_pure (wpAny_pure ⟨rfl,h6⟩)) hEr)) hEr))
  |false,h4=>exact wpAny_pure ⟨rfl,h4⟩
section
variable {X:Cx}
theorem CompScope.ok {own N':List Str}{scope:Scope}{C:Addr}{fp:List Addr}{s₂:Shared}{H₂:Hp}{pins:List (Addr×Obj)}{σ:St}(S:CompScope X own N' scope)(I:Inv X pins σ H₂ s₂)(hC:s₂.heap.objs.size<=C)
  (hf:∀b∈fp,jpY X pins H₂ b) (hlt:∀b∈fp,b<s₂.heap.objs.size):(jaX X N' scope C fp s₂ H₂).Ok where
 mod:=I.ok.mod
 kind:=S.kind
 glob:=I.ok.glob
 blt:=I.ok.blt
 above:=hC
 inj:=fun x y c h1 h2=>I.ok.inj x y c (jaG h1) (jaG h2)
 has:=fun x h=>by
  have hm:=jd1 S.nocell h;obtain⟨c,hc⟩:=I.ok.has x (S.free _ hm rfl);exact⟨c,jlF hm hc⟩
 cab:=fun x c h=>by cases h
 hd:=I.ok.hd
 frames:=I.ok.frames
 stk:=.inl rfl
 exf:=fun b hb=>⟨jfU (hlt b hb) hC,fun x c h=>(hf b hb).2.2.2.2.1 x c (jaG h)⟩
 bs:=I.bs
 bsz:=j0I I.ok.bsz I.sz
 noex:=fun b o e hb=>by
  rcases(hf b hb).2.2.2.1 with z|z
  ·exact I.ok.noex b o e z
  ·exact jze (j0g e) (j0I I.ok.bsz z)
 exfs:=fun b hb hs=>by
  rcases j0d.mp (I.stkSub b hs)with z|z
  ·exact(hf b hb).2.1 z
  ·exact(hf b hb).2.2.1 z
 funs:=I.stack
 frf:=I.stkFree
theorem CompScope.inv {own N':List Str}{scope:Scope}{C D:Addr}{fp:List Addr}{s₂ s₄:Shared}{H₂:Hp}{pins:List (Addr×Obj)}{σ:St}{oD:Obj}{m:Str->Option Value}(S:CompScope X own N' scope)(I:Inv X pins σ H₂ s₂)(hC:s₂.heap.objs.size<=C)
  (hf:∀b∈fp,jpY X pins H₂ b) (hlt:∀b∈fp,b<s₂.heap.objs.size) (hos:s₄.os=s₂.os) (hg:s₄.gens=s₂.gens) (k:∀b u,s₂.heap.get? b=some u->s₄.heap.get? b=some u) (hn:s₄.heap.Ns C m)
  (hD:s₄.heap.get? D=some oD) (hDs:s₂.heap.objs.size<=D) (hDC:D≠C) (hDd:∀v,oD.data≠.cell v) :
  Inv (jaX X N' scope C fp s₂ H₂) [(D,oD)] (List.replicate own.length none++σ) H₂ s₄ where
 ok:=S.ok I hC hf hlt
 os:=hos
 bare:=by rw[hg];exact I.bare
 base:=Un.kept k
 loc:=⟨m,hn,fun i x v e1 e2 e3=>by
  obtain⟨mX,hnX,hlX⟩:=I.loc;have hge:own.length<=i:=by
   refine j1h fun hi=>?_;rw[j00 (by simpa using hi),List.getElem?_replicate]at e2;split at e2<;>cases e2
  rw[j06 (by simpa using hge),List.length_replicate]at e2;have e1':(N'.drop own.length)[i - own.length]?=some x:=by
   rw[List.getElem?_drop,show own.length+(i - own.length)=i by omega];exact e1
  have nl:=S.apart x (j0z e1');have hfr:(x,NameKind.free)∈scope.names:=by
   rcases e3 with z|z|z
   ·exact absurd z nl
   ·exact jd1 S.nocell (.inl z)
   ·exact jd1 S.nocell (.inr z)
  have hk:=S.free _ hfr rfl;obtain⟨u,r,l⟩:=hlX (i - own.length) x v (S.outer _ _ e1' hfr) e2 (by
   rcases hk with z|z
   ·exact .inr (.inl z)
   ·exact .inr (.inr z))
  refine⟨u,r,?_⟩;rcases l with⟨z,_⟩|⟨_,c,hc,o,ho,hd⟩
  ·rcases hk with q|q
   ·rw[q]at z;cases z
   ·rw[q]at z;cases z
  ·refine .inr ⟨?_,c,jlF hfr hc,o,k _ _ ho,hd⟩;rcases e3 with z|z|z
   ·exact absurd z nl
   ·exact .inl z
   ·exact .inr z⟩
 cell:=fun x c h=>by
  obtain⟨v,o,ho,hd⟩:=I.cell x c (jaG h);exact⟨v,o,k _ _ ho,hd⟩
 free:=I.hok.fresh hC
 freeC:=fun x c h=>I.freeC x c (jaG h)
 pin:=fun p hp=>by
  have e:p=(D,oD):=by
   have hp':p∈[(D,oD)]:=hp;simpa using hp'
  subst e;refine⟨hD,I.hok.fresh hDs,hDC,fun z=>?_,hDd⟩;rcases j0d.mp (I.stkSub D z)with q|q
  ·exact jfU I.lt hDs q.symm
  ·exact I.nofs hDs q
 hok:=I.hok.kept k
 len:=by
  show _=N'.length;rw[S.len,j0v,List.length_replicate,I.len]
theorem ji {own N':List Str}{scope:Scope}{elt tg iter:Expr}{ifs:List Expr}{pos:Pos}{g:TG}{tt:TT}{te:TE}{it:Addr}{fp:List Addr}{tn:Nat->Heap->Prop}{J:It}{pins:List (Addr×Obj)}{s₂:Shared}{σ:St}{H₂:Hp}{Q:VK}
  {RR:Value->Addr->Result->Shared->Prop} {E:Value->Shared->Prop} {xe:Addr->List Addr->Shared->Hp->Value->Shared->Prop} (hc:X.calm=true) (S:CompScope X own N' scope)
  (hg:∀C s H,PG ((jaX X N' scope C fp s H).wish (xe C fp s H)) tg g) (ht:∀C s H,PTs ((jaX X N' scope C fp s H).wish (xe C fp s H)) ifs tt) (he:∀C s H,PE ((jaX X N' scope C fp s H).wish (xe C fp s H)) elt te)
  (I:Inv X pins σ H₂ s₂) (T:Turn X.prog X.w X.K tg J fp it tn) (st:tn 0 s₂.heap) (hf:∀b∈fp,jpY X pins H₂ b)
  (W:Nat->Nat->List V->Hp->Prop) (m0:Nat) (w0:W 0 m0 [] H₂)
  (turn:∀i m ys H,W i m ys H->(J.stop i H/\∀p,H p=none->Q (.ref p) (upd H p (.lst ys))) ∨
   (J.go i H/\ys.length<sizeLine/\∃(N1:V->Hp->Prop) (N0:Hp->Prop),(∀y H',N1 y H'->∃m',m'<m/\W (i+1) m' (ys++[y]) H')/\(∀H',N0 H'->∃m',m'<m/\W (i+1) m' ys H') /\
    ∀x H',J.yld i H x H'->g x (List.replicate own.length none++σ) H' fun σ2 H2=>tt σ2 H2 fun b H3=>if b=true then te σ2 H3 N1 else N0 H3))
  (hRR:∀(D C:Addr) (s':Shared) (H':Hp) (m':Str->Option Value),Inv X pins σ H' s'->Q (.ref D) H'->s'.heap.Ns C m'->H' C=none->C≠X.env.locals->X.s₀.heap.objs.size<=C->(∀x c,X.env.cells.lookup x=some c->c≠C)->(∀p∈X.pn++pins,p.1≠C) ->
   RR (.ref D) C (.ok .next) s')
  (hX:∀(D C:Addr) (v:Value) (s':Shared),s₂.heap.objs.size<=C->xe C fp s₂ H₂ v s'->notedBy (model X.prog X.w) X.A (compEnvC scope (jjy scope.names X.env.cells) C X.env) (fun x s''=>RR (.ref D) C (.error x) s'') v s') :
  wpAny (model X.prog X.w) X.A (newList []) (fun acc s₃=>wpAny (model X.prog X.w) X.A (newFunctionEnv scope X.env.globals (jjy scope.names X.env.cells) [] X.env.qual none .none (some X.env)) (fun cenv s₄=>
   codeAny (model X.prog X.w) X.A (.compStart (.ListComp elt [⟨tg,iter,ifs,0⟩] scope pos) 0 (.ref it) acc {cenv with scope:=relabel scope X.env}) (RR acc cenv.locals) s₄) E s₃) E s₂:=by
 refine wpAny_newObj_type (wpAny_newFunctionEnv S.nocell (by intro y hy;simp at hy) (fun h₁ hns₁ hsb₁=>?_) S.kind);dsimp only at hns₁ hsb₁ ⊢;generalize hH2:s₂.heap.push {cls:=.type "list",dict:=none,data:=.seq ([]:List Value).toArray}=H2 at hns₁ hsb₁ ⊢;have hC:H2.objs.size=s₂.heap.objs.size+1:=hH2▸Heap.size_push ..;have hDC:s₂.heap.objs.size≠H2.objs.size:=j0m (by omega);have hCle:s₂.heap.objs.size<=H2.objs.size:=hC▸Nat.le_add_right _ 1;have below:∀b,b<s₂.heap.objs.size->b≠H2.objs.size/\b≠s₂.heap.objs.size:=fun b hb=>⟨j0m (j0o hb hCle),j0m hb⟩;have old:∀b o,s₂.heap.get? b=some o->h₁.get? b=some o:=fun b o e=>hsb₁.extBut b o (below b (j0g e)).1 (j0c _ (hH2▸j0c _ e));have hacc:h₁.get? s₂.heap.objs.size=some {cls:=.type "list",data:=.seq ([]:List Value).toArray 0}:=hsb₁.extBut _ _ hDC (j0c _ (hH2▸j0n _ rfl));have hflt:∀b∈fp,b<s₂.heap.objs.size:=fun b hb=>by
  obtain⟨o,e,_⟩:=T.obj 0 _ st b hb;exact j0g e
 generalize hCd:H2.objs.size=C at *;generalize hDd:s₂.heap.objs.size=D at *;have hDnf:D∉X.fs:=I.nofs (j1j hDd);have stat:∀{H':Hp} {o:Obj},(∀b∈fp,H' b=none)->∀b∈fp,jpY ((jaX X N' scope C fp s₂ H₂).wish (xe C fp s₂ H₂)) [(D,o)] H' b:=fun {H' o} hn b hb=>
  ⟨hn b hb,(jfU (hflt b hb) hCle),fun z=>((S.ok I (hDd▸hCle) hf (by rw[hDd];exact hflt)).wish (xe C fp s₂ H₂)).exfs b hb z,.inl hb,fun x c h=>(hf b hb).2.2.2.2.1 x c (jaG h),fun p hp=>by
   have e:p=(D,o):=by
    have hp':p∈[(D,o)]:=hp;simpa using hp'
   subst e;exact Ne.symm (j0m (hflt b hb))⟩
 have loop:∀s₃:Shared,s₃={s₂ with heap:=h₁,toks:=s₂.toks+([]:List (Str×Value)).length} ->
   codeAny (model X.prog X.w) X.A (.compLoop (.ListComp elt [⟨tg,iter,ifs,0⟩] scope pos) 0 (.ref it) (.ref D) (compEnvC scope (jjy scope.names X.env.cells) C X.env)) (RR (.ref D) C) s₃:=by
  rintro s₃ rfl;refine jjR (Er:=xe C fp s₂ H₂) (fun x t h=>hX D C x t hCle h) (fun n s'=>∃i ys us nn H',Inv ((jaX X N' scope C fp s₂ H₂).wish (xe C fp s₂ H₂)) [(D,{cls:=.type "list",data:=.seq (us:List Value).toArray nn})] (List.replicate own.length none++σ) H' s'/\jaO ys us/\ys.length<=sizeLine /\
   tn i s'.heap/\(∀b∈fp,H' b=none)/\W i n ys H') ?_ m0 ⟨0,[],[],0,H₂,(S.inv (m:=fun x=>([]:List (Str×Value)).reverse.lookup x) (s₄:={s₂ with heap:=h₁,toks:=s₂.toks+([]:List (Str×Value)).length}) I (by rw[hDd];exact hCle) hf (by rw[hDd];exact hflt) rfl rfl old hns₁ hacc (j1j hDd) hDC (by intro v z;cases z)).wish _,.nil,j1r _,
    T.keep _ _ _ st fun b hb o e=>old b o e,fun b hb=>(hf b hb).1,w0⟩
  rintro n s3 ⟨i,ys,us,nn,H3,I3,rv,hyz,st3,fr3,w3⟩;rcases turn i n ys H3 w3 with⟨stop,qn⟩|⟨go,hlt,N1,N0,hN1,hN0,step⟩
  ·refine thn (T.done ((jaX X N' scope C fp s₂ H₂).wish (xe C fp s₂ H₂)) rfl rfl rfl hc i _ s3 _ H3 (xe C fp s₂ H₂) I3 (stat fr3) st3 stop) fun r s4 ⟨hr,I4⟩=>?_;subst hr;obtain⟨e4,n4,ne4,nf4,d4⟩:=I4.pin (D,_) (j0K _ (j0u));obtain⟨mC,hmC,_⟩:=I4.loc;have hH4:H3 D=none:=n4;have U:Un (frs X.stack) fp H₂ H3 s₂.heap s4.heap:=I4.base;have U':Un (frs X.stack) fp H₂ (upd H3 D (.lst ys)) s₂.heap s4.heap:=
    {keep:=U.keep,slot:=U.slot,there:=U.there
     free:=fun b o e nb hx=>by
      rw[jap (jfU (j0g e) (j1j hDd))];exact U.free b o e nb hx
     tups:=fun b xs e=>by
      rw[jap (jfU (I.hok.lt e) (j1j hDd))];exact U.tups b xs e
     frzs:=fun b o xs e=>by
      rw[jap (jfU (I.hok.lt e) (j1j hDd))];exact U.frzs b o xs e
     tbls:=fun b ps e=>by
      rw[jap (jfU (I.hok.lt e) (j1j hDd))];exact U.tbls b ps e}
   have hokD:HOk X.prog X.w (upd H3 D (.lst ys)) s4.heap:=fun b u e=>by
    by_cases hb:b=D
    ·subst hb;rw[jaz]at e;cases e;exact⟨hyz,us,nn,rv,e4⟩
    ·rw[jap hb]at e;exact(I4.hok b u e).stay (fun _ _ _ q=>q) (fun c q=>by rw[jap (jau q hH4)];exact q) fun c xs q=>by rw[jap (jau q hH4)];exact q
   have IX:Inv X pins σ (upd H3 D (.lst ys)) s4:=I.call' I4.os U' hokD I4.bare fun b hb=>by
    obtain⟨f0,f1,f2,f3,f4,f5⟩:=hf b hb;exact⟨f3,f1,f4,f5⟩
   have hDne:C≠D:=fun z=>hDC z.symm;refine hRR D C s4 _ mC IX (qn D hH4) hmC (by rw[jap hDne];exact I4.free) (fun z=>?_) ?_ (fun x c h z=>?_) fun p hp z=>?_
   ·exact jfU I.lt (hDd▸hCle) z.symm
   ·exact j0I I.sz (hDd▸hCle)
   ·obtain⟨v,o,ho,_⟩:=I.cell x c h;exact jfU (j0g ho) (hDd▸hCle) z
   ·exact jfU (j0g (I.pin p hp).1) (hDd▸hCle) z
  ·refine thn (T.item ((jaX X N' scope C fp s₂ H₂).wish (xe C fp s₂ H₂)) rfl rfl rfl hc i _ s3 _ H3 (xe C fp s₂ H₂) I3 (stat fr3) st3 go) fun r s4 ⟨u,hr,h4⟩=>?_;subst hr;refine thn h4 fun _ s5 ⟨x,H5,I5,r5,y5,st5,fr5⟩=>?_;have I5':=I5.pinned (stat fr5) (T.obj _ _ st5);refine thn (hg C s₂ H₂ _ s5 _ H5 x u _ I5' r5 (step x H5 y5)) fun _ s6 ⟨σ6,H6,I6,q6⟩=>?_;have back:∀{σ7:St} {H7:Hp} {s7:Shared} {pp:List (Addr×Obj)},Inv ((jaX X N' scope C fp s₂ H₂).wish (xe C fp s₂ H₂)) (pp++jjS fp s5.heap) σ7 H7 s7->tn (i+1) s7.heap/\∀b∈fp,H7 b=none:=fun {σ7 H7 s7 pp} I7=>by
    refine⟨T.keep _ _ _ st5 fun b hb o e=>(I7.pin (b,o) (j0K _ (j0K _ (jex hb e)))).1,fun b hb=>?_⟩;obtain⟨o,e,d⟩:=T.obj _ _ st5 b hb;exact(I7.pin (b,o) (j0K _ (j0K _ (jex hb e)))).2.1
   refine thn (ht C s₂ H₂ _ s6 σ6 H6 _ I6 q6) fun b s7 ⟨H7,I7,q7⟩=>?_;have weak:∀{H8:Hp} {s8:Shared} {pp:List (Addr×Obj)},Inv ((jaX X N' scope C fp s₂ H₂).wish (xe C fp s₂ H₂)) pp σ6 H8 s8->Inv ((jaX X N' scope C fp s₂ H₂).wish (xe C fp s₂ H₂)) pp (List.replicate own.length none++σ) H8 s8:=fun {H8 s8 pp} J8=>by
    obtain⟨mC,hmC,_⟩:=J8.loc;refine⟨J8.ok,J8.os,J8.bare,J8.base,⟨mC,hmC,fun j y v e1 e2 e3=>?_⟩,J8.cell,J8.free,J8.freeC,J8.pin,J8.hok,I3.len⟩;obtain⟨m3,hm3,hl3⟩:=(S.inv (m:=fun x=>([]:List (Str×Value)).reverse.lookup x) (s₄:={s₂ with heap:=h₁,toks:=s₂.toks+([]:List (Str×Value)).length}) I (by rw[hDd];exact hCle) hf (by rw[hDd];exact hflt) rfl rfl old hns₁ hacc (j1j hDd) hDC (by intro v z;cases z)).loc;obtain⟨u',r',l'⟩:=hl3 j y v e1 e2 e3;refine⟨u',r',?_⟩;rcases l' with⟨k',z'⟩|⟨k',c,hcl,o,ho,hd⟩
    ·have hge:own.length<=j:=by
      refine j1h fun hj=>?_;rw[j00 (by simpa using hj),List.getElem?_replicate]at e2;split at e2<;>cases e2
     have e1':(N'.drop own.length)[j - own.length]?=some y:=by
      rw[List.getElem?_drop,show own.length+(j - own.length)=j by omega];exact e1
     exact absurd k' (S.apart y (j0z e1'))
    ·obtain⟨vc,oc,hoc,hdc⟩:=I.cell y c (jaG hcl);have ec:oc=o:=by
      have:=old c oc hoc;rw[this]at ho;exact j0H ho
     subst ec;obtain⟨sl,hsl⟩:=J8.base.any hoc (I.freeC y c (jaG hcl)) (fun z=>(hf c z).2.2.2.2.1 y c (jaG hcl) rfl);exact .inr ⟨k',c,hcl,_,hsl,hd⟩
   cases b with
   |false=>
    obtain⟨m',hm,w7⟩:=hN0 _ q7;obtain⟨st7,fr7⟩:=back I7;exact⟨m',hm,i+1,ys,us,nn,H7,weak I7.unpinned,rv,hyz,st7,fr7,w7⟩
   |true=>
    refine thn (he C s₂ H₂ _ s7 σ6 H7 _ I7 q7) fun yv s8 ⟨y,H8,I8,r8,q8⟩=>?_;obtain⟨m',hm,w8⟩:=hN1 _ _ q8;obtain⟨st8,fr8⟩:=back I8;obtain⟨e8,n8,ne8,nf8,d8⟩:=I8.pin (D,_) (j0K _ (j1s _ j0u));refine append_at (hsz:=by rw[j0j,<- rv.length];exact hyz) e8 fun h9 hs9 hD9=>?_;have I8':Inv ((jaX X N' scope C fp s₂ H₂).wish (xe C fp s₂ H₂)) [] σ6 H8 s8:=I8.pins_of fun p hp=>nomatch hp;have I9:Inv ((jaX X N' scope C fp s₂ H₂).wish (xe C fp s₂ H₂)) [] σ6 H8 {s8 with heap:=h9}:=I8'.turned (t':=s8.toks) (it:=D) (fun b o hb e=>hs9.extBut b o hb e) n8 ne8 (.inr (j1j hDd)) (fun x c h z=>by
     obtain⟨v,o,ho,_⟩:=I.cell x c (jaG h);exact jfU (j0g ho) (j1j hDd) z) fun p hp=>nomatch (show p∈([]:List (Addr×Obj))from hp)
    have eqD:({cls:=.type "list",data:=.seq (us.toArray.push yv) (nn+1)}:Obj)={cls:=.type "list",data:=.seq (us++[yv]).toArray (nn+1)}:=by rw[List.push_toArray]
    refine⟨m',hm,i+1,ys++[y],us++[yv],nn+1,H8,weak (I9.pins_of fun p hp=>?_),rv.append (.cons r8 .nil),by rw[j0v];exact hlt,T.keep _ _ _ st8 fun b hb o e=>hs9.extBut b o (j0m (hflt b hb)) e,fr8,w8⟩;have e:p=(D,{cls:=.type "list",data:=.seq (us++[yv]).toArray (nn+1)}):=by simpa using hp
    subst e;exact⟨by rw[<- eqD];exact hD9,n8,ne8,nf8,by intro v z;cases z⟩
 exact codeAny_compStart_list (loop _ rfl) (T.self _ 0 _ _ _ (T.keep _ _ _ st fun b hb o e=>old b o e) (loop _ rfl))
end
section
variable {X:Cx}
theorem jia {own N':List Str}{scope:Scope}(S:CompScope X own N' scope){pins:List (Addr×Obj)}{s:Shared}{σ:St}{H:Hp}(I:Inv X pins σ H s) :
  closureFor scope X.env=pure (jjy scope.names X.env.cells):=jjc fun p hp hf=>I.ok.has p.1 (S.free p hp hf)
theorem juL {own N':List Str}{scope:Scope}{elt tg iter:Expr}{ifs:List Expr}{pos:Pos}{wi:TI}{g:TG}{tt:TT}{te:TE}(hc:X.calm=true)(S:CompScope X own N' scope)(hi:PI X tg iter wi)
  (hg:∀C fp s H,PG (jaX X N' scope C fp s H) tg g) (ht:∀C fp s H,PTs (jaX X N' scope C fp s H) ifs tt) (he:∀C fp s H,PE (jaX X N' scope C fp s H) elt te)
  (hs:∀x,foldedSetIterable iter X.env x=pure x:=by intro _;rfl):PE X (.ListComp elt [⟨tg,iter,ifs,0⟩] scope pos) (js9 own.length wi g tt te):=by
 intro pins s σ H Q I h;rw[eval_ListComp];refine wpAny_comprehension_free (use:=none) rfl hs (jia S I) S.kind S.names (thn (hi pins s σ H _ I h) fun v s1 h1=>thn h1 fun itv s2 h2=>?_);obtain⟨it,fp,tn,J,H2,e,I2,T,st2,f2,W,⟨m0,w0⟩,turn⟩:=h2;subst e;refine ji (xe:=fun _ _ _ _ _ _=>False) (RR:=fun acc C=>compPost (model X.prog X.w) X.A X.xe none (EP X pins σ Q) acc C) hc S (fun C s H=>hg C fp s H) (fun C s H=>ht C fp s H) (fun C s H=>he C fp s H) I2 T st2 f2 W m0 w0 turn ?_ fun _ _ _ _ _ h=>h.elim;intro D C s' H' m' I' q' hn hC h1 h2' h3 h4;refine⟨m',hn,fun h' hsb=>?_⟩;exact⟨.ref D,H',I'.turned (t':=s'.toks) (it:=C) (fun b o hb e=>hsb.extBut b o hb e) hC h1 (.inr h2') h3 h4,rfl,q'⟩
theorem jm6 {own N':List Str}{scope:Scope}{elt tg iter:Expr}{ifs:List Expr}{pos spos py:Pos}{wi:TI}{g:TG}{tt:TT}{te:TE}{i:Nat}{y:Str}(hN:X.N.Nodup)(hy:X.N[i]?=some y)(hx:Loc X.env.scope y)(hc:X.calm=true)(S:CompScope X own N' scope)(hi:PI X tg iter wi)
  (hg:∀C fp s H,PG (jaX X N' scope C fp s H) tg g) (ht:∀C fp s H,PTs (jaX X N' scope C fp s H) ifs tt) (he:∀C fp s H,PE (jaX X N' scope C fp s H) elt te)
  (hsw:swapsWith (.ListComp elt [⟨tg,iter,ifs,0⟩] scope pos) (some (.Name y py)) spos.line X.env=pure true)
  (hs:∀x,foldedSetIterable iter X.env x=pure x:=by intro _;rfl) (hf:X.fn y=true∨X.env.scope.names.lookup y=some .local:=by first|exact .inl rfl|exact .inr rfl|assumption) :
  PS X (.Assign [.Name y py] (.ListComp elt [⟨tg,iter,ifs,0⟩] scope pos) spos) (jvS (js9 own.length wi g tt te) (jfd i)):=by
 intro pins s σ H D I h;rw[exec_Assign_Name_used _ _ _ _ hsw];refine wpAny_bind (wpAny_standAt (wpAny_bind ?_));show wpAny _ X.A (do let _ <- comprehension (.ListComp elt [⟨tg,iter,ifs,0⟩] scope pos) scope X.env _ (newList []) false (eval iter X.env) (some (assign (.Name y py) X.env))) _ _ s;refine wpAny_bind (wpAny_mono (wpAny_comprehension_free (use:=some (assign (.Name y py) X.env)) (Q:=fun _ s'=>SP X pins D .next s') rfl hs (jia S I) S.kind S.names
  (thn (hi pins s σ H _ I h) fun v s1 h1=>thn h1 fun itv s2 h2=>?_)) (fun _ s' hq=>wpAny_pure (wpAny_pure hq)) fun _ _ e=>e)
 obtain⟨it,fp,tn,J,H2,e,I2,T,st2,f2,W,⟨m0,w0⟩,turn⟩:=h2;subst e;refine ji (xe:=fun _ _ _ _ _ _=>False) (Q:=fun x H1=>jfd i x σ H1 D.nx) (RR:=fun acc C=>compPost (model X.prog X.w) X.A X.xe (some (assign (.Name y py) X.env)) (fun _ s'=>SP X pins D .next s') acc C) hc S (fun C s H=>hg C fp s H) (fun C s H=>ht C fp s H) (fun C s H=>he C fp s H) I2 T st2 f2 W m0 w0 turn ?_ fun _ _ _ _ _ h=>h.elim;intro D' C s' H' m' I' q' hn hC h1 h2' h3 h4;show wpAny _ X.A (assign (.Name y py) X.env (.ref D')) _ _ _;refine wpAny_assign_Name (jjX (v:=.ref D') I' hN hy hx rfl (fun s'' I'' hch=>?_) hf);obtain⟨a,hsa,ha⟩:=hch;have hCa:C≠a:=by
  rcases ha with z|z
  ·rw[z];exact h1
  ·exact Ne.symm (h3 _ _ z)
 refine⟨m',hn.sameBut hsa hCa,fun h' hsb=>?_⟩;exact⟨_,H',I''.turned (t':=s''.toks) (it:=C) (fun b o hb e=>hsb.extBut b o hb e) hC h1 (.inr h2') h3 h4,q'⟩
noncomputable def Its (z:Str):It:=⟨fun i _=>i<z.cps.size,fun i H x H'=>H'=H/\∃c,z.cps[i]?=some c/\x=.str ⟨#[c]⟩,fun i _=>z.cps.size<=i⟩
theorem jrI {P:Program} {w:World} {K:PySem.W.Frag} {tg:Expr} (it:Addr) (z:Str) (t:Tok) (ty:String) (hty:ty = "str_ascii_iterator"∨ty = "str_iterator"):Turn P w K tg (Its z) [it] it (fun i h=>h.IsStrIter it ty z t i) where
 mem:=by simp
 obj:=fun i h st b hb=>by
  have e:b=it:=by simpa using hb
  subst e;obtain⟨o,e,c,d⟩:=st;exact⟨o,e,fun v z=>by rw[d]at z;cases z⟩
 keep:=fun i h h' st k=>by
  obtain⟨o,e,c,d⟩:=st;exact⟨o,k it (by simp) o e,c,d⟩
 item:=by
  intro X hP hw hK hc i pins s σ H E I hf st hg;subst hP hw hK;have hg':i<z.cps.size:=hg;have hx:z.cps[i]?=some z.cps[i]:=by simp[hg']
  obtain⟨f0,f1,f2,f3,f4,f5⟩:=hf it (by simp)
  have fin:∀h',h'.IsStrIter it ty z t (i+1)->Heap.SameBut it s.heap h'->∃u,some (Value.str ⟨#[z.cps[i]]⟩ s.toks)=some u /\
    wpAny (model X.prog X.w) X.A (letOwnedTupleGo tg (.ref it) u) (fun _ s2=>∃x H',Inv X pins σ H' s2/\jaN x u/\(Its z).yld i H x H'/\s2.heap.IsStrIter it ty z t (i+1)/\∀b∈[it],H' b=none) E {s with heap:=h',toks:=s.toks+1}:=fun h' st' sb=>by
   have I1:Inv X pins σ H {s with heap:=h',toks:=s.toks+1}:=I.turned (fun b o hb e=>(sb.2 b hb).trans e) f0 f1 f3 f4 f5;obtain⟨o,e,c,d⟩:=id st';refine⟨_,rfl,jrh (s:={s with heap:=h',toks:=s.toks+1}) e c d ?_ ⟨.str ⟨#[z.cps[i]]⟩,H,I1,⟨_,rfl⟩,⟨rfl,_,hx,rfl⟩,st',fun b hb=>(hf b hb).1⟩⟩;rcases hty with q|q<;>rw[q]<;>decide
  rcases hty with q|q
  ·subst q;exact wpAny_pyNext_ascii_item st hx fin
  ·subst q;exact wpAny_pyNext_wide_item st hx fin
 done:=by
  intro X hP hw hK hc i pins s σ H E I hf st hg;subst hP hw hK;have hg':z.cps.size<=i:=hg;have hx:z.cps[i]?=none:=by simp[hg']
  obtain⟨f0,f1,f2,f3,f4,f5⟩:=hf it (by simp);rcases hty with q|q
  ·subst q;exact wpAny_pyNext_ascii_end (I.ok.hd hc) st hx fun h' eb=>⟨rfl,I.turned (t':=s.toks) (fun b o hb e=>eb b o hb e) f0 f1 f3 f4 f5⟩
  ·subst q;exact wpAny_pyNext_wide_end (I.ok.hd hc) st hx fun h' eb=>⟨rfl,I.turned (t':=s.toks) (fun b o hb e=>eb b o hb e) f0 f1 f3 f4 f5⟩
 self:=fun A i s Q E st h=>by
  rcases hty with q|q
  ·subst q;exact wpAny_pyIter_striter_ascii st h
  ·subst q;exact wpAny_pyIter_striter_wide st h
def jBl (tl:TE):TI:=fun σ H R=>tl σ H fun x H1=>∃z,x=.str z/\R (Its z) H1
theorem jxn {tg:Expr}{l:Expr}{tl:TE}(hl:PE X l tl):PI X tg l (jBl tl):=by
 intro pins s σ H R I h;refine thn (hl pins s σ H _ I h) fun v s1 ⟨x,H1,I1,r1,q1⟩=>?_;obtain⟨z,e,q⟩:=q1;subst e;obtain⟨t,rfl⟩:=r1;have fin:∀ty,(ty = "str_ascii_iterator"∨ty = "str_iterator")->PIE X pins σ tg R (.ref s1.heap.objs.size) {s1 with heap:=s1.heap.push {cls:=.type ty,data:=.fields #[.str z t,.int 0 0]}}:=fun ty hty=>
  ⟨s1.heap.objs.size,[s1.heap.objs.size],_,_,H1,rfl,I1.kept (t':=s1.toks) fun b o e=>j0c _ e,jrI _ z t ty hty,⟨_,j0n _ rfl,rfl,rfl⟩,fun b hb=>by
   have e:b=s1.heap.objs.size:=by simpa using hb
   subst e;exact I1.fpOk (j0l _) (I1.hok.fresh (j0l _)),q⟩
 cases ha:z.cps.all (· < 128)
 ·exact wpAny_pyIter_wide ha (fin _ (.inr rfl))
 ·exact wpAny_pyIter_ascii ha (fin _ (.inl rfl))
def jxD (K:PySem.W.Frag):R2:=fun x y H Q=>∃l b xs zs,x=.ref l/\y=.ref b/\SqL K H l xs/\SqL K H b zs/\xs.length+zs.length<=sizeLine/\∀p,H p=none->Q (.ref p) (upd H p (.lst (xs++zs)))
theorem jvH:OpR X (binaryOp .Add) (jxD X.K):=by
 intro pins s σ H x y v u Q I rx ry h;obtain⟨l,b,xs,zs,rfl,rfl,hH,hB,hz,q⟩:=h;cases rx;cases ry;obtain⟨its,r,pl,z⟩:=I.list hH;obtain⟨its2,r2,pl2,z2⟩:=I.list hB;have hl:=r.length;have hl2:=r2.length;obtain⟨⟨cls,dd,data,sl⟩,n,ho,hc,_,hd⟩:=pl;obtain⟨⟨cls2,dd2,data2,sl2⟩,n2,ho2,hc2,_,hd2⟩:=pl2;simp only at hc hd hc2 hd2;subst hc hd hc2 hd2;have e:its.toArray++its2.toArray=(its++its2).toArray:=by simp
 refine concat_meets ⟨_,ho,rfl⟩ ⟨_,ho2,rfl⟩ noFill_list_add seq_list_add PySem.F.slot_list_add PySem.F.entry_list_add (PySem.F.args_list_add_2 _ _) (list_addW l b its.toArray its2.toArray n n2 dd dd2 sl sl2 (by rw[j0j,j0j];omega)) ⟨ho,ho2,?_⟩;rw[e];exact⟨.ref _,_,I.lnew (t':=s.toks) (r.append r2) (by rw[j0v];omega),rfl,q _ I.fresh⟩
noncomputable def jAP:V->Option Int->Option Int->Hp->VK->Prop:=fun x lo hi H Q=>∃z,x=.str z/\z.length<=sizeLine/\Q (.str (Txt.slice z lo hi)) H
theorem jyb:SlR X jAP:=by
 intro pins s σ H x v vl vu lo hi sl Q I rx hs pl pu h;obtain⟨z,rfl,hz,q⟩:=h;obtain⟨t,rfl⟩:=rx;refine⟨"str",_,PySem.F.slot_str_getitem.lookup,typeIs_str _ _ _,?_⟩;have fin:∀(l u:Option (Int×Tok)),l.map (·.1)=lo->u.map (·.1)=hi->s.heap.IsSlice sl l u none->wpAny (model X.prog X.w) X.A (getItem (.str z t) (.ref sl)) (EP X pins σ Q) X.xe s:=fun l u el eu hs'=>by
  subst el eu;exact wpAny_getItem_str_slice (l:=l) (u:=u) (st:=none) hs' rfl (post_val_or_str ⟨j0I (Txt.slice_le z _ _) hz,fun t' k=>⟨.str _,H,I.tok _,⟨_,rfl⟩,q⟩⟩)
 cases pl with
 |none=>
  cases pu with
  |none=>exact fin none none rfl rfl hs
  |int j tj=>exact fin none (some (j,tj)) rfl rfl hs
 |int i ti=>
  cases pu with
  |none=>exact fin (some (i,ti)) none rfl rfl hs
  |int j tj=>exact fin (some (i,ti)) (some (j,tj)) rfl rfl hs
theorem jif:∀{ys:List Str} {us:List Value},jaO (ys.map V.str) us->StrsAre us ys
 |[],_,.nil=>.nil
 |y::ys,_,.cons ⟨t,e⟩ r=>by
  subst e;exact .cons y t (jif r)
noncomputable def jx2 (K:PySem.W.Frag):V->List V->Hp->VK->Prop:=fun x xs H Q=>∃z p ys,x=.str z/\xs=[.ref p]/\SqL K H p (ys.map V.str)/\(ys.map (·.length)).sum+ys.length*z.length<=16777216/\Q (.str (Txt.join z ys)) H
theorem jvI:MtR X "str.join" (jx2 X.K):=by
 intro pins s σ H x xs v us Q I rx rv h;obtain⟨z,p,ys,rfl,rfl,hq,hz,q⟩:=h;obtain⟨t,rfl⟩:=rx;obtain⟨u,rfl,ru⟩:=rv.one;cases ru;obtain⟨its,r,pl,hl⟩:=I.list hq;exact join_list pl.isList (by simpa using jif r) hz fun t' k=>⟨.str _,H,I.tok _,⟨_,rfl⟩,q⟩
theorem jqi:jbx X (.builtin "all") (fun xs H Q=>X.calm=true/\∃(p:Addr) (bs:List Bool),xs=[.ref p]/\SqL X.K H p (bs.map V.bl)/\Q (.bl (bs.all id)) H):=by
 intro pins s σ H xs us Q I r h;obtain⟨hc,p,bs,rfl,hq,q⟩:=h;obtain⟨u,rfl,rx⟩:=jkc r;cases rx;obtain⟨its,r',pl,hz⟩:=I.list hq;have hl:=pl.isList;have hlt:p<s.heap.objs.size:=by obtain⟨_,e,_⟩:=hl;exact j0g e
 have hlen:=r'.length;rw[j0f]at hlen;refine call_all_walk (wpAny_pyIter_list hl ?_);refine⟨s.heap.objs.size,_,_,_,_,_,fun i=>bs.getD i true,rfl,Walks.list (A:=X.A.in1) (I.ok.hd hc) s.heap.objs.size p (j0m hlt) its.toArray,⟨⟨_,j0n _ rfl,rfl,rfl⟩,hl.push _⟩,?_,fun h' tk hk=>?_⟩
 ·intro i v s' Q' E' hP hQ';have hP':its[i]?=some v:=by simpa using hP
  have hi:i<bs.length:=by rw[hlen];exact(j0e.mp hP').1
  obtain⟨u',hu,ru⟩:=r'.get (i:=i) (x:=V.bl bs[i]) (by simp[hi]);rw[hP']at hu;cases hu;cases(show v=Value.bool bs[i]from ru);have e:bs.getD i true=bs[i]:=by simp[List.getD,hi]
  exact wpAny_truthy_bool (by rw[<- e];exact hQ')
 ·have e:(List.range its.toArray.size).all (fun i=>bs.getD i true)=bs.all id:=by
   rw[j0j,<- hlen,j0T,j01,j01];constructor
   ·intro a b hb;obtain⟨i,hi,e⟩:=List.mem_iff_getElem.mp hb;have:=a i (by simpa using hi);simpa[List.getD,hi,e]using this
   ·intro a i hi;have hi':i<bs.length:=by simpa using hi
    have:=a bs[i] (List.getElem_mem hi');simpa[List.getD,hi']using this
  rw[e];exact⟨.bl _,H,(I.kept (t':=s.toks) (h':=s.heap.push {cls:=.type "list_iterator",data:=.fields #[.ref p,.int 0 0]}) fun b o e=>j0c _ e).turned (t':=tk) (it:=s.heap.objs.size) (fun b o hb e=>hk b o (by simpa using hb) e) I.fresh
   (Ne.symm (j0m I.lt)) (.inr I.sz) (fun x c h z=>by
    obtain⟨v,o,ho,_⟩:=I.cell x c h;exact jfU (j0g ho) (j0l _) z) fun p hp z=>jfU (j0g (I.pin p hp).1) (j0l _) z,rfl,q⟩
theorem joV:OpR X (compareOp .LtE) (fun x y H Q=>∃i j,x=.str i/\y=.str j/\Q (.bl (!decide (j.cps.toList<i.cps.toList))) H):=by
 intro pins s σ H x y v u Q I rx ry h;obtain⟨i,j,rfl,rfl,q⟩:=h;obtain⟨t,rfl⟩:=rx;obtain⟨t',rfl⟩:=ry;exact PySem.P.le_str ⟨.bl _,H,I,rfl,q⟩
end
theorem jsD:bootBuiltins "len" =some (.builtin "len"):=by decide +kernel
theorem jwj:bootBuiltins "all" =some (.builtin "all"):=by decide +kernel
theorem jxe:bootBuiltins "max" =some (.builtin "max"):=by decide +kernel
theorem jyx:bootBuiltins "min" =some (.builtin "min"):=by decide +kernel
theorem jbY:bootBuiltins "isinstance" =some (.builtin "isinstance"):=by decide +kernel
theorem js:bootBuiltins "int" =some (.type "int"):=by decide +kernel
theorem jr7:bootBuiltins "str" =some (.type "str"):=by decide +kernel
theorem joW:bootBuiltins "bool" =some (.type "bool"):=by decide +kernel
theorem jlb:bootBuiltins "list" =some (.type "list"):=by decide +kernel
theorem jiD:bootBuiltins "tuple" =some (.type "tuple"):=by decide +kernel
theorem jxg:bootBuiltins "set" =some (.type "set"):=by decide +kernel
theorem jjV:bootBuiltins "enumerate" =some (.type "enumerate"):=by decide +kernel
theorem jlt:bootBuiltins "dict" =some (.type "dict"):=by decide +kernel
structure Callee (P:Program) (w:World) (K:PySem.W.Frag) (mg:Str->Option Value) (base:Heap) (k:Nat) (x:Str) (ps:List Str) (sp:Sp):Prop where
 ex:∃(f:Addr) (fd:FuncData),FnOk P w K mg base CX0 k f fd ps sp/\mg x=some (.ref f)/\PySem.W.keepIn K (.ref f)=true/\jeR K fd ps []
section
variable {X:Cx}
noncomputable def csB (N:List Str)(env:Env)(own N':List Str)(scope:Scope):Bool:=
 scope.kind==.function&&scope.names.all (fun y=>y.2 !=.cell)&&scope.names.all (fun y=>y.2 !=.local||scope.names.lookup y.1==some .local) &&
 scope.names.all (fun y=>y.2 !=.free||env.kindOf y.1==some .cell||env.kindOf y.1==some .free)&&N'.length==own.length+N.length &&
 ((N'.drop own.length).zip N).all (fun p=>p.1==p.2||!(scope.names.contains (p.1,NameKind.free)))&&(N'.drop own.length).all (fun x=>(relabel scope env).names.lookup x !=some .local)
theorem cs {own N':List Str}{scope:Scope}(h:csB X.N X.env own N' scope=true):CompScope X own N' scope:=by
 unfold csB at h;simp only[j0a]at h;obtain⟨⟨⟨⟨⟨⟨h1,h2⟩,h3⟩,h4⟩,h5⟩,h6⟩,h7⟩:=h;have hlen:N'.length=own.length+X.N.length:=by simpa using h5
 refine⟨by simpa using h1,fun y hy=>?_,fun y hy hl=>?_,fun y hy hf=>?_,hlen,fun i x hx hf=>?_,fun x hx=>?_⟩
 ·have:=j01.mp h2 y hy;simpa using this
 ·have:=j01.mp h3 y hy;simpa[hl]using this
 ·have:=j01.mp h4 y hy;simpa[hf]using this
 ·have hi:i<(N'.drop own.length).length:=(j0e.mp hx).1;have hi':i<X.N.length:=by rw[List.length_drop]at hi;omega
  have hz:((N'.drop own.length).zip X.N)[i]?=some (x,X.N[i]):=by
   rw[List.getElem?_zip_eq_some];exact⟨hx,by simp[hi']⟩
  have:=j01.mp h6 _ (j0z hz);have hc:scope.names.contains (x,NameKind.free)=true:=by simpa using hf
  rw[hc]at this;have e:x=X.N[i]:=by simpa using this
  rw[e];simp[hi']
 ·have:=j01.mp h7 x hx;simpa using this
end
theorem jfK.upd {H H':Hp}{p:Addr}{o:HO}(e:jfK H H')(h:H' p=none):jfK H (upd H' p o):=fun b u q=>by
 have q':=e b u q;rw[jap (jau q' h)];exact q'
theorem jfK.tup {K:PySem.W.Frag}{H H':Hp}{a:Addr}{xs:List V}(e:jfK H H')(h:SqT K H a xs):SqT K H' a xs:=by
 rcases h with(h|⟨o,h⟩)|h
 ·exact .inl (.inl (e _ _ h))
 ·exact .inl (.inr ⟨o,e _ _ h⟩)
 ·exact .inr h
theorem jl7:∀{l:List Str},(∀y∈l,y.length=1)->(l.map (·.length)).sum=l.length
 |[],_=>rfl
 |y::l,h=>by
  rw[j0k,List.sum_cons,h y j0u,jl7 fun z hz=>h z (j0s _ hz),j0q];omega
noncomputable def spLaw (K:PySem.W.Frag):Sp:=fun vs H Q _=>∃(a:Addr) (ns:List Int),vs=[.ref a]/\SqL K H a (ns.map V.int)/\ns.length<=63/\∀H',Q (.bl true) H'
section
variable {X:Cx}
theorem jpQ {P:Program}{W:World}{B:Around}{E:Value->Shared->Prop}{src lst:Addr}{vs:Array Value}(apart:lst≠src)(k:Nat):∀(j:Nat) (t:Shared) (Q:List Value->Shared->Prop),t.heap.IsListIter src lst j->t.heap.IsList lst vs->j+k<=vs.size ->
  (∀g,g.IsListIter src lst (j+k)->Heap.SameBut src t.heap g->Q ((vs.toList.drop j).take k) {t with heap:=g})->wpAny (model P W) B (draw (.ref src) k) Q E t:=by
 induction k with
 |zero=>
  intro j t Q here _ _ fin;have last:=fin t.heap here (Heap.SameBut.refl ..);rw[List.take_zero]at last;exact(wpAny_pure last:wpAny (model P W) B (pure []) Q E t)
 |succ k ih=>
  intro j t Q here isl room fin;have inside:j<vs.toList.length:=by rw[j0t];omega
  have split:(vs.toList.drop j).take (k+1)=vs[j]'(by simpa using inside)::(vs.toList.drop (j+1)).take k:=by
   rw[List.drop_eq_getElem_cons inside,List.take_succ_cons,Array.getElem_toList]
  unfold draw;refine wpAny_bind (wpAny_pyNext_list_item here isl (x:=vs[j]'(by simpa using inside)) (by simp at inside;simp[inside]) fun g1 here1 only1=>?_);refine wpAny_bind (wpAny_holding (ih (j+1) _ _ here1 (isl.extBut only1.extBut apart) (by omega) fun g2 here2 only2=>wpAny_pure ?_));have last:=fin g2 (by rw[Nat.add_right_comm]at here2;exact here2) (only1.trans only2);rw[split]at last;exact last
noncomputable def jA8 (K:PySem.W.Frag)(n:Nat)(t:TGs):TG:=fun v σ H Q=>∃a xs,v=.ref a/\SqL K H a xs/\xs.length=n/\t xs σ H Q
theorem jyy {es:List Expr}{k:Nat}{t:TGs}{n:Nat}{pos:Pos}(hc:X.calm=true)(h:PGs X es t)
  (hn:(assignEach es X.env).length=n:=by rfl) (hst:(assignEach es X.env).findIdx? (·.1)=none:=by rfl):PG X (.Tuple es k pos) (jA8 X.K n t):=by
 intro pins s σ H v u Q I r hw;obtain⟨a,xs,e1,hq,hl,hw⟩:=hw;subst e1;cases r;obtain⟨its,rv,pl,hz⟩:=I.list hq;have hlen:=rv.length;have hL:=pl.isList;have hlt:a≠s.heap.objs.size:=by
  obtain⟨o,ho,_⟩:=hL;exact j0m (j0g ho)
 rw[assign_Tuple];refine wpAny_bind (wpAny_standAt ?_);unfold unpack;rw[hn,hst];refine wpAny_bind (wpAny_holding ?_);unfold unpackItems;refine wpAny_bind ?_;unfold notIterableAtAll;refine wpAny_bind (wpAny_specialOf hL.typeIs PySem.slot_list_iter.lookup ?_);refine wpAny_pure ?_;simp only[j0p,if_false];refine wpAny_bind (wpAny_holding (wpAny_pyIter_list hL ?_));refine wpAny_bind (wpAny_holding (jpQ hlt n 0 _ _ ⟨_,j0n _ rfl,rfl,rfl⟩ (hL.push _) (by rw[j0j];omega) fun h₁ hit₁ hs₁=>?_));have hall:List.take n (List.drop 0 its.toArray.toList)=its:=by
  rw[List.drop_zero];show List.take n its=its;exact j07 (by omega)
 rw[hall];rw[if_neg (by omega)];have ht₁:h₁.IsList a its.toArray:=(hL.push _).extBut hs₁.extBut hlt;refine wpAny_bind (wpAny_holding (wpAny_pyNext_list_end (I.ok.hd hc) hit₁ ht₁ (by simp;omega) fun h₂ he₂=>?_));simp only[Option.isSome_none,j0p,if_false];refine wpAny_pure ?_;have I1:Inv X pins σ H {s with heap:=h₂}:=I.kept (t':=s.toks) fun b o e=>he₂ b o (j0m (j0g e)) (hs₁.extBut b o (j0m (j0g e)) (j0c _ e));exact h pins _ σ H xs _ Q I1 rv hw
structure Maker (P:Program) (w:World) (K:PySem.W.Frag) (mg:Str->Option Value) (base:Heap) (k:Nat) (x:Str) (C:Addr) (ps:List Str) (sp:Sp):Prop where
 ex:∃(f:Addr) (fd:FuncData),Mk K C f/\FnOk P w K mg base CX0 k f fd ps sp/\mg x=some (.ref C)/\jeR K fd ps []
section
variable {α:Type} [DecidableEq α]
noncomputable def jjz (σ:List α)(v:α):List α:=if v∈σ then σ else σ++[v]
noncomputable def ddS (xs:List α):List α:=xs.foldl jjz []
theorem jiA (σ:List α)(v:α):(jjz σ v).length=if decide (v∈σ)=true then σ.length else σ.length+1:=by
 unfold jjz;by_cases h:v∈σ<;>simp[h]
theorem jmk (σ:List α)(v k:α):decide (k∈jjz σ v)=(decide (k∈σ)||decide (k=v)):=by
 unfold jjz;by_cases h:v∈σ
 ·rw[if_pos h,j0T];simp only[j1v,decide_eq_true_eq];exact⟨.inl,fun z=>z.elim id fun e=>e▸h⟩
 ·rw[if_neg h,j0T];simp only[j1v,decide_eq_true_eq,j1d,j1A]
theorem jmh (xs:List α)(i:Nat)(v:α)(h:xs[i]?=some v):ddS (xs.take (i+1))=jjz (ddS (xs.take i)) v:=by
 unfold ddS;rw[List.take_add_one,h,Option.toList_some,List.foldl_append];rfl
theorem jvF (σ:List α)(v:α):(jjz σ v).length<=σ.length+1:=by
 rw[jiA];split<;>omega
theorem jkS:∀(xs σ:List α),(xs.foldl jjz σ).length<=σ.length+xs.length
 |[],σ=>j0l _
 |x::xs,σ=>by
  have h1:=jkS xs (jjz σ x);have h2:=jvF σ x;rw[List.foldl_cons,j0q];omega
theorem jlN (xs:List α):(ddS xs).length<=xs.length:=by
 have:=jkS xs [];simpa[ddS]using this
theorem jh9:∀(xs σ:List α),(σ++xs).Nodup->xs.foldl jjz σ=σ++xs
 |[],σ,_=>by simp
 |x::xs,σ,h=>by
  have hx:x∉σ:=fun hm=>by
   rw[List.nodup_append]at h;exact h.2.2 x hm x j0u rfl
  rw[List.foldl_cons];have e:jjz σ x=σ++[x]:=by
   unfold jjz;rw[if_neg hx]
  rw[e,jh9 xs (σ++[x]) (by simpa using h)];simp
theorem jnN {xs:List α}(h:xs.Nodup):(ddS xs).length=xs.length:=by
 unfold ddS;rw[jh9 xs [] (by simpa using h)];simp
end
theorem jle {P:Program}{W:World}{g g':Heap}{D:Addr}{f:Str->Bool}{n:Nat}(h:g.SetOf (strKind P W) D f n)(k:∀o,g.get? D=some o->g'.get? D=some o):g'.SetOf (strKind P W) D f n:=
 match h with
 |⟨o,es,ep,tb,at_,r⟩=>⟨o,es,ep,tb,k _ at_,r⟩
end
section
variable {X:Cx}
section
variable {prog:Program} {w:World} {A:Around} {R:Result->Shared->Prop} {I:Addr} {fp wr:List Addr}
end
end
noncomputable def jkI (N:List Str)(sc:Scope)(i:Nat)(x:Str):Bool:=
 N[i]?==some x&&(sc.names.lookup x==some .local||sc.names.lookup x==some .cell||sc.names.lookup x==some .free)&&!(x==("__debug__" : Str))&&!(x==("__classdict__" : Str))
noncomputable def jhT (N:List Str)(sc:Scope)(i:Nat)(x:Str):Bool:=N[i]?==some x&&(sc.names.lookup x==some .local||sc.names.lookup x==some .cell)
noncomputable def jrJ (N:List Str)(sc:Scope)(i:Nat)(x:Str):Bool:=N[i]?==some x&&sc.names.lookup x==some .local
noncomputable def jbj (sc:Scope)(x:Str):Bool:=sc.names.lookup x==some .globalImplicit&&!(x==("__debug__" : Str))&&!(x==("__name__" : Str))
noncomputable def jak:Expr->Bool
 |.Starred ..=>false
 |_=>true
theorem jaB {e:Expr}{es:List Expr}{env:Env}(h:jak e=true):starEach (e::es) env=(false,eval e env)::starEach es env:=by
 cases e<;>first|rfl|cases h
noncomputable def notComp:Expr->Bool
 |.ListComp ..=>false
 |.SetComp ..=>false
 |.DictComp ..=>false
 |_=>true
theorem jbg {e:Expr}{t:Option Expr}{l:Nat}{env:Env}(h:notComp e=true):swapsWith e t l env=pure false:=by
 cases e<;>first|rfl|cases h
section
variable {X:Cx}
theorem pvk (i:Nat){x:Str}{pos:Pos}(h:jkI X.N X.env.scope i x=true):PE X (.Name x pos) (jAW i):=by
 unfold jkI at h;simp only[j0a,j1v,beq_iff_eq,j0O]at h;obtain⟨⟨⟨h1,h2⟩,h3⟩,h4⟩:=h;refine jyn h1 ?_ h3 h4;rcases h2 with(h2|h2)|h2
 ·exact .inl h2
 ·exact .inr (.inl h2)
 ·exact .inr (.inr h2)
theorem jbF {i:Nat}{x:Str}(h:jhT X.N X.env.scope i x=true):X.N[i]?=some x/\Loc X.env.scope x:=by
 unfold jhT at h;simp only[j0a,j1v,beq_iff_eq]at h;exact h
theorem jhn {i:Nat}{x:Str}(h:jrJ X.N X.env.scope i x=true):X.N[i]?=some x/\X.env.scope.names.lookup x=some .local:=by
 unfold jrJ at h;simp only[j0a,beq_iff_eq]at h;exact h
theorem jay {x:Str}(h:jbj X.env.scope x=true):Gl X x/\(x==("__debug__" : Str))=false/\x≠"__name__":=by
 unfold jbj at h;simp only[j0a,beq_iff_eq,j0O]at h;obtain⟨⟨h1,h2⟩,h3⟩:=h;exact⟨h1,h2,fun z=>by rw[z]at h3;simp at h3⟩
theorem jiE {i:Nat}{x:Str}{e:Expr}{te:TE}{pos pos':Pos}(hN:X.N.Nodup)(h:jhT X.N X.env.scope i x=true)(he:PE X e te)(hs:notComp e=true:=by rfl)(hf:X.fn x=true:=by rfl) :
  PS X (.Assign [.Name x pos'] e pos) (jvS te (jfd i)):=jsi hN (jbF h).1 (jbF h).2 he (jbg hs) (.inl hf)
theorem jqM {i:Nat}{x:Str}{pos:Pos}(hN:X.N.Nodup)(h:jhT X.N X.env.scope i x=true)(hf:X.fn x=true:=by rfl):PG X (.Name x pos) (jfd i):=jov hN (jbF h).1 (jbF h).2 (.inl hf)
theorem juK {i:Nat}{x:Str}{pos:Pos}(hN:X.N.Nodup)(h:jrJ X.N X.env.scope i x=true):PG X (.Name x pos) (jfd i):=jov hN (jhn h).1 (.inl (jhn h).2) (.inr (jhn h).2)
theorem pac {e:Expr}{es:List Expr}{te:TE}{t:TA}(ha:PE X e te)(hr:PA X es t)(h:jak e=true:=by rfl):PA X (e::es) (jon te t):=jcz ha hr (jaB h)
noncomputable def jah (es:List Expr):Bool:=es.all jak
theorem jaU:∀{es:List Expr} {env:Env} {pos:Pos},jah es=true->(backTo pos (starEach es env)).any (·.1)=false
 |[],_,_,_=>rfl
 |e::es,env,pos,h=>by
  unfold jah at h;simp only[j0Y,j0a]at h;rw[jaB h.1];show(false||(backTo pos (starEach es env)).any (·.1))=false;rw[Bool.false_or];exact jaU h.2
theorem jbm {x:Str}{id:String}{r:List V->Hp->VK->Prop}{e:Expr}{es:List Expr}{t:TA}{p pos:Pos}(hc:jbx X (.builtin id) r)(hg:jbj X.env.scope x=true)(hm:X.mg x=none)(hv:bootBuiltins x=some (.builtin id))(ha:PA X (e::es) t)(hst:jah (e::es)=true:=by rfl) :
  PE X (.Call (.Name x p) (e::es) [] pos) (tCB r t):=by
 have h1:=hst;unfold jah at h1;simp only[j0Y,j0a]at h1;exact jqF hc (jay hg).1 hm hv ha (jay hg).2.2 (jay hg).2.1 (jaB h1.1) (jaU h1.2)
theorem jih {x:Str}{T:String}{r:List V->Hp->VK->Prop}{e:Expr}{es:List Expr}{t:TA}{p pos:Pos}(hc:jbx X (.type T) r)(hg:jbj X.env.scope x=true)(hm:X.mg x=none)(hv:bootBuiltins x=some (.type T))(ha:PA X (e::es) t)(hst:jah (e::es)=true:=by rfl) :
  PE X (.Call (.Name x p) (e::es) [] pos) (tCB r t):=by
 have h1:=hst;unfold jah at h1;simp only[j0Y,j0a]at h1;exact jn2 hc (jay hg).1 hm hv ha (jay hg).2.2 (jay hg).2.1 (jaB h1.1) (jaU h1.2)
theorem jip {x:Str}{v:V}{u:Value}{pos:Pos}(hg:jbj X.env.scope x=true)(hm:X.mg x=some u)(r:jaN v u):PE X (.Name x pos) (tC v):=joJ (jay hg).1 hm r (jay hg).2.1
theorem jms {x:Str}{v:V}{u:Value}{pos:Pos}(hg:jbj X.env.scope x=true)(hm:X.mg x=none)(hv:bootBuiltins x=some u)(r:jaN v u):PE X (.Name x pos) (tC v):=jte (jay hg).1 hm hv r (jay hg).2.2 (jay hg).2.1
theorem jnb {tg:Expr} {a:Expr} {ta:TA} {p pos:Pos} (hg:jbj X.env.scope "range" =true) (hm:X.mg "range" =none) (ha:PA X [a] ta) (hs:jak a=true:=by rfl):PI X tg (.Call (.Name "range" p) [a] [] pos) (jxN ta):=jnL (jay hg).1 hm ha (jaB hs)
theorem jmR {tg:Expr} {a b:Expr} {ta:TA} {p pos:Pos} (hg:jbj X.env.scope "range" =true) (hm:X.mg "range" =none) (ha:PA X [a,b] ta) (hs:jah [a,b]=true:=by rfl):PI X tg (.Call (.Name "range" p) [a,b] [] pos) (jv1 ta):=by
 have h1:=hs;unfold jah at h1;simp only[j0Y,j0a]at h1;refine jnG (jay hg).1 hm ha ?_ (jaB h1.2.1);rw[jaB h1.1,jaB h1.2.1];rfl
end
noncomputable def jgr (scope sc:Scope):Scope:=
 {scope with names:=scope.names.map fun(n,k)=>if(k==.free&&sc.kind==.function&&sc.names.lookup n==some .cell)then(n,.cell)else(n,k)}
theorem jpc (scope:Scope)(env:Env):relabel scope env=jgr scope env.scope:=rfl
noncomputable def jzZ (N:List Str)(sc:Scope)(own N':List Str)(scope:Scope):Bool:=
 scope.kind==.function&&scope.names.all (fun y=>y.2 !=.cell)&&scope.names.all (fun y=>y.2 !=.local||scope.names.lookup y.1==some .local) &&
 scope.names.all (fun y=>y.2 !=.free||sc.names.lookup y.1==some .cell||sc.names.lookup y.1==some .free)&&N'.length==own.length+N.length &&
 ((N'.drop own.length).zip N).all (fun p=>p.1==p.2||!(scope.names.contains (p.1,NameKind.free)))&&(N'.drop own.length).all (fun x=>(jgr scope sc).names.lookup x !=some .local)
theorem csk {X:Cx}{own N':List Str}{scope:Scope}(h:jzZ X.N X.env.scope own N' scope=true):CompScope X own N' scope:=cs h
structure QE (X:Cx) (e:Expr) (t:TE):Prop where
 h:PE X e t
structure QT (X:Cx) (e:Expr) (t:TT):Prop where
 h:PT X e t
structure QW (X:Cx) (e:Expr) (t:TT):Prop where
 h:PW X e t
structure QA (X:Cx) (es:List Expr) (t:TA):Prop where
 h:PA X es t
structure QS (X:Cx) (st:Stmt) (t:TS):Prop where
 h:PS X st t
structure QSs (X:Cx) (st:List Stmt) (t:TS):Prop where
 h:PSs X st t
structure QG (X:Cx) (tg:Expr) (t:TG):Prop where
 h:PG X tg t
structure QGs (X:Cx) (ts:List Expr) (t:TGs):Prop where
 h:PGs X ts t
structure QI (X:Cx) (tg iter:Expr) (wi:TI):Prop where
 h:PI X tg iter wi
structure QO (X:Cx) (e:Option Expr) (t:TO):Prop where
 h:PO X e t
structure QTs (X:Cx) (es:List Expr) (t:TT):Prop where
 h:PTs X es t
abbrev jAI:TA:=fun _ H Q=>Q [] H
abbrev jzS (ta:TE) (tr:TA):TA:=fun σ H Q=>ta σ H fun x H1=>tr σ H1 fun xs H2=>Q (x::xs) H2
abbrev nC (v:V):TE:=fun _ H Q=>Q v H
abbrev nCB (r:List V->Hp->VK->Prop) (t:TA):TE:=fun σ H Q=>t σ H fun vs H1=>r vs H1 Q
noncomputable def jpE:Expr->Bool
 |.UnaryOp .Not ..=>false
 |.BoolOp ..=>false
 |.IfExp ..=>false
 |.Compare ..=>false
 |_=>true
theorem jqJ {a:Expr}{env:Env}(h:jpE a=true):∀whole,isTrue a env whole=(do let v <- whole;standAt a.pos;holding [v] (truthy v)):=by
 intro whole
 cases a with
 |UnaryOp op x p=>cases op<;>first|rfl|cases h
 |_=>first|rfl|cases h
noncomputable def jeG:Expr->Bool
 |.Set ..=>false
 |_=>true
theorem jfl {e:Expr}{env:Env}(h:jeG e=true):∀x,foldedSetIterable e env x=pure x:=by
 intro x;cases e<;>first|rfl|cases h
noncomputable def jaW:Expr->Bool
 |.Call ..=>false
 |_=>true
theorem jkL {e:Expr}{f:Str}{env:Env}(h:jaW e=true):attributeBase e f env (eval e env)=eval e env:=by
 cases e<;>first|rfl|cases h
theorem jfB {e:Expr}{es:List Expr}{env:Env}(h:jak e=true):assignEach (e::es) env=(false,assign e env)::assignEach es env:=by
 cases e<;>first|rfl|cases h
theorem jgW:∀{es:List Expr} {env:Env},jah es=true->(assignEach es env).length=es.length/\(assignEach es env).findIdx? (·.1)=none
 |[],_,_=>⟨rfl,rfl⟩
 |e::es,env,h=>by
  unfold jah at h;simp only[j0Y,j0a]at h;obtain⟨h1,h2⟩:=jgW (es:=es) (env:=env) h.2;rw[jfB h.1,j0q,j0q,h1];exact⟨rfl,by rw[List.findIdx?_cons];simp[h2]⟩
theorem jsw {e:Expr}{es:List Expr}{env:Env}{cpos:Pos}(h:jah (e::es)=true)(hl:es.length<28):((backTo cpos (starEach (e::es) env)).all (fun x=>!x.1)&&(backToKw cpos (keywordEach [] env)).all (fun x=>x.1.isSome)
   && decide ((e::es).length+([]:List Keyword).length+(if([]:List Keyword).isEmpty then 0 else 1)<30))=true:=by
 have h1:=jaU (env:=env) (pos:=cpos) h;have h2:(backTo cpos (starEach (e::es) env)).all (fun x=>!x.1)=true:=by
  rw[j01];intro x hx;rw[List.any_eq_false]at h1;have:=h1 x hx;simpa using this
 rw[h2];have h3:(backToKw cpos (keywordEach [] env)).all (fun x=>x.1.isSome)=true:=rfl;rw[h3];simp;omega
section
variable {X:Cx} {a b c e:Expr} {es:List Expr} {ta tb tc te:TE} {tA tB:TT} {t:TA} {pos p:Pos}
theorem jx0 {i:Int}{j:Nat}:QE X (.Constant (.int i) j pos) (nC (.int i)):=⟨jwW⟩
theorem juD {b:Bool}{j:Nat}:QE X (.Constant (.bool b) j pos) (nC (.bl b)):=⟨jzd⟩
theorem jxk {j:Nat}:QE X (.Constant .none j pos) (nC .non):=⟨jsE⟩
theorem jwI {x:Str}{j:Nat}:QE X (.Constant (.str x) j pos) (nC (.str x)):=⟨jw2⟩
theorem jkT {x:Str}{v:V}{u:Value}(hg:jbj X.env.scope x=true)(hm:X.mg x=none)(hv:bootBuiltins x=some u)(r:jaN v u):QE X (.Name x pos) (nC v):=⟨jms hg hm hv r⟩
theorem jzu {op:UnaryOp}{r:V->Hp->VK->Prop}(ho:UnR X (unaryOp op) r)(ha:QE X a ta):QE X (.UnaryOp op a pos) (tUn r ta):=⟨jzm ho ha.h⟩
theorem jxC {op:CmpOp}{r:R2}(ho:OpR X (compareOp op) r)(ha:QE X a ta)(hb:QE X b tb)(hm:behindInMarks op b=false:=by first|exact nomark _|with_unfolding_all rfl):QE X (.Compare a [op] [b] pos) (tOp r ta tb):=⟨jvx ho ha.h hb.h hm⟩
theorem jxF {op:CmpOp}{r:R2}(ho:OpR X (compareOp op) r)(ha:QE X a ta)(hb:QE X b tb)(hm:behindInMarks op b=false:=by first|exact nomark _|with_unfolding_all rfl):QT X (.Compare a [op] [b] pos) (jp2 (tOp r ta tb)):=⟨jvc ho ha.h hb.h hm⟩
theorem jwD {j:Nat}{pos':Pos}(ha:QE X a ta):QE X (.Compare a [.Is] [.Constant .none j pos'] pos) (jy1 ta):=⟨jsI (jsn ha.h)⟩
theorem jvo {j:Nat}{pos':Pos}(ha:QE X a ta):QE X (.Compare a [.IsNot] [.Constant .none j pos'] pos) (jrm ta):=⟨jsI (jnY ha.h)⟩
theorem jwT {j:Nat}{pos':Pos}(ha:QE X a ta):QT X (.Compare a [.Is] [.Constant .none j pos'] pos) (_L2.tB (jy1 ta)):=⟨jsQ (jsn ha.h)⟩
theorem ju6 {j:Nat}{pos':Pos}(ha:QE X a ta):QT X (.Compare a [.IsNot] [.Constant .none j pos'] pos) (_L2.tB (jrm ta)):=⟨jsQ (jnY ha.h)⟩
theorem jqy {op op':CmpOp}{r r':R2}(ho:OpR X (compareOp op) r)(ho':OpR X (compareOp op') r')(ha:QE X a ta)(hb:QE X b tb)(hc:QE X c tc)(hm:lastMarks [op,op'] [b,c]=false:=by with_unfolding_all rfl):QE X (.Compare a [op,op'] [b,c] pos) (jjO r r' ta tb tc):=⟨jqW ho ho' ha.h hb.h hc.h hm⟩
theorem jqg {op op':CmpOp}{r r':R2}(ho:OpR X (compareOp op) r)(ho':OpR X (compareOp op') r')(ha:QE X a ta)(hb:QE X b tb)(hc:QE X c tc)(hm:lastMarks [op,op'] [b,c]=false:=by with_unfolding_all rfl):QT X (.Compare a [op,op'] [b,c] pos) (jp2 (jjO r r' ta tb tc)):=⟨jqC ho ho' ha.h hb.h hc.h hm⟩
theorem jsc {op:BoolOp}(h:QE X a ta):QE X (.BoolOp op [a] pos) ta:=⟨jv5 h.h⟩
theorem jr8 {rest:List Expr}(ha:QE X a ta)(hb:QE X (.BoolOp .And (b::rest) pos) tb):QE X (.BoolOp .And (a::b::rest) pos) (jtZ ta tb):=⟨jwL ha.h hb.h⟩
theorem jwb {rest:List Expr}(ha:QE X a ta)(hb:QE X (.BoolOp .Or (b::rest) pos) tb):QE X (.BoolOp .Or (a::b::rest) pos) (jAk ta tb):=⟨jzW ha.h hb.h⟩
theorem jst (ha:QE X a ta):QE X (.UnaryOp .Not a pos) (jyh ta):=⟨jyJ ha.h⟩
theorem ju9 (ha:QT X a tA):QW X (.BoolOp .And [a] pos) tA:=⟨jup ha.h⟩
theorem jsC (ha:QT X a tA):QW X (.BoolOp .Or [a] pos) tA:=⟨jww ha.h⟩
theorem jsK {rest:List Expr}(ha:QT X a tA)(hb:QW X (.BoolOp .And (b::rest) pos) tB):QW X (.BoolOp .And (a::b::rest) pos) (jzX tA tB):=⟨jyv ha.h hb.h⟩
theorem ju {rest:List Expr}(ha:QT X a tA)(hb:QW X (.BoolOp .Or (b::rest) pos) tB):QW X (.BoolOp .Or (a::b::rest) pos) (tOr tA tB):=⟨jzk ha.h hb.h⟩
theorem jBw (h:QW X a tA):QT X a tA:=⟨h.h.pt⟩
theorem jnM (ha:QT X a tA):QT X (.UnaryOp .Not a pos) (jAv tA):=⟨jyg ha.h⟩
theorem jml (ha:QE X a ta)(h:jpE a=true:=by rfl):QT X a (fun σ H Q=>ta σ H fun x H'=>∃k,jw4 X.K x H' k/\Q k H'):=⟨jr6 ha.h (jqJ h)⟩
theorem jqT (hc:QT X c tA)(ha:QE X a ta)(hb:QE X b tb):QE X (.IfExp c a b pos) (tIf tA ta tb):=⟨jp0 hc.h ha.h hb.h⟩
theorem jxi:QA X [] jAI:=⟨jdQ⟩
theorem jvC (ha:QE X e te)(hr:QA X es t)(h:jak e=true:=by rfl):QA X (e::es) (jzS te t):=⟨pac ha.h hr.h h⟩
theorem jrg {x:Str}{id:String}{r:List V->Hp->VK->Prop}(hc:jbx X (.builtin id) r)(hg:jbj X.env.scope x=true)(hm:X.mg x=none)(hv:bootBuiltins x=some (.builtin id))(ha:QA X (e::es) t)(hst:jah (e::es)=true:=by rfl):QE X (.Call (.Name x p) (e::es) [] pos) (nCB r t):=⟨jbm hc hg hm hv ha.h hst⟩
theorem joa {x:Str}{T:String}{r:List V->Hp->VK->Prop}(hc:jbx X (.type T) r)(hg:jbj X.env.scope x=true)(hm:X.mg x=none)(hv:bootBuiltins x=some (.type T))(ha:QA X (e::es) t)(hst:jah (e::es)=true:=by rfl):QE X (.Call (.Name x p) (e::es) [] pos) (nCB r t):=⟨jih hc hg hm hv ha.h hst⟩
theorem jyD {o:Expr} {to:TE} {name:Str} {apos cpos:Pos} {T id:String} {r:V->List V->Hp->VK->Prop} (pa:PlainAttrs T) (slot:Slot T name id) (hty:typeOf (.builtin id)=pure (.type "method_descriptor")) (hm:MtR X id r) (ho:QE X o to) (ha:QA X (e::es) t)
  (hb:jaW o=true:=by rfl) (hst:jah (e::es)=true:=by rfl) (hl:es.length<28:=by decide) (hline:(apos.endLine==cpos.line)=true:=by rfl):QE X (.Call (.Attribute o name apos) (e::es) [] cpos) (tBM X.K T r to t):=by
 have h1:=hst;unfold jah at h1;simp only[j0Y,j0a]at h1;exact⟨jz3 pa slot hty hm ho.h ha.h (jkL hb) (jsw hst hl) hline (jaB h1.1) (jaU h1.2)⟩
theorem jwr {o:Expr} {to:TE} {name:Str} {apos cpos:Pos} {T id:String} {r:V->List V->Hp->VK->Prop} (pa:PlainAttrs T) (slot:Slot T name id) (hty:typeOf (.builtin id)=pure (.type "method_descriptor")) (hm:MtR X id r) (ho:QE X o to)
  (hb:jaW o=true:=by rfl) (hline:(apos.endLine==cpos.line)=true:=by rfl):QE X (.Call (.Attribute o name apos) [] [] cpos) (jAE X.K T r to):=⟨jyi pa slot hty hm ho.h (jkL hb) hline⟩
theorem jxb {ss tt:List Stmt}{u v:TS}(hc:QT X c tA)(ha:QSs X ss u)(hb:QSs X tt v):QS X (.If c ss tt pos) (jAZ tA u v):=⟨juM hc.h ha.h hb.h⟩
theorem jpS (he:QE X e te):QS X (.Return (some e) pos) (jAF te):=⟨joR he.h⟩
theorem jor:QSs X [] ju4:=⟨jkO⟩
theorem jmu {st:Stmt}{rest:List Stmt}{u v:TS}(h1:QS X st u)(h2:QSs X rest v):QSs X (st::rest) (jAH u v):=⟨jgy h1.h h2.h⟩
theorem jkM {st:Stmt}{u:TS}(h1:QS X st u):QSs X [st] u:=⟨jpd h1.h⟩
end
section
variable {P:Program} {w:World} {K:PySem.W.Frag} {mg:Str->Option Value} {base:Heap}
theorem Fun.okQ {x qual:Str}{st:Stmt}{f:Addr}{fd:FuncData}{N ps:List Str}{k:Nat}{sp:Sp}(F:Fun K x qual st f fd)(S:FnScope N ps (ja st))(len:∀vs H Q E,sp vs H Q E->vs.length=ps.length)
  (hbody:∀(cdv:Value) (A:Around) (outer:List Env) (s:Shared) (H:Hp) (vs:List V) (Q:VK) (E:XK),Room k (A.deeper (envOfC qual (ja st) s.heap.objs.size f cdv))->sp vs H Q E ->
   ∃t,QSs (jjC CX0 P w K mg base N qual (ja st) f cdv A outer s H E).nox (jae st) t/\t {nx:=fun _ H'=>Q .non H',rt:=Q} (_L2.start N vs) H):FnOk P w K mg base CX0 (k+1) f fd ps sp:=
 F.ok S len fun cdv A outer s H vs Q E hr h=>let⟨t,ht,q⟩:=hbody cdv A outer s H vs Q E hr h;⟨t,ht.h,q⟩
end
def Trk (H:Hp)(a:Addr)(xs:List V):Prop:=H a=some (.lst xs)∨H a=some (.tup xs)
theorem Trk.ty {K:PySem.W.Frag}{H:Hp}{a:Addr}{xs:List V}(h:Trk H a xs):TyOf K H (.ref a) (.type "list")∨TyOf K H (.ref a) (.type "tuple"):=h.elim (fun h=>.inl (.lst h)) fun h=>.inr (.tup h)
section
variable {X:Cx}
end
def Lop (J:It)(g:TG)(tb:TS)(D:Ends)(σ:_L2.St)(H:Hp):Prop:=∃W:Nat->Nat->_L2.St->Hp->Prop,(∃m,W 0 m σ H)/\∀i m σ H,W i m σ H ->
   (J.stop i H/\D.nx σ H)∨(J.go i H/\∃N:_L2.St->Hp->Prop,(∀σ' H',N σ' H'->∃m',m'<m/\W (i+1) m' σ' H')/\∀x H',J.yld i H x H'->g x σ H' fun σ2 H2=>tb {D with nx:=N,ct:=N,bk:=D.nx} σ2 H2)
def jwN {α:Type}(f:α->List V)(H:Hp)(v:V)(x:α):Prop:=∃p,v=.ref p/\H p=some (.tup (f x))
theorem jey {α β:Type}{F:α->β->Prop}:∀{vs:List α} {xs:List β} {i:Nat} {v:α},Paired F vs xs->vs[i]?=some v->∃x,xs[i]?=some x/\F v x
 |_,_,_,_,.nil,e=>by simp at e
 |_,_,0,_,.cons r _,e=>by simp at e;subst e;exact⟨_,rfl,r⟩
 |_,_,i+1,v,.cons _ t,e=>by
  obtain⟨x,h1,h2⟩:=jey (i:=i) (v:=v) t (by simpa using e);exact⟨x,by simpa using h1,h2⟩
theorem jjY {α:Type}{xs:List α}{i:Nat}{x:α}(h:xs[i]?=some x):xs.take (i+1)=xs.take i++[x]:=by
 rw[List.take_add_one,h];rfl
section
variable {X:Cx} {K:PySem.W.Frag} {a b e:Expr} {es:List Expr} {ta tb te:TE} {t:TA} {pos p:Pos}
end
noncomputable def EqS (H:Hp):Nat->V->V->Prop
 |0,x,y=>x=y/\(jfG x=true∨∃p,x=.ref p)
 |n+1,x,y=>(x=y/\(jfG x=true∨∃p,x=.ref p))∨∃a b xs ys,x=.ref a/\y=.ref b/\((H a=some (.tup xs)/\H b=some (.tup ys))∨(H a=some (.lst xs)/\H b=some (.lst ys)))/\Paired (EqS H n) xs ys
theorem EqS.ref {H:Hp}{n:Nat}{p:Addr}:EqS H n (.ref p) (.ref p):=by
 cases n with
 |zero=>exact⟨rfl,.inr ⟨p,rfl⟩⟩
 |succ n=>exact .inl ⟨rfl,.inr ⟨p,rfl⟩⟩
theorem jlO {x:V}(h:jfG x=true):eqV x x=true:=by
 cases x with
 |non=>rfl
 |bl b=>simp[eqV]
 |int i=>simp[eqV]
 |str z=>simp[eqV]
 |_=>exact absurd (show false=true from h) j0i
section
variable {X:Cx} {pins:List (Addr×Obj)} {σ:_L2.St} {H:Hp} {s:Shared}
end
section
variable {X:Cx}
end
section
variable {X:Cx}
end
theorem jfV {α:Type}{f:α->List V}{G G':Hp}(ht:∀p xs,G p=some (.tup xs)->G' p=some (.tup xs)):∀{us:List V} {xs:List α},Paired (jwN f G) us xs->Paired (jwN f G') us xs
 |_,_,.nil=>.nil
 |_,_,.cons ⟨p,e,hp⟩ t=>.cons ⟨p,e,ht _ _ hp⟩ (jfV ht t)
theorem jh2 {α β:Type}{F:α->β->Prop}:∀{us ws:List α} {xs ys:List β},Paired F us xs->Paired F ws ys->Paired F (us++ws) (xs++ys)
 |_,_,_,_,.nil,h=>h
 |_,_,_,_,.cons r t,h=>.cons r (jh2 t h)
def Lst {α:Type}(f:α->List V)(H:Hp)(a:Addr)(xs:List α):Prop:=∃us,H a=some (.lst us)/\Paired (jwN f H) us xs
theorem jlz {H:Hp}{l:Addr}{zs:List V}{o:HO}(hl:H l=some (.lst zs)):∀p xs,H p=some (.tup xs)->upd H l o p=some (.tup xs):=fun p xs hp=>by
 have:p≠l:=fun e=>by rw[e,hl]at hp;cases hp
 rw[jap this];exact hp
theorem Lst.more {α:Type}{f:α->List V}{H:Hp}{a:Addr}{us ws:List V}{xs ys:List α}(h:H a=some (.lst us))(h1:Paired (jwN f H) us xs)(h2:Paired (jwN f H) ws ys):Lst f (upd H a (.lst (us++ws))) a (xs++ys):=
 ⟨_,jaz,jh2 (jfV (jlz h) h1) (jfV (jlz h) h2)⟩
section
variable {X:Cx}
end
section
variable {X:Cx}
end
def sAt (b:Bool)(h:Heap)(l:Addr)(xs:Array Value):Prop:=match b with|false=>h.IsList l xs|true=>h.IsTuple l xs
def iAt (b:Bool)(h:Heap)(it l:Addr)(i:Nat):Prop:=match b with|false=>h.IsListIter it l i|true=>h.IsTupleIter it l i
noncomputable def jit (b:Bool)(l:Addr):Obj:={cls:=.type (match b with|false=>"list_iterator" |true=>"tuple_iterator"),data:=.fields #[.ref l,.int 0 0]}
theorem jio {b:Bool}{l:Addr}{h:Heap}{it:Addr}(g:h.get? it=some (jit b l)):iAt b h it l 0:=by
 cases b<;>exact⟨_,g,rfl,rfl⟩
theorem iAt.keep {b:Bool}{h h':Heap}{it l:Addr}{i:Nat}(x:iAt b h it l i)(k:∀o,h.get? it=some o->h'.get? it=some o):iAt b h' it l i:=by
 cases b
 ·exact Heap.IsListIter.at x k
 ·exact Heap.IsTupleIter.at x k
theorem iAt.obj {b:Bool}{h:Heap}{it l:Addr}{i:Nat}(x:iAt b h it l i):∃o,h.get? it=some o/\∀v,o.data≠.cell v:=by
 cases b<;>(obtain⟨o,g,_,d⟩:=x;exact⟨o,g,fun v z=>by rw[d]at z;cases z⟩)
theorem sAt.keep {b:Bool}{h h':Heap}{l:Addr}{xs:Array Value}(x:sAt b h l xs)(k:∀o,h.get? l=some o->h'.get? l=some o):sAt b h' l xs:=by
 cases b<;>(obtain⟨o,g,r⟩:=x;exact⟨o,k o g,r⟩)
theorem sAt.obj {b:Bool}{h:Heap}{l:Addr}{xs:Array Value}(x:sAt b h l xs):∃o,h.get? l=some o:=by
 cases b<;>(obtain⟨o,g,_⟩:=x;exact⟨o,g⟩)
section
variable {prog:Program} {w:World} {A:Around} {E:Value->Shared->Prop} {s:Shared} {it l:Addr} {i:Nat} {items:Array Value} {b:Bool}
theorem joo {M:Model}{o:Obj}{fs:Array Value}{k:Nat}{v:Value}{Q:Unit->Shared->Prop}(ho:s.heap.get? it=some o)(hd:o.data=.fields fs)
  (q:Q () {s with heap:=s.heap.update it (Obj.mapFields (·.setIfInBounds k v))}) (hj:k<fs.size):wpAny M A (setField (.ref it) k v) Q E s:=wpAny_setField ho hd hj q
theorem jut {h:Heap} {ob:Obj} (gi:h.get? it=some ob) (ci:ob.cls=.type "tuple_iterator") (di:ob.data=.fields #[.ref l,.int (i:Int) 0]) :
  (h.update it (Obj.mapFields (·.setIfInBounds 1 (rawInt ((i:Int)+1))))).IsTupleIter it l (i+1):=by
 have dn:=Obj.data_mapFields di (·.setIfInBounds 1 (rawInt ((i:Int)+1)));refine⟨_,Heap.get?_update_self (Obj.mapFields (·.setIfInBounds 1 (rawInt ((i:Int)+1)))) gi (Obj.isFreed_of_fields dn),?_,?_⟩
 ·rw[Obj.cls_mapFields,ci]
 ·rw[dn];simp[rawInt]
theorem jrf {Q:Value->Shared->Prop}{x:Value}(hit:s.heap.IsTupleIter it l i)(hl:s.heap.IsTuple l items)(hx:items[i]?=some x)
  (q:∀h',h'.IsTupleIter it l (i+1)->Heap.SameBut it s.heap h'->Q x {s with heap:=h'}):wpAny (model prog w) A (Builtin.SmallTypes.nextOf (.ref it)) Q E s:=by
 have ty:s.TypeIs (.ref it) "tuple_iterator":=let⟨o,g,c,_⟩:=hit;⟨o,g,c⟩;obtain⟨ob,gi,ci,di⟩:=id hit;obtain⟨ol,gl,_,nl,dl⟩:=hl;have after:=jut (i:=i) gi ci di;unfold Builtin.SmallTypes.nextOf;refine wpAny_bind (wpAny_callSpecial?_slot (name:=Str.ofString "__next__") ty j1q (wpAny_call_entry j1q ty F.entry_tuple_iterator_next ?_ (F.args_tuple_iterator_next_1 _)));wp_walk using wpAny_field gi di (x:=.ref l) rfl,wpAny_field gi di (x:=.int (i:Int) 0) rfl,wpAny_seqItems gl dl;rw[Int.toNat_natCast,hx];dsimp only;wp_walk using joo gi di
 ·exact⟨_,rfl,wpAny_pure (q _ after (Heap.SameBut.update ..))⟩
 ·show 1<2;decide
theorem jj2 {Q:Value->Shared->Prop}(hh:A.handled=none)(hit:s.heap.IsTupleIter it l i)(hl:s.heap.IsTuple l items)(hx:items[i]?=none)
  (q:∀h' x,Heap.ExtBut it s.heap h'->(∃o,h'.get? x=some o/\o.cls=.type "StopIteration")->E (.ref x) {s with heap:=h'}):wpAny (model prog w) A (Builtin.SmallTypes.nextOf (.ref it)) Q E s:=by
 have ty:s.TypeIs (.ref it) "tuple_iterator":=let⟨o,g,c,_⟩:=hit;⟨o,g,c⟩;obtain⟨ob,gi,ci,di⟩:=id hit;obtain⟨ol,gl,_,nl,dl⟩:=hl;have hh1:A.in1.handled=none:=hh;unfold Builtin.SmallTypes.nextOf;refine wpAny_bind (wpAny_callSpecial?_slot (name:=Str.ofString "__next__") ty j1q (wpAny_call_entry j1q ty F.entry_tuple_iterator_next ?_ (F.args_tuple_iterator_next_1 _)));wp_walk using wpAny_field gi di (x:=.ref l) rfl,wpAny_field gi di (x:=.int (i:Int) 0) rfl,wpAny_seqItems gl dl;rw[Int.toNat_natCast,hx];dsimp only;wp_walk using joo gi di
 ·(try unfold raiseNew)
  wp_walk;exact q _ _ (((Heap.SameBut.update ..).extBut.push _).push _) ⟨_,j0n _ rfl,rfl⟩
 ·show 0<2;decide
theorem jvZ {Q:Value->Shared->Prop}{x:Value}(hit:iAt b s.heap it l i)(hl:sAt b s.heap l items)(hx:items[i]?=some x)
  (q:∀h',iAt b h' it l (i+1)->Heap.SameBut it s.heap h'->Q x {s with heap:=h'}):wpAny (model prog w) A (Builtin.SmallTypes.nextOf (.ref it)) Q E s:=by
 cases b
 ·exact wpAny_nextOf_list_item hit hl hx q
 ·exact jrf hit hl hx q
theorem jgs {Q:Value->Shared->Prop}(hh:A.handled=none)(hit:iAt b s.heap it l i)(hl:sAt b s.heap l items)(hx:items[i]?=none)
  (q:∀h' x,Heap.ExtBut it s.heap h'->(∃o,h'.get? x=some o/\o.cls=.type "StopIteration")->E (.ref x) {s with heap:=h'}):wpAny (model prog w) A (Builtin.SmallTypes.nextOf (.ref it)) Q E s:=by
 cases b
 ·exact wpAny_nextOf_list_end hh hit hl hx q
 ·exact jj2 hh hit hl hx q
theorem jlK {Q:Value->Shared->Prop}(hl:sAt b s.heap l items)(q:Q (.ref s.heap.objs.size) {s with heap:=s.heap.push (jit b l)}):wpAny (model prog w) A (pyIter (.ref l)) Q E s:=by
 cases b
 ·exact wpAny_pyIter_list hl q
 ·exact wpAny_pyIter_tuple hl q
end
theorem jpf {prog:Program}{w:World}{A:Around}{b:Bool}(hh:A.handled=none)(it l:Addr)(hne:l≠it)(items:Array Value) :
  Draws prog w A it [it,l] items.size (fun i v=>items[i]?=some v) (fun i h=>iAt b h it l i/\sAt b h l items) where
 live:=fun _ _ st=>let⟨o,g,_⟩:=st.1.obj;⟨o,g⟩
 frame:=fun _ _ _ st k=>⟨st.1.keep fun o e=>k it (by simp) o e,st.2.keep fun o e=>k l (by simp) o e⟩
 item:=fun i s Q E hi st q=>jvZ st.1 st.2 (x:=items[i]) (by simp[hi]) fun h' a c=>q _ h' s.toks (by simp[hi]) ⟨a,st.2.keep fun o e=>c.extBut _ _ hne e⟩ c
 done:=fun s Q E st q=>jgs hh st.1 st.2 (by simp) q
theorem jkP (l:Addr)(items:Array Value)(n:Nat)(dc:Option Addr)(sl:Array (Option Value)) :
  Meets (Builtin.«enumerate.__new__» ⟨[.type "enumerate",.ref l],[]⟩) (fun _ R s=>s.heap.get? l=some {cls:=.type "tuple",dict:=dc,data:=.seq items n,slots:=sl} /\
   R (.ok (.ret (.ref (s.heap.push (jit true l)).objs.size))) {s with heap:=(s.heap.push (jit true l)).push {cls:=.type "enumerate",data:=.fields #[.none,.bool false,.ref s.heap.objs.size,rawInt 0,.none,.none]}}):=by
 refine .of_wp ?_;rintro prog w A R ⟨hp,g,d,tk,os⟩ ⟨hl,q⟩;have sub:=sub_enumerate;have ht:sAt true (Shared.heap ⟨hp,g,d,tk,os⟩) l items:=⟨_,hl,rfl,n,rfl⟩;wp_walk using AutoSeq1.wpAny_loadPart' hl;refine wpAny_stack_any fun st=>wpAny_pure ?_;split
 case h_1 c _ _ _ _ _=>cases(c==Value.type "enumerate")<;>(wp_walk using AutoSeq1.wpAny_loadPart' hl,jlK ht;exact⟨_,rfl,q⟩)
 case h_2=>wp_walk using AutoSeq1.wpAny_loadPart' hl,jlK ht;exact⟨_,rfl,q⟩
section
variable {prog:Program} {w:World} {A:Around} {E:Value->Shared->Prop} {s:Shared} {l:Addr} {items:Array Value} {b:Bool}
theorem jll {Q:Value->Shared->Prop}(hl:sAt b s.heap l items)
  (q:∀h',IsEnum h' (s.heap.objs.size+1) s.heap.objs.size 0 .none->iAt b h' s.heap.objs.size l 0->(∀c o,s.heap.get? c=some o->h'.get? c=some o)->Q (.ref (s.heap.objs.size+1)) {s with heap:=h'}) :
  wpAny (model prog w) A (call (.type "enumerate") [.ref l]) Q E s:=by
 cases b
 ·exact call_enumerate_list hl fun h' a c _ k=>q h' a c k
 ·obtain⟨⟨c,dc,dt,sl⟩,g,hc,n,hd⟩:=hl;cases hc;cases hd;refine callType_new F.called_enumerate (by decide) (F.typeCall_enumerate_1 _) (F.newCall_enumerate_1 _) (fun o=>F.args_object_init_2 o _) F.entry_enumerate_new (jkP l items n dc sl) ⟨g,?_⟩;have z:(s.heap.push (jit true l)).objs.size=s.heap.objs.size+1:=Heap.size_push ..;have ge:=j0n (s.heap.push (jit true l)) (o:={cls:=.type "enumerate",data:=.fields #[.none,.bool false,.ref s.heap.objs.size,rawInt 0,.none,.none]}) rfl;rw[z]at ge;show _/\_;rw[z];exact⟨⟨_,ge,rfl⟩,q _ ge (jio (j0c _ (j0n _ rfl))) fun c o x=>j0c _ (j0c _ x)⟩
theorem jtM {b1 b2:Bool}{z TI TO i1 i2 l1 l2:Addr}{i:Nat}{xs ys:Array Value}{x y u v:Value}{Q:Option Value->Shared->Prop}(D:ZipApart z TI TO i1 i2 l1 l2)
  (oz:IsZip s.heap z TI TO .none) (oi:IsPair s.heap TI (.ref i1) (.ref i2)) (oo:IsPair s.heap TO u v) (a1:iAt b1 s.heap i1 l1 i) (a2:iAt b2 s.heap i2 l2 i) (s1:sAt b1 s.heap l1 xs) (s2:sAt b2 s.heap l2 ys) (ex:xs[i]?=some x) (ey:ys[i]?=some y)
  (q:∀h',IsZip h' z TI TO (rawInt s.heap.objs.size)->IsPair h' TO x y->iAt b1 h' i1 l1 (i+1)->iAt b2 h' i2 l2 (i+1)->IsPair h' s.heap.objs.size x y ->
   (∀c o,c≠z->c≠TO->c≠i1->c≠i2->s.heap.get? c=some o->h'.get? c=some o)->Q (some (.ref s.heap.objs.size)) {s with heap:=h'}) :
  wpAny (model prog w) A (pyNext (.ref z)) Q E s:=by
 have ty:s.TypeIs (.ref z) "zip":=⟨_,oz,rfl⟩;unfold pyNext;refine wpAny_bind (wpAny_attempt (wpAny_callSpecial?_slot (name:=Str.ofString "__next__") ty j1m (wpAny_call_entry j1m ty F.entry_zip_next ?_ (F.args_zip_next_1 _))));have fin:∀(w1:Value) (t:Shared),Q (some w1) t->wpAny (model prog w) A (pure (some w1)) Q E t:=fun _ _ z=>wpAny_pure z;change wpAny _ _ (field (.ref z) 2 >>=_) _ _ _;refine wpAny_bind (wpAny_field oz rfl (x:=.bool false) rfl ?_);change wpAny _ _ (field (.ref z) 3 >>=_) _ _ _;refine wpAny_bind (wpAny_field oz rfl (x:=.ref TI) rfl (wpAny_bind (wpAny_seqItems oi rfl ?_)));change wpAny _ _ (Builtin.SmallTypes.ownedTupleIsFree (.ref z) >>=_) _ _ _;refine wpAny_bind (wpAny_bind (wpAny_field oz rfl (x:=.none) rfl (wpAny_pure ?_)));rw[if_pos rfl];refine wpAny_bind (wpAny_rule (wpAny_bind (wpAny_field oz rfl (x:=.ref TO) rfl (wpAny_bind (wpAny_setField_rec oz (by simp) fun hA zA kA=>wpAny_bind ?_)))));have zA':IsZip hA z TI TO .ellipsis:=zA;have nA:hA.objs.size=s.heap.objs.size:=kA.1;have oA:IsPair hA TO u v:=kA.extBut _ _ D.TOz oo;have a1A:iAt b1 hA i1 l1 i:=a1.keep fun o e=>kA.extBut _ _ D.i1z e;have a2A:iAt b2 hA i2 l2 i:=a2.keep fun o e=>kA.extBut _ _ D.i2z e;have s1A:sAt b1 hA l1 xs:=s1.keep fun o e=>kA.extBut _ _ D.l1z e;have s2A:sAt b2 hA l2 ys:=s2.keep fun o e=>kA.extBut _ _ D.l2z e;have keepA:∀c o,c≠z->s.heap.get? c=some o->hA.get? c=some o:=fun c o n e=>kA.extBut _ _ n e;simp only[List.zipIdx_cons,List.zipIdx_nil,List.forIn_cons,List.forIn_nil];refine wpAny_bind (wpAny_bind (wpAny_onRaise ?_));change wpAny _ _ (Builtin.SmallTypes.nextOf (.ref i1) >>=_) _ _ _;refine wpAny_bind (jvZ a1A s1A ex fun hB a1B kB=>wpAny_pure ?_);have oB:IsPair hB TO u v:=kB.extBut _ _ D.TOi1 oA;refine wpAny_bind (wpAny_seqItems oB rfl (wpAny_bind (wpAny_updateSeq_pair oB fun hC oC kC=>wpAny_bind (wpAny_letGo (wpAny_pure ?_)))));have oC':IsPair hC TO x v:=oC;have a2C:iAt b2 hC i2 l2 i:=(a2A.keep fun o e=>kB.extBut _ _ D.i12.symm e).keep fun o e=>kC.extBut _ _ D.TOi2.symm e;have s2C:sAt b2 hC l2 ys:=(s2A.keep fun o e=>kB.extBut _ _ D.l2i1 e).keep fun o e=>kC.extBut _ _ D.l2TO e;refine wpAny_bind (wpAny_bind (wpAny_onRaise ?_));change wpAny _ _ (Builtin.SmallTypes.nextOf (.ref i2) >>=_) _ _ _;refine wpAny_bind (jvZ a2C s2C ey fun hD a2D kD=>wpAny_pure ?_);have oD:IsPair hD TO x v:=kD.extBut _ _ D.TOi2 oC';refine wpAny_bind (wpAny_seqItems oD rfl (wpAny_bind (wpAny_updateSeq_pair oD fun hE oE kE=>wpAny_bind (wpAny_letGo (wpAny_pure (wpAny_pure ?_))))));have oE':IsPair hE TO x y:=oE;refine wpAny_bind (wpAny_seqItems oE' rfl (wpAny_bind (wpAny_newTuple ?_)));have nE:hE.objs.size=s.heap.objs.size:=by rw[kE.1,kD.1,kC.1,kB.1,nA]
 have keepE:∀c o,c≠TO->c≠i1->c≠i2->hA.get? c=some o->hE.get? c=some o:=fun c o c2 c3 c4 e=>kE.extBut _ _ c2 (kD.extBut _ _ c4 (kC.extBut _ _ c2 (kB.extBut _ _ c3 e)));have zE:IsZip hE z TI TO .ellipsis:=keepE _ _ D.TOz.symm D.i1z.symm D.i2z.symm zA';have a1E:iAt b1 hE i1 l1 (i+1):=a1B.keep fun o e=>kE.extBut _ _ D.TOi1.symm (kD.extBut _ _ D.i12 (kC.extBut _ _ D.TOi1.symm e));have a2E:iAt b2 hE i2 l2 (i+1):=a2D.keep fun o e=>kE.extBut _ _ D.TOi2.symm e;have lz:z<hE.objs.size:=j0g zE;change wpAny _ _ (Builtin.SmallTypes.ownedTupleHandOut (.ref z) (.ref hE.objs.size) >>=_) _ _ _;refine wpAny_bind ?_;unfold Builtin.SmallTypes.ownedTupleHandOut;have zP:IsZip (hE.push {cls:=.type "tuple",data:=.seq #[x,y]}) z TI TO .ellipsis:=j0c _ zE;refine wpAny_bind (wpAny_setField_rec zP (by simp) fun hF zF kF=>wpAny_setField_rec (show IsZip hF z TI TO (rawInt hE.objs.size)from zF) (by simp) fun hG zG kG=>?_);have zG':IsZip hG z TI TO (rawInt hE.objs.size):=zG;have keepG:∀c o,c≠z->(hE.push {cls:=.type "tuple",data:=.seq #[x,y]}).get? c=some o->hG.get? c=some o:=fun c o n e=>kG.extBut _ _ n (kF.extBut _ _ n e);have up:∀c o,c≠z->hE.get? c=some o->hG.get? c=some o:=fun c o n e=>keepG c o n (j0c _ e);have new:IsPair hG hE.objs.size x y:=keepG _ _ (Nat.ne_of_gt lz) (j0n _ rfl);rw[nE]at zG' new;refine wpAny_pure ⟨_,rfl,fin _ _ ?_⟩;change Q (some (.ref hE.objs.size)) _;rw[nE];exact q hG zG' (up _ _ D.TOz oE') (a1E.keep fun o e=>up _ _ D.i1z e) (a2E.keep fun o e=>up _ _ D.i2z e) new fun c o c1 c2 c3 c4 e=>up c o c1 (keepE c o c2 c3 c4 (keepA c o c1 e))
theorem jyw {b1 b2:Bool}{z TI TO i1 i2 l1 l2:Addr}{i:Nat}{xs ys:Array Value}{u v:Value}{Q:Option Value->Shared->Prop}(hh:A.handled=none)(D:ZipApart z TI TO i1 i2 l1 l2)
  (oz:IsZip s.heap z TI TO .none) (oi:IsPair s.heap TI (.ref i1) (.ref i2)) (oo:IsPair s.heap TO u v) (a1:iAt b1 s.heap i1 l1 i) (a2:iAt b2 s.heap i2 l2 i) (s1:sAt b1 s.heap l1 xs) (s2:sAt b2 s.heap l2 ys) (ee:xs[i]?=none∨ys[i]?=none)
  (q:∀h',(∀c o,c≠z->c≠TO->c≠i1->c≠i2->s.heap.get? c=some o->h'.get? c=some o)->Q none {s with heap:=h'}) :
  wpAny (model prog w) A (pyNext (.ref z)) Q E s:=by
 have ty:s.TypeIs (.ref z) "zip":=⟨_,oz,rfl⟩;have hh1:A.in1.handled=none:=hh;unfold pyNext;refine wpAny_bind (wpAny_attempt (wpAny_callSpecial?_slot (name:=Str.ofString "__next__") ty j1m (wpAny_call_entry j1m ty F.entry_zip_next ?_ (F.args_zip_next_1 _))))
 have raised:∀(hX hY:Heap) (e:Addr),IsZip hX z TI TO .ellipsis->(∃o,hX.get? e=some o/\o.cls=.type "StopIteration")->(∀c o,c≠z->c≠TO->c≠i1->c≠i2->s.heap.get? c=some o->hX.get? c=some o)->Heap.SameBut z hX hY ->
   (∃o,hY.get? e=some o/\o.cls=.type "StopIteration")/\∀c o,c≠z->c≠TO->c≠i1->c≠i2->s.heap.get? c=some o->hY.get? c=some o:=fun hX hY e zX ⟨o,ho,hc⟩ kX kY=>by
  have ne:e≠z:=fun r=>by
   rw[r,zX]at ho;cases ho;simp at hc
  exact⟨⟨o,kY.extBut _ _ ne ho,hc⟩,fun c o c1 c2 c3 c4 r=>kY.extBut _ _ c1 (kX c o c1 c2 c3 c4 r)⟩
 change wpAny _ _ (field (.ref z) 2 >>=_) _ _ _;refine wpAny_bind (wpAny_field oz rfl (x:=.bool false) rfl ?_);change wpAny _ _ (field (.ref z) 3 >>=_) _ _ _;refine wpAny_bind (wpAny_field oz rfl (x:=.ref TI) rfl (wpAny_bind (wpAny_seqItems oi rfl ?_)));change wpAny _ _ (Builtin.SmallTypes.ownedTupleIsFree (.ref z) >>=_) _ _ _;refine wpAny_bind (wpAny_bind (wpAny_field oz rfl (x:=.none) rfl (wpAny_pure ?_)));rw[if_pos rfl];refine wpAny_bind (wpAny_rule (wpAny_bind (wpAny_field oz rfl (x:=.ref TO) rfl (wpAny_bind (wpAny_setField_rec oz (by simp) fun hA zA kA=>wpAny_bind ?_)))));have zA':IsZip hA z TI TO .ellipsis:=zA;have oA:IsPair hA TO u v:=kA.extBut _ _ D.TOz oo;have a1A:iAt b1 hA i1 l1 i:=a1.keep fun o e=>kA.extBut _ _ D.i1z e;have a2A:iAt b2 hA i2 l2 i:=a2.keep fun o e=>kA.extBut _ _ D.i2z e;have s1A:sAt b1 hA l1 xs:=s1.keep fun o e=>kA.extBut _ _ D.l1z e;have s2A:sAt b2 hA l2 ys:=s2.keep fun o e=>kA.extBut _ _ D.l2z e;simp only[List.zipIdx_cons,List.zipIdx_nil,List.forIn_cons,List.forIn_nil];refine wpAny_bind (wpAny_bind (wpAny_onRaise ?_));change wpAny _ _ (Builtin.SmallTypes.nextOf (.ref i1) >>=_) _ _ _;by_cases ex:xs[i]?=none
 ·refine wpAny_bind (jgs hh1 a1A s1A ex fun hX e kX he=>?_);have zX:IsZip hX z TI TO .ellipsis:=kX _ _ D.i1z.symm zA';refine wpAny_setField_rec zX (by simp) fun hY _ kY=>?_;obtain⟨⟨o,ho,hc⟩,kk⟩:=raised hX hY e zX he (fun c o c1 _ c3 _ r=>kX _ _ c3 (kA.extBut _ _ c1 r)) kY;exact wpAny_bind (wpAny_isInstance (T:="StopIteration") (b:=true) ⟨o,ho,hc⟩ isSubtype_stop (wpAny_pure (q _ kk)))
 ·have ey:ys[i]?=none:=ee.resolve_left ex;obtain⟨x,ex'⟩:∃x,xs[i]?=some x:=Option.ne_none_iff_exists'.mp ex;refine wpAny_bind (jvZ a1A s1A ex' fun hB a1B kB=>wpAny_pure ?_);have oB:IsPair hB TO u v:=kB.extBut _ _ D.TOi1 oA;refine wpAny_bind (wpAny_seqItems oB rfl (wpAny_bind (wpAny_updateSeq_pair oB fun hC oC kC=>wpAny_bind (wpAny_letGo (wpAny_pure ?_)))));have a2C:iAt b2 hC i2 l2 i:=(a2A.keep fun o e=>kB.extBut _ _ D.i12.symm e).keep fun o e=>kC.extBut _ _ D.TOi2.symm e;have s2C:sAt b2 hC l2 ys:=(s2A.keep fun o e=>kB.extBut _ _ D.l2i1 e).keep fun o e=>kC.extBut _ _ D.l2TO e;refine wpAny_bind (wpAny_bind (wpAny_onRaise ?_));change wpAny _ _ (Builtin.SmallTypes.nextOf (.ref i2) >>=_) _ _ _;refine wpAny_bind (jgs hh1 a2C s2C ey fun hX e kX he=>?_);have zX:IsZip hX z TI TO .ellipsis:=kX _ _ D.i2z.symm (kC.extBut _ _ D.TOz.symm (kB.extBut _ _ D.i1z.symm zA'));refine wpAny_setField_rec zX (by simp) fun hY _ kY=>?_;obtain⟨⟨o,ho,hc⟩,kk⟩:=raised hX hY e zX he (fun c o c1 c2 c3 c4 r=>kX _ _ c4 (kC.extBut _ _ c2 (kB.extBut _ _ c3 (kA.extBut _ _ c1 r)))) kY;exact wpAny_bind (wpAny_isInstance (T:="StopIteration") (b:=true) ⟨o,ho,hc⟩ isSubtype_stop (wpAny_pure (q _ kk)))
end
def SqB (b:Bool)(K:PySem.W.Frag)(H:Hp)(a:Addr)(xs:List V):Prop:=match b with|false=>SqL K H a xs|true=>SqT K H a xs
section
variable {X:Cx} {pins:List (Addr×Obj)} {σ:_L2.St} {H:Hp} {s:Shared} {a:Addr} {xs ys:List V} {b:Bool}
theorem Inv.sqb (I:Inv X pins σ H s)(h:SqB b X.K H a xs):∃its:List Value,jaO xs its/\sAt b s.heap a its.toArray/\xs.length<=sizeLine:=by
 cases b
 ·obtain⟨its,v,p,z⟩:=I.list h;exact⟨its,v,p.isList,z⟩
 ·obtain⟨its,v,p,z⟩:=I.tuple h;exact⟨its,v,p,z⟩
theorem Inv.sqb_inj (I:Inv X pins σ H s)(h:SqB b X.K H a xs)(h':SqB b X.K H a ys):xs=ys:=by
 cases b
 ·exact I.list_inj h h'
 ·exact I.tuple_inj h h'
end
noncomputable def jAS (b:Bool)(K:PySem.W.Frag)(a:Addr):It:=
 ⟨fun i H=>∃xs x,SqB b K H a xs/\xs[i]?=some x,fun i H x H'=>∃p y,x=.ref p/\H p=none/\H'=upd H p (.tup [.int (i:Int),y])/\∀xs,SqB b K H a xs->xs[i]?=some y,fun i H=>∃xs,SqB b K H a xs/\xs.length=i⟩
theorem jmH {b:Bool}{P:Program}{w:World}{K:PySem.W.Frag}{elts:List Expr}{x1:Nat}{tpos:Pos}(a e it:Addr)(hne:e≠it)(hae:a≠e)(hai:a≠it):Turn P w K (.Tuple elts x1 tpos) (jAS b K a) [e,it] e (fun i h=>(∃old,IsEnum h e it (i:Int) old)/\iAt b h it a i) where
 mem:=by simp
 obj:=fun i h st b hb=>by
  obtain⟨⟨old,he⟩,hi⟩:=st;obtain⟨o,ho,hd⟩:=hi.obj;rcases j0d.mp hb with z|z
  ·subst z;exact⟨_,he,fun v z=>by
    have z':Data.fields _=Data.cell v:=z;cases z'⟩
  ·have z':b=it:=by simpa using z
   subst z';exact⟨o,ho,hd⟩
 keep:=fun i h h' st k=>by
  obtain⟨⟨old,he⟩,hi⟩:=st;exact⟨⟨old,k e (by simp) _ he⟩,hi.keep fun o q=>k it (by simp) o q⟩
 item:=by
  intro X hP hw hK hc i pins s σ H E I hf st hg;subst hP hw hK;obtain⟨xs,x,hq,hx⟩:=hg;obtain⟨⟨old,he⟩,hit⟩:=st;obtain⟨its,rv,p,hz⟩:=I.sqb hq;obtain⟨u,hu,ru⟩:=rv.get hx;have f1:=hf e (by simp);have f2:=hf it (by simp);have hlt:i<its.toArray.size:=by
   have:=(j0e.mp hu).1;simpa using this
  refine wpAny_pyNext_enum_itemD (jpf (prog:=X.prog) (w:=X.w) (A:=X.A.in1) (b:=b) (I.ok.hd hc) it a hai its.toArray) he ⟨hit,p⟩ hlt hne (by simp[hne,Ne.symm hae]) fun u' h1 tk hu' heo hst1 htup hsz kp=>?_;have eu:u'=u:=by
   have hu2:its[i]?=some u':=by simpa using hu'
   rw[hu]at hu2;exact(j0H hu2).symm
  subst eu;obtain⟨hit1,_⟩:=hst1;refine⟨_,rfl,wpAny_letOwnedTupleGo_enum heo fun h2 he2 sb2=>?_⟩;have hen:s.heap.objs.size≠e:=Ne.symm (j0m (j0g he));have hitn:s.heap.objs.size≠it:=by
   obtain⟨o,ho,_⟩:=hit.obj;exact Ne.symm (j0m (j0g ho))
  have kp2:∀b o,b∉[e,it]->s.heap.get? b=some o->h2.get? b=some o:=fun b o hb q=>by
   simp only[j0d,j0J,or_false,not_or]at hb;exact(sb2.2 b hb.1).trans (kp b o hb.1 hb.2 q)
  have hnew:h2.get? s.heap.objs.size=some {cls:=.type "tuple",data:=.seq #[.int i tk,u']}:=(sb2.2 _ hen).trans htup;have nt:∀b v,H b=some v->b∉[e,it]:=fun b v q hb=>by
   simp only[j0d,j0J,or_false]at hb;rcases hb with z|z
   ·rw[z,f1.1]at q;cases q
   ·rw[z,f2.1]at q;cases q
  have hfr:=I.fresh;have U:Un (frs X.stack) [e,it] H (upd H s.heap.objs.size (.tup [.int (i:Int),x])) s.heap h2:=
   {keep:=fun b o q _ _ hb=>kp2 b o hb q
    slot:=fun b o q _ _ hb=>⟨o.slots,kp2 b o hb q⟩
    free:=fun b o q n _=>by rw[jap (j0m (j0g q))];exact n
    there:=fun b o q hb=>⟨o,kp2 b o hb q⟩
    tups:=fun b xs q=>by rw[jap (jau q hfr)];exact q
    frzs:=fun b o xs q=>by rw[jap (jau q hfr)];exact q
    tbls:=fun b ps q=>⟨#[],by rw[jap (jau q hfr),q];simp⟩}
  have hok:HOk X.prog X.w (upd H s.heap.objs.size (.tup [.int (i:Int),x])) h2:=fun b v q=>by
   by_cases hb:b=s.heap.objs.size
   ·subst hb;rw[jaz]at q;cases q;exact⟨by show 2<=sizeLine;decide,[.int i tk,u'],0,.cons ⟨_,rfl⟩ (.cons ru .nil),hnew⟩
   ·rw[jap hb]at q;refine(I.hok b v q).stay (fun c v' hc' r=>kp2 c v' ?_ r) (fun c r=>by rw[jap (jau r hfr)];exact r) fun c ys r=>by rw[jap (jau r hfr)];exact r
    rcases hc' with z|z
    ·rw[z];exact nt b v q
    ·exact nt c _ z
  have I2:Inv X pins σ (upd H s.heap.objs.size (.tup [.int (i:Int),x])) {s with heap:=h2,toks:=tk+1}:=I.call' rfl U hok I.bare fun b hb=>by
   obtain⟨g0,g1,g2,g3,g4,g5⟩:=hf b hb;exact⟨g3,g1,g4,g5⟩
  refine⟨.ref s.heap.objs.size,_,I2,rfl,⟨_,x,rfl,hfr,rfl,fun ys hy=>by rw[I.sqb_inj hy hq];exact hx⟩,⟨⟨u',?_⟩,?_⟩,fun b hb=>?_⟩
  ·have e1:((i+1:Nat):Int)=(i:Int)+1:=by omega
   rw[e1];exact he2
  ·exact hit1.keep fun o q=>(sb2.2 it (Ne.symm hne)).trans q
  ·rw[jap (by
    simp only[j0d,j0J,or_false]at hb;rcases hb with z|z
    ·rw[z];exact Ne.symm hen
    ·rw[z];exact Ne.symm hitn)]
   exact(hf b hb).1
 done:=by
  intro X hP hw hK hc i pins s σ H E I hf st hg;subst hP hw hK;obtain⟨xs,hq,hx⟩:=hg;obtain⟨⟨old,he⟩,hit⟩:=st;obtain⟨its,rv,p,hz⟩:=I.sqb hq;obtain⟨f0,f1,f2,f3,f4,f5⟩:=hf it (by simp);have hl:=rv.length;have e0:i=its.toArray.size:=by simp;omega
  exact wpAny_pyNext_enum_endD (jpf (prog:=X.prog) (w:=X.w) (A:=X.A.in1) (b:=b) (I.ok.hd hc) it a hai its.toArray) he ⟨e0▸hit,p⟩ fun h' eb=>⟨rfl,I.turned (t':=s.toks) (fun b o hb e=>eb b o hb e) f0 f1 f3 f4 f5⟩
 self:=fun _ _ _ _ _ st h=>by
  obtain⟨⟨old,he⟩,_⟩:=st;exact wpAny_pyIter_enum he h
section
variable {X:Cx}
def jx3 (K:PySem.W.Frag)(ta:TA):TI:=fun σ H R=>ta σ H fun vs H1=>∃a b,vs=[.ref a]/\(∃xs,SqB b K H1 a xs)/\R (jAS b K a) H1
theorem jrG {a:Expr} {ta:TA} {p pos:Pos} {elts:List Expr} {x1:Nat} {tpos:Pos} (hg:Gl X "enumerate") (hm:X.mg "enumerate" =none) (ha:PA X [a] ta) (hs:starEach [a] X.env=[(false,eval a X.env)]:=by rfl):PI X (.Tuple elts x1 tpos) (.Call (.Name "enumerate" p) [a] [] pos) (jx3 X.K ta):=by
 intro pins s σ H R I h;refine Call_ (jib I hg hm jjV (j1l (thn (ha pos pins s σ H _ I h) fun us s1 ⟨vs,H1,I1,r1,q1⟩=>?_) hs rfl));obtain⟨l,b,e,⟨xs,hq⟩,q⟩:=q1;subst e;obtain⟨u,rfl,ru⟩:=r1.one;cases ru;obtain⟨its,rv,pl,hz⟩:=I1.sqb hq;have ll:l<s1.heap.objs.size:=by obtain⟨_,e⟩:=pl.obj;exact j0g e
 refine jll pl fun h' he hit kp=>wpAny_pyIter_enum he ?_;refine⟨s1.heap.objs.size+1,[s1.heap.objs.size+1,s1.heap.objs.size],_,_,H1,rfl,I1.kept (t':=s1.toks) kp,jmH l _ _ (Ne.symm (j0m (j0W _))) (j0m (Nat.lt_succ_of_lt ll)) (j0m ll),⟨⟨_,he⟩,hit⟩,fun b hb=>?_,q⟩;have hb':b=s1.heap.objs.size+1∨b=s1.heap.objs.size:=by simpa using hb
 have hle:s1.heap.objs.size<=b:=by
  rcases hb' with z|z
  ·rw[z];exact Nat.le_succ _
  ·rw[z];exact j0l _
 exact I1.fpOk hle (I1.hok.fresh hle)
end
section
variable {X:Cx}
end
section
variable {κ:Type} [DecidableEq κ]
noncomputable def jnr (kvs:List (κ×V))(k:κ):Option V:=(kvs.find? fun kv=>decide (kv.1=k)).map (·.2)
noncomputable def jxh (kvs:List (κ×V))(k:κ):List (κ×V):=kvs.filter fun kv=>decide (kv.1≠k)
theorem jiJ {p:κ×V}{r:List (κ×V)}{k:κ}(e:p.1=k):jnr (p::r) k=some p.2:=by simp[jnr,j0V,e]
theorem jjp {p:κ×V}{r:List (κ×V)}{k:κ}(e:¬ p.1=k):jnr (p::r) k=jnr r k:=by simp[jnr,j0V,e]
theorem jjB.isSome_eq {o:Option V}{u:Option Value}(r:jjB o u):o.isSome=u.isSome:=by
 cases o with
 |none=>cases u with
  |none=>rfl
  |some _=>exact(show False from r).elim
 |some _=>cases u with
  |none=>exact(show False from r).elim
  |some _=>rfl
theorem jjB.getD {o:Option V}{u:Option Value}{d:V}{d':Value}(r:jjB o u)(rd:jaN d d'):jaN (o.getD d) (u.getD d'):=by
 cases o with
 |none=>cases u with
  |none=>exact rd
  |some _=>exact(show False from r).elim
 |some _=>cases u with
  |none=>exact(show False from r).elim
  |some _=>exact r
theorem KV.val {kvs:List (κ×V)}{vs:List (κ×Value)}(r:KV kvs vs)(k:κ):jjB (jnr kvs k) (valueAt vs k):=by
 unfold KV at r
 induction r with
 |nil=>exact True.intro
 | @cons p q ps qs h t ih=>
  obtain⟨h1,h2⟩:=h;by_cases e:p.1=k
  ·have e':q.1=k:=h1.symm.trans e;have b:valueAt (q::qs) k=some q.2:=by simp[valueAt,j0V,e']
   rw[jiJ e,b];exact h2
  ·have e':¬ q.1=k:=fun z=>e (h1.trans z);have b:valueAt (q::qs) k=valueAt qs k:=by simp[valueAt,j0V,e']
   rw[jjp e,b];exact ih
theorem KV.any {kvs:List (κ×V)}{vs:List (κ×Value)}(r:KV kvs vs)(k:κ):(kvs.any fun kv=>decide (kv.1=k))=vs.any fun kv=>decide (kv.1=k):=by
 unfold KV at r
 induction r with
 |nil=>rfl
 |cons h t ih=>rw[List.any_cons,List.any_cons,ih,h.1]
theorem KV.drop {kvs:List (κ×V)}{vs:List (κ×Value)}(r:KV kvs vs)(k:κ):KV (jxh kvs k) (without vs k):=by
 unfold KV at r ⊢;unfold jxh without
 induction r with
 |nil=>exact .nil
 | @cons p q ps qs h t ih=>
  obtain⟨h1,h2⟩:=h;rw[List.filter_cons,List.filter_cons];by_cases e:p.1=k
  ·have a:¬ decide (p.1≠k)=true:=by simp[e]
   have b:¬ decide (q.1≠k)=true:=by simp[h1.symm.trans e]
   rw[if_neg a,if_neg b];exact ih
  ·have e':¬ q.1=k:=fun z=>e (h1.trans z);have a:decide (p.1≠k)=true:=by simp[e]
   have b:decide (q.1≠k)=true:=by simp[e']
   rw[if_pos a,if_pos b];exact .cons ⟨h1,h2⟩ ih
theorem KV.keys {kvs:List (κ×V)}{vs:List (κ×Value)}(r:KV kvs vs):kvs.map (·.1)=vs.map (·.1):=by
 unfold KV at r
 induction r with
 |nil=>rfl
 |cons h t ih=>rw[j0k,j0k,ih,h.1]
theorem KV.length {kvs:List (κ×V)}{vs:List (κ×Value)}(r:KV kvs vs):kvs.length=vs.length:=Paired.length r
end
theorem joh {P:Program}{w:World}{k:Key}{u:Value}(r:jaN (kV k) u):(jan P w).is k u=true:=by
 cases k with
 |inl i=>obtain⟨t,e⟩:=(show ∃t,u=Value.int i t from r);subst e;exact jk5 P w i t
 |inr x=>obtain⟨t,e⟩:=(show ∃t,u=Value.str x t from r);subst e;exact jkU P w x t
theorem jfn {P:Program}{w:World}:∀{ks:List Key} {us:List Value},jaO (ks.map kV) us->ItemsAre (jan P w) ks us
 |[],_,r=>by rw[j0F]at r;cases r;exact .nil
 |k::ks,_,r=>by
  rw[j0k]at r
  cases r with
  |cons h t=>exact .cons (joh h) (jfn t)
noncomputable abbrev KT (H:Hp):List (List Key×V)->List (List Key×Addr×Value)->Prop:=Paired fun p q=>p.1=q.1/\H q.2.1=some (.tup (p.1.map kV))/\jaN p.2 q.2.2
theorem KT.val {H:Hp}{kvs:List (List Key×V)}{xs:List (List Key×Addr×Value)}(r:KT H kvs xs)(k:List Key):jjB (jnr kvs k) ((atKey xs k).map (·.2)):=by
 induction r with
 |nil=>exact True.intro
 | @cons p q ps qs h t ih=>
  obtain⟨h1,_,h2⟩:=h;by_cases e:p.1=k
  ·have e':q.1=k:=h1.symm.trans e;have b:atKey (q::qs) k=some q.2:=by simp[atKey,j0V,e']
   rw[jiJ e,b];exact h2
  ·have e':¬ q.1=k:=fun z=>e (h1.trans z);have b:atKey (q::qs) k=atKey qs k:=by simp[atKey,j0V,e']
   rw[jjp e,b];exact ih
theorem KT.keeps {H H':Hp}{kvs:List (List Key×V)}{xs:List (List Key×Addr×Value)}(r:KT H kvs xs)(ht:∀b ys,H b=some (.tup ys)->H' b=some (.tup ys)):KT H' kvs xs:=
 Paired.mapP r fun _ _ z=>⟨z.1,ht _ _ z.2.1,z.2.2⟩
section
variable {P:Program} {w:World} {H:Hp} {h:Heap} {a:Addr}
theorem jwE {u:HO}(ok:HOk P w H h)(e:Rd H a u):jbL P w H h a u:=e.ok ok
theorem jmA {kvs:List (Key×V)}(ok:HOk P w H h)(e:Rd H a (.dK kvs)):kvs.length<=sizeLine/\(a==sysModules)=false/\∃vs,KV kvs vs/\h.DictOf (jan P w) a vs:=
 show jbL P w H h a (.dK kvs)from jwE ok e
theorem jii {ks:List Key}(ok:HOk P w H h)(e:H a=some (.tup (ks.map kV))):(tupleKind (jan P w)).is h ks a:=by
 obtain⟨_,its,n,r,h1⟩:=(show jbL P w H h a (.tup (ks.map kV))from ok a _ e);exact⟨_,its.toArray,n,h1,rfl,rfl,by simpa using jfn r⟩
theorem jm5 {kvs:List (List Key×V)}(ok:HOk P w H h)(e:Rd H a (.dT kvs)):kvs.length<=sizeLine/\(a==sysModules)=false /\
  ∃xs,KT H kvs xs/\h.DictOfH (tupleKind (jan P w)) a xs:=by
 obtain⟨z,y,xs,r,o,es,ep,h1,h2,h3,h4,h5⟩:=(show jbL P w H h a (.dT kvs)from jwE ok e);refine⟨z,y,xs,r,o,es,ep,h1,h2,h3,h4,fun x hx=>?_,h5⟩;have all:∀{l:List (List Key×V)} {m:List (List Key×Addr×Value)},KT H l m->∀x∈m,(tupleKind (jan P w)).is h x.1 x.2.1:=by
  intro l m q
  induction q with
  |nil=>intro x hx;exact nomatch hx
  | @cons p q ps qs hq t ih=>
   intro x hx;rcases j0d.mp hx with e|hx
   ·subst e;exact jii ok (by rw[<- hq.1];exact hq.2.1)
   ·exact ih x hx
 exact all r x hx
end
def jo9 (H:Hp)(a:Addr)(y:V)(r:Option V):Prop:=
 (∃kvs k,Rd H a (.dK kvs)/\y=kV k/\r=jnr kvs k)∨∃kvs k b,Rd H a (.dT kvs)/\y=.ref b/\H b=some (.tup (k.map kV))/\r=jnr kvs k
theorem jo9.t {H:Hp}{a b:Addr}{kvs:List (List Key×V)}{k:List Key}(e:H a=some (.dT kvs))(eb:H b=some (.tup (k.map kV))):jo9 H a (.ref b) (jnr kvs k):=.inr ⟨kvs,k,b,.inl e,rfl,eb,rfl⟩
section
variable {X:Cx} {pins:List (Addr×Obj)} {σ:St} {H:Hp} {s:Shared} {a:Addr} {y v:V} {u r:Value} {o:Option V} {A:Around} {E:Value->Shared->Prop}
theorem Inv.big (I:Inv X pins σ H s):sysModules<s.heap.objs.size:=by
 have h:mainGlobals<s.heap.objs.size:=(I.mod.glob.keeps I.bk).lt;exact Nat.lt_trans (by decide) h
theorem jok {Q:Value->Shared->Prop}(hu:A.units+1<cLine)(I:Inv X pins σ H s)(g:jo9 H a y (some v))(ry:jaN y u)(h:∀w' s',Inv X pins σ H s'->jaN v w'->Q w' s') :
  wpAny (model X.prog X.w) A (getItem (.ref a) u) Q E s:=by
 rcases g with⟨kvs,k,e,ey,l⟩|⟨kvs,k,b,e,ey,eb,l⟩
 ·subst ey;obtain⟨z,hd,vs,rel,dd⟩:=jmA I.hok e;obtain⟨w',hw,rw'⟩:=jjB.some_of (v:=v) (o:=valueAt vs k) (by rw[l];exact rel.val k);exact wpAny_getItem_of (joh ry) dd.mapOf hw (h w' _ (I.tok _) rw')
 ·subst ey;cases(show u=Value.ref b from ry);obtain⟨z,hd,xs,rel,dd⟩:=jm5 I.hok e;obtain⟨w',hw,rw'⟩:=jjB.some_of (v:=v) (o:=(atKey xs k).map (·.2)) (by rw[l];exact rel.val k);obtain⟨p,hp,hp2⟩:=j0R.mp hw;refine wpAny_getItem_heap (tupleKind_room_in1 hu) (jii I.hok eb) dd hp ?_;rw[hp2];exact h w' _ (I.tok _) rw'
theorem jA5 {Q:Value->Shared->Prop}(hu:A.units+1<cLine)(I:Inv X pins σ H s)(g:jo9 H a y o)(ry:jaN y u)(h:∀s',Inv X pins σ H s'->Q (.bool o.isSome) s') :
  wpAny (model X.prog X.w) A (compareOp .In u (.ref a)) Q E s:=by
 rcases g with⟨kvs,k,e,ey,l⟩|⟨kvs,k,b,e,ey,eb,l⟩
 ·subst ey;obtain⟨z,hd,vs,rel,dd⟩:=jmA I.hok e;refine wpAny_in_of (joh ry) hd dd.mapOf ?_;rw[<- (rel.val k).isSome_eq,<- l];exact h _ (I.tok _)
 ·subst ey;cases(show u=Value.ref b from ry);obtain⟨z,hd,xs,rel,dd⟩:=jm5 I.hok e;refine wpAny_in_heap (tupleKind_room_in1 hu) (jii I.hok eb) hd dd ?_;have q:=(rel.val k).isSome_eq;rw[Option.isSome_map]at q;rw[<- q,<- l];exact h _ (I.tok _)
theorem jvB {Q:Value->Shared->Prop}(hu:A.units+1<cLine)(I:Inv X pins σ H s)(g:jo9 H a y o)(ry:jaN y u)(h:∀s',Inv X pins σ H s'->Q (.bool (!o.isSome)) s') :
  wpAny (model X.prog X.w) A (compareOp .NotIn u (.ref a)) Q E s:=by
 rcases g with⟨kvs,k,e,ey,l⟩|⟨kvs,k,b,e,ey,eb,l⟩
 ·subst ey;obtain⟨z,hd,vs,rel,dd⟩:=jmA I.hok e;refine wpAny_notIn_of (joh ry) hd dd.mapOf ?_;rw[<- (rel.val k).isSome_eq,<- l];exact h _ (I.tok _)
 ·subst ey;cases(show u=Value.ref b from ry);obtain⟨z,hd,xs,rel,dd⟩:=jm5 I.hok e;refine wpAny_notIn_heap (tupleKind_room_in1 hu) (jii I.hok eb) hd dd ?_;have q:=(rel.val k).isSome_eq;rw[Option.isSome_map]at q;rw[<- q,<- l];exact h _ (I.tok _)
end
section
variable {X:Cx} {pins:List (Addr×Obj)} {σ:St} {H:Hp} {s:Shared} {a:Addr} {kvs:List (Key×V)} {k:Key} {u:Value} {A:Around} {E:Value->Shared->Prop}
end
theorem jkX {X:Cx}{pins:List (Addr×Obj)}{σ:St}{H:Hp}{s:Shared}{a:Addr}{y:V}{o:Option V}(I:Inv X pins σ H s)(g:jo9 H a y o):s.TypeIs (.ref a) "dict":=by
 rcases g with⟨kvs,k,e,_,_⟩|⟨kvs,k,b,e,_,_,_⟩
 ·obtain⟨_,_,vs,_,dd⟩:=jmA I.hok e;exact dd.typeIs
 ·obtain⟨_,_,xs,_,dd⟩:=jm5 I.hok e;exact dd.typeIs
section
variable {X:Cx} {o i e value:Expr} {pos pos' tpos:Pos} {td ty tv:TE}
end
section
variable {X:Cx} {pos:Pos}
end
structure M1 (X:Cx) (o:Expr) (m:Str) (apos:Pos) (e:Expr) (cpos:Pos):Prop where
 base:attributeBase o m X.env (eval o X.env)=eval o X.env
 few:((backTo cpos (starEach [e] X.env)).all (fun x=>!x.1)&&(backToKw cpos (keywordEach [] X.env)).all (fun x=>x.1.isSome)
  && decide (([e]:List Expr).length+([]:List Keyword).length+(if([]:List Keyword).isEmpty then 0 else 1)<30))=true
 line:(apos.endLine==cpos.line)=true
 trees:backTo cpos (starEach [e] X.env)=[(false,eval e X.env)]
structure M2 (X:Cx) (o:Expr) (m:Str) (apos:Pos) (e f:Expr) (cpos:Pos):Prop where
 base:attributeBase o m X.env (eval o X.env)=eval o X.env
 few:((backTo cpos (starEach [e,f] X.env)).all (fun x=>!x.1)&&(backToKw cpos (keywordEach [] X.env)).all (fun x=>x.1.isSome)
  && decide (([e,f]:List Expr).length+([]:List Keyword).length+(if([]:List Keyword).isEmpty then 0 else 1)<30))=true
 line:(apos.endLine==cpos.line)=true
 trees:backTo cpos (starEach [e,f] X.env)=[(false,eval e X.env),(false,eval f X.env)]
def IsD (H:Hp)(a:Addr):Prop:=(∃kvs,Rd H a (.dK kvs))∨∃kvs,Rd H a (.dT kvs)
theorem jwn {X:Cx}{pins:List (Addr×Obj)}{σ:St}{H:Hp}{s:Shared}{a:Addr}(I:Inv X pins σ H s)(d:IsD H a) :
  s.TypeIs (.ref a) "dict"/\(∀b,Value.ref a=.ref b->∃ob,s.heap.get? b=some ob/\ob.dict=none)/\(a==sysModules)=false:=by
 rcases d with⟨kvs,e⟩|⟨kvs,e⟩
 ·obtain⟨_,hd,vs,_,dd⟩:=jmA I.hok e;refine⟨dd.typeIs,fun b q=>?_,hd⟩;cases q;obtain⟨ob,_,_,h1,h2,_⟩:=dd;exact⟨ob,h1,h2.2.1⟩
 ·obtain⟨_,hd,xs,_,dd⟩:=jm5 I.hok e;refine⟨dd.typeIs,fun b q=>?_,hd⟩;cases q;obtain⟨ob,_,_,h1,h2,_⟩:=dd;exact⟨ob,h1,h2.2.1⟩
section
variable {X:Cx} {pins:List (Addr×Obj)} {σ:St} {H:Hp} {s:Shared} {a:Addr} {y d:V} {u r:Value} {o:Option V} {A:Around} {E:Value->Shared->Prop}
theorem jwR {Q:Value->Shared->Prop}(hu:A.units+1<cLine)(I:Inv X pins σ H s)(g:jo9 H a y o)(ry:jaN y u)(h:∀w' s',Inv X pins σ H s'->jaN (o.getD .non) w'->Q w' s') :
  wpAny (model X.prog X.w) A (call (.builtin "dict.get") [.ref a,u]) Q E s:=by
 rcases g with⟨kvs,k,e,ey,l⟩|⟨kvs,k,b,e,ey,eb,l⟩
 ·subst ey;obtain⟨z,hd,vs,rel,dd⟩:=jmA I.hok e;refine call_meetsIn PySem.F.slot_dict_get dd.typeIs PySem.F.entry_dict_get (PySem.F.args_dict_get_2 _ _) (meets_dict_get (jan X.prog X.w) a (joh ry) hd) ⟨_,dd.mapOf,h _ _ (I.tok _) ?_⟩;rw[l];exact(rel.val k).getD rfl
 ·subst ey;cases(show u=Value.ref b from ry);obtain⟨z,hd,xs,rel,dd⟩:=jm5 I.hok e;refine call_meetsIn PySem.F.slot_dict_get dd.typeIs PySem.F.entry_dict_get (PySem.F.args_dict_get_2 _ _) (meetsH_dict_get (tupleKind (jan X.prog X.w)) a b hd) ⟨tupleKind_room_in1 hu,k,xs,jii I.hok eb,dd,h _ _ (I.tok _) ?_⟩;rw[l];exact(rel.val k).getD rfl
end
def jxj (td ty:TE):TE:=fun σ H Q=>td σ H fun x H1=>∃a,x=.ref a/\IsD H1 a/\ty σ H1 fun y H2=>∃o,jo9 H2 a y o/\Q (o.getD .non) H2
section
variable {X:Cx} {o e f:Expr} {apos cpos:Pos} {td ty tx:TE}
theorem jrt (hu:X.A.units+1<cLine) (ho:PE X o td) (he:PE X e ty) (m:M1 X o "get" apos e cpos):PE X (.Call (.Attribute o "get" apos) [e] [] cpos) (jxj td ty):=by
 intro pins s σ H Q I h;refine wpAny_Call_method m.base m.few m.line PySem.F.plainAttrs_dict PySem.F.slot_dict_get PySem.F.type_dict_get (thn (ho pins s σ H _ I h) fun u s1 ⟨x,H1,I1,rx,a,ex,d,q1⟩=>?_);subst ex;obtain rfl:u=Value.ref a:=rx;obtain⟨t1,t2,_⟩:=jwn I1 d;refine⟨t1,t2,?_⟩;rw[m.trees];refine Calls.callWith_builtin rfl (Calls.evalArgs_plain (Calls.spliced_cons (thn (he pins s1 σ H1 _ I1 q1) fun iv s2 ⟨y,H2,I2,ry,ov,g,q2⟩=>Calls.spliced_nil ?_)));exact jwR hu I2 g ry fun w' s3 I3 rw'=>⟨_,H2,I3,rw',q2⟩
end
section
variable {X:Cx} {pins:List (Addr×Obj)} {σ:St} {H:Hp} {s:Shared} {a:Addr} {kvs:List (Key×V)} {A:Around} {E:Value->Shared->Prop}
end
section
variable {X:Cx} {pins:List (Addr×Obj)} {σ:St} {H:Hp} {s:Shared} {a:Addr} {y:V} {u:Value} {A:Around} {E:Value->Shared->Prop}
end
noncomputable def jkw (kvs:List (Str×V))(z:Str):Option V:=(kvs.find? fun p=>decide (p.1=z)).map (·.2)
def jAp (p:Str×V)(e:DictEntry):Prop:=(∃t,e.key=.str p.1 t)/\jaN p.2 e.val
structure MD (K:PySem.W.Frag) (W:World) (a:Addr) (kvs:List (Str×V)):Prop where
 ex:∃(es:Array DictEntry) (m:Nat),K.lookup a=some ⟨.type "dict",none,.dict es m,#[]⟩/\PySem.W.KeysLit W.params es.toList/\Paired jAp kvs es.toList
 lo:(a==sysModules)=false
theorem jl6 (z:Str):∀{kvs:List (Str×V)} {l:List DictEntry},Paired jAp kvs l->jjB (jkw kvs z) ((l.find? fun e=>Value.isStrOf z e.key).map (·.val))
 |_,_,.nil=>True.intro
 |p::kvs,e::l,.cons h t=>by
  obtain⟨⟨tk,hk⟩,hv⟩:=h;have e1:Value.isStrOf z e.key=decide (p.1=z):=by rw[hk];rfl
  by_cases c:p.1=z
  ·have a1:jkw (p::kvs) z=some p.2:=by simp[jkw,j0V,c]
   have a2:((e::l).find? fun e=>Value.isStrOf z e.key)=some e:=by rw[j0V,e1,decide_eq_true c]
   rw[a1,a2];exact hv
  ·have a1:jkw (p::kvs) z=jkw kvs z:=by simp[jkw,j0V,c]
   have a2:((e::l).find? fun e=>Value.isStrOf z e.key)=l.find? fun e=>Value.isStrOf z e.key:=by rw[j0V,e1,decide_eq_false c]
   rw[a1,a2];exact jl6 z t
section
variable {X:Cx} {pins:List (Addr×Obj)} {σ:_L2.St} {H:Hp} {s:Shared} {a:Addr} {kvs:List (Str×V)}
theorem MD.map (I:Inv X pins σ H s)(h:MD X.K X.w a kvs):∃f:Str->Option Value,s.heap.MapOf (strKind X.prog X.w) a f/\∀z,jjB (jkw kvs z) (f z):=by
 obtain⟨⟨es,m,hl,hk,hp⟩,_⟩:=h;refine⟨_,PySem.W.mapOf_K (prog:=X.prog) I.kIn hl hk,fun z=>?_⟩;obtain⟨l⟩:=es;show jjB (jkw kvs z) ((Array.find? (fun e=>Value.isStrOf z e.key) l.toArray).map (·.val));rw[List.find?_toArray];exact jl6 z hp
theorem MD.ty (I:Inv X pins σ H s)(h:MD X.K X.w a kvs):s.TypeIs (.ref a) "dict"/\∀b,Value.ref a=.ref b->∃ob,s.heap.get? b=some ob/\ob.dict=none:=by
 obtain⟨⟨es,m,hl,_⟩,_⟩:=h;have g:=I.kIn _ _ hl;refine⟨⟨_,g,rfl⟩,fun b q=>?_⟩;cases q;exact⟨_,g,rfl⟩
end
section
variable {X:Cx}
def jsU:R2:=fun x y H Q=>∃a v,x=.ref a/\jo9 H a y (some v)/\Q v H
theorem jzU (hu:X.A.units+1<cLine):IxR X jsU:=by
 intro value slice pins s σ H x y v u Q I rx ry h hs;obtain⟨a,r,rfl,g,q⟩:=h;cases rx;exact tail_any (jkX I g) slot_dict_getitem.lookup (jok hu I g ry fun w' s' I' rw'=>⟨r,H,I',rw',q⟩) hs
def jtY (neg:Bool):R2:=fun x y H Q=>∃a o,y=.ref a/\jo9 H a x o/\Q (.bl (if neg then !o.isSome else o.isSome)) H
theorem juQ (hu:X.A.units+1<cLine):OpR X (compareOp .In) (jtY false):=by
 intro pins s σ H x y v u Q I rx ry h;obtain⟨a,o,rfl,g,q⟩:=h;cases ry;exact jA5 hu I g rx fun s' I'=>⟨.bl o.isSome,H,I',rfl,q⟩
theorem jmU (hu:X.A.units+1<cLine):OpR X (compareOp .NotIn) (jtY true):=by
 intro pins s σ H x y v u Q I rx ry h;obtain⟨a,o,rfl,g,q⟩:=h;cases ry;exact jvB hu I g rx fun s' I'=>⟨.bl (!o.isSome),H,I',rfl,q⟩
def jAY (neg:Bool):R2:=fun x y H Q=>∃c d,x=.bl c/\y=.bl d/\Q (.bl (if neg then c !=d else c==d)) H
theorem jwy:OpR X (compareOp .Is) (jAY false):=by
 intro pins s σ H x y v u Q I rx ry h;obtain⟨c,d,rfl,rfl,q⟩:=h;cases rx;cases ry;exact is_bool ⟨.bl (c==d),H,I,rfl,q⟩
theorem jnH:OpR X (compareOp .IsNot) (jAY true):=by
 intro pins s σ H x y v u Q I rx ry h;obtain⟨c,d,rfl,rfl,q⟩:=h;cases rx;cases ry;exact isnot_bool ⟨.bl (c !=d),H,I,rfl,q⟩
end
section
variable {P:Program} {W:World} {K:Type} [DecidableEq K] {kn:KeyKind P W K} {A:Around} {E:Value->Shared->Prop} {s:Shared}
theorem jcU {h h':Heap}{ks:List K}{b:Addr}(x:IsTupleKey kn h ks b)(k:∀o,(∃it n,o.data=.seq it n)->h.get? b=some o->h'.get? b=some o):IsTupleKey kn h' ks b:=
 let⟨o,it,n,h1,h2,h3,h4⟩:=x
 ⟨o,it,n,k o ⟨it,n,h3⟩ h1,h2,h3,h4⟩
theorem jtW (n:Nat){v:Value}(h:carriedByValue v=true):∃b,hashByValue n v=pure b:=by
 cases v with
 |ref a=>simp[carriedByValue]at h
 |_=>exact⟨_,by unfold hashByValue;rfl⟩
theorem jvK {ks:List K}{a:Addr}{Q:Bool->Shared->Prop}(hk:IsTupleKey kn s.heap ks a)(h:∀b,Q b s):wpAny (model P W) A (hashByValue 8 (.ref a)) Q E s:=by
 have hT:=hk.typeIs;obtain⟨o,it,n,ho,_,hd,hi⟩:=hk;unfold hashByValue;refine wpAny_bind (wpAny_specialOf hT F.slot_tuple_hash.lookup ?_);dsimp only;refine wpAny_bind (wpAny_seqItems ho hd ?_);refine wpAny_bind ?_;show wpAny _ _ (forIn it _ _) _ _ s;rw[<- Array.forIn_toList];refine wpAny_forIn_list _ (fun rest r s'=>s'=s/\∀v∈rest,carriedByValue v=true) _ ?_ ?_ _ _ ⟨rfl,hi.byValue⟩
 ·rintro v rest r s' ⟨rfl,hall⟩;obtain⟨b,e⟩:=jtW 7 (hall v j0u);rw[e];refine wpAny_bind (wpAny_pure ?_);cases b
  ·exact wpAny_pure (wpAny_pure (h _))
  ·exact wpAny_pure ⟨rfl,fun u hu=>hall u (j0s _ hu)⟩
 ·rintro⟨r1,r2⟩ s' ⟨rfl,_⟩;cases r1<;>exact wpAny_pure (h _)
theorem jtx (n:Nat){v:Value}(h:carriedByValue v=true):ofAClassStatement n v=pure false:=by
 cases v with
 |ref a=>simp[carriedByValue]at h
 |_=>unfold ofAClassStatement;rfl
theorem jnB {ks:List K}{a:Addr}{Q:Bool->Shared->Prop}(hk:IsTupleKey kn s.heap ks a)(h:Q false s):wpAny (model P W) A (ofAClassStatement 8 (.ref a)) Q E s:=by
 have hT:=hk.typeIs;obtain⟨o,it,n,ho,_,hd,hi⟩:=hk;unfold ofAClassStatement;refine wpAny_bind (wpAny_typeOf hT ?_);dsimp only;rw[if_pos (by decide)];refine wpAny_bind (wpAny_pure ?_);simp only[Bool.not_true,j0p,if_false];refine wpAny_bind (wpAny_seqItems ho hd ?_);dsimp only;refine wpAny_bind ?_;show wpAny _ _ (forIn it _ _) _ _ s;rw[<- Array.forIn_toList];refine wpAny_forIn_list _ (fun rest r s'=>r.1=none/\s'=s/\∀v∈rest,carriedByValue v=true) _ ?_ ?_ _ _ ⟨rfl,rfl,hi.byValue⟩
 ·rintro v rest r s' ⟨hr,rfl,hall⟩;rw[jtx _ (hall v j0u)];refine wpAny_bind (wpAny_pure ?_);exact wpAny_pure ⟨rfl,rfl,fun u hu=>hall u (j0s _ hu)⟩
 ·rintro⟨r1,r2⟩ s' ⟨hr,rfl,_⟩;cases hr;exact wpAny_pure h
theorem jqL {ks:List K}{a:Addr}{st:List Value}{Q:Bool->Shared->Prop}(hk:IsTupleKey kn s.heap ks a)(hs:∀v∈st,∃k b,v=.ref b/\IsTupleKey kn s.heap k b)(h:Q false s):wpAny (model P W) A (searchCouldBeSeen (.ref a) st) Q E s:=by
 unfold searchCouldBeSeen;refine wpAny_bind ?_;refine wpAny_forIn_list _ (fun rest r s'=>r.1=none/\s'=s/\∀v∈rest,∃k b,v=.ref b/\IsTupleKey kn s.heap k b) _ ?_ ?_ _ _ ⟨rfl,rfl,hs⟩
 ·rintro v rest r s' ⟨hr,rfl,hall⟩;obtain⟨k,b,rfl,hb⟩:=hall v j0u;have hrest:=fun u (hu:u∈rest)=>hall u (j0s _ hu);dsimp only;split
  ·exact wpAny_pure ⟨rfl,rfl,hrest⟩
  ·refine wpAny_bind (wpAny_eqIsQuiet_tuple hk ?_);simp only[Bool.not_true,j0p,if_false];refine wpAny_bind (wpAny_eqIsQuiet_tuple hb ?_);simp only[Bool.not_true,j0p,if_false];refine wpAny_bind (jnB hk ?_);simp only[j0p,if_false];refine wpAny_bind (jnB hb ?_);exact wpAny_pure ⟨rfl,rfl,hrest⟩
 ·rintro⟨r1,r2⟩ s' ⟨hr,rfl,_⟩;cases hr;exact wpAny_pure h
theorem jro {α:Type}{M:Model}{c:Prop}[Decidable c]{m:Sem Bool}{x y:Sem α}{Q:α->Shared->Prop}(h1:∀R:Bool->Shared->Prop,R false s->wpAny M A m R E s)(h2:wpAny M A y Q E s):wpAny M A (if c then(m >>=fun b=>if b=true then x else y)else y) Q E s:=by
 split
 ·exact wpAny_bind (h1 _ (by simpa using h2))
 ·exact h2
def jsz (kn:KeyKind P W K)(h:Heap)(es:Array (Int×Value)):Prop:=∀e∈es.toList,∃k b,e=(tupleKeyHash kn k,.ref b)/\IsTupleKey kn h k b
def jsy (kn:KeyKind P W K)(h:Heap)(es:Array (Int×Value))(k:List K):Prop:=∃e∈es.toList,∃b,e.2=.ref b/\IsTupleKey kn h k b
structure SetH (kn:KeyKind P W K) (h:Heap) (a:Addr) (S:List K->Prop) (n:Nat):Prop where
 ex:∃o es ep t,h.get? a=some o/\o.ExactSet/\o.data=.set es ep t/\t.dummies = #[]/\Tab t.mask t.place (es.toList.map (·.1))/\(t.mask=7->es.size<=4)/\es.size=n/\jsz kn h es/\∀k,S k↔jsy kn h es k
theorem jgm {t:SetTable}{es:Array (Int×Value)}(T:Tab t.mask t.place (es.toList.map (·.1)))(hd:t.dummies = #[]):t.fits es.size=true:=by
 have h1:=T.len;have h2:=T.few;rw[j0f,j0t]at h1 h2;unfold SetTable.fits SetTable.fill;simp[h1,hd,h2]
theorem jtz:Tab 7 #[] []:=⟨.inl rfl,rfl,by simp,fun i k a b _ h=>by simp at h,fun i j h e=>by simp at e⟩
theorem SetH.keep {h h':Heap}{a:Addr}{S:List K->Prop}{n:Nat}(x:SetH kn h a S n)(k:∀o,h.get? a=some o->h'.get? a=some o)(kp:∀{k:List K} {c:Addr},IsTupleKey kn h k c->IsTupleKey kn h' k c):SetH kn h' a S n:=by
 obtain⟨o,es,ep,t,h1,h2,h3,h4,h5,h6,h7,h8,h9⟩:=x.ex;refine⟨o,es,ep,t,k o h1,h2,h3,h4,h5,h6,h7,fun e he=>?_,fun q=>?_⟩
 ·obtain⟨q,b,e1,e2⟩:=h8 e he;exact⟨q,b,e1,kp e2⟩
 ·rw[h9];constructor
  ·rintro⟨e,he,b,e1,e2⟩;exact⟨e,he,b,e1,kp e2⟩
  ·rintro⟨e,he,b,e1,e2⟩;obtain⟨q',b',rfl,e3⟩:=h8 e he;cases e1;rw[<- (kp e3).inj e2];exact⟨_,he,b,rfl,e3⟩
theorem jkj {a:Addr}{o:Obj}{es:Array (Int×Value)}{ep:Nat}{t:SetTable}{k:List K}{b:Addr}{Q:SetFound->Shared->Prop}(hu:A.units<cLine)
  (ho:s.heap.get? a=some o) (hd:o.data=.set es ep t) (hdm:t.dummies = #[]) (T:Tab t.mask t.place (es.toList.map (·.1))) (hk:IsTupleKey kn s.heap k b) (he:jsz kn s.heap es)
  {N:Nat} (hN:N<10*SetTable.turns t.mask) (hf:¬ Occ t.place (wk t.mask (st0 t.mask (tupleKeyHash kn k)) N).j) (hbf:∀i,i<N->Occ t.place (wk t.mask (st0 t.mask (tupleKeyHash kn k)) i).j)
  (q1:jsy kn s.heap es k->Q (.there none) s) (q2:¬ jsy kn s.heap es k->Q (.free (wk t.mask (st0 t.mask (tupleKeyHash kn k)) N).j false) s) :
  ∀(f n:Nat) (sd:Option SetTable.Probe),N - n<f->n<=N->sd.getD (t.probeStart (tupleKeyHash kn k))=wk t.mask (st0 t.mask (tupleKeyHash kn k)) n ->
   (∀r i:Nat,r<n->t.place[i]?=some (wk t.mask (st0 t.mask (tupleKeyHash kn k)) r).j->∀(g:Int) (b':Addr),es.toList[i]?=some (g,.ref b')->¬ IsTupleKey kn s.heap k b') ->
   wpAny (model P W) A (setSearchFrom a (.ref b) (tupleKeyHash kn k) true f sd) Q E s
 |0,n,sd,h,_,_,_=>by omega
 |f+1,n,sd,hfu,hn,hsd,hno=>by
  have hfit:=jgm T hdm;have hgw:t.gaveWay=false:=by
   unfold SetTable.gaveWay;rcases T.msk with h|h<;>rw[h]<;>rfl
  unfold setSearchFrom;refine wpAny_bind (wpAny_setState_of ho hd hfit ?_);dsimp only;rw[hgw];simp only[j0p,if_false];rw[hsd];unfold SetTable.probe;obtain⟨m,h1,h2⟩:=jlQ T.rsg hdm (fun i=>((es[i]?).map (·.1)).getD 0) (tupleKeyHash kn k) (10*SetTable.turns t.mask) (wk t.mask (st0 t.mask (tupleKeyHash kn k)) n) ((jl2 _ _ _).trans rfl) ⟨N - n,by omega,by rw[<- jgL,Nat.add_sub_cancel' hn];exact hf⟩;simp only[<- jgL,Nat.add_assoc]at h1 h2;have hash:∀(i:Nat) (g:Int) (b':Addr),es.toList[i]?=some (g,.ref b')->IsTupleKey kn s.heap k b'->g=tupleKeyHash kn k:=fun i g b' hi hb'=>by
   obtain⟨k',b2,e1,e2⟩:=he _ (j0z hi);cases e1;rw[e2.inj hb']
  have below:∀r,(∀x,x<r->Occ t.place (wk t.mask (st0 t.mask (tupleKeyHash kn k)) (n+x)).j)->n+r<=N:=fun r hr=>by
   refine j1h fun hlt=>hf ?_;have:=hr (N - n) (by omega);rwa [Nat.add_sub_cancel' hn]at this
  have hle:=below m fun x hx=>let⟨i,hi,_⟩:=h1 x hx;⟨i,hi⟩;generalize hpr:SetTable.probe.go t _ _ _ _=pr;rcases h2 with⟨hfree,e⟩|⟨i,hi,hg,e⟩
  ·have hpe:=hpr.symm.trans e;subst hpe;dsimp only;have hNm:n+m=N:=Nat.le_antisymm hle (j1h fun hlt=>hfree (hbf _ hlt));rw[hNm];refine wpAny_pure (q2 fun⟨x,hx,b',hxb,hb'⟩=>?_);obtain⟨i0,hi0⟩:=List.mem_iff_getElem?.mp hx;obtain⟨g,v⟩:=x;dsimp only at hxb;subst hxb;have hgk:=hash i0 g b' hi0 hb';subst hgk;have hl0:i0<t.place.size:=by
    have:=T.len;rw[j0f]at this;rw[this];exact(j0e.mp hi0).1
   have hp0:t.place[i0]?=some t.place[i0]:=by simp
   obtain⟨r,er,hr⟩:=T.rch i0 _ _ hp0 (by rw[j0X,hi0];rfl);have hrN:r<N:=by
    refine Nat.lt_of_not_le fun hge=>?_;by_cases e2:r=N
    ·subst e2;exact hf ⟨i0,by rw[er];exact hp0⟩
    ·exact hf (hr N (by omega))
   by_cases hrn:r<n
   ·exact hno r i0 hrn (by rw[er];exact hp0) _ b' hi0 hb'
   ·obtain⟨i,hi,hne⟩:=h1 (r - n) (by omega);rw[Nat.add_sub_cancel' (j1h hrn),er]at hi;obtain rfl:=T.rsg.inj hi hp0;refine hne ?_;have:es[i]?=some (tupleKeyHash kn k,Value.ref b'):=by simpa using hi0
    simp[this]
  ·have hpe:=hpr.symm.trans e;subst hpe;dsimp only;have hnm:n+m<N:=Nat.lt_of_le_of_ne hle fun z=>hf ⟨i,by rw[<- z];exact hi⟩;have hl0:i<es.size:=by
    have:=T.len;rw[j0f,j0t]at this;rw[<- this];exact(j0N.mp hi).1
   have hei:es.toList[i]?=some es[i]:=by simp
   obtain⟨k',b',e1,hb'⟩:=he _ (j0z hei);have hei':es[i]?=some (tupleKeyHash kn k',Value.ref b'):=by rw[<- e1];simp
   rw[e1]at hei;refine jro (fun R hR=>jqL hk (fun v hv=>?_) hR) ?_
   ·obtain⟨x,hx,rfl⟩:=j0x.mp hv;obtain⟨k2,b2,rfl,h3⟩:=he x (by simp at hx;simpa using hx.1);exact⟨k2,b2,rfl,h3⟩
   simp only[hei'];refine wpAny_bind (wpAny_holding (wpAny_eqBool_tuple hu hb' hk ?_));refine wpAny_bind (wpAny_setState_of ho hd hfit ?_);dsimp only;by_cases hkk:k'=k
   ·subst hkk;simp only[decide_true,Bool.and_true,if_true];exact wpAny_pure (q1 ⟨_,j0z hei,b',rfl,hb'⟩)
   ·have hsm:t.sameMemory t.moves t.mask=some true:=by simp[SetTable.sameMemory]
    simp only[hkk,decide_false,Bool.and_false,j0p,if_false,hsm,if_true,jkp T.rsg hi,hei'];refine wpAny_bind (wpAny_isSame_ref_self (wpAny_bind (wpAny_pure ?_)));simp only[if_true];refine jkj hu ho hd hdm T hk he hN hf hbf q1 q2 f (n+(m+1)) _ (by omega) (by omega) rfl fun r i' hr hi' g b2 hg2 hb2=>?_;by_cases hrn:r<n
    ·exact hno r i' hrn hi' g b2 hg2 hb2
    ·by_cases hrm:r=n+m
     ·subst hrm;obtain rfl:=T.rsg.inj hi hi';rw[hei]at hg2;cases hg2;exact hkk (hb'.inj hb2)
     ·obtain⟨i2,hi2,hne⟩:=h1 (r - n) (by omega);rw[Nat.add_sub_cancel' (j1h hrn)]at hi2;obtain rfl:=T.rsg.inj hi2 hi';have hgk:=hash _ _ _ hg2 hb2;subst hgk;refine hne ?_;have:es[i2]?=some (tupleKeyHash kn k,Value.ref b2):=by simpa using hg2
      simp[this]
theorem jlw {a:Addr}{o:Obj}{es es':Array (Int×Value)}{ep:Nat}{t t':SetTable}{Q:Unit->Shared->Prop}(ho:s.heap.get? a=some o)(hx:o.ExactSet)(hd:o.data=.set es ep t)(hz:es'.size<4096)
  (h:∀g o',Heap.SameBut a s.heap g->g.get? a=some o'->o'.ExactSet->o'.data=.set es' (ep+1) t'->Q () {s with heap:=g}):wpAny (model P W) A (storeSet a es' t') Q E s:=by
 have e:=putSet_of es' t' hd;have al:=Heap.get?_update_self (Obj.putSet es' t') ho (by rw[e];rfl);refine wpAny_storeSet_of ho hd (h _ _ (Heap.SameBut.update s.heap a _) al ?_ ?_) (fits_of_scanBound hz)
 ·rw[e];exact hx
 ·rw[e]
theorem jfH {h h':Heap}{a:Addr}{o:Obj}{es0 es:Array (Int×Value)}{ep:Nat}{t:SetTable}(ho:h.get? a=some o)(hd:o.data=.set es0 ep t)(hs:Heap.SameBut a h h'){k:List K}{b:Addr}(x:IsTupleKey kn h k b):IsTupleKey kn h' k b:=
 jcU x fun o' ⟨it,n,e⟩ hb=>(hs.2 b fun z=>by subst z;rw[ho]at hb;cases hb;rw[hd]at e;cases e).trans hb
theorem jgK {h h':Heap}{a:Addr}{o:Obj}{es:Array (Int×Value)}{ep:Nat}{t:SetTable}{es1:Array (Int×Value)}(ho:h.get? a=some o)(hd:o.data=.set es ep t)(hs:Heap.SameBut a h h')(he:jsz kn h es1)(k:List K):jsy kn h' es1 k↔jsy kn h es1 k:=by
 constructor
 ·rintro⟨x,hx,b,e1,hb⟩;obtain⟨k',b',rfl,hb'⟩:=he x hx;cases e1;rw[<- (jfH (es:=es) ho hd hs hb').inj hb];exact⟨_,hx,b,rfl,hb'⟩
 ·rintro⟨x,hx,b,e1,hb⟩;exact⟨x,hx,b,e1,jfH (es:=es) ho hd hs hb⟩
theorem jlr {h h':Heap}{a:Addr}{o:Obj}{es:Array (Int×Value)}{ep:Nat}{t:SetTable}{es1:Array (Int×Value)}(ho:h.get? a=some o)(hd:o.data=.set es ep t)(hs:Heap.SameBut a h h')(he:jsz kn h es1):jsz kn h' es1:=fun x hx=>
 let⟨k,b,e1,hb⟩:=he x hx
 ⟨k,b,e1,jfH (es:=es) ho hd hs hb⟩
theorem jqd {a:Addr}{o:Obj}{es:Array (Int×Value)}{ep:Nat}{t:SetTable}{Q:Unit->Shared->Prop}(ho:s.heap.get? a=some o)(hx:o.ExactSet)(hd:o.data=.set es ep t)(hf:t.fits es.size=true)(h5:es.size=5)(he:jsz kn s.heap es)
  (h:∀g,Heap.SameBut a s.heap g->SetH kn g a (jsy kn s.heap es) 5->Q () {s with heap:=g}):wpAny (model P W) A (setRelay a (SetTable.grown 5)) Q E s:=by
 unfold setRelay;refine wpAny_bind (wpAny_setState_of ho hd hf ?_);dsimp only;rw[if_neg (by decide)];obtain⟨pl,ord,e,hsz,T,hmem⟩:=jqA (t:=t) (es:=es) (W:=SetTable.grown 5) (.inr (by decide)) (by rw[h5];decide);rw[e];refine wpAny_bind ?_;generalize ee:ord.filterMap (es[·]?)=es1 at hsz T hmem;have hz:(es1.size !=es.size)=false:=by simp[hsz]
 show wpAny _ _ (if((ord.filterMap (es[·]?)).size !=es.size)=true then _ else _) _ _ _;rw[ee,hz];simp only[j0p,if_false];refine wpAny_pure ?_;dsimp only;have he1:jsz kn s.heap es1:=fun x hx'=>he x ((hmem x).mp hx');refine jlw ho hx hd (by rw[hsz,h5];decide) fun g o' sb ho' hx' hd'=>h g sb ⟨o',es1,ep+1,_,ho',hx',hd',rfl,T,fun z=>absurd (show SetTable.sizeAbove (SetTable.grown 5) - 1=7 from z) (by decide),by rw[hsz];exact h5,jlr ho hd sb he1,fun k=>?_⟩;rw[jgK ho hd sb he1];constructor
 ·rintro⟨x,hx2,r⟩;exact⟨x,(hmem x).mpr hx2,r⟩
 ·rintro⟨x,hx2,r⟩;exact⟨x,(hmem x).mp hx2,r⟩
theorem SetH.congr {h:Heap}{a:Addr}{S S':List K->Prop}{n n':Nat}(x:SetH kn h a S n)(e:n=n')(f:∀k,S k↔S' k):SetH kn h a S' n':=by
 subst e;obtain⟨o,es,ep,t,h1,h2,h3,h4,h5,h6,h7,h8,h9⟩:=x.ex;exact⟨o,es,ep,t,h1,h2,h3,h4,h5,h6,h7,h8,fun k=>(f k).symm.trans (h9 k)⟩
open Classical in
theorem juI {a b:Addr}{S:List K->Prop}{n:Nat}{k:List K}{Q:Bool->Shared->Prop}(hu:A.units<cLine)(hk:IsTupleKey kn s.heap k b)(hS:SetH kn s.heap a S n)(hn:n+1<=18)
  (h:∀g r,Heap.SameBut a s.heap g->SetH kn g a (fun k'=>S k'∨k'=k) (if S k then n else n+1)->Q r {s with heap:=g}):wpAny (model P W) A (setAddHashed a (.ref b) (tupleKeyHash kn k)) Q E s:=by
 obtain⟨o,es,ep,t,ho,hx,hd,hdm,T,h7,hsz,he,hS'⟩:=hS.ex;have hfit:=jgm T hdm;obtain⟨N,hN,hf,hb⟩:=T.free (tupleKeyHash kn k);have hm:t.mask=7∨t.mask=31:=T.msk;have hsc:byScan (.ref b) es=false:=by simp[byScan,Value.scannable]
 unfold setAddHashed setAddHashedIn;refine wpAny_holding (wpAny_bind (wpAny_setState_of ho hd hfit ?_));dsimp only;rw[hsc];simp only[j0p,if_false];unfold setSearch;have hturn:10*SetTable.turns t.mask<=460:=by rcases hm with e|e<;>rw[e]<;>decide
 refine wpAny_bind (jkj hu ho hd hdm T hk he hN hf hb (fun hh=>?_) (fun hh=>?_) 100000 0 none (by omega) (j1r _) rfl fun r i hr=>by omega)
 ·dsimp only;have hSk:S k:=(hS' k).mpr hh;have:=h s.heap false (Heap.SameBut.refl a s.heap) (by rw[if_pos hSk];exact hS.congr rfl fun k'=>⟨.inl,fun z=>z.elim id fun z=>z▸hSk⟩);exact wpAny_pure this
 ·dsimp only;have hSk:¬ S k:=fun z=>hh ((hS' k).mp z);refine wpAny_bind (wpAny_setState_of ho hd hfit ?_);dsimp only;rw[jyI hdm];dsimp only;have T1:=T.put hf hb (by rw[j0f,j0t,hsz];rcases hm with e|e<;>first|omega|(have:=h7 e;omega));have hp:SetTable.below t.place (wk t.mask (st0 t.mask (tupleKeyHash kn k)) N).j<=es.size:=by
   have:=(jiB T.rsg (wk t.mask (st0 t.mask (tupleKeyHash kn k)) N).j).1;rw[T.len,j0f,j0t]at this;exact this
  generalize SetTable.below t.place (wk t.mask (st0 t.mask (tupleKeyHash kn k)) N).j=p at T1 hp ⊢;have e1:(SetTable.insertAt es p (tupleKeyHash kn k,Value.ref b)).toList=jmZ es.toList p (tupleKeyHash kn k,Value.ref b):=jb9 _ _ _;have T2:Tab t.mask (SetTable.insertAt t.place p (wk t.mask (st0 t.mask (tupleKeyHash kn k)) N).j) ((SetTable.insertAt es p (tupleKeyHash kn k,Value.ref b)).toList.map (·.1)):=by
   rw[e1,jrB];exact T1
  have hsz1:(SetTable.insertAt es p (tupleKeyHash kn k,Value.ref b)).size=n+1:=by
   rw[<- j0t,e1,jgg _ _ _ (by rw[j0t];exact hp),j0t,hsz]
  have he1:jsz kn s.heap (SetTable.insertAt es p (tupleKeyHash kn k,Value.ref b)):=fun x hx'=>by
   rw[e1,jgj]at hx';rcases hx' with rfl|hx'
   ·exact⟨k,b,rfl,hk⟩
   ·exact he x hx'
  have hmem:∀k',jsy kn s.heap (SetTable.insertAt es p (tupleKeyHash kn k,Value.ref b)) k'↔(S k'∨k'=k):=fun k'=>by
   constructor
   ·rintro⟨x,hx',r⟩;rw[e1,jgj]at hx';rcases hx' with rfl|hx'
    ·obtain⟨b',e2,hb'⟩:=r;cases e2;exact .inr (hb'.inj hk)
    ·exact .inl ((hS' k').mpr ⟨x,hx',r⟩)
   ·rintro(z|rfl)
    ·obtain⟨x,hx',r⟩:=(hS' k').mp z;exact⟨x,by rw[e1,jgj];exact .inr hx',r⟩
    ·exact⟨_,by rw[e1,jgj];exact .inl rfl,b,rfl,hk⟩
  generalize SetTable.insertAt es p (tupleKeyHash kn k,Value.ref b)=es1 at T2 hsz1 he1 hmem ⊢;generalize SetTable.insertAt t.place p (wk t.mask (st0 t.mask (tupleKeyHash kn k)) N).j=pl1 at T2 ⊢
  have fin:∀t1:SetTable,t1.mask=t.mask->t1.place=pl1->t1.dummies = #[]->wpAny (model P W) A (do
    storeSet a es1 t1
    if(!false&&t1.tooFull)=true then do
     setRelay a (SetTable.grown (es.size+1))
     pure true
    else pure true) Q E s:=fun t1 em ep1 ed=>by
   rw[<- em,<- ep1]at T2;have hfit1:=jgm T2 ed;have hfill:t1.fill=n+1:=by
    have:=T2.len;rw[j0f,j0t,hsz1]at this;simp[SetTable.fill,this,ed]
   refine wpAny_bind (jlw ho hx hd (by omega) fun g o' sb ho' hx' hd'=>?_);split
   ·rename_i hfull;have h4:n=4:=by
     simp only[Bool.not_false,j02,SetTable.tooFull,hfill,decide_eq_true_eq,em]at hfull;rcases hm with e|e
     ·rw[e]at hfull;have:=h7 e;omega
     ·rw[e]at hfull;omega
    subst h4;rw[hsz];refine wpAny_bind (jqd (s:={s with heap:=g}) ho' hx' hd' hfit1 hsz1 (jlr ho hd sb he1) fun g2 sb2 S2=>wpAny_pure ?_);refine h g2 true (sb.trans sb2) ?_;rw[if_neg hSk];exact S2.congr rfl fun k'=>(jgK ho hd sb he1 k').trans (hmem k')
   ·rename_i hfull;refine wpAny_pure (h g true sb ?_);rw[if_neg hSk];refine⟨o',es1,ep+1,t1,ho',hx',hd',ed,T2,fun e=>?_,hsz1,jlr ho hd sb he1,fun k'=>(hmem k').symm.trans (jgK ho hd sb he1 k').symm⟩;simp only[Bool.not_false,j02,SetTable.tooFull,hfill,decide_eq_true_eq]at hfull;rw[e]at hfull;omega
  split
  ·refine wpAny_bind (jvK hk fun bv=>?_);cases bv
   ·exact fin _ rfl rfl hdm
   ·exact fin _ rfl rfl hdm
  ·exact wpAny_bind (wpAny_pure (fin _ rfl rfl hdm))
end
noncomputable abbrev jca (led:Bool):Obj:={cls:=.type "set",dict:=none,data:=.set #[] 0 (.fresh 0 0 led)}
def jmb (a:Addr)(n:Nat)(h:Heap):Prop:=∃o es ep t,h.get? a=some o/\o.ExactSet/\o.data=.set es ep t/\t.fits es.size=true/\es.size=n
noncomputable def jvO (a:Addr)(n:Nat):HO:=.ext (jmb a n)
theorem jh6 {b:Bool}{h:Heap}{it l:Addr}{i:Nat}(x:iAt b h it l i):∃y z,h.get? it=some z/\z.data=.fields y:=by
 cases b<;>(obtain⟨o,g,_,d⟩:=x;exact⟨_,o,g,d⟩)
structure FillK (P:Program) (W:World) (b:Bool) (l:Addr) (its:List Value) (n:Nat) where
 pre:Heap->Prop
 St:Addr->Nat->Heap->Prop
 push:∀h o,pre h->pre (h.push o)
 zero:∀D h led,h.get? D=some (jca led)->pre h->St D 0 h
 stay:∀D it j h h',D≠it->iAt b h it l j->St D j h->(∀c o,c≠it->h.get? c=some o->h'.get? c=some o)->St D j h'
 add:∀(A:Around) (E:Value->Shared->Prop) D j v (t:Shared) (Q:Bool->Shared->Prop),A.units<cLine->its[j]?=some v->St D j t.heap->(∀g tk r,Heap.SameBut D t.heap g->St D (j+1) g->Q r {t with heap:=g,toks:=tk})->wpAny (model P W) A (setAdd D v) Q E t
 last:∀D h,St D its.length h->jmb D n h
section
variable {P:Program} {W:World} {B:Around} {E:Value->Shared->Prop} {s:Shared} {l:Addr} {its:List Value} {b:Bool} {n:Nat}
theorem jo5 (hh:B.handled=none)(it l:Addr)(hne:l≠it)(items:Array Value):Walks P W B it [it,l] [it] items.size (fun i v=>items[i]?=some v) (fun i h=>iAt b h it l i/\sAt b h l items):=by
 cases b
 ·exact Walks.list hh it l hne items
 ·exact Walks.tuple hh it l hne items
theorem jn5 {R:Result->Shared->Prop}(K:FillK P W b l its n){D it:Addr}(hh:B.handled=none)(hu:B.units+1<cLine)(hD:D≠it)(hDl:D≠l)(hl:l≠it)(left:Nat) :
  ∀(j:Nat) (t:Shared),its.length - j=left->j<=its.length->iAt b t.heap it l j->sAt b t.heap l its.toArray->K.St D j t.heap ->
   (∀g tk,(∀c o,c≠D->c≠it->t.heap.get? c=some o->g.get? c=some o)->K.St D its.length g->R (.ok (.ret .none)) {t with heap:=g,toks:=tk}) ->
   codeAny (model P W) B (.builtin "set.update.loop" ⟨[.ref D,.ref it],[]⟩) R t:=by
 have Wk:=jo5 (P:=P) (W:=W) (B:=B.in1) (b:=b) (by simp[hh]) it l hl its.toArray;have nw:∀{c:Addr},c≠it->c∉[it]:=fun h=>by simpa using h
 induction left with
 |zero=>
  intro j t he hj hi hs lies fin;obtain rfl:j=its.length:=by omega
  refine codeAny_builtin PyProof.Rows.F.entry_set_update_loop ?_;rw[Around.under_plainId j1k _];refine(wpAny_bind (Wk.done t _ _ ⟨by simpa using hi,hs⟩ fun g tk kp=>?_):wpAny _ B.in1 (pyNext (.ref it) >>=_) _ _ t);show wpAny (model P W) B.in1 (ret Value.none) _ _ _;exact wpAny_pure (fin g tk (fun c o _ h e=>kp c o (nw h) e) (K.stay D it _ _ _ hD hi lies fun c o h e=>kp c o (nw h) e))
 |succ left ih=>
  intro j t he hj hi hs lies fin;refine codeAny_builtin PyProof.Rows.F.entry_set_update_loop ?_;rw[Around.under_plainId j1k _];refine(wpAny_bind (Wk.item j t _ _ (by simp;omega) ⟨hi,hs⟩ fun v g1 tk1 hv here1 kp1=>?_):wpAny _ B.in1 (pyNext (.ref it) >>=_) _ _ t);refine(wpAny_bind (wpAny_holding ?_):wpAny _ B.in1 (holding [v] (setAdd D v) >>=_) _ _ _);refine K.add _ _ D j v _ _ (by simp;omega) (by simpa using hv) (K.stay D it _ _ _ hD hi lies fun c o h e=>kp1 c o (nw h) e) fun g2 tk2 r only lies2=>?_;have h2:=Wk.frame _ _ g2 here1 fun c hc o e=>(only.2 c fun q=>by
   simp only[j0d,j0J,or_false]at hc;rcases hc with rfl|rfl
   ·exact hD q.symm
   ·exact hDl q.symm).trans e
  exact wpAny_pure ⟨plainId_quiet j1k _,ih (j+1) _ (by omega) (by omega) h2.1 h2.2 lies2 fun g tk kp lies4=>fin g tk (fun c o nd nw' e=>kp c o nd nw' ((only.2 c nd).trans (kp1 c o (nw nw') e))) lies4⟩
theorem jmM {D:Addr}{led:Bool}{Q:Fin->Shared->Prop}(K:FillK P W b l its n)(hh:B.handled=none)(hu:B.units+4<cLine)(hS:s.heap.get? D=some (jca led))(hl:sAt b s.heap l its.toArray)(hD:D≠l)(hp:K.pre s.heap)
  (k:∀g tk,jmb D n g->(∀c o,c≠D->s.heap.get? c=some o->g.get? c=some o)->Q (.done (.ret .none)) {s with heap:=g,toks:=tk}) :
  wpAny (model P W) B (Builtin.«set.__init__» ⟨[.ref D,.ref l],[]⟩) Q E s:=by
 obtain⟨hp0,g0,dr,tk,os⟩:=s;have hlt:l<hp0.objs.size:=let⟨_,e⟩:=hl.obj;j0g e;have hDt:D<hp0.objs.size:=j0g hS;have hT:(⟨hp0,g0,dr,tk,os⟩:Shared).TypeIs (.ref D) "set":=⟨_,hS,rfl⟩;have fin:wpAny (model P W) B (runValue (.builtin "set.update.loop" ⟨[.ref D,.ref hp0.objs.size],[]⟩)) (fun _ s'=>Q (.done (.ret .none)) s') E ⟨hp0.push (jit b l),g0,dr,tk,os⟩:=
  wpAny_runValue (jn5 K hh (by omega) (j0m hDt) hD (j0m hlt) its.length 0 ⟨hp0.push (jit b l),g0,dr,tk,os⟩ rfl (j1r _) (jio (j0n _ rfl)) (sAt.keep hl fun o e=>j0c _ e) (K.zero _ _ led (j0c _ hS) (K.push _ _ hp))
   fun g tk' kp q=>k g tk' (K.last _ _ q) fun c o hc e=>kp c o hc (j0m (j0g e)) (j0c _ e))
 have hl0:=hl;cases b
 all_goals
  obtain⟨⟨c,dd,dt,sl⟩,hol,hc,n,hd⟩:=hl;cases hc;cases hd;have f1:=F.sub_list_set;have f2:=F.sub_list_frozenset;have f3:(Value.type "list" ==Value.type "dict")=false:=by decide
  have f4:=F.sub_tuple_set;have f5:=F.sub_tuple_frozenset;have f6:(Value.type "tuple" ==Value.type "dict")=false:=by decide
  unfold Builtin.«set.__init__» noKeywords Builtin.Frozenset.updateFrom;generalize hPI:pyIter=PI;wp_walk;subst hPI;exact jlK hl0 (wpAny_bind (wpAny_mono fin (fun _ s' q=>wpAny_pure (wpAny_pure q)) fun _ _ e=>e))
theorem jni {Q:Value->Shared->Prop}(K:FillK P W b l its n)(hh:B.handled=none)(hu:B.units+12<cLine)(hl:sAt b s.heap l its.toArray)(hp:K.pre s.heap)
  (k:∀(g:Heap) (tk:Nat),jmb s.heap.objs.size n g->(∀c o,s.heap.get? c=some o->g.get? c=some o)->Q (.ref s.heap.objs.size) {s with heap:=g,toks:=tk}) :
  wpAny (model P W) B (call (.type "set") [.ref l]) Q E s:=by
 have hlt:l<s.heap.objs.size:=let⟨_,e⟩:=hl.obj;j0g e;obtain⟨c,tl,g1⟩:=F.called_set.mro;have g2:=F.called_set.made;have g3:=F.called_set.sub;have g4:=F.called_set.notType;have g5:=F.called_set.canCreate;have g6:=F.typeCall_set_1 (.ref l);have body:∀(led:Bool) (C:Around),C.handled=none->C.units+8<cLine->codeAny (model P W) C (.call (.builtin "set.__init__") ⟨[.ref s.heap.objs.size,.ref l],[]⟩) (wants (fun r s2=>r=.none/\Q (.ref s.heap.objs.size) s2) E) {s with heap:=s.heap.push (jca led)}  :=fun led C hC hCu=>by
  have hS:(s.heap.push (jca led)).get? s.heap.objs.size=some (jca led):=j0n _ rfl;refine codeAny_call_builtin F.called_set.init.plain F.entry_set_init (check_set_init_1 (s:={s with heap:=s.heap.push (jca led)}) ⟨_,hS,rfl⟩ ?_);exact jmM (s:={s with heap:=s.heap.push (jca led)}) K (by simp[hC]) (by simp;omega) hS (sAt.keep hl fun o e=>j0c _ e) (Nat.ne_of_gt hlt) (K.push _ _ hp) fun g tk hS' kp=>⟨rfl,k g tk hS' fun c o e=>kp c o (j0m (j0g e)) (j0c _ e)⟩
 refine wpAny_call (codeAny_of_tree ?_);show wpAny _ _ (callAny (.type "set") ⟨[.ref l],[]⟩) _ _ _;refine wpAny_pure ⟨Code.quiet_builtin _ (by decide +kernel),codeAny_builtin F.entry_type_call ?_⟩;rw[Around.under_plain (weight_type_call_type "set" [.ref l] []) rfl];wp_walk;refine codeAny_mono (code_set_new_1 (.ref l) (E:=E) (Q₁:=fun x s1=>∃led,x=.ref s.heap.objs.size/\s1={s with heap:=s.heap.push (jca led)}) fun led=>⟨led,rfl,rfl⟩) fun r s1 hr=>?_
 match r,hr with
 |.error e,hr=>exact hr
 |.ok (.ret x),hr=>
  obtain⟨led,rfl,rfl⟩:=hr;have hS:(s.heap.push (jca led)).get? s.heap.objs.size=some (jca led):=j0n _ rfl;have hT:Shared.TypeIs {s with heap:=s.heap.push (jca led)} (.ref s.heap.objs.size) "set":=⟨_,hS,rfl⟩;have i1:=F.called_set.init.lookup;have i2:=F.called_set.init.bind (.ref s.heap.objs.size);wp_walk;refine codeAny_mono (body led _ (by simp[hh]) (by simp;omega)) fun r2 s2 hr2=>?_
  match r2,hr2 with
  |.error e,hr2=>exact hr2
  |.ok (.ret y),hr2=>
   obtain⟨rfl,q⟩:=hr2;wp_walk;exact q
noncomputable def jzV (its:List Value)(zs:List Str)(hi:jaO (zs.map V.str) its)(hb:zs.length+1<scanBound):FillK P W b l its (ddS zs).length where
 pre:=fun _=>True
 St:=fun D j h=>h.SetOf (strKind P W) D (fun y=>decide (y∈ddS (zs.take j))) (ddS (zs.take j)).length
 push:=fun _ _ h=>h
 zero:=fun D h led hS _=>by
  have q:=(PyProof.Rows.setObjOf_fresh (knd:=strKind P W) led).setOf hS (by unfold scanBound;omega);have ef:(fun y=>decide (y∈ddS (zs.take 0)))=fun _=>false:=by
   funext y
   simp[ddS]
  rw[ef];exact q
 stay:=fun D it j h h' hD _ q k=>jle q fun o e=>k D o hD e
 add:=fun A E D j v t Q _ hv lies k=>by
  have hlen:=hi.length;rw[j0f]at hlen;have hj:j<zs.length:=by rw[hlen];exact(j0e.mp hv).1
  obtain⟨u',hu,tz,ru⟩:=hi.get (i:=j) (x:=V.str zs[j]) (by simp[hj]);rw[hv]at hu;cases hu;subst ru;have hz:zs[j]?=some zs[j]:=by simp
  have size:=jlN (zs.take j);rw[j0y]at size;unfold setAdd;refine wpAny_holding (wpAny_bind ((strKind P W).pyHash (k:=zs[j]) (strKind_is _ _ _ _) ?_));refine wpAny_setAddHashed_of (knd:=strKind P W) (s:={t with toks:=t.toks+1}) (strKind_is _ _ _ _) rfl lies (by omega) fun g2 only lies2=>k g2 _ _ only ?_;rw[jmh zs j _ hz,jiA,show(fun y=>decide (y∈jjz (ddS (zs.take j)) zs[j]))=fun y=>decide (y∈ddS (zs.take j))||decide (y=zs[j])from funext fun y=>jmk _ _ _];exact lies2
 last:=fun D h q=>by
  have hlen:=hi.length;rw[j0f]at hlen;rw[<- hlen,List.take_length]at q;obtain⟨o,es,ep,t,h1,h2,h3,_,_,_,h7,h8⟩:=q;exact⟨o,es,ep,t,h1,h2,h3,h7,h8⟩
noncomputable def jzK (its:List Value)(ks:List (List Key))(hl:ks.length=its.length)(hb:ks.length<=18):FillK P W b l its (ddS ks).length where
 pre:=fun h=>∀(i:Nat) (k:List Key),ks[i]?=some k->∃c,its[i]?=some (.ref c)/\IsTupleKey (jan P W) h k c
 St:=fun D j h=>SetH (jan P W) h D (fun k=>k∈ddS (ks.take j)) (ddS (ks.take j)).length/\∀(i:Nat) (k:List Key),ks[i]?=some k->∃c,its[i]?=some (.ref c)/\IsTupleKey (jan P W) h k c
 push:=fun h o q i k e=>let⟨c,h1,h2⟩:=q i k e;⟨c,h1,jcU h2 fun o' _ e=>j0c _ e⟩
 zero:=fun D h led hS q=>⟨⟨_,_,_,_,hS,⟨rfl,rfl,rfl⟩,rfl,rfl,jtz,fun _=>by simp,by simp[ddS],fun e he=>by simp at he,fun k=>by simp[ddS,jsy]⟩,q⟩
 stay:=fun D it j h h' hD hi ⟨q,r⟩ k=>by
  have kp:∀{k:List Key} {c:Addr},IsTupleKey (jan P W) h k c->IsTupleKey (jan P W) h' k c:=fun x=>jcU x fun o ⟨x1,x2,x3⟩ e=>k _ o (fun z=>by
   subst z;obtain⟨y,z,e1,e2⟩:=jh6 hi;rw[e]at e1;cases e1;rw[x3]at e2;cases e2) e
  refine⟨SetH.keep q (fun o e=>k D o hD e) kp,fun i k' e=>?_⟩;obtain⟨c,h1,h2⟩:=r i k' e;exact⟨c,h1,kp h2⟩
 add:=fun A E D j v t Q hu hv ⟨q,r⟩ k=>by
  have hj:j<ks.length:=by rw[hl];exact(j0e.mp hv).1
  have hz:ks[j]?=some ks[j]:=by simp
  obtain⟨c,h1,h2⟩:=r j _ hz;rw[hv]at h1;cases h1;have size:=jlN (ks.take j);rw[j0y]at size;unfold setAdd;refine wpAny_holding (wpAny_bind (wpAny_pyHash_tuple hu h2 ?_));refine juI (s:={t with toks:=_}) hu h2 q (by omega) fun g r' only q2=>k g _ _ only ⟨?_,fun i k' e=>?_⟩
  ·rw[jmh ks j _ hz];refine q2.congr ?_ fun k'=>?_
   ·rw[jiA];by_cases e:ks[j]∈ddS (ks.take j)<;>simp[e]
   ·have:=jmk (ddS (ks.take j)) ks[j] k';rw[j0T]at this;simpa using this.symm
  ·obtain⟨c',h3,h4⟩:=r i k' e;obtain⟨o,es,ep,t0,h5,_,h7,_⟩:=q.ex;exact⟨c',h3,jfH (es:=es) h5 h7 only h4⟩
 last:=fun D h ⟨q,_⟩=>by
  rw[<- hl,List.take_length]at q;obtain⟨o,es,ep,t,h1,h2,h3,h4,h5,_,h7,_⟩:=q.ex;exact⟨o,es,ep,t,h1,h2,h3,jgm h5 h4,h7⟩
end
section
variable {X:Cx}
def jx5 (K:PySem.W.Frag)(H:Hp)(xs:List V)(n:Nat):Prop:=(∃ys:List Str,xs=ys.map V.str/\ys.length<=1000/\n=(ddS ys).length) ∨
 ∃ks:List (List Key),ks.length<=18/\n=(ddS ks).length/\Paired (fun k x=>∃c,x=V.ref c/\SqT K H c (k.map kV)) ks xs
noncomputable def jw6 (K:PySem.W.Frag):List V->Hp->VK->Prop:=fun vs H Q=>∃(p:Addr) (xs:List V) (n:Nat),vs=[.ref p]/\(SqL K H p xs∨SqT K H p xs)/\jx5 K H xs n/\∀l,H l=none->Q (.ref l) (upd H l (jvO l n))
theorem jnR (hc:X.calm=true)(hu:X.A.units+16<cLine):jbx X (.type "set") (jw6 X.K):=by
 intro pins s σ H xs us Q I r h;obtain⟨p,ys,n,rfl,hq,ha,q⟩:=h;obtain⟨u,rfl,rx⟩:=jkc r;cases rx;have fin:∀(b:Bool) (its:List Value),jaO ys its->sAt b s.heap p its.toArray->wpAny (model X.prog X.w) X.A (call (.type "set") [.ref p]) (EP X pins σ Q) X.xe s:=fun b its rv pl=>by
  have go:∀K:FillK X.prog X.w b p its n,K.pre s.heap->wpAny (model X.prog X.w) X.A (call (.type "set") [.ref p]) (EP X pins σ Q) X.xe s:=fun K hp=>by
   refine jni K (I.ok.hd hc) (by omega) pl hp fun h' tk hS kp=>?_;refine⟨.ref s.heap.objs.size,_,I.laid (t':=tk) (o:=jvO s.heap.objs.size n) kp (j0l _) ⟨hS,?_,?_⟩,rfl,q _ I.fresh⟩
   ·obtain⟨o,_,_,_,ho,_⟩:=hS;exact⟨o,ho⟩
   ·rintro g1 g2 ⟨o,es,ep,t,ho,rest⟩ k;exact⟨o,es,ep,t,k o ho,rest⟩
  rcases ha with⟨zs,rfl,hz,rfl⟩|⟨ks,hz,rfl,hp⟩
  ·exact go (jzV its zs rv (by unfold scanBound;omega)) trivial
  ·refine go (jzK its ks (hp.length.trans rv.length) hz) fun i k e=>?_;obtain⟨x,hx,c,rfl,hs⟩:=jey hp e;obtain⟨u,hu',ru⟩:=rv.get hx;cases ru;obtain⟨it,r1,⟨o,h1,h2,m,h3⟩,_⟩:=I.tuple hs;exact⟨c,hu',o,it.toArray,m,h1,h2,h3,by simpa using jfn r1⟩
 rcases hq with hq|hq
 ·obtain⟨its,rv,pl,_⟩:=I.list hq;exact fin false its rv pl.isList
 ·obtain⟨its,rv,pl,_⟩:=I.tuple hq;exact fin true its rv pl
theorem jiq:jbx X (.builtin "len") (fun xs H Q=>∃(p:Addr) (n:Nat),xs=[.ref p]/\H p=some (jvO p n)/\n<=1000/\Q (.int n) H):=by
 intro pins s σ H xs us Q I r h;obtain⟨p,n,rfl,hp,hn,q⟩:=h;obtain⟨u,rfl,rx⟩:=jkc r;cases rx;obtain⟨⟨o,es,ep,t,ho,hex,hd,hf,hz⟩,_,_⟩:=I.hok p _ hp;exact call_len_set ho hex hd hf (by omega) ⟨.int n,H,I.tok _,⟨_,by rw[hz]⟩,q⟩
noncomputable def jn4 (K:PySem.W.Frag):List V->Hp->VK->Prop:=fun vs H Q=>jw6 K vs H fun x H2=>∃(p:Addr) (n:Nat),[x]=[.ref p]/\H2 p=some (jvO p n)/\n<=1000/\Q (.int n) H2
theorem jpq {a:Expr} {ta:TA} {p1 p2 p3 p4:Pos} (hc:X.calm=true) (hu:X.A.units+16<cLine) (hg1:jbj X.env.scope "len" =true) (hm1:X.mg "len" =none) (hg2:jbj X.env.scope "set" =true) (hm2:X.mg "set" =none) (ha:PA X [a] ta) (hs:jak a=true) :
  PE X (.Call (.Name "len" p1) [.Call (.Name "set" p2) [a] [] p3] [] p4) (fun σ H Q=>ta σ H fun vs H1=>jn4 X.K vs H1 Q):=by
 have h1:=(joa (jnR hc hu) hg2 hm2 jxg ⟨ha⟩ (by unfold jah;simp[hs]):QE X (.Call (.Name "set" p2) [a] [] p3) _);have h2:=(jrg jiq hg1 hm1 jsD (jvC h1 jxi):QE X (.Call (.Name "len" p1) [.Call (.Name "set" p2) [a] [] p3] [] p4) _);exact h2.h
end
section
variable {prog:Program} {w:World} {A:Around} {E:Value->Shared->Prop} {s:Shared}
theorem jrc {M:Model}{a:Addr}{o:Obj}{Q:Option Obj->Shared->Prop}(ho:s.heap.get? a=some o)(q:Q (some o) s):wpAny M A (loadIfAlive a) Q E s:=fun Γ p _=>by
 unfold loadIfAlive;rw[Sem.wp_loadIfAlive,ho];exact q
def jvY (h:Heap)(z TI TO:Addr):Prop:=∃(T:Addr) (fl:Bool) (o:Obj),T≠z/\h.get? z=some {cls:=.type "zip",dict:=none,data:=.fields #[rawInt T,.bool fl,.bool false,.ref TI,.ref TO],slots:=#[]}/\h.get? T=some o
def jBb (h:Heap)(z TI TO:Addr):Prop:=IsZip h z TI TO .none∨jvY h z TI TO
theorem jlJ {z TI TO:Addr}{Q:Bool->Shared->Prop}(h:jvY s.heap z TI TO)(q:∀h',jvY h' z TI TO->(∀c o,c≠z->s.heap.get? c=some o->h'.get? c=some o)->h'.objs.size=s.heap.objs.size->Q false {s with heap:=h'}) :
  wpAny (model prog w) A (Builtin.SmallTypes.ownedTupleIsFree (.ref z)) Q E s:=by
 obtain⟨T,fl,o,hne,hz,hT⟩:=h;unfold Builtin.SmallTypes.ownedTupleIsFree;refine wpAny_bind (wpAny_field hz rfl (x:=rawInt T) rfl ?_);show wpAny _ _ (loadIfAlive (T:Int).toNat >>=_) _ _ _;rw[Int.toNat_natCast];refine wpAny_bind (jrc hT ?_);show wpAny _ _ (field (.ref z) 1 >>=_) _ _ _;refine wpAny_bind (wpAny_field hz rfl (x:=.bool fl) rfl ?_)
 cases fl with
 |true=>exact wpAny_pure (q s.heap ⟨T,true,o,hne,hz,hT⟩ (fun _ _ _ e=>e) rfl)
 |false=>
  refine wpAny_bind ?_;show wpAny _ _ (setField (.ref z) 1 (.bool true)) _ _ _;exact wpAny_setField_rec hz (by simp) fun h' hz' kz=>wpAny_pure (q h' ⟨T,true,o,hne,hz',kz.extBut _ _ hne hT⟩ (fun c o n e=>kz.extBut _ _ n e) kz.1)
theorem juC {b1 b2:Bool}{z TI TO i1 i2 l1 l2:Addr}{i:Nat}{xs ys:Array Value}{x y:Value}{Q:Option Value->Shared->Prop}(D:ZipApart z TI TO i1 i2 l1 l2)
  (oz:jvY s.heap z TI TO) (oi:IsPair s.heap TI (.ref i1) (.ref i2)) (a1:iAt b1 s.heap i1 l1 i) (a2:iAt b2 s.heap i2 l2 i) (s1:sAt b1 s.heap l1 xs) (s2:sAt b2 s.heap l2 ys) (ex:xs[i]?=some x) (ey:ys[i]?=some y)
  (q:∀h',jvY h' z TI TO->iAt b1 h' i1 l1 (i+1)->iAt b2 h' i2 l2 (i+1)->IsPair h' s.heap.objs.size x y ->
   (∀c o,c≠z->c≠i1->c≠i2->s.heap.get? c=some o->h'.get? c=some o)->Q (some (.ref s.heap.objs.size)) {s with heap:=h'}) :
  wpAny (model prog w) A (pyNext (.ref z)) Q E s:=by
 obtain⟨T,fl,oT,hne,hz,hT⟩:=id oz;have ty:s.TypeIs (.ref z) "zip":=⟨_,hz,rfl⟩;unfold pyNext;refine wpAny_bind (wpAny_attempt (wpAny_callSpecial?_slot (name:=Str.ofString "__next__") ty j1m (wpAny_call_entry j1m ty F.entry_zip_next ?_ (F.args_zip_next_1 _))));have fin:∀(w1:Value) (t:Shared),Q (some w1) t->wpAny (model prog w) A (pure (some w1)) Q E t:=fun _ _ z=>wpAny_pure z;change wpAny _ _ (field (.ref z) 2 >>=_) _ _ _;refine wpAny_bind (wpAny_field hz rfl (x:=.bool false) rfl ?_);change wpAny _ _ (field (.ref z) 3 >>=_) _ _ _;refine wpAny_bind (wpAny_field hz rfl (x:=.ref TI) rfl (wpAny_bind (wpAny_seqItems oi rfl ?_)));change wpAny _ _ (Builtin.SmallTypes.ownedTupleIsFree (.ref z) >>=_) _ _ _;refine wpAny_bind (jlJ oz fun hA zA kA nA=>?_);rw[if_neg j0i];have a1A:iAt b1 hA i1 l1 i:=a1.keep fun o e=>kA _ _ D.i1z e;have a2A:iAt b2 hA i2 l2 i:=a2.keep fun o e=>kA _ _ D.i2z e;have s1A:sAt b1 hA l1 xs:=s1.keep fun o e=>kA _ _ D.l1z e;have s2A:sAt b2 hA l2 ys:=s2.keep fun o e=>kA _ _ D.l2z e;simp only[List.forIn_toArray,List.forIn_cons,List.forIn_nil];refine wpAny_bind (wpAny_bind (wpAny_bind (wpAny_holding ?_)));change wpAny _ _ (Builtin.SmallTypes.nextOf (.ref i1) >>=_) _ _ _;refine wpAny_bind (jvZ a1A s1A ex fun hB a1B kB=>wpAny_pure (wpAny_pure ?_));have a2B:iAt b2 hB i2 l2 i:=a2A.keep fun o e=>kB.extBut _ _ D.i12.symm e;have s2B:sAt b2 hB l2 ys:=s2A.keep fun o e=>kB.extBut _ _ D.l2i1 e;refine wpAny_bind (wpAny_bind (wpAny_holding ?_));change wpAny _ _ (Builtin.SmallTypes.nextOf (.ref i2) >>=_) _ _ _;refine wpAny_bind (jvZ a2B s2B ey fun hC a2C kC=>wpAny_pure (wpAny_pure (wpAny_pure ?_)));refine wpAny_bind (wpAny_newTuple ?_ (by show 2<=sizeLine;decide));have nC:hC.objs.size=s.heap.objs.size:=by rw[kC.1,kB.1,nA]
 have kAC:∀c o,c≠i1->c≠i2->hA.get? c=some o->hC.get? c=some o:=fun c o c1 c2 e=>kC.extBut _ _ c2 (kB.extBut _ _ c1 e);refine wpAny_pure ⟨_,rfl,fin _ _ ?_⟩;change Q (some (.ref hC.objs.size)) {s with heap:=hC.push {cls:=.type "tuple",data:=.seq #[x,y]}};have new:(hC.push {cls:=.type "tuple",data:=.seq #[x,y]}).get? hC.objs.size=some {cls:=.type "tuple",data:=.seq #[x,y]}:=j0n _ rfl;rw[nC]at new ⊢;have up:∀c o,hC.get? c=some o->(hC.push {cls:=.type "tuple",data:=.seq #[x,y]}).get? c=some o:=fun c o e=>j0c _ e;obtain⟨T',fl',o',hne',hz',hT'⟩:=zA;refine q _ ?_ ((a1B.keep fun o e=>kC.extBut _ _ D.i12 e).keep fun o e=>up _ _ e) (a2C.keep fun o e=>up _ _ e) new fun c o c1 c2 c3 e=>up _ _ (kAC _ _ c2 c3 (kA _ _ c1 e));have zC:=up _ _ (kAC _ _ D.i1z.symm D.i2z.symm hz');by_cases e1:T'=i1
 ·obtain⟨o1,ho1,_⟩:=((a1B.keep fun o e=>kC.extBut _ _ D.i12 e).keep fun o e=>up _ _ e).obj;exact⟨T',fl',o1,hne',zC,by rw[e1];exact ho1⟩
 ·by_cases e2:T'=i2
  ·obtain⟨o2,ho2,_⟩:=(a2C.keep fun o e=>up _ _ e).obj;exact⟨T',fl',o2,hne',zC,by rw[e2];exact ho2⟩
  ·exact⟨T',fl',o',hne',zC,up _ _ (kAC _ _ e1 e2 hT')⟩
theorem jxs {b1 b2:Bool}{z TI TO i1 i2 l1 l2:Addr}{i:Nat}{xs ys:Array Value}{Q:Option Value->Shared->Prop}(hh:A.handled=none)(D:ZipApart z TI TO i1 i2 l1 l2)
  (oz:jvY s.heap z TI TO) (oi:IsPair s.heap TI (.ref i1) (.ref i2)) (a1:iAt b1 s.heap i1 l1 i) (a2:iAt b2 s.heap i2 l2 i) (s1:sAt b1 s.heap l1 xs) (s2:sAt b2 s.heap l2 ys) (ex:xs[i]?=none)
  (q:∀h',(∀c o,c≠z->c≠i1->c≠i2->s.heap.get? c=some o->h'.get? c=some o)->Q none {s with heap:=h'}) :
  wpAny (model prog w) A (pyNext (.ref z)) Q E s:=by
 obtain⟨T,fl,oT,hne,hz,hT⟩:=id oz;have ty:s.TypeIs (.ref z) "zip":=⟨_,hz,rfl⟩;have hh1:A.in1.handled=none:=hh;unfold pyNext;refine wpAny_bind (wpAny_attempt (wpAny_callSpecial?_slot (name:=Str.ofString "__next__") ty j1m (wpAny_call_entry j1m ty F.entry_zip_next ?_ (F.args_zip_next_1 _))));change wpAny _ _ (field (.ref z) 2 >>=_) _ _ _;refine wpAny_bind (wpAny_field hz rfl (x:=.bool false) rfl ?_);change wpAny _ _ (field (.ref z) 3 >>=_) _ _ _;refine wpAny_bind (wpAny_field hz rfl (x:=.ref TI) rfl (wpAny_bind (wpAny_seqItems oi rfl ?_)));change wpAny _ _ (Builtin.SmallTypes.ownedTupleIsFree (.ref z) >>=_) _ _ _;refine wpAny_bind (jlJ oz fun hA zA kA nA=>?_);rw[if_neg j0i];have a1A:iAt b1 hA i1 l1 i:=a1.keep fun o e=>kA _ _ D.i1z e;have s1A:sAt b1 hA l1 xs:=s1.keep fun o e=>kA _ _ D.l1z e;simp only[List.forIn_toArray,List.forIn_cons,List.forIn_nil];refine wpAny_bind (wpAny_bind (wpAny_bind (wpAny_holding ?_)));change wpAny _ _ (Builtin.SmallTypes.nextOf (.ref i1) >>=_) _ _ _;refine wpAny_bind (jgs hh1 a1A s1A ex fun hX e kX he=>?_);obtain⟨o,ho,hc⟩:=he;exact wpAny_bind (wpAny_isInstance (T:="StopIteration") (b:=true) ⟨o,ho,hc⟩ isSubtype_stop (wpAny_pure (q _ fun c o c1 c2 _ e=>kX _ _ c2 (kA _ _ c1 e))))
end
section
variable {prog:Program} {w:World} {A:Around} {E:Value->Shared->Prop} {s:Shared} {z:Addr} {vs:Array Value}
end
section
variable {prog:Program} {w:World} {A:Around} {R:Result->Shared->Prop}
structure ZipAt (b1 b2:Bool) (z TI TO i1 i2 l1 l2:Addr) (xs ys:Array Value) (i:Nat) (h:Heap):Prop where
 zs:jBb h z TI TO
 ti:IsPair h TI (.ref i1) (.ref i2)
 to:∃c d,IsPair h TO c d
 a1:iAt b1 h i1 l1 i
 a2:iAt b2 h i2 l2 i
 s1:sAt b1 h l1 xs
 s2:sAt b2 h l2 ys
theorem ZipAt.keep {b1 b2:Bool}{z TI TO i1 i2 l1 l2:Addr}{xs ys:Array Value}{i:Nat}{h h':Heap}{D:Addr}(Z:ZipAt b1 b2 z TI TO i1 i2 l1 l2 xs ys i h)(hz:z≠D)(h2:TI≠D)(h3:TO≠D)(h4:i1≠D)(h5:i2≠D)(h6:l1≠D)(h7:l2≠D)(hD:∃o,h'.get? D=some o)(k:∀c o,c≠D->h.get? c=some o->h'.get? c=some o):ZipAt b1 b2 z TI TO i1 i2 l1 l2 xs ys i h':=by
 refine⟨?_,k _ _ h2 Z.ti,let⟨c,d,e⟩:=Z.to;⟨c,d,k _ _ h3 e⟩,Z.a1.keep fun o e=>k _ _ h4 e,Z.a2.keep fun o e=>k _ _ h5 e,Z.s1.keep fun o e=>k _ _ h6 e,Z.s2.keep fun o e=>k _ _ h7 e⟩;rcases Z.zs with e|⟨T,fl,o,hne,e,hT⟩
 ·exact .inl (k _ _ hz e)
 ·by_cases c:T=D
  ·obtain⟨o',ho'⟩:=hD;exact .inr ⟨T,fl,o',hne,k _ _ hz e,by rw[c];exact ho'⟩
  ·exact .inr ⟨T,fl,o,hne,k _ _ hz e,k _ _ c hT⟩
theorem ZipAt.next {E:Value->Shared->Prop}{s:Shared}{b1 b2:Bool}{z TI TO i1 i2 l1 l2:Addr}{xs ys:Array Value}{i:Nat}{x y:Value}{Q:Option Value->Shared->Prop}(D:ZipApart z TI TO i1 i2 l1 l2)(Z:ZipAt b1 b2 z TI TO i1 i2 l1 l2 xs ys i s.heap)(ex:xs[i]?=some x)(ey:ys[i]?=some y)
  (q:∀h',ZipAt b1 b2 z TI TO i1 i2 l1 l2 xs ys (i+1) h'->IsPair h' s.heap.objs.size x y->(∀c o,c≠z->c≠TO->c≠i1->c≠i2->s.heap.get? c=some o->h'.get? c=some o)->Q (some (.ref s.heap.objs.size)) {s with heap:=h'}) :
  wpAny (model prog w) A (pyNext (.ref z)) Q E s:=by
 obtain⟨c,d,hTO⟩:=Z.to;have hzn:s.heap.objs.size≠z:=by
  rcases Z.zs with e|⟨T,fl,o,hne,e,hT⟩<;>exact Ne.symm (j0m (j0g e))
 rcases Z.zs with e|e
 ·refine jtM D e Z.ti hTO Z.a1 Z.a2 Z.s1 Z.s2 ex ey fun h' z' o' a1' a2' p' k'=>?_;exact q h' ⟨.inr ⟨s.heap.objs.size,false,_,hzn,z',p'⟩,k' _ _ D.TIz D.TITO D.TIi1 D.TIi2 Z.ti,⟨_,_,o'⟩,a1',a2',Z.s1.keep fun o e=>k' _ _ D.l1z D.l1TO D.l1i1 D.l1i2 e,Z.s2.keep fun o e=>k' _ _ D.l2z D.l2TO D.l2i1 D.l2i2 e⟩ p' k'
 ·refine juC D e Z.ti Z.a1 Z.a2 Z.s1 Z.s2 ex ey fun h' z' a1' a2' p' k'=>?_;exact q h' ⟨.inr z',k' _ _ D.TIz D.TIi1 D.TIi2 Z.ti,⟨c,d,k' _ _ D.TOz D.TOi1 D.TOi2 hTO⟩,a1',a2',Z.s1.keep fun o e=>k' _ _ D.l1z D.l1i1 D.l1i2 e,Z.s2.keep fun o e=>k' _ _ D.l2z D.l2i1 D.l2i2 e⟩ p' fun c o c1 _ c3 c4 e=>k' c o c1 c3 c4 e
theorem ZipAt.stop {E:Value->Shared->Prop}{s:Shared}{b1 b2:Bool}{z TI TO i1 i2 l1 l2:Addr}{xs ys:Array Value}{i:Nat}{Q:Option Value->Shared->Prop}(hh:A.handled=none)(D:ZipApart z TI TO i1 i2 l1 l2)(Z:ZipAt b1 b2 z TI TO i1 i2 l1 l2 xs ys i s.heap)(ex:xs[i]?=none)
  (q:∀h',(∀c o,c≠z->c≠TO->c≠i1->c≠i2->s.heap.get? c=some o->h'.get? c=some o)->Q none {s with heap:=h'}) :
  wpAny (model prog w) A (pyNext (.ref z)) Q E s:=by
 obtain⟨c,d,hTO⟩:=Z.to;rcases Z.zs with e|e
 ·exact jyw hh D e Z.ti hTO Z.a1 Z.a2 Z.s1 Z.s2 (.inl ex) q
 ·exact jxs hh D e Z.ti Z.a1 Z.a2 Z.s1 Z.s2 ex fun h' k=>q h' fun c o c1 _ c3 c4 e=>k c o c1 c3 c4 e
theorem jjK:entryFor table "dict.update.loop" =some Builtin.«dict.update.loop»:=entryFor_of_tree (by kernel_rfl)
theorem jfh:plainId "dict.update.loop" =true:=by decide +kernel
theorem jna {kvs:List (Key×Value)}{k:Key}{v:Value}(h:k∉kvs.map (·.1)):stored kvs k v=kvs++[(k,v)]:=by
 unfold stored;rw[if_neg];intro hc;obtain⟨p,hp,e⟩:=List.any_eq_true.mp hc;exact h (j0x.mpr ⟨p,hp,by simpa using e⟩)
end
section
variable {prog:Program} {w:World} {A:Around} {E:Value->Shared->Prop} {s:Shared}
end
section
variable {X:Cx}
end
section
variable {X:Cx}
end
section
variable {X:Cx}
end
section
variable {X:Cx}
noncomputable def jzP (n:Nat)(lo st:Int):List Nat:=sliceRange (max 0 (min lo n)) n st
def jwu:R2:=fun x y H Q=>∃z n,x=.str z/\y=.int n/\0<=n/\n<=1000/\z.length<=1000/\Q (.str (Txt.mul z n)) H
theorem juA:OpR X (binaryOp .Mult) jwu:=by
 intro pins s σ H x y v u Q I rx ry h;obtain⟨z,n,rfl,rfl,h0,h1,h2,q⟩:=h;obtain⟨t,rfl⟩:=rx;obtain⟨t',rfl⟩:=ry;have hm:z.length*n.toNat<=1000*1000:=Nat.mul_le_mul h2 (by omega);refine PySem.SB.mul ⟨?_,fun hn _=>?_,fun _ _=>?_⟩ fun t2 k=>⟨.str _,H,I.tok _,⟨_,rfl⟩,q⟩
 ·have e1:decide (n < -(2 ^ 63:Int))=false:=decide_eq_false (by omega);have e2:decide (n ≥ 2 ^ 63)=false:=decide_eq_false (by omega);rw[e1,e2];rfl
 ·have hz:(z.length:Int)*n<=2 ^ 63 - 1:=by
   have e:(z.length:Int)*n=((z.length*n.toNat:Nat):Int):=by rw[Int.natCast_mul,Int.toNat_of_nonneg h0]
   rw[e];omega
  have:=Int.le_ediv_of_mul_le (show(0:Int)<n by omega) hz;omega
 ·refine decide_eq_false ?_;have:(1000*1000:Nat)<=sizeLine:=by decide
  omega
end
structure Fly (P:Program) (w:World) (outer:List Env) (H:Hp) (s:Shared) (B:Heap) (a0:Value) (a:Addr) (cls:Value) (H':Hp) (s':Shared):Prop where
 os:s'.os=s.os
 bare:AllBare s'.gens
 fly:Heap.FlyingW B outer a cls a0 s'.heap
 hok:HOk P w H' B
 keep:∀b o,s.heap.get? b=some o->H b=none->b∉frs outer->B.get? b=some o
 slot:∀b o,s.heap.get? b=some o->b∈frs outer->∃sl,s'.heap.get? b=some {o with slots:=sl}
 free:∀b o,s.heap.get? b=some o->H b=none->H' b=none
 there:∀b o,s.heap.get? b=some o->b∉frs outer->∃o',B.get? b=some o'
 tups:∀b xs,H b=some (.tup xs)->H' b=some (.tup xs)
 frzs:∀b o u,H b=some (.frz o u)->H' b=some (.frz o u)
 tbls:∀b ps,H b=some (.tbl ps)->∃more,H' b=some (.tbl (ps++more))
noncomputable def CX1 (P:Program)(w:World):CXT:=fun outer H s E e s'=>∃B a0 a C H',e=.ref a/\Fly P w outer H s B a0 a (.ref C) H' s'/\E (.ref C) none H'
section
variable {P:Program} {w:World} {outer:List Env} {H H':Hp} {s s':Shared} {B:Heap} {a0 cls:Value} {a:Addr}
theorem Fly.un (f:Fly P w outer H s B a0 a cls H' s'):Un (frs outer) [] H H' s.heap s'.heap where
 keep:=fun b o e n hb _=>f.fly.1 b o (f.keep b o e n hb)
 slot:=fun b o e _ hb _=>f.slot b o e hb
 free:=fun b o e n _=>f.free b o e n
 there:=fun b o e _=>by
  by_cases hb:b∈frs outer
  ·obtain⟨sl,q⟩:=f.slot b o e hb;exact⟨_,q⟩
  ·obtain⟨o',q⟩:=f.there b o e hb;exact⟨o',f.fly.1 b o' q⟩
 tups:=f.tups
 frzs:=f.frzs
 tbls:=f.tbls
theorem Fly.hok' (f:Fly P w outer H s B a0 a cls H' s'):HOk P w H' s'.heap:=f.hok.kept fun b u e=>f.fly.1 b u e
end
section
variable {X:Cx} {pins:List (Addr×Obj)} {σ:St} {H H':Hp} {s s':Shared} {B:Heap} {a0 cls:Value} {a:Addr}
theorem Fly.inv (f:Fly X.prog X.w X.stack H s B a0 a cls H' s')(I:Inv X pins σ H s):Inv X pins σ H' s':=
 I.call' f.os f.un f.hok' f.bare (fun b z=>absurd z (by simp))
end
theorem jtu {P:Program}{w:World}{K:PySem.W.Frag}{mg:Str->Option Value}{base:Heap}{N:List Str}{qual:Str}{scope:Scope}{f:Addr}{cd:Value}{A:Around}{outer:List Env}{s0:Shared}{H0:Hp}{E:XK}{pins:List (Addr×Obj)}{σ:St}{H H':Hp}{s s':Shared}{B B' h':Heap}{a0:Value}{a C:Addr}
  (I:Inv (jjC (CX1 P w) P w K mg base N qual scope f cd A outer s0 H0 E) pins σ H s) (fl:Fly P w (envOfC qual scope s0.heap.objs.size f cd::outer) H s B a0 a (.ref C) H' s') (hE:E (.ref C) none H')
  (hB:∀b o,b<s0.heap.objs.size->B.get? b=some o->B'.get? b=some o) (hk:HOk P w H' B') (hfl:Heap.FlyingW B' outer a (.ref C) a0 h') (hsm:∀b o,b<s0.heap.objs.size->s'.heap.get? b=some o->(∀vs,o.data≠.fields vs)->∃sl,h'.get? b=some {o with slots:=sl}) :
  CX1 P w outer H0 s0 E (.ref a) {s' with heap:=h'}:=by
 have hlt:∀b o,s0.heap.get? b=some o->b≠s0.heap.objs.size:=fun b o e=>j0m (j0g e);have hst:∀b o,s0.heap.get? b=some o->b∉frs outer->b∉frs (envOfC qual scope s0.heap.objs.size f cd::outer):=fun b o e hb hm=>by
  rcases j0d.mp (show b∈s0.heap.objs.size::frs outer from hm)with q|q
  ·exact hlt b o e q
  ·exact hb q
 refine⟨B',a0,a,C,H',rfl,⟨fl.os.trans I.os,fl.bare,hfl,hk,fun b o e n hb=>?_,fun b o e hb=>?_,fun b o e n=>?_,fun b o e hb=>?_,fun b xs e=>?_,fun b o u e=>?_,fun b ps e=>?_⟩,hE⟩
 ·exact hB b o (j0g e) (fl.keep b o (I.base.keep b o e n hb (by intro z;cases z)) (I.base.free b o e n (by intro z;cases z)) (hst b o e hb))
 ·obtain⟨sl,q⟩:=I.base.slot b o e (I.ok.frf b hb) hb (by intro z;cases z);obtain⟨sl2,q2⟩:=fl.slot b _ q (show b∈s0.heap.objs.size::frs outer from .tail _ hb);have nf:∀vs,({o with slots:=sl}:Obj).data≠.fields vs:=by
   obtain⟨_,o',q',nf⟩:=I.ok.funs.mem hb;have q2:s0.heap.get? b=some o':=q';rw[e]at q2;cases q2;exact nf
  obtain⟨sl3,q3⟩:=hsm b _ (j0g e) q2 nf;exact⟨sl3,q3⟩
 ·obtain⟨o',q⟩:=I.base.there b o e (by intro z;cases z);have n':=I.base.free b o e n (by intro z;cases z);exact fl.free b o' q n'
 ·obtain⟨o',q⟩:=I.base.there b o e (by intro z;cases z);obtain⟨o2,q2⟩:=fl.there b o' q (hst b o e hb);exact⟨o2,hB b o2 (j0g e) q2⟩
 ·exact fl.tups b xs (I.base.tups b xs e)
 ·exact fl.frzs b o u (I.base.frzs b o u e)
 ·obtain⟨m1,q1⟩:=I.base.tbls b ps e;obtain⟨m2,q2⟩:=fl.tbls b _ q1;exact⟨m1++m2,by rw[q2,Array.append_assoc]⟩
theorem jwZ {P:Program}{w:World}{K:PySem.W.Frag}{mg:Str->Option Value}{base:Heap}{N:List Str}{qual:Str}{scope:Scope}{f:Addr}{cd:Value}{A:Around}{outer:List Env}{s0:Shared}{H0:Hp}{E:XK} :
  jf9 (CX1 P w) (jjC (CX1 P w) P w K mg base N qual scope f cd A outer s0 H0 E) E:=by
 intro pins σ H s e s' I hx;obtain⟨B,a0,a,C,H',rfl,fl,hE⟩:=hx;show wpAny _ _ (leaving _ (.ref a)) _ _ s';exact wpAny_leaves_onW I.ok.frames rfl fl.fly fun h' hfl hsm=>jtu I fl hE (fun _ _ _ e=>e) fl.hok hfl fun b o _=>hsm b o
noncomputable abbrev jwm:List Value:=[.type "ValueError",.type "Exception",.type "BaseException",.type "object"]
structure ExcC (K:PySem.W.Frag) (C:Addr):Prop where
 ex:∃(tl:List Value) (N:Addr) (nm q:Str) (bs:List Value) (hd:Bool) (sn:List Str) (sub:List Value) (ab:Bool) (col:Option Bool) (dd:Option Addr) (k0 k1 k2 k3 k5:Option Value),
  K.lookup C=some (excClassObj nm q C N bs tl hd sn sub ab col dd k0 k1 k2 k3 k5 "ValueError.__new__")/\PySem.W.tailIn K jwm tl=true/\PySem.W.nsOkIn K N=true/\PySem.W.nsIn K N "__init__" =some none
theorem jnq {P:Program}{w:World}{H:Hp}{h:Heap}{l:List Addr}(ok:HOk P w H h)(hl:∀b∈l,H b=none):HOk P w H (PySem.W.hideAll h l):=fun a o e=>
 (ok a o e).stay (fun b u hb q=>PySem.W.hideAll_get l q fun hm=>by
  have:=hl b hm;rcases hb with rfl|hb
  ·rw[e]at this;cases this
  ·rw[hb]at this;cases this) (fun _ q=>q) fun _ _ q=>q
section
variable {P:Program} {w:World} {K:PySem.W.Frag} {mg:Str->Option Value} {base:Heap} {N:List Str} {qual:Str} {scope:Scope} {f:Addr} {cd:Value} {A:Around} {outer:List Env} {s0:Shared} {H0:Hp} {E:XK}
theorem juj {pins:List (Addr×Obj)}{σ:St}{H:Hp}{s:Shared}{C e:Addr}{vs:List Value}{h1:Heap}(I:Inv (jjC (CX1 P w) P w K mg base N qual scope f cd A outer s0 H0 E) pins σ H s)
  (mk:Heap.MadeExcOf s.heap h1 e (.ref C) vs) (hE:E (.ref C) none H):(jjC (CX1 P w) P w K mg base N qual scope f cd A outer s0 H0 E).xe (.ref e) {s with heap:=h1}:=by
 show wpAny _ _ (leaving _ (.ref e)) _ _ _;have hlt:∀b o,s0.heap.get? b=some o->b≠s0.heap.objs.size:=fun b o e=>j0m (j0g e);have hst:∀b o,s0.heap.get? b=some o->b∉frs outer->b∉frs (envOfC qual scope s0.heap.objs.size f cd::outer):=fun b o e hb hm=>by
  rcases j0d.mp (show b∈s0.heap.objs.size::frs outer from hm)with q|q
  ·exact hlt b o e q
  ·exact hb q
 have hin:∀env∈(envOfC qual scope s0.heap.objs.size f cd::outer),∀b,env.frame=some b->b∈frs (envOfC qual scope s0.heap.objs.size f cd::outer):=fun env he b hb=>j0S.mpr ⟨env,he,hb⟩;refine wpAny_leaves_madeW (base:=PySem.W.hideAll s.heap (frs (envOfC qual scope s0.heap.objs.size f cd::outer))) I.ok.frames rfl (fun b o q=>PySem.W.of_hideAll _ q) (PySem.W.funFrames_hide I.stack hin) mk fun h' t fl _ _ sm=>?_;refine⟨_,_,e,C,H,rfl,⟨I.os,I.bare,fl,jnq I.hok I.stkFree,fun b o q n hb=>?_,fun b o q hb=>?_,fun b o q n=>?_,fun b o q hb=>?_,I.base.tups,I.base.frzs,I.base.tbls⟩,hE⟩
 ·exact PySem.W.hideAll_get _ (I.base.keep b o q n hb (by intro z;cases z)) (hst b o q hb)
 ·obtain⟨sl,q1⟩:=I.base.slot b o q (I.ok.frf b hb) hb (by intro z;cases z);have nf:∀vs,({o with slots:=sl}:Obj).data≠.fields vs:=by
   obtain⟨_,o',q',nf⟩:=I.ok.funs.mem hb;have q2:s0.heap.get? b=some o':=q';rw[q]at q2;cases q2;exact nf
  obtain⟨sl3,q3⟩:=sm b _ (mk.keeps b _ q1) nf;exact⟨sl3,q3⟩
 ·exact I.base.free b o q n (by intro z;cases z)
 ·obtain⟨o',q'⟩:=I.base.there b o q (by intro z;cases z);exact⟨o',PySem.W.hideAll_get _ q' (hst b o q hb)⟩
theorem jrA {x:Str}{C:Addr}{np cpos pos:Pos}{e:Expr}{es:List Expr}{t:TA}(hC:ExcC K C)(hg:Gl (jjC (CX1 P w) P w K mg base N qual scope f cd A outer s0 H0 E) x)(hm:mg x=some (.ref C))
  (ha:PA (jjC (CX1 P w) P w K mg base N qual scope f cd A outer s0 H0 E) (e::es) t) (hdb:(x==("__debug__" : Str))=false:=by decide)
  (he:starEach (e::es) (envOfC qual scope s0.heap.objs.size f cd)=(false,eval e (envOfC qual scope s0.heap.objs.size f cd))::starEach es (envOfC qual scope s0.heap.objs.size f cd):=by rfl)
  (hpl:(backTo cpos (starEach es (envOfC qual scope s0.heap.objs.size f cd))).any (·.1)=false:=by rfl) :
  PS (jjC (CX1 P w) P w K mg base N qual scope f cd A outer s0 H0 E) (.Raise (some (.Call (.Name x np) (e::es) [] cpos)) none pos) (fun _ σ H=>t σ H fun vs H1=>vs.length<=sizeLine/\E (.ref C) none H1):=by
 intro pins s σ H D I h;obtain⟨tl,Nc,nm,q,bs,hd,sn,sub,ab,col,dd,k0,k1,k2,k3,k5,lk,ht,hok,hni⟩:=hC.ex;have KX:=I.kIn;have T:=PySem.W.tail_of_in KX ht;refine wpAny_Raise_call_subT (C:=C) (nm:=nm) (q:=q) (N:=Nc) (bs:=bs) (bm:=tl) (hdct:=hd) (sn:=sn) (sub:=sub) (ab:=ab) (col:=col) (dd:=dd) (k0:=k0) (k1:=k1) (k2:=k2) (k3:=k3) (k5:=k5)
  PySem.F.excBase_ValueError (mN:=base.nsMap Nc) (T.hasType (by decide +kernel)) (I.ok.hd rfl)
  (by show(backTo cpos (starEach (e::es) (envOfC qual scope s0.heap.objs.size f cd))).any (·.1)=false;rw[he];show(false||(backTo cpos (starEach es (envOfC qual scope s0.heap.objs.size f cd))).any (·.1))=false;rw[hpl];rfl)
  (PySem.W.nsMap_none_of_in I.mod.kin hok hni) (je4 I hg hm ⟨rfl,?_⟩ hdb)
 have ha':=ha cpos pins s σ H _ I h;show wpAny _ _ (evalArgs (.ref C) true (backTo cpos (starEach (e::es) (envOfC qual scope s0.heap.objs.size f cd))) []) _ _ s;replace ha':wpAny _ _ (spliced (backTo cpos (starEach (e::es) (envOfC qual scope s0.heap.objs.size f cd)))) _ _ s:=ha';rw[he]at ha' ⊢;refine Calls.evalArgs_plain (thn ha' fun us s1 hu=>?_);obtain⟨vs,H1,I1,r,hz,hE⟩:=hu;have K1:=I1.kIn;exact⟨rfl,by rw[<- r.length];exact hz,K1 _ _ lk,Heap.Ns.keeps (.of_isNs (PySem.W.isNs_of_in I.mod.kin hok)) I1.bk,PySem.W.tail_of_in K1 ht,fun h' e mk=>juj I1 mk hE⟩
end
end _L2
namespace _L2
open PySem PySem.W PySem.Spec PySem.Calls PyProof.Rows Builtin Builtin.ObjectAttr Builtin.Getset_descriptor
structure ExcA (K:Frag) (C:Addr):Prop where
 ga:findIn K (.ref C) "__getattribute__" =some (some (.builtin "BaseException.__getattribute__"))
 gt:findIn K (.ref C) "__getattr__" =some none
 cl:findIn K (.ref C) "__class__" =some (some (.builtin "object.__class__"))
 gs:specialIn K (.builtin "object.__class__") "__get__" =some (some (.builtin "getset_descriptor.__get__"))
 tk:takesIn K (.builtin "object.__class__")=some true
 mo:mroIn K C (.type "object")=some true
 mb:mroIn K C (.type "BaseException")=some true
section
variable {prog:Program} {w:World} {A:Around} {E:Value->Shared->Prop} {s:Shared} {K:Frag} {x C:Addr} {o:Obj}
theorem jee {M:Model}{h:Heap}(e:h.get? x=some o)(hc:o.cls=.ref C):Looks M h (typeOf (.ref x)) (.ref C):=hc▸(Looks.ld e).andThen .now
theorem jvy {R:Result->Shared->Prop}(X:K.In s.heap)(he:s.heap.get? x=some o)(hc:o.cls=.ref C)(a:ExcA K C)(h:R (.ok (.ret (.ref C))) s) :
  codeAny (model prog w) A (.call (.builtin "getset_descriptor.__get__") ⟨[.builtin "object.__class__",.ref x,.ref C],[]⟩) R s:=by
 have LT:=jee (M:=model prog w) he hc;have LM:=looks_mroIn (M:=model prog w) X a.mo;obtain⟨hp,g,d,t,os⟩:=s;refine codeAny_call_builtin KF.slot_gs.plain KF.entry_gs ?_;refine KF.slot_gs.check _ _ _ _ _ _ _ _ KF.type_class (KF.args_gs _ _ _) ?_;unfold Builtin.«getset_descriptor.__get__»;unfold descrGet;rw[dga_obj];refine wpAny_bind (wpAny_pure ?_);unfold descrGetter;unfold descrCheckInstance;unfold descrNameAndClass;unfold isInstance;simp only[KF.owner_class]
 repeat lk
 refine⟨Code.quiet_builtin _ (by decide +kernel),?_⟩;refine codeAny_builtin KF.entry_class ?_;unfold Builtin.«object.__class__»;unfold shownTypeOf
 repeat lk
 exact h
theorem jkF {M:Model} {h:Heap} {v:Value} {r:Option Value} (X:K.In h) (e:specialIn K v "__get__" =some r):Looks M h (getOf (some v)) r:=looks_specialIn X e
theorem jq2 {M:Model}{h:Heap}(X:K.In h)(a:ExcA K C):Looks M h (find (.ref x) (.ref C) "__class__") (.bind (.builtin "getset_descriptor.__get__") (.builtin "object.__class__")):=by
 have L1:=looks_findIn (M:=M) X a.cl;have _L2:=jkF (M:=M) X a.gs;have _L3:=looks_takesIn (M:=M) X a.tk;intro A' Q' E' s' k q;have L1:=L1.keeps k;have _L2:=_L2.keeps k;have _L3:=_L3.keeps k;obtain⟨hp,g,d,t,os⟩:=s';unfold find;refine wpAny_bind (L1.here ?_);refine wpAny_bind (_L2.here ?_);unfold dataDescriptor?;refine wpAny_bind (wpAny_bind (_L3.here ?_))
 repeat lk
 exact q
theorem jyG {R:Result->Shared->Prop}{tk:Tok}(X:K.In s.heap)(he:s.heap.get? x=some o)(hc:o.cls=.ref C)(a:ExcA K C)(h:R (.ok (.ret (.ref C))) s) :
  codeAny (model prog w) A (.call (.builtin "BaseException.__getattribute__") ⟨[.ref x,.str "__class__" tk],[]⟩) R s:=by
 have LT:=jee (M:=model prog w) he hc;have LB:=looks_mroIn (M:=model prog w) X a.mb;have LF:=jq2 (x:=x) (M:=model prog w) X a;have hk:builtinKind "BaseException.__getattribute__" =some .slot:=by decide +kernel
 have hs:splitId "BaseException.__getattribute__" =some ("BaseException","__getattribute__"):=by decide +kernel
 have hp:∀Q:Unit->Shared->Prop,Q () s->wpAny (model prog w) A.in1 (checkBuiltinCall "BaseException.__getattribute__" ⟨[.ref x,.str "__class__" tk],[]⟩) Q (fun e s'=>R (.error e) s') s:=by
  intro Q q;have ha:=PySem.F.args_bexc_ga (.ref x) (.str "__class__" tk);obtain⟨hh,g,d,t,os⟩:=s;simp only[checkBuiltinCall,hk,hs];unfold isInstance
  repeat lk
  exact q
 refine codeAny_call_builtin PySem.F.excAttr_ValueError.ga.plain PySem.F.entry_bexc_ga (hp _ ?_);obtain⟨hh,g,d,t,os⟩:=s;unfold Builtin.«object.__getattribute__»;refine wpAny_bind (wpAny_pure ?_);refine wpAny_bind (wpAny_pure ?_);refine wpAny_bind (LT.here ?_);refine wpAny_bind (LF.here ?_);refine wpAny_bind (wpAny_holding (wpAny_call (jvy X he hc a ?_)));exact wpAny_pure h
theorem jpl {Q:Option Value->Shared->Prop}(X:K.In s.heap)(he:s.heap.get? x=some o)(hc:o.cls=.ref C)(a:ExcA K C)(h:Q (some (.ref C)) {s with toks:=s.toks+1}) :
  wpAny (model prog w) A (getAttr? (.ref x) "__class__") Q E s:=by
 have LT:=jee (M:=model prog w) he hc;have LG:=looks_findIn (M:=model prog w) X a.ga;have LH:=looks_findIn (M:=model prog w) X a.gt;have hb:=PySem.F.excAttr_ValueError.ga.bind (.ref x);have hn:(onTheHeap (.ref C)&&Value.builtin "BaseException.__getattribute__" ==Value.builtin "object.__getattribute__")=false:=by rw[show(Value.builtin "BaseException.__getattribute__" ==Value.builtin "object.__getattribute__")=false from by decide +kernel];rfl
 obtain⟨hh,g,d,t,os⟩:=s;unfold getAttr? getAttrBy? getAttrBy;refine wpAny_bind (wpAny_mkText (wpAny_bind (wpAny_attempt (wpAny_holding (wpAny_bind (LT.at (wpAny_bind (LG.at ?_))))))));dsimp only;rw[hn];simp only[j0p,if_false];unfold getAttrByItsOwn hookBefore;rw[if_pos (show onTheHeap (.ref C)=true from rfl)];refine wpAny_bind (LH.at ?_);unfold callGetattribute boundAndCalled;rw[if_neg (by simp),hb];refine wpAny_bind (wpAny_attempt (wpAny_holding (wpAny_bind (wpAny_pure (wpAny_call (jyG (s:=⟨hh,g,d,t+1,os⟩) X he hc a ?_))))));exact wpAny_pure (wpAny_pure h)
end
end _L2
namespace _L2
open PySem PySem.Spec PyProof.Rows
theorem jl9 {K:PySem.W.Frag}{x C:Addr}(c:ExcC K C)(a:ExcA K C)(it:PySem.W.kitCls K (.ref C) (.ref C)=some true):PySem.W.KitX K (.ref x) (.ref C) (fun h=>∃o,h.get? x=some o/\o.cls=.ref C) where
 ty:=fun _ _ _ ⟨_,e,hc⟩=>jee e hc
 it:=fun M _ X _=>(PySem.W.kit_cls (M:=M) X it).2.1
 ne:=fun h tp dd its n sl X htp=>by
  obtain⟨tl,Nc,nm,q,bs,hd,sn,sub,ab,col,dd',k0,k1,k2,k3,k5,lk,_⟩:=c.ex;refine Bool.eq_false_iff.mpr fun q=>?_;have e:C=tp:=Value.ref.inj (beq_iff_eq.mp q);subst e;have z:=congrArg Obj.data (j0H ((X _ _ lk).symm.trans htp));exact Data.noConfusion z
 ca:=fun X ⟨_,e,hc⟩ k=>jpl X e hc a k
section
variable {X:Cx} {pins:List (Addr×Obj)} {σ:St} {H:Hp} {s:Shared}
noncomputable def jvQ:V->Option Value
 |.ref a=>some (.ref a)
 |.ty n=>some (.type n)
 |_=>none
theorem jmw {v:V}{u c:Value}(h:jvQ v=some c)(r:jaN v u):u=c:=by
 cases v<;>first|(cases h;done)|(cases h;exact r)
theorem jrq {a C:Addr}{oe:Obj}(hp:(a,oe)∈X.pn)(hc:oe.cls=.ref C)(c:ExcC X.K C)(ea:ExcA X.K C)(it:PySem.W.kitCls X.K (.ref C) (.ref C)=some true) :
  jbx X (.builtin "isinstance") (fun xs H Q=>∃v u b,xs=[.ref a,v]/\jvQ v=some u/\PySem.W.kitOne X.K (.ref C) u=some b/\Q (.bl b) H):=by
 intro pins s σ H xs us Q I r h;obtain⟨v,u,b,rfl,hv,hk,q⟩:=h;obtain⟨u1,u2,rfl,r1,r2⟩:=joZ r;cases(show u1=Value.ref a from r1);cases jmw hv r2;have he:=(I.pin (a,oe) (j1s _ hp)).1;exact j0Q (jl9 c ea it) I.kIn ⟨oe,he,hc⟩ hk (by intro q;cases q) fun tk=>⟨.bl b,H,I.tok tk,rfl,q⟩
theorem jiO:∀{cs:List V} {us ts:List Value},cs.mapM jvQ=some ts->jaO cs us->us=ts
 |[],_,ts,e,.nil=>by
  rw[List.mapM_nil]at e;exact(j0H e)
 |c::cs,_,ts,e,.cons r t=>by
  rw[List.mapM_cons]at e;obtain⟨u,h1,e⟩:=Option.bind_eq_some_iff.mp e;obtain⟨us',h2,e⟩:=Option.bind_eq_some_iff.mp e;cases j0H e;rw[jiO h2 t,jmw h1 r]
theorem joD {a C:Addr}{oe:Obj}(hp:(a,oe)∈X.pn)(hc:oe.cls=.ref C)(c:ExcC X.K C)(ea:ExcA X.K C)(it:PySem.W.kitCls X.K (.ref C) (.ref C)=some true) :
  jbx X (.builtin "isinstance") (fun xs H Q=>∃(p:Addr) (cs:List V) (ts:List Value) (b:Bool),xs=[.ref a,.ref p]/\SqT X.K H p cs/\cs.mapM jvQ=some ts/\PySem.W.kitAny X.K (.ref C) ts=some b/\Q (.bl b) H):=by
 intro pins s σ H xs us Q I r h;obtain⟨p,cs,ts,b,rfl,hsq,hv,hk,q⟩:=h;obtain⟨u1,u2,rfl,r1,r2⟩:=joZ r;cases(show u1=Value.ref a from r1);cases(show u2=Value.ref p from r2);have he:=(I.pin (a,oe) (j1s _ hp)).1;obtain⟨its,rv,ht,_⟩:=I.tuple hsq;cases jiO hv rv;obtain⟨⟨cc,d,dt,sl⟩,ho,hcc,n,hd⟩:=ht;simp only at hcc hd;subst hcc hd;exact j1w (jl9 c ea it) I.kIn ⟨oe,he,hc⟩ ho hk (by intro q;cases q) fun tk=>⟨.bl b,H,I.tok tk,rfl,q⟩
end
theorem jbL.here {P:Program}{w:World}{H:Hp}{h:Heap}{a:Addr}{o:HO}(x:jbL P w H h a o):∃u,h.get? a=some u:=by
 induction o with
 |lst xs=>obtain⟨_,_,_,_,e⟩:=x;exact⟨_,e⟩
 |tup xs=>obtain⟨_,_,_,_,e⟩:=x;exact⟨_,e⟩
 |dK kvs=>obtain⟨_,_,_,_,_,_,_,e,_⟩:=x;exact⟨_,e⟩
 |dT kvs=>obtain⟨_,_,_,_,_,_,_,e,_⟩:=x;exact⟨_,e⟩
 |set S n=>obtain⟨_,_,_,_,e,_⟩:=x;exact⟨_,e⟩
 |ins C dx fs=>obtain⟨_,_,_,e,_⟩:=x;exact⟨_,e⟩
 |own y=>obtain⟨_,e⟩:=x;exact⟨_,e⟩
 |xd fs=>obtain⟨_,⟨_,_,_,e,_⟩,_⟩:=x;exact⟨_,e⟩
 |rng lo hi=>obtain⟨_,_,_,e⟩:=x;exact⟨_,e⟩
 |frz ob u _=>obtain⟨e,_⟩:=x;exact⟨_,e⟩
 |tbl ps=>exact⟨_,show h.get? a=some _ from x⟩
 |met f y=>exact⟨_,show h.get? a=some _ from x⟩
 |ext φ=>obtain⟨_,e,_⟩:=x;exact e
noncomputable abbrev Cx.pind (X:Cx) (a:Addr) (oe:Obj):Cx:={X with pn:=(a,oe)::X.pn}
noncomputable abbrev Cx.hand (X:Cx) (a:Addr) (oe:Obj):Cx:={X with A:=X.A.mark (some (.ref a)),calm:=false,pn:=(a,oe)::X.pn,xe:=fun _ _=>False}
section
variable {X:Cx} {pins:List (Addr×Obj)} {σ:St} {H H':Hp} {s s':Shared} {B:Heap} {a0:Value} {a:Addr} {oe:Obj}
theorem Inv.hand (I:Inv X pins σ H s)(e:s.heap.get? a=some oe)(n:H a=none)(nl:a≠X.env.locals)(nf:a∉X.fs)(nc:∀v,oe.data≠.cell v):Inv (X.hand a oe) pins σ H s:=by
 obtain⟨ok,os,bare,base,loc,cell,free,freeC,pin,hok,len⟩:=I;refine⟨⟨ok.mod,ok.kind,ok.glob,ok.blt,ok.above,ok.inj,ok.has,ok.cab,(by intro z;cases z),ok.frames,ok.stk,ok.exf,ok.bs,ok.bsz,ok.noex,ok.exfs,ok.funs,ok.frf⟩,os,bare,base,loc,cell,free,freeC,fun p hp=>?_,hok,len⟩;rcases j0d.mp (show p∈(a,oe)::(X.pn++pins)from hp)with rfl|hp
 ·exact⟨e,n,nl,nf,nc⟩
 ·exact pin p hp
theorem Inv.unhand (I:Inv (X.hand a oe) pins σ H s)(ok:X.Ok):Inv (X.pind a oe) pins σ H s:=
 ⟨⟨ok.mod,ok.kind,ok.glob,ok.blt,ok.above,ok.inj,ok.has,ok.cab,ok.hd,ok.frames,ok.stk,ok.exf,ok.bs,ok.bsz,ok.noex,ok.exfs,ok.funs,ok.frf⟩,I.os,I.bare,I.base,I.loc,I.cell,I.free,I.freeC,I.pin,I.hok,I.len⟩
theorem Inv.unpin (I:Inv (X.pind a oe) pins σ H s)(ok:X.Ok):Inv X pins σ H s:=
 ⟨ok,I.os,I.bare,I.base,I.loc,I.cell,I.free,I.freeC,fun p hp=>I.pin p (show p∈(a,oe)::(X.pn++pins)from .tail _ hp),I.hok,I.len⟩
theorem SP.unpin {D:Ends}{f:Flow}(h:SP (X.pind a oe) pins D f s)(ok:X.Ok):SP X pins D f s:=by
 cases f with
 |next=>obtain⟨σ',H',I,q⟩:=h;exact⟨σ',H',I.unpin ok,q⟩
 |brk=>obtain⟨σ',H',I,q⟩:=h;exact⟨σ',H',I.unpin ok,q⟩
 |cont=>obtain⟨σ',H',I,q⟩:=h;exact⟨σ',H',I.unpin ok,q⟩
 |ret u=>obtain⟨v,σ',H',I,q⟩:=h;exact⟨v,σ',H',I.unpin ok,q⟩
theorem Fly.later {outer:List Env}{P:Program}{w:World}{cls:Value}{h5:Heap}(f:Fly P w outer H s B a0 a cls H' s')(nf:∀b o,s.heap.get? b=some o->b∈frs outer->∀vs,o.data≠.fields vs)
  (fl:Heap.FlyingW B outer a cls a0 h5) (sm:s'.heap.UpToSlots h5):Fly P w outer H s B a0 a cls H' {s' with heap:=h5}:=
 ⟨f.os,f.bare,fl,f.hok,f.keep,fun b o e hb=>by
  obtain⟨sl,q⟩:=f.slot b o e hb;obtain⟨sl2,q2⟩:=sm b _ q (nf b o e hb);exact⟨sl2,q2⟩,f.free,f.there,f.tups,f.frzs,f.tbls⟩
theorem Inv.unbound {i:Nat}{n:Str}{v:Option Value}{m:Str->Option Value}{h':Heap}{t':Nat}(I:Inv X pins σ H s)(hN:X.N.Nodup)(hi:X.N[i]?=some n)
  (hn:s.heap.Ns X.env.locals m) (hl:∀(i:Nat) (x:Str) (v:V),X.N[i]?=some x->σ[i]?=some (some v)->Vis X.env.scope x->∃u,jaN v u/\jAJ X.env s.heap m x u)
  (hn':h'.Ns X.env.locals (fun y=>if y=n then v else m y)) (hs:Heap.SameBut X.env.locals s.heap h'):Inv X pins (σ.set i none) H {s with heap:=h',toks:=t'}:=by
 have lt:∀b o,X.s₀.heap.get? b=some o->b≠X.env.locals:=fun b o e=>j0m (j0o (j0g e) I.ok.above);refine⟨I.ok,I.os,I.bare,⟨fun b o e n hb hx=>?_,fun b o e n hb hx=>?_,I.base.free,fun b o e hx=>?_,I.base.tups,I.base.frzs,I.base.tbls⟩,⟨_,hn',fun j y v' e1 e2 e3=>?_⟩,fun y c e=>?_,I.free,I.freeC,fun p hp=>?_,fun b ob e=>?_,by simpa using I.len⟩
 ·exact(hs.2 b (lt b o e)).trans (I.base.keep b o e n hb hx)
 ·obtain⟨sl,e1⟩:=I.base.slot b o e n hb hx;exact⟨sl,(hs.2 b (lt b o e)).trans e1⟩
 ·obtain⟨o',e1⟩:=I.base.there b o e hx;exact⟨o',(hs.2 b (lt b o e)).trans e1⟩
 ·by_cases hj:j=i
  ·subst hj;rw[List.getElem?_set_self' ]at e2
   cases q:σ[j]? with
   |none=>rw[q]at e2;cases e2
   |some z=>rw[q]at e2;cases e2
  ·rw[j1t (Ne.symm hj)]at e2;obtain⟨u',r',q⟩:=hl j y v' e1 e2 e3;refine⟨u',r',?_⟩;rcases q with⟨k,e⟩|⟨k,c,e,z⟩
   ·refine .inl ⟨k,?_⟩;have:y≠n:=fun e=>hj (jiu hN e1 (e▸hi));simp[this,e]
   ·exact .inr ⟨k,c,e,z.sameBut hs (I.cne y c e)⟩
 ·obtain⟨w',z⟩:=I.cell y c e;exact⟨w',z.sameBut hs (I.cne y c e)⟩
 ·obtain⟨e,n,ne,nf,d⟩:=I.pin p hp;exact⟨(hs.2 p.1 ne).trans e,n,ne,nf,d⟩
 ·refine(I.hok b ob e).stay (fun c w' hc q=>(hs.2 c ?_).trans q) (fun _ q=>q) fun _ _ q=>q;rintro rfl;have hf:=I.free;rcases hc with rfl|hc
  ·rw[hf]at e;cases e
  ·rw[hf]at hc;cases hc
structure CalG (CX:CXT) (P:Program) (w:World) (K:PySem.W.Frag) (mg:Str->Option Value) (base:Heap) (k:Nat) (x:Str) (ps:List Str) (sp:Sp):Prop where
 ex:(∃(f:Addr) (fd:FuncData),FnOk P w K mg base CX k f fd ps sp/\mg x=some (.ref f)/\PySem.W.keepIn K (.ref f)=true/\jeR K fd ps []) ∨
  ∃(C f:Addr) (fd:FuncData) (qs:List Str) (k':Nat) (sp':Sp),k=k'+1/\Mk K C f/\FnOk P w K mg base CX k' f fd qs sp'/\mg x=some (.ref C)/\jeR K fd qs [] /\
   ∀vs H Q E,sp vs H Q E->∀x dx,H x=none->H dx=none->dx≠x->sp' (.ref x::vs) (upd (upd H dx (.own x)) x (.ins C dx [])) (fun v H2=>v=.non/\Q (.ref x) H2) E
theorem CalG.imp {CX:CXT}{P:Program}{w:World}{K:PySem.W.Frag}{mg:Str->Option Value}{base:Heap}{k:Nat}{x:Str}{ps:List Str}{sp sp':Sp}(c:CalG CX P w K mg base k x ps sp)(h:∀vs H Q E,sp' vs H Q E->sp vs H Q E):CalG CX P w K mg base k x ps sp':=by
 rcases c.ex with⟨f,fd,F,r⟩|⟨C,f,fd,qs,k',sp0,e,M,F,hm,hb,q⟩
 ·exact⟨.inl ⟨f,fd,F.imp h,r⟩⟩
 ·exact⟨.inr ⟨C,f,fd,qs,k',sp0,e,M,F,hm,hb,fun vs H Q E z=>q vs H Q E (h _ _ _ _ z)⟩⟩
theorem FnOk.calm {P:Program}{w:World}{K:PySem.W.Frag}{mg:Str->Option Value}{base:Heap}{k:Nat}{f:Addr}{fd:FuncData}{ps:List Str}{sp:Sp}(F:FnOk P w K mg base (CX1 P w) k f fd ps sp):FnOk P w K mg base CX0 k f fd ps (fun vs H Q _=>sp vs H Q E0):=
 ⟨fun vs H Q E q=>F.len vs H Q E0 q,fun A outer s H args us vs Q E hr he hbi hv hs=>codeAny_mono (F.run A outer s H args us vs Q E0 hr he hbi hv hs) fun r s' hq=>by
  cases r with
  |ok fl=>cases fl<;>exact hq
  |error e=>
   obtain⟨_,_,_,_,_,_,_,z⟩:=hq;exact z.elim⟩
theorem CalG.calm {P:Program}{w:World}{K:PySem.W.Frag}{mg:Str->Option Value}{base:Heap}{k:Nat}{x:Str}{ps:List Str}{sp:Sp}(c:CalG (CX1 P w) P w K mg base k x ps sp):CalG CX0 P w K mg base k x ps (fun vs H Q _=>sp vs H Q E0):=by
 rcases c.ex with⟨f,fd,F,r⟩|⟨C,f,fd,qs,k',sp0,e,M,F,hm,hb,q⟩
 ·exact⟨.inl ⟨f,fd,F.calm,r⟩⟩
 ·exact⟨.inr ⟨C,f,fd,qs,k',_,e,M,F.calm,hm,hb,fun vs H Q E z=>q vs H Q E0 z⟩⟩
def jq9 (t:TA):Prop:=∀σ H (P P':List V->Hp->Prop),(∀vs H1,P vs H1->P' vs H1)->t σ H P->t σ H P'
theorem jr9 {CX:CXT}{k j:Nat}{x:Str}{ps:List Str}{sp:Sp}{E:XK}{e:Expr}{es:List Expr}{t:TA}{p pos:Pos}(c:CalG CX X.prog X.w X.K X.mg X.base k x ps sp)(hr:Room j X.A)(hk:k<=j)(hg:jbj X.env.scope x=true)(hx:jf9 CX X E)(ht:jq9 t)(ha:PA X (e::es) t)(hst:jah (e::es)=true) :
  PE X (.Call (.Name x p) (e::es) [] pos) (jv6 sp [] E t):=by
 have k1:=hst;unfold jah at k1;simp only[j0Y,j0a]at k1;have gl:=jay hg;rcases c.ex with⟨f,fd,F,hm,hkp,hb⟩|⟨C,f,fd,qs,k',sp',rfl,M,F,hm,hb,q⟩
 ·exact juB (hdb:=gl.2.1) (he:=jaB k1.1) (hpl:=jaU k1.2) F (hr.mono hk) gl.1 hm hkp hb .nil hx ha
 ·intro pins s σ H Q I h;refine jug (hdb:=gl.2.1) (he:=jaB k1.1) (hpl:=jaU k1.2) M F (hr.mono hk) gl.1 hm hb .nil hx ha pins s σ H Q I (ht σ H _ _ (fun vs H1 z x dx h1 h2 h3=>?_) h);rw[j0C]at z ⊢;exact q _ _ _ _ z x dx h1 h2 h3
theorem jqz {k:Nat}{f:Addr}{fd:FuncData}{ps:List Str}{sp:Sp}{E:XK}{x:Str}{p pos:Pos}{e:Expr}{es:List Expr}{t:TA}{Q:VK}(F:FnOk X.prog X.w X.K X.mg X.base (CX1 X.prog X.w) k f fd ps sp)(hr:Room k X.A)(hg:Gl X x)(hm:X.mg x=some (.ref f))
  (hk:PySem.W.keepIn X.K (.ref f)=true) (hb:jeR X.K fd ps []) (ha:PA X.nox (e::es) t) (I:Inv X pins σ H s) (h:t σ H fun vs H1=>sp vs H1 Q E)
  (hdb:(x==("__debug__" : Str))=false:=by decide) (he:starEach (e::es) X.env=(false,eval e X.env)::starEach es X.env:=by rfl) (hpl:(backTo pos (starEach es X.env)).any (·.1)=false:=by rfl) :
  wpAny (model X.prog X.w) X.A (eval (.Call (.Name x p) (e::es) [] pos) X.env) (EP X pins σ Q) (fun v s'=>∃H1 s1,Inv X pins σ H1 s1/\CX1 X.prog X.w X.stack H1 s1 E v s') s:=by
 refine wpAny_Call_Name_kw (je4 I hg hm ?_ hdb);refine PySem.W.callWith_K (h₀:=X.base) I.ok.mod.kin hk (wpAny_mono (ha pos pins s σ H _ (I.wish _) h) (fun us s1 hu=>?_) fun _ _ z=>z.elim) he hpl;obtain⟨vs,H1,I1',r,q⟩:=hu;have I1:Inv X pins σ H1 s1:=I1'.unwish;refine⟨I1.kIn,?_⟩;have hl:us.length=ps.length:=by rw[<- r.length];exact F.len _ _ _ _ q
 have hb':=hb s1 us I1.kIn (by rw[j0C];exact hl);rw[j0C]at hb';refine wpAny_call (codeAny_mono (F.run X.A X.stack s1 H1 ⟨us,[]⟩ us vs Q E hr I1.env0 hb' r q) fun r s' hq=>?_)
 cases r with
 |error e=>exact⟨H1,s1,I1,hq⟩
 |ok fl=>
  cases fl with
  |ret u=>exact I1.after hq
  |next=>exact False.elim hq
  |brk=>exact False.elim hq
  |cont=>exact False.elim hq
theorem jtd {k:Nat}{ps:List Str}{sp:Sp}{E:XK}{x:Str}{p pos:Pos}{e:Expr}{es:List Expr}{t:TA}{Q:VK}(c:CalG (CX1 X.prog X.w) X.prog X.w X.K X.mg X.base k x ps sp)(hr:Room k X.A)(hg:jbj X.env.scope x=true)(ht:jq9 t)(ha:PA X.nox (e::es) t)(hst:jah (e::es)=true)(I:Inv X pins σ H s)(h:t σ H fun vs H1=>sp vs H1 Q E) :
  wpAny (model X.prog X.w) X.A (eval (.Call (.Name x p) (e::es) [] pos) X.env) (EP X pins σ Q) (fun v s'=>∃H1 s1,Inv X pins σ H1 s1/\CX1 X.prog X.w X.stack H1 s1 E v s') s:=by
 have k1:=hst;unfold jah at k1;simp only[j0Y,j0a]at k1;have gl:=jay hg;rcases c.ex with⟨f,fd,F,hm,hkp,hb⟩|⟨C,f,fd,qs,k',sp',rfl,M,F,hm,hb,q⟩
 ·exact jqz F hr gl.1 hm hkp hb ha I h gl.2.1 (jaB k1.1) (jaU k1.2)
 ·refine wpAny_Call_Name_kw (je4 I gl.1 hm ?_ gl.2.1);refine PySem.W.callWith_K (h₀:=X.base) I.ok.mod.kin M.kp (wpAny_mono (ha pos pins s σ H _ (I.wish _) h) (fun us s1 hu=>?_) fun _ _ z=>z.elim) (jaB k1.1) (jaU k1.2);obtain⟨vs,H1,I1',r,z⟩:=hu;have I1:Inv X pins σ H1 s1:=I1'.unwish;refine⟨I1.kIn,?_⟩;have hq:=q _ _ _ _ z (s1.heap.objs.size+1) s1.heap.objs.size (I1.hok.fresh (Nat.le_succ _)) (I1.hok.fresh (j0l _)) (j0m (j0W _));have I2:=Inv.made (C:=C) I1;have r2:jaO (V.ref (s1.heap.objs.size+1)::vs) (Value.ref (s1.heap.objs.size+1)::us):=.cons rfl r;have hl:(Value.ref (s1.heap.objs.size+1)::us++[]).length=qs.length:=by
   have e:=r2.length;rw[F.len _ _ _ _ hq]at e;rw[j0C];exact e.symm
  have hb2:=hb _ (Value.ref (s1.heap.objs.size+1)::us) I2.kIn hl;rw[j0C]at hb2;refine wpAny_call (jmi (f:=f) I1.kIn M.makes M.init (beq_iff_eq.mp M.fn) (codeAny_mono (F.run _ X.stack _ _ ⟨Value.ref (s1.heap.objs.size+1)::us,[]⟩ _ _ _ E (hr.make C us []) (I2.env0.make C us []) hb2 r2 hq) fun r s' hq'=>?_))
  cases r with
  |error e=>exact⟨_,_,I2,hq'⟩
  |ok fl=>
   cases fl with
   |ret u=>
    obtain⟨v,H',I3,rv,ev,q3⟩:=I2.after hq';subst ev;exact⟨rv,⟨V.ref (s1.heap.objs.size+1),H',I3,rfl,q3⟩⟩
   |next=>exact False.elim hq'
   |brk=>exact False.elim hq'
   |cont=>exact False.elim hq'
theorem jo7 {C T:Addr}{i:Nat}{x n:Str}{np hpos:Pos}{b₀:Stmt}{suite:List Stmt}{ts:TS}{Q:Flow->Shared->Prop}{E:Value->Shared->Prop}(I:Inv X pins σ H s)(fl:Fly X.prog X.w X.stack H s B a0 a (.ref C) H' s')
  (hstk:X.stack=X.env::X.outer) (hfr:X.env.frame=some X.env.locals) (hN:X.N.Nodup) (hi:X.N[i]?=some n) (hn:X.env.scope.names.lookup n=some .local) (hg:Gl X x) (hm:X.mg x=some (.ref T)) (hx:PySem.W.exmOne X.K (.ref C) (.ref T)=some true)
  {W:St->Hp->Prop} (hs:∀oe:Obj,oe.cls=.ref C->PSs (X.hand a oe) (b₀::suite) ts) (hW:∀oe:Obj,oe.cls=.ref C->∀σ' H'' s4,Inv (X.pind a oe) pins σ' H'' s4->W σ' H''->Q .next s4)
  (ht:ts {nx:=fun σ' H''=>W (σ'.set i none) H'',rt:=fun _ _=>False} (σ.set i (some (.ref a))) H')
  (hdb:(x==("__debug__" : Str))=false:=by decide) :
  wpAny (model X.prog X.w) X.A (noteFrame (.ref a) X.env) (fun _ s₂=>wpAny (model X.prog X.w) X.A (setFlight (.ref a) none) (fun _ s₃=>
   wpAny (model X.prog X.w) X.A (handleBy (.ref a) X.env [.ExceptHandler (some (.Name x np)) (some n) (b₀::suite) hpos]) Q E s₃) E s₂) E s':=by
 have hfl:=fl.fly;have nff:∀b o,s.heap.get? b=some o->b∈frs X.stack->∀vs,o.data≠.fields vs:=fun b o e hb=>by
  obtain⟨_,o',q',nf⟩:=I.stack.mem hb;rw[e]at q';cases q';exact nf
 have hA:X.A.frames=some (X.env::X.outer):=by rw[I.ok.frames,hstk]
 rw[hstk]at hfl;refine wpAny_looks_onW hA hfr hfl fun h4 held4 sm4=>?_;refine wpAny_landsW held4 fun h5 fly5 sm5=>?_;rw[<- hstk]at fly5;have f5:=fl.later nff fly5 (sm4.trans sm5);have I5:=f5.inv I;have inB:∀b,B.get? b=none->H' b=none:=fun b hb=>by
  cases q:H' b with
  |none=>rfl
  |some o=>
   obtain⟨u,e⟩:=(fl.hok b o q).here;rw[hb]at e;cases e
 have hand:∀{h:Heap},Heap.FlyingW B X.stack a (.ref C) a0 h->Inv X pins σ H' {s' with heap:=h}->∃oe,oe.cls=.ref C/\h.get? a=some oe/\Inv (X.hand a oe) pins σ H' {s' with heap:=h}:=fun {h} ff II=>by
  obtain⟨oe,vs,he,hc,hd,_⟩:=ff.first;refine⟨oe,hc,he,II.hand he (inB a ff.2.1) ?_ ?_ fun v q=>?_⟩
  ·intro z;obtain⟨m,hns,_⟩:=II.loc;obtain⟨oL,_,_,hoL,hdL,_⟩:=hns;rw[<- z]at hoL;have:=j0H (he.symm.trans hoL);rw[<- this,hd]at hdL;cases hdL
  ·intro z;have hz:a∈frs X.stack:=by rw[hstk];exact(show a∈frs (X.env::X.outer)from by unfold frs;rw[j08,hfr];exact .tail _ z)
   obtain⟨_,o',q',nf⟩:=II.stack.mem hz;have:=j0H (he.symm.trans q');rw[<- this]at nf;exact nf vs hd
  ·rw[hd]at q;cases q
 obtain⟨oe5,hc5,he5,J5⟩:=hand fly5 I5;refine wpAny_handleBy_cons (codeAny_handlers_test ?_) (by intro q;cases q);refine je4 J5 hg hm ?_ hdb;refine(PySem.W.exm_one J5.kIn (jee he5 hc5) hx).here ?_;show codeAny (model X.prog X.w) (X.A.mark (some (.ref a))) (.handlers (.ref a) [.ExceptHandler none (some n) (b₀::suite) hpos] X.env) _ _;refine codeAny_handlers_suite_as ?_;refine lands_againW fly5 fun h6 fly6 sm6=>?_;have f6:=f5.later nff fly6 sm6;have I6:=f6.inv I;obtain⟨oe6,hc6,he6,J6⟩:=hand fly6 I6;refine jfz (X:=X.hand a oe6) (v:=.ref a) J6 hN hi (.inl hn) rfl (fun s7 J7=>?_) (.inr hn);refine wpAny_mono (hs oe6 hc6 pins s7 _ _ _ J7 ht) (fun f s8 h8=>?_) fun _ _ z=>z.elim
 cases f with
 |next=>
  obtain⟨σ',H'',J8,q⟩:=h8;have I8:=J8.unhand I.ok;obtain⟨m,hns,hl⟩:=I8.loc;refine wpAny_nameGoes_keeps hn hns (by rw[I.ok.kind];rfl) fun h' v hn' hsame=>?_;exact hW oe6 hc6 _ _ _ (I8.unbound hN hi hns hl hn' hsame) q
 |brk=>obtain⟨_,_,_,z⟩:=h8;exact z.elim
 |cont=>obtain⟨_,_,_,z⟩:=h8;exact z.elim
 |ret u=>obtain⟨_,_,_,_,_,z⟩:=h8;exact z.elim
theorem jp3 {k:Nat}{ps:List Str}{sp:Sp}{g x n:Str}{T:Addr}{i:Nat}{p cpos epos np hpos pos:Pos}{e:Expr}{es:List Expr}{t:TA}{b₀:Stmt}{suite rest:List Stmt}{PC:Addr->Prop}{ts tr:Addr->Addr->TS}
  (c:CalG (CX1 X.prog X.w) X.prog X.w X.K X.mg X.base k g ps sp) (hr:Room k X.A) (hgg:jbj X.env.scope g=true) (ht:jq9 t) (ha:PA X.nox (e::es) t) (hst:jah (e::es)=true)
  (hstk:X.stack=X.env::X.outer) (hfr:X.env.frame=some X.env.locals) (hN:X.N.Nodup) (hi:X.N[i]?=some n) (hn:X.env.scope.names.lookup n=some .local) (hg:jbj X.env.scope x=true) (hm:X.mg x=some (.ref T))
  (hs:∀(C a:Addr) (oe:Obj),PC C->oe.cls=.ref C->PSs (X.hand a oe) (b₀::suite) (ts C a)) (hre:∀(C a:Addr) (oe:Obj),PC C->oe.cls=.ref C->PSs (X.pind a oe) rest (tr C a)) :
  PSs X (.Try [.Expr (.Call (.Name g p) (e::es) [] cpos) epos] [.ExceptHandler (some (.Name x np)) (some n) (b₀::suite) hpos] [] [] pos::rest)
   (fun D σ H=>t σ H fun vs H1=>sp vs H1 (fun _ _=>False) (fun cls _ H'=>∃C,cls=.ref C/\PC C/\PySem.W.exmOne X.K (.ref C) (.ref T)=some true /\
    ∀a,ts C a {nx:=fun σ' H''=>tr C a D (σ'.set i none) H'',rt:=fun _ _=>False} (σ.set i (some (.ref a))) H')):=by
 intro pins s σ H D I h;have hq:interactive X.env=false:=I.quiet;refine wpAny_execs_cons (wpAny_Try_except (wpAny_execs_cons (wpAny_Expr_any (wpAny_mono (jtd c hr hgg ht ha hst I h) (fun v s1 h1=>?_) fun v s' h1=>?_) hq (jbg rfl))))
 ·obtain⟨x1,H1,I1,_,q⟩:=h1;exact q.elim
 ·obtain⟨H1,s1,I1,B,a0,a,C,H',rfl,fl,C',hC,hP,hx,hw⟩:=h1;cases hC;exact jo7 (W:=tr C a D) I1 fl hstk hfr hN hi hn (jay hg).1 hm hx (fun oe hc=>hs C a oe hP hc) (fun oe hc σ' H'' s4 I4 q=>wpAny_mono (hre C a oe hP hc pins s4 σ' H'' D I4 q) (fun f s5 h5=>h5.unpin I.ok) fun _ _ z=>z) (hw a) (jay hg).2.1
end
noncomputable def KP:List Str->List Value->List (Value×Value)->Prop
 |[],[],[]=>True
 |k::ks,u::us,(kv,v)::r=>(∃t,kv=.str k t)/\v=u/\KP ks us r
 |_,_,_=>False
theorem KP.len:∀{ks:List Str} {us:List Value} {r:List (Value×Value)},KP ks us r->us.length=ks.length
 |[],[],[],_=>rfl
 |k::ks,u::us,(kv,v)::r,h=>congrArg Nat.succ (KP.len h.2.2)
 |[],[],_::_,h=>h.elim
 |[],_::_,_,h=>h.elim
 |_::_,[],_,h=>h.elim
 |_::_,_::_,[],h=>h.elim
section
variable {X:Cx}
end
end _L2
namespace HT
open PySem PySem.Spec PyProof.Rows
section
variable {prog:Program} {w:World} {A:Around} {E:Value->Shared->Prop} {s:Shared}
theorem cat_none {t b:Addr}{ws:List Value}{Q:Value->Shared->Prop}(ht:IsTup s.heap t ([]:List Value).toArray)(hb:IsTup s.heap b ws.toArray)(h:Q (.ref b) s):wpAny (model prog w) A (binaryOp .Add (.ref t) (.ref b)) Q E s:=by
 obtain⟨⟨cls,dd,data,sl⟩,ho,hc,n,hd⟩:=id ht;obtain⟨⟨cls2,dd2,data2,sl2⟩,ho2,hc2,n2,hd2⟩:=id hb;simp only at hc hd hc2 hd2;subst hc hd hc2 hd2;exact concat_meets ⟨_,ho,rfl⟩ ⟨_,ho2,rfl⟩ noFill_tuple_add seq_tuple_add PySem.F.slot_tuple_add PySem.F.entry_tuple_add (PySem.F.args_tuple_add_2 _ _)
   (tuple_addW0 t b ([]:List Value).toArray ws.toArray n n2 dd dd2 sl sl2 rfl) ⟨ho,ho2,h⟩
theorem getItem_whole {t sl:Addr}{items:Array Value}{vl vu:Value}{lo hi:Option Int}{Q:Value->Shared->Prop}(ht:IsTup s.heap t items)(hs:s.heap.IsSliceOf sl vl vu .none)(pl:IsPart vl lo)(pu:IsPart vu hi)
  (hw:sIx items.size 0 lo=0/\sIx items.size items.size hi=items.size) (h:Q (.ref t) s):wpAny (model prog w) A (getItem (.ref t) (.ref sl)) Q E s:=by
 obtain⟨os,hos,hcs,hds⟩:=id hs;have hTs:s.TypeIs (.ref sl) "slice":=⟨os,hos,hcs⟩;unfold getItem
 try with_reducible refine wpAny_holding ?_
 first|refine wpAny_bind (wpAny_pure ?_)|skip
 refine wpAny_bind (wpAny_sequenceKey ht.typeIs (by decide) ?_);refine wpAny_bind (wpAny_callSpecial?_slot (name:=Str.ofString "__getitem__") ht.typeIs j1a
  (wpAny_call_entry j1a ht.typeIs entry_tuple_getitem ?_ (args_tuple_getitem _ _)))
 show wpAny _ _ (Builtin.Tuple.tupleItemsOf (.ref t) >>=_) _ _ s;refine wpAny_bind (tupleItemsOf_ ht ?_);refine wpAny_bind (wpAny_typeOf hTs ?_);rw[if_pos (by decide)];refine wpAny_bind (jdR hs pl pu ?_);have hyes:(((sIx items.size 0 lo:Nat):Int)==0&&(1:Int)==1&&(sIx items.size items.size hi - sIx items.size 0 lo)==items.size)=true:=by
  rw[hw.1,hw.2];simp
 show wpAny _ _ (if(((sIx items.size 0 lo:Nat):Int)==0&&(1:Int)==1&&(sIx items.size items.size hi - sIx items.size 0 lo)==items.size)=true then _ else _) _ _ s;rw[if_pos hyes];have hT:=ht.typeIs;unfold Builtin.Tuple.tupleIsExact;refine wpAny_bind (wpAny_bind (wpAny_typeOf hT (wpAny_pure ?_)));rw[if_pos (by decide)]
 first
  |exact wpAny_bind (wpAny_rule (wpAny_pure ⟨_,rfl,wpAny_pure h⟩))
  |exact wpAny_bind (wpAny_pure (wpAny_pure ⟨_,rfl,wpAny_pure h⟩))
end
end HT
namespace _L2
open PySem PySem.Spec PyProof.Rows
section
variable {X:Cx}
def jyj (K:PySem.W.Frag):R2:=fun x y H Q=>∃a b ys,x=.ref a/\y=.ref b/\SqT K H a []/\SqT K H b ys/\Q (.ref b) H
theorem jue:OpR X (binaryOp .Add) (jyj X.K):=by
 intro pins s σ H x y v u Q I rx ry h;obtain⟨a,b,ys,rfl,rfl,ha,hb,q⟩:=h;cases rx;cases ry;obtain⟨its,r1,p1,_⟩:=I.tuple ha;obtain⟨its2,r2,p2,_⟩:=I.tuple hb;cases r1;exact HT.cat_none p1 p2 ⟨.ref b,H,I,rfl,q⟩
noncomputable def jAs (K:PySem.W.Frag):V->Option Int->Option Int->Hp->VK->Prop:=fun x lo hi H Q=>∃a xs,x=.ref a/\SqT K H a xs/\(HT.sIx xs.length 0 lo=0/\HT.sIx xs.length xs.length hi=xs.length)/\Q (.ref a) H
theorem jqa:SlR X (jAs X.K):=by
 intro pins s σ H x v vl vu lo hi sl Q I rx hs pl pu h;obtain⟨a,xs,rfl,hx,hw,q⟩:=h;cases rx;obtain⟨its,r,ht,hz⟩:=I.tuple hx;have hlen:its.toArray.size=xs.length:=by rw[j0j];exact r.length.symm
 refine⟨"tuple",_,PyProof.Rows.slot_tuple_getitem.lookup,ht.typeIs,?_⟩;exact HT.getItem_whole ht hs pl pu (by rw[hlen];exact hw) ⟨.ref a,H,I,rfl,q⟩
end
theorem jek {α β:Type}{F:α->β->Prop}:∀{xs:List α} {ys:List β},xs.length=ys.length->(∀(i:Nat) (a:α) (b:β),xs[i]?=some a->ys[i]?=some b->F a b)->Paired F xs ys
 |[],[],_,_=>.nil
 |[],_::_,h,_=>by cases h
 |_::_,[],h,_=>by cases h
 |a::xs,b::ys,h,k=>.cons (k 0 a b rfl rfl) (jek (by simpa using h) fun i a b h1 h2=>k (i+1) a b (by simpa using h1) (by simpa using h2))
section
variable {X:Cx}
def jzG (neg:Bool):R2:=fun x y H Q=>∃i j,x=.str i/\y=.str j/\Q (.bl (if neg then !Txt.contains j i else Txt.contains j i)) H
theorem jwV:OpR X (compareOp .In) (jzG false):=by
 intro pins s σ H x y v u Q I rx ry h;obtain⟨i,j,rfl,rfl,q⟩:=h;obtain⟨t,rfl⟩:=rx;obtain⟨t',rfl⟩:=ry;exact PySem.P.in_str ⟨.bl _,H,I,rfl,q⟩
theorem jux:OpR X (compareOp .NotIn) (jzG true):=by
 intro pins s σ H x y v u Q I rx ry h;obtain⟨i,j,rfl,rfl,q⟩:=h;obtain⟨t,rfl⟩:=rx;obtain⟨t',rfl⟩:=ry;exact PySem.P.notIn_str ⟨.bl _,H,I,rfl,q⟩
def jxB (K:PySem.W.Frag):R2:=fun x y H Q=>∃a xs k,x=.ref a/\y=.int k/\SqL K H a xs/\xs≠[]/\xs.length<=1000/\0<=k/\k<1000/\∀p,H p=none->Q (.ref p) (upd H p (.lst (List.replicate k.toNat xs).flatten))
theorem juo:OpR X (binaryOp .Mult) (jxB X.K):=by
 intro pins s σ H x y v u Q I rx ry h;obtain⟨a,xs,k,rfl,rfl,ha,hne,hl,h1,h2,q⟩:=h;cases rx;obtain⟨t,rfl⟩:=ry;obtain⟨its,r,pl,z⟩:=I.list ha;have hlen:=r.length;obtain⟨⟨cls,dd,data,sl⟩,n,ho,hc,_,hd⟩:=pl;simp only at hc hd;subst hc hd;have hT:s.TypeIs (.ref a) "list":=⟨_,ho,rfl⟩;have hm:its.length*k.toNat<=1000*1000:=Nat.mul_le_mul (by rw[<- hlen];exact hl) (by omega);have hm2:its.toArray.size*k.toNat<=1000*1000:=by rw[j0j];exact hm
 have hem:its.toArray.isEmpty=false:=by
  cases its with
  |nil=>exact absurd (r.nil_iff.mp rfl) hne
  |cons _ _=>rfl
 refine wpAny_binaryOp_repeat_ref (T:="list") (U:="int") (by decide) hT (fun s'=>typeIs_int s' k t) noFill_list_mul PySem.F.fills_int_mul PySem.F.slot_int_rmul repeat_list PySem.F.slot_int_index.lookup
  (call_meets PySem.F.slot_int_rmul (typeIs_int s k t) PySem.F.entry_int_rmul (PySem.F.args_int_rmul_2 _ _) (lm_int_rmul_list_any k t a its.toArray n dd sl) ⟨ho,rfl,hT,
   call_meets PySem.F.slot_list_mul hT PySem.F.entry_list_mul (PySem.F.args_list_mul_2 _ _) (lm_list_mul_any a its.toArray n dd sl k t (by simp[Builtin.List.listFitsIndex];omega) (by omega) (by simp[Builtin.List.listTooLong,sizeLine];omega)) ⟨ho,?_⟩⟩)
 have e:=_L2.foldl_rep its k.toNat [];rw[j1f]at e;replace e:(List.foldl (fun x1 x2=>x1++x2) #[] (List.replicate k.toNat its.toArray))=(List.replicate k.toNat its).flatten.toArray:=e;rw[if_neg (by rw[hem];exact j0i),e];refine⟨.ref s.heap.objs.size,_,I.laid (t':=s.toks) (o:=.lst (List.replicate k.toNat xs).flatten) (fun b ob q=>j0c _ q) (j0l _) ?_,rfl,q _ (I.hok.fresh (j0l _))⟩;refine⟨?_,_,0,r.rep k.toNat,j0n _ rfl⟩;rw[juz,sizeLine_eq];have h4:k.toNat*xs.length<=1000*1000:=Nat.mul_le_mul (by omega) hl;omega
theorem jnn (hc:X.calm=true):jbx X (.type "list") (fun xs H Q=>∃z:Str,xs=[.str z]/\z.cps.size<=1000/\∀l,H l=none->Q (.ref l) (upd H l (.lst (z.cps.toList.map fun c=>V.str ⟨#[c]⟩)))):=by
 intro pins s σ H xs us Q I r h;obtain⟨z,rfl,hz,q⟩:=h;obtain⟨u,rfl,t,rfl⟩:=r.one;refine call_list_str (I.ok.hd hc) z t (fun h' tk acc c' k g it=>?_) (by rw[sizeLine_eq];omega);obtain⟨ez,ei⟩:=it;refine⟨.ref s.heap.objs.size,_,I.laid (o:=.lst (z.cps.toList.map fun c=>V.str ⟨#[c]⟩)) (fun b o g'=>k b o g') (j0l _) ⟨?_,acc.toList,c',?_,by rw[Array.toArray_toList];exact g⟩,rfl,q _ (I.hok.fresh (j0l _))⟩
 ·rw[j0f,j0t,sizeLine_eq];omega
 ·refine jek (by rw[j0f,j0t,j0t,ez]) fun i x v h1 h2=>?_;obtain⟨c,u,e1,rfl⟩:=ei i v (by simpa using h2);rw[j0X,Array.getElem?_toList,e1]at h1;cases h1;exact⟨u,rfl⟩
end
noncomputable def sTy:Bool->String
 |false=>"list"
 |true=>"tuple"
def sEx (b:Bool)(h:Heap)(l:Addr)(xs:Array Value):Prop:=∃n,h.get? l=some {cls:=.type (sTy b),data:=.seq xs n}
theorem sEx.at {b:Bool}{h:Heap}{l:Addr}{xs:Array Value}(x:sEx b h l xs):sAt b h l xs:=by
 obtain⟨n,e⟩:=x;cases b<;>exact⟨_,e,rfl,n,rfl⟩
theorem sEx.keep {b:Bool}{h h':Heap}{l:Addr}{xs:Array Value}(x:sEx b h l xs)(k:∀o,h.get? l=some o->h'.get? l=some o):sEx b h' l xs:=
 let⟨n,e⟩:=x;⟨n,k _ e⟩
theorem jnO:typeLookup (.type "list") "keys" =pure none:=am_miss_of_fast (by kernel_rfl)
theorem jmY:typeLookup (.type "tuple") "keys" =pure none:=am_miss_of_fast (by kernel_rfl)
section
variable {prog:Program} {w:World} {A:Around} {E:Value->Shared->Prop} {s:Shared} {b:Bool} {l:Addr} {xs:Array Value}
theorem jpb {n:Nat}{u:Tok}{Q:PySem.Fin->Shared->Prop}(e:s.heap.get? l=some {cls:=.type (sTy b),data:=.seq xs n})(hh:A.handled=none)
  (q:∀h' tk e,Heap.NewAttrErr s.heap h' e (.ref l) "keys"->E (.ref e) {s with heap:=h',toks:=tk}):wpAny (model prog w) A (Builtin.«object.__getattribute__» ⟨[.ref l,.str "keys" u],[]⟩) Q E s:=by
 obtain⟨hp,g,d,tk,os⟩:=s;cases b
 ·have hT:(⟨hp,g,d,tk,os⟩:Shared).TypeIs (.ref l) "list":=⟨_,e,rfl⟩;have f1:=jnO;unfold Builtin.«object.__getattribute__»;wp_walk;exact wpAny_raiseAttrError hh q (attrMsg_fits (by decide +kernel) (by size_fits))
 ·have hT:(⟨hp,g,d,tk,os⟩:Shared).TypeIs (.ref l) "tuple":=⟨_,e,rfl⟩;have f1:=jmY;unfold Builtin.«object.__getattribute__»;wp_walk;exact wpAny_raiseAttrError hh q (attrMsg_fits (by decide +kernel) (by size_fits))
theorem jnT {Q:Option Value->Shared->Prop}(hl:sEx b s.heap l xs)(hh:A.handled=none)
  (q:∀h' tk,(∀c o,s.heap.get? c=some o->h'.get? c=some o)->Q none {s with heap:=h',toks:=tk}):wpAny (model prog w) A (getAttr? (.ref l) "keys") Q E s:=by
 obtain⟨n,e⟩:=hl;obtain⟨hp,g,d,tk,os⟩:=s;have e1:=sub_AttributeError;cases b
 ·have t0:(⟨hp,g,d,tk,os⟩:Shared).TypeIs (.ref l) "list":=⟨_,e,rfl⟩;have t1:(⟨hp,g,d,tk+1,os⟩:Shared).TypeIs (.ref l) "list":=⟨_,e,rfl⟩;have e2:=F.slot_list_getattribute.lookup;have e3:=F.slot_list_getattribute.bind (.ref l);have e4:=am_list_getattr_none;unfold getAttr? getAttrBy? getAttrBy;wp_walk;refine codeAny_call_builtin F.slot_list_getattribute.plain am_entry_list_getattribute (F.slot_list_getattribute.check _ _ _ _ _ _ _ _ t1 (F.args_list_getattribute_2 _ _) (jpb (s:=⟨hp,g,d,tk+1,os⟩) (b:=false) e (by simp[hh]) fun h' tk' x ne=>?_));obtain⟨t',u',he⟩:=ne.there;change wpAny _ _ (getattributeRaised _ _ _ _ _ _ _) _ _ _;unfold getattributeRaised hookOrError hookBehind attributeErrorLeaves;wp_walk;exact q _ _ ne.keeps
 ·have t0:(⟨hp,g,d,tk,os⟩:Shared).TypeIs (.ref l) "tuple":=⟨_,e,rfl⟩;have t1:(⟨hp,g,d,tk+1,os⟩:Shared).TypeIs (.ref l) "tuple":=⟨_,e,rfl⟩;have e2:=F.slot_tuple_getattribute.lookup;have e3:=F.slot_tuple_getattribute.bind (.ref l);have e4:=am_tuple_getattr_none;unfold getAttr? getAttrBy? getAttrBy;wp_walk;refine codeAny_call_builtin F.slot_tuple_getattribute.plain am_entry_tuple_getattribute (F.slot_tuple_getattribute.check _ _ _ _ _ _ _ _ t1 (F.args_tuple_getattribute_2 _ _) (jpb (s:=⟨hp,g,d,tk+1,os⟩) (b:=true) e (by simp[hh]) fun h' tk' x ne=>?_));obtain⟨t',u',he⟩:=ne.there;change wpAny _ _ (getattributeRaised _ _ _ _ _ _ _) _ _ _;unfold getattributeRaised hookOrError hookBehind attributeErrorLeaves;wp_walk;exact q _ _ ne.keeps
end
def jnz (h:Heap)(T:Addr)(x y:Value):Prop:=∃n,h.get? T=some {cls:=.type "tuple",data:=.seq #[x,y] n}
structure LayK (P:Program) (W:World) (b:Bool) (l:Addr) (its:List Value) where
 pre:Heap->Prop
 St:Addr->Nat->Heap->Prop
 keep:∀h h',pre h->(∀c o,h.get? c=some o->h'.get? c=some o)->pre h'
 zero:∀D h,h.DictOf (jan P W) D []->h.get? D=some {cls:=.type "dict",data:=.dict #[]}->pre h->St D 0 h
 stay:∀D it j h h',D≠it->iAt b h it l j->St D j h->(∀c o,c≠it->h.get? c=some o->h'.get? c=some o)->St D j h'
 pair:∀D j v h,its[j]?=some v->St D j h->∃T x y,v=.ref T/\jnz h T x y
 set:∀(A:Around) (E:Value->Shared->Prop) D j T x y (t:Shared) (Q:Unit->Shared->Prop),A.units<cLine->its[j]?=some (.ref T)->jnz t.heap T x y->St D j t.heap->(∀g tk,Heap.SameBut D t.heap g->St D (j+1) g->Q () {t with heap:=g,toks:=tk})->wpAny (model P W) A (dictSet D x y) Q E t
section
variable {P:Program} {W:World} {B:Around} {E:Value->Shared->Prop} {s:Shared} {l:Addr} {its:List Value} {b:Bool}
theorem jno {R:Result->Shared->Prop}(K:LayK P W b l its){D it:Addr}(hh:B.handled=none)(hu:B.units+1<cLine)(hD:D≠it)(hDl:D≠l)(hl:l≠it)(left:Nat) :
  ∀(j:Nat) (z:Int) (t:Shared),its.length - j=left->j<=its.length->iAt b t.heap it l j->sAt b t.heap l its.toArray->K.St D j t.heap ->
   (∀g tk,(∀c o,c≠D->c≠it->t.heap.get? c=some o->g.get? c=some o)->K.St D its.length g->R (.ok (.ret .none)) {t with heap:=g,toks:=tk}) ->
   codeAny (model P W) B (.builtin "dict.update.loop" ⟨[.ref D,.ref it,rawInt z,.none],[]⟩) R t:=by
 have Wk:=jo5 (P:=P) (W:=W) (B:=B.in1) (b:=b) (by simp[hh]) it l hl its.toArray;have nw:∀{c:Addr},c≠it->c∉[it]:=fun h=>by simpa using h
 induction left with
 |zero=>
  intro j z t he hj hi hs lies fin;obtain rfl:j=its.length:=by omega
  refine codeAny_builtin jjK ?_;rw[Around.under_plainId jfh _];refine(wpAny_bind (Wk.done t _ _ ⟨by simpa using hi,hs⟩ fun g tk kp=>?_):wpAny _ B.in1 (pyNext (.ref it) >>=_) _ _ t);change wpAny _ B.in1 (Builtin.Dict.addKeywords D [] >>=_) _ _ _;exact wpAny_bind (wpAny_pure (wpAny_pure (fin g tk (fun c o _ h e=>kp c o (nw h) e) (K.stay D it _ _ _ hD hi lies fun c o h e=>kp c o (nw h) e))))
 |succ left ih=>
  intro j z t he hj hi hs lies fin;refine codeAny_builtin jjK ?_;rw[Around.under_plainId jfh _];refine(wpAny_bind (Wk.item j t _ _ (by simp;omega) ⟨hi,hs⟩ fun v g1 tk1 hv here1 kp1=>?_):wpAny _ B.in1 (pyNext (.ref it) >>=_) _ _ t);have hv':its[j]?=some v:=by simpa using hv
  have lies1:=K.stay D it _ _ g1 hD hi lies fun c o h e=>kp1 c o (nw h) e;obtain⟨T,x,y,rfl,n,hT⟩:=K.pair D j v g1 hv' lies1;change wpAny _ B.in1 (holding [Value.ref T] _ >>=_) _ _ _;refine wpAny_bind (wpAny_holding ?_);have prs:wpAny (model P W) B.in1 (Builtin.Dict.pairItems (.ref T)) (fun r s'=>r=[x,y]/\s'={t with heap:=g1,toks:=tk1}) (fun _ _=>False) {t with heap:=g1,toks:=tk1}:=by
   unfold Builtin.Dict.pairItems;refine wpAny_bind (wpAny_typeOf (T:="tuple") ⟨_,hT,rfl⟩ ?_);rw[if_pos (by decide)];exact wpAny_bind (wpAny_seqItems hT rfl (wpAny_pure ⟨rfl,rfl⟩))
  refine wpAny_bind (wpAny_tryCatch (wpAny_mono prs (fun r s' hr=>?_) fun _ _ h=>h.elim));obtain⟨rfl,rfl⟩:=hr;change wpAny _ B.in1 (holding [x,y] (dictSet D x y)) _ _ _;refine wpAny_holding (K.set _ _ D j T x y _ _ (by simp;omega) hv' ⟨n,hT⟩ lies1 fun g2 tk2 only lies2=>?_);have h2:=Wk.frame _ _ g2 here1 fun c hc o e=>(only.2 c fun q=>by
   simp only[j0d,j0J,or_false]at hc;rcases hc with rfl|rfl
   ·exact hD q.symm
   ·exact hDl q.symm).trans e
  exact wpAny_pure ⟨plainId_quiet jfh _,ih (j+1) (z+1) _ (by omega) (by omega) h2.1 h2.2 lies2 fun g tk kp lies4=>fin g tk (fun c o nd nw' e=>kp c o nd nw' ((only.2 c nd).trans (kp1 c o (nw nw') e))) lies4⟩
theorem jha {Q:Value->Shared->Prop}(K:LayK P W b l its)(hh:B.handled=none)(hu:B.units+12<cLine)(hl:sEx b s.heap l its.toArray)(hp:K.pre s.heap)
  (k:∀(g:Heap) (tk:Nat),K.St s.heap.objs.size its.length g->(∀c o,s.heap.get? c=some o->g.get? c=some o)->Q (.ref s.heap.objs.size) {s with heap:=g,toks:=tk}) :
  wpAny (model P W) B (call (.type "dict") [.ref l]) Q E s:=by
 refine callType_codes (Q₁:=fun x s1=>x=.ref s.heap.objs.size/\s1={s with heap:=s.heap.push {cls:=.type "dict",data:=.dict #[]}}) F.kt_called_dict (F.kt_typeCall_dict_1 _) F.entry_dict_init (kt_code_dict_new _ ⟨rfl,rfl⟩) ?_;rintro x s1' ⟨rfl,rfl⟩;have hnew:(s.heap.push {cls:=.type "dict",data:=.dict #[]}).DictOf (jan P W) s.heap.objs.size []:=Heap.DictOf.new s.heap;have hobj:(s.heap.push {cls:=.type "dict",data:=.dict #[]}).get? s.heap.objs.size=some {cls:=.type "dict",data:=.dict #[]}:=j0n _ rfl;have up:∀c o,s.heap.get? c=some o->(s.heap.push {cls:=.type "dict",data:=.dict #[]}).get? c=some o:=fun c o e=>j0c _ e;have sz:(s.heap.push {cls:=.type "dict",data:=.dict #[]}).objs.size=s.heap.objs.size+1:=Heap.size_push _ _;refine⟨hnew.typeIs,F.args_dict_init_2 _ _,?_⟩;generalize s.heap.push {cls:=.type "dict",data:=.dict #[]}=hA at hnew up hobj sz;have ne:∀{c:Addr} {o:Obj},s.heap.get? c=some o->c≠s.heap.objs.size:=fun e=>j0m (j0g e);have hlA:=hl.keep fun o e=>up _ _ e;unfold Builtin.«dict.__init__»;refine wpAny_bind ?_;unfold Builtin.Dict.selfAndRest;refine wpAny_bind (wpAny_notOrdered_dict hnew.typeIs (wpAny_pure ?_));change wpAny _ _ (Builtin.Dict.updateFrom "dict.__init__" s.heap.objs.size (.ref l) [] .none) _ _ _;unfold Builtin.Dict.updateFrom;obtain⟨o1,e1⟩:=hl.at.obj;have ty:Shared.TypeIs {s with heap:=hA} (.ref l) (sTy b):=let⟨n,e⟩:=hlA;⟨_,e,rfl⟩;refine wpAny_bind (wpAny_typeOf ty ?_);rw[if_pos (by cases b<;>decide)];refine wpAny_bind (jnT (s:={s with heap:=hA}) hlA (by simp[hh]) fun hB tk kB=>?_);rw[if_pos (show(none:Option Value).isNone=true from rfl)];have upB:∀c o,s.heap.get? c=some o->hB.get? c=some o:=fun c o e=>kB _ _ (up _ _ e);refine wpAny_bind (wpAny_rule (wpAny_bind (jlK (s:={s with heap:=hB,toks:=tk}) (hlA.keep fun o e=>kB _ _ e).at ?_)));have hlt:l<s.heap.objs.size:=j0g e1;have hsB:s.heap.objs.size<hB.objs.size:=j0g (kB _ _ hobj);have upC:∀c o,hB.get? c=some o->(hB.push (jit b l)).get? c=some o:=fun c o e=>j0c _ e;refine wpAny_pure ⟨plainId_quiet jfh _,jno (B:=B.in1) K (by simp[hh]) (by simp;omega) (j0m hsB) (ne e1).symm (j0m (Nat.lt_trans hlt hsB)) its.length 0 0 _ rfl (j1r _) (jio (j0n _ rfl)) (sAt.keep hl.at fun o e=>upC _ _ (upB _ _ e)) (K.zero _ _ (hnew.at fun o e=>upC _ _ (kB _ _ e)) (upC _ _ (kB _ _ hobj)) (K.keep _ _ hp fun c o e=>upC _ _ (upB _ _ e))) fun g tk' kp q=>⟨rfl,k g tk' q fun c o e=>kp c o (ne e) (j0m (Nat.lt_trans (j0g e) hsB)) (upC _ _ (upB _ _ e))⟩⟩
theorem jnz.keep {h h':Heap}{T:Addr}{x y:Value}(p:jnz h T x y)(k:∀o,(∃it n,o.data=.seq it n)->h.get? T=some o->h'.get? T=some o):jnz h' T x y:=
 let⟨n,e⟩:=p;⟨n,k _ ⟨_,_,rfl⟩ e⟩
theorem jjw {h:Heap}{it c:Addr}{j:Nat}{o:Obj}(hi:iAt b h it l j)(e:h.get? c=some o)(d:∃it n,o.data=.seq it n):c≠it:=fun z=>by
 subst z;obtain⟨y,q,e1,e2⟩:=jh6 hi;obtain⟨_,_,d⟩:=d;rw[e]at e1;cases e1;rw[d]at e2;cases e2
theorem jja {h:Heap}{D c:Addr}{o o':Obj}{es:Array DictEntry}{ep:Nat}(hD:h.get? D=some o')(hd:o'.data=.dict es ep)(e:h.get? c=some o)(d:∃it n,o.data=.seq it n):c≠D:=fun z=>by
 subst z;obtain⟨_,_,d⟩:=d;rw[e]at hD;cases hD;rw[d]at hd;cases hd
theorem jlE {α β:Type}{ws:List (α×β)}{j:Nat}{k:α}{y:β}(hn:(ws.map (·.1)).Nodup)(h:ws[j]?=some (k,y)):k∉(ws.take j).map (·.1):=fun hm=>by
 obtain⟨⟨k',y'⟩,hp,e⟩:=j0x.mp hm;obtain⟨i,hi⟩:=List.mem_iff_getElem?.mp hp;rw[List.getElem?_take]at hi;split at hi
 ·rename_i hlt;have h1:(ws.map (·.1))[i]?=some k:=by rw[j0X,hi];exact congrArg some e
  have h2:(ws.map (·.1))[j]?=some k:=by rw[j0X,h];rfl
  have:=(List.getElem?_inj (i:=i) (j:=j) (j0e.mp h1).1 hn).mp (h1.trans h2.symm);omega
 ·cases hi
noncomputable def jBg (its:List Value)(ws:List (Key×Value))(hl:its.length=ws.length)(hn:(ws.map (·.1)).Nodup)(hz:ws.length<=1000):LayK P W b l its where
 pre:=fun h=>∀(i:Nat) (k:Key) (y:Value),ws[i]?=some (k,y)->∃T x,its[i]?=some (.ref T)/\(jan P W).is k x=true/\jnz h T x y
 St:=fun D j h=>h.DictOf (jan P W) D (ws.take j)/\∀(i:Nat) (k:Key) (y:Value),ws[i]?=some (k,y)->∃T x,its[i]?=some (.ref T)/\(jan P W).is k x=true/\jnz h T x y
 keep:=fun h h' q k i a y e=>let⟨T,x,h1,h2,h3⟩:=q i a y e;⟨T,x,h1,h2,h3.keep fun o _=>k T o⟩
 zero:=fun D h hd _ q=>⟨hd,q⟩
 stay:=fun D it j h h' hD hi ⟨q,r⟩ k=>⟨q.at fun o e=>k D o hD e,fun i a y e=>let⟨T,x,h1,h2,h3⟩:=r i a y e;⟨T,x,h1,h2,h3.keep fun o d e=>k T o (jjw hi e d) e⟩⟩
 pair:=fun D j v h hv ⟨q,r⟩=>by
  have hj:j<ws.length:=by rw[<- hl];exact(j0e.mp hv).1
  obtain⟨T,x,h1,h2,h3⟩:=r j ws[j].1 ws[j].2 (j0D hj);rw[hv]at h1;cases h1;exact⟨T,x,_,rfl,h3⟩
 set:=fun A E D j T x y t Q hu hv hp ⟨q,r⟩ k=>by
  have hj:j<ws.length:=by rw[<- hl];exact(j0e.mp hv).1
  have hw:ws[j]?=some (ws[j].1,ws[j].2):=j0D hj;obtain⟨T',x',h1,h2,n',h3⟩:=r j _ _ hw;rw[hv]at h1;cases h1;obtain⟨n,hp⟩:=hp;rw[h3]at hp;simp only[j0G,Obj.mk.injEq,Data.seq.injEq,Array.mk.injEq,List.cons.injEq,true_and,and_true]at hp;obtain⟨⟨rfl,rfl⟩,_⟩:=hp;refine wpAny_dictSet_pairs (knd:=jan P W) h2 q (fun g hd sb=>k g _ sb ⟨?_,fun i a y e=>?_⟩) (j0I (by rw[j0y];omega:_<=1000) (by decide))
  ·rw[jna (jlE hn hw)]at hd;rw[jjY hw];exact hd
  ·obtain⟨T,x,h1,h2,h3⟩:=r i a y e;obtain⟨o,es,ep,e1,_,e2,_⟩:=q;exact⟨T,x,h1,h2,h3.keep fun o d e=>(sb.2 T (jja e1 e2 e d)).trans e⟩
noncomputable def jBi (its:List Value)(ws:List (List Key×Addr×Value))(hl:its.length=ws.length)(hn:(ws.map (·.1)).Nodup)(hz:ws.length<=1000):LayK P W b l its where
 pre:=fun h=>∀(i:Nat) (k:List Key) (c:Addr) (y:Value),ws[i]?=some (k,c,y)->∃T,its[i]?=some (.ref T)/\IsTupleKey (jan P W) h k c/\jnz h T (.ref c) y
 St:=fun D j h=>h.DictOfH (tupleKind (jan P W)) D (ws.take j)/\∀(i:Nat) (k:List Key) (c:Addr) (y:Value),ws[i]?=some (k,c,y)->∃T,its[i]?=some (.ref T)/\IsTupleKey (jan P W) h k c/\jnz h T (.ref c) y
 keep:=fun h h' q k i a c y e=>let⟨T,h1,h2,h3⟩:=q i a c y e;⟨T,h1,jcU h2 fun o _=>k c o,h3.keep fun o _=>k T o⟩
 zero:=fun D h _ hd q=>⟨⟨_,_,_,hd,⟨rfl,rfl,rfl⟩,rfl,rfl,(fun x hx=>nomatch hx),List.nodup_nil⟩,q⟩
 stay:=fun D it j h h' hD hi ⟨q,r⟩ k=>by
  have kp:∀{a:List Key} {c:Addr},IsTupleKey (jan P W) h a c->IsTupleKey (jan P W) h' a c:=fun x=>jcU x fun o d e=>k _ o (jjw hi e d) e;obtain⟨o,es,ep,h1,h2,h3,h4,h5,h6⟩:=q;exact⟨⟨o,es,ep,k D o hD h1,h2,h3,h4,fun x hx=>kp (h5 x hx),h6⟩,fun i a c y e=>let⟨T,h1,h2,h3⟩:=r i a c y e;⟨T,h1,kp h2,h3.keep fun o d e=>k T o (jjw hi e d) e⟩⟩
 pair:=fun D j v h hv ⟨q,r⟩=>by
  have hj:j<ws.length:=by rw[<- hl];exact(j0e.mp hv).1
  obtain⟨T,h1,h2,h3⟩:=r j ws[j].1 ws[j].2.1 ws[j].2.2 (j0D hj);rw[hv]at h1;cases h1;exact⟨T,_,_,rfl,h3⟩
 set:=fun A E D j T x y t Q hu hv hp ⟨q,r⟩ k=>by
  have hj:j<ws.length:=by rw[<- hl];exact(j0e.mp hv).1
  have hw:ws[j]?=some (ws[j].1,ws[j].2.1,ws[j].2.2):=j0D hj;obtain⟨T',h1,h2,n',h3⟩:=r j _ _ _ hw;rw[hv]at h1;cases h1;obtain⟨n,hp⟩:=hp;rw[h3]at hp;simp only[j0G,Obj.mk.injEq,Data.seq.injEq,Array.mk.injEq,List.cons.injEq,true_and,and_true]at hp;obtain⟨⟨rfl,rfl⟩,_⟩:=hp;refine wpAny_dictSet_heap (knd:=tupleKind (jan P W)) hu h2 q (fun g hd sb=>k g _ sb ⟨?_,fun i a c y e=>?_⟩) (j0I (by rw[j0y];omega:_<=1000) (by decide))
  ·rw[storedH_new (atKey_none_of_get fun i p e=>jlE hn hw (j0x.mpr ⟨_,j0z e,rfl⟩))]at hd;rw[jjY hw];exact hd
  ·obtain⟨T,h1,h2,h3⟩:=r i a c y e;obtain⟨o,es,ep,e1,_,e2,_⟩:=q;exact⟨T,h1,jcU h2 fun o d e=>(sb.2 c (jja e1 e2 e d)).trans e,h3.keep fun o d e=>(sb.2 T (jja e1 e2 e d)).trans e⟩
end
section
variable {X:Cx}
noncomputable def jxt:List V->Hp->VK->Prop:=fun vs H Q=>∃(p:Addr) (xs:List V),vs=[.ref p]/\(H p=some (.lst xs)∨H p=some (.tup xs)) /\
 ((∃kus:List (Key×V),kus.length<=1000/\(kus.map (·.1)).Nodup/\Paired (fun ku x=>∃T,x=V.ref T/\H T=some (.tup [kV ku.1,ku.2])) kus xs/\∀l,H l=none->Q (.ref l) (upd H l (.dK kus))) ∨
  ∃kus:List (List Key×V),kus.length<=1000/\(kus.map (·.1)).Nodup/\Paired (fun ku x=>∃T c,x=V.ref T/\H T=some (.tup [.ref c,ku.2])/\H c=some (.tup (ku.1.map kV))) kus xs/\∀l,H l=none->Q (.ref l) (upd H l (.dT kus)))
theorem joG (hc:X.calm=true)(hu:X.A.units+16<cLine):jbx X (.type "dict") jxt:=by
 intro pins s σ H xs us Q I r h;obtain⟨p,ys,rfl,hq,ha⟩:=h;obtain⟨u,rfl,rx⟩:=jkc r;cases rx;have two:∀{T:Addr} {x y:V},H T=some (.tup [x,y])->∃a c,jaN x a/\jaN y c/\jnz s.heap T a c:=fun e=>by
  obtain⟨_,its,n,rv,e1⟩:=I.hok _ _ e;obtain⟨a,c,rfl,r1,r2⟩:=rv.two;exact⟨a,c,r1,r2,n,e1⟩
 have big:=I.big;have fin:∀(b:Bool) (its:List Value),jaO ys its->sEx b s.heap p its.toArray->wpAny (model X.prog X.w) X.A (call (.type "dict") [.ref p]) (EP X pins σ Q) X.xe s:=fun b its rv pl=>by
  rcases ha with⟨kus,hz,hn,hp,q⟩|⟨kus,hz,hn,hp,q⟩
  ·have ex:∃ws:List (Key×Value),KV kus ws/\∀(i:Nat) (k:Key) (y:Value),ws[i]?=some (k,y)->∃T x,its[i]?=some (.ref T)/\(jan X.prog X.w).is k x=true/\jnz s.heap T x y:=by
    clear pl q hz hn hq
    induction hp generalizing its with
    |nil=>exact⟨[],.nil,fun i k y e=>by simp at e⟩
    | @cons ku x kus xs h t ih=>
     cases rv with
     | @cons _ u _ us ru rus=>
      obtain⟨ws,h1,h2⟩:=ih us rus;obtain⟨T,rfl,hT⟩:=h;obtain⟨a,c,r1,r2,pr⟩:=two hT;cases ru;have his:(jan X.prog X.w).is ku.1 a=true:=by
       have:ItemsAre (jan X.prog X.w) [ku.1] [a]:=jfn (.cons r1 .nil)
       cases this with
       |cons h _=>exact h
      refine⟨(ku.1,c)::ws,.cons ⟨rfl,r2⟩ h1,fun i k y e=>?_⟩
      cases i with
      |zero=>
       cases e;exact⟨T,a,rfl,his,pr⟩
      |succ i=>exact h2 i k y (by simpa using e)
   obtain⟨ws,kv,hws⟩:=ex;have e1:ws.map (·.1)=kus.map (·.1):=by
    clear hws q hp hn hz;unfold KV at kv
    induction kv with
    |nil=>rfl
    |cons h t ih=>rw[j0k,j0k,ih,h.1]
   have l1:ws.length=kus.length:=by simpa using congrArg List.length e1
   have l2:kus.length=its.length:=hp.length.trans rv.length;refine jha (jBg its ws (by omega) (by rw[e1];exact hn) (by omega)) (I.ok.hd hc) (by omega) pl hws fun g tk hS kp=>?_;have hd:=hS.1;rw[<- l2,<- l1,List.take_length]at hd;refine⟨.ref s.heap.objs.size,_,I.laid (t':=tk) (o:=.dK kus) kp (j0l _) ⟨j0I hz (by decide),?_,ws,kv,hd⟩,rfl,q _ I.fresh⟩;simpa using Nat.ne_of_gt big
  ·have ex:∃ws:List (List Key×Addr×Value),KT H kus ws/\∀(i:Nat) (k:List Key) (c:Addr) (y:Value),ws[i]?=some (k,c,y)->∃T,its[i]?=some (.ref T)/\IsTupleKey (jan X.prog X.w) s.heap k c/\jnz s.heap T (.ref c) y:=by
    clear pl q hz hn hq
    induction hp generalizing its with
    |nil=>exact⟨[],.nil,fun i k c y e=>by simp at e⟩
    | @cons ku x kus xs h t ih=>
     cases rv with
     | @cons _ u _ us ru rus=>
      obtain⟨ws,h1,h2⟩:=ih us rus;obtain⟨T,c,rfl,hT,hk⟩:=h;obtain⟨a,y,r1,r2,pr⟩:=two hT;cases ru;cases r1;refine⟨(ku.1,c,y)::ws,.cons ⟨rfl,hk,r2⟩ h1,fun i k c' y' e=>?_⟩
      cases i with
      |zero=>
       cases e;exact⟨T,rfl,jii I.hok hk,pr⟩
      |succ i=>exact h2 i k c' y' (by simpa using e)
   obtain⟨ws,kt,hws⟩:=ex;have e1:ws.map (·.1)=kus.map (·.1):=by
    clear hws q hp hn hz
    induction kt with
    |nil=>rfl
    |cons h t ih=>rw[j0k,j0k,ih,h.1]
   have l1:ws.length=kus.length:=by simpa using congrArg List.length e1
   have l2:kus.length=its.length:=hp.length.trans rv.length;refine jha (jBi its ws (by omega) (by rw[e1];exact hn) (by omega)) (I.ok.hd hc) (by omega) pl hws fun g tk hS kp=>?_;obtain⟨o,es,ep,h1,h2,h3,h4,_,h6⟩:=hS.1;rw[<- l2,<- l1,List.take_length]at h4 h6;refine⟨.ref s.heap.objs.size,_,I.laid (t':=tk) (o:=.dT kus) kp (j0l _) ⟨j0I hz (by decide),?_,ws,kt.keeps fun c ys e=>?_,o,es,ep,h1,h2,h3,h4,h6⟩,rfl,q _ I.fresh⟩
   ·simpa using Nat.ne_of_gt big
   ·rw[jap (jau e I.fresh)];exact e
 rcases hq with hq|hq
 ·obtain⟨_,its,n,rv,e⟩:=I.hok _ _ hq;exact fin false its rv ⟨n,e⟩
 ·obtain⟨_,its,n,rv,e⟩:=I.hok _ _ hq;exact fin true its rv ⟨n,e⟩
end
end _L2
namespace _L3
open PySem PySem.Spec PyProof.Rows _L2
set_option genInjectivity true in
inductive D where
 |non|bl (b:Bool)|int (i:Int)|str (x:Str)|ty (n:String)
 |tup (ds:List D)|lst (ds:List D)|scr (ds:List D)
 |dK (ks:List Key) (vs:List D)|dT (ks:List (List Key)) (vs:List D)|dF (ks:List Key) (vs:List D)
 |obj (C:Addr) (fs:List Str) (ds:List D)
 |cel (n:Nat)
inductive Cl where
 |lst (ds:List D)
 |dK (ks:List Key) (vs:List D)|dT (ks:List (List Key)) (vs:List D)
 |obj (C:Addr) (fs:List Str) (ds:List D)
noncomputable abbrev M:=List (Option Cl)
set_option genInjectivity true in
inductive Out (α:Type) where
 |ok (a:α) (μ:M)|exc (x:D) (μ:M)|bad
noncomputable def Out.bind {α β:Type}(o:Out α)(f:α->M->Out β):Out β:=
 match o with
 |.ok a μ=>f a μ
 |.exc x μ=>.exc x μ
 |.bad=>.bad
theorem Out.bind_ok {α β:Type}{o:Out α}{f:α->M->Out β}{b:β}{μ:M}(h:o.bind f=.ok b μ):∃a μ1,o=.ok a μ1/\f a μ1=.ok b μ:=by
 cases o with
 |ok a μ1=>exact⟨a,μ1,rfl,h⟩
 |exc x μ1=>cases h
 |bad=>cases h
structure Wd where
 Z:Hp
 γ:Nat->Addr
section
variable (K:PySem.W.Frag) (w:Wd) (n:Nat)
mutual
noncomputable def Den:D->V->Prop
 |.non,v=>v=.non
 |.bl b,v=>v=.bl b
 |.int i,v=>v=.int i
 |.str x,v=>v=.str x
 |.ty t,v=>v=.ty t
 |.tup ds,v=>∃a xs,v=.ref a/\w.Z a=some (.tup xs)/\DenL ds xs
 |.lst ds,v=>∃a xs,v=.ref a/\w.Z a=some (.lst xs)/\DenL ds xs
 |.scr ds,v=>∃a xs,v=.ref a/\SqL K w.Z a xs/\DenL ds xs
 |.dK ks vs,v=>∃a xs,v=.ref a/\ks.length=vs.length/\w.Z a=some (.dK (ks.zip xs))/\DenL vs xs
 |.dT ks vs,v=>∃a xs,v=.ref a/\ks.length=vs.length/\w.Z a=some (.dT (ks.zip xs))/\DenL vs xs
 |.dF ks vs,v=>∃a o es ep xs,v=.ref a/\ks.length=vs.length/\o.data=.dict es ep/\w.Z a=some (.frz o (.dK (ks.zip xs)))/\DenL vs xs
 |.obj C fs ds,v=>∃a dx xs,v=.ref a/\fs.length=ds.length/\w.Z a=some (.ins C dx (fs.zip xs))/\DenL ds xs
 |.cel k,v=>k<n/\v=.ref (w.γ k)
noncomputable def DenL:List D->List V->Prop
 |[],vs=>vs=[]
 |d::ds,vs=>∃v ws,vs=v::ws/\Den d v/\DenL ds ws
end
noncomputable def Holds (H:Hp)(a:Addr):Cl->Prop
 |.lst ds=>∃xs,H a=some (.lst xs)/\DenL K w n ds xs
 |.dK ks vs=>∃xs,ks.length=vs.length/\H a=some (.dK (ks.zip xs))/\DenL K w n vs xs
 |.dT ks vs=>∃xs,ks.length=vs.length/\H a=some (.dT (ks.zip xs))/\DenL K w n vs xs
 |.obj C fs ds=>∃dx xs,fs.length=ds.length/\H a=some (.ins C dx (fs.zip xs))/\DenL K w n ds xs
end
structure Ext (w w':Wd) (n n':Nat):Prop where
 z:jfK w.Z w'.Z
 g:∀i,i<n->w'.γ i=w.γ i
 le:n<=n'
theorem Ext.refl (w:Wd)(n:Nat):Ext w w n n:=⟨jfK.refl _,fun _ _=>rfl,j0l _⟩
theorem Ext.trans {w w1 w2:Wd}{n n1 n2:Nat}(a:Ext w w1 n n1)(b:Ext w1 w2 n1 n2):Ext w w2 n n2:=
 ⟨a.z.trans b.z,fun i hi=>(b.g i (j0o hi a.le)).trans (a.g i hi),j0I a.le b.le⟩
section
variable {K:PySem.W.Frag} {w w':Wd} {n n':Nat}
theorem jav:∀{ds:List D} {xs:List V},DenL K w n ds xs↔Paired (Den K w n) ds xs
 |[],xs=>by
  unfold DenL;exact⟨fun h=>by subst h;exact .nil,fun h=>by cases h;rfl⟩
 |d::ds,xs=>by
  unfold DenL;constructor
  ·rintro⟨v,ws,rfl,h1,h2⟩;exact .cons h1 (jav.mp h2)
  ·intro h
   cases h with
   |cons h1 h2=>exact⟨_,_,rfl,h1,jav.mpr h2⟩
mutual
theorem Den.mono (e:Ext w w' n n'):∀{d:D} {v:V},Den K w n d v->Den K w' n' d v
 |.non,_,h=>by unfold Den at h ⊢;exact h
 |.bl _,_,h=>by unfold Den at h ⊢;exact h
 |.int _,_,h=>by unfold Den at h ⊢;exact h
 |.str _,_,h=>by unfold Den at h ⊢;exact h
 |.ty _,_,h=>by unfold Den at h ⊢;exact h
 |.tup ds,_,h=>by
  unfold Den at h ⊢;obtain⟨a,xs,h1,h2,h3⟩:=h;exact⟨a,xs,h1,e.z _ _ h2,DenL.mono e h3⟩
 |.lst ds,_,h=>by
  unfold Den at h ⊢;obtain⟨a,xs,h1,h2,h3⟩:=h;exact⟨a,xs,h1,e.z _ _ h2,DenL.mono e h3⟩
 |.scr ds,_,h=>by
  unfold Den at h ⊢;obtain⟨a,xs,h1,h2,h3⟩:=h;exact⟨a,xs,h1,e.z.seq h2,DenL.mono e h3⟩
 |.dK ks vs,_,h=>by
  unfold Den at h ⊢;obtain⟨a,xs,h1,h2,h3,h4⟩:=h;exact⟨a,xs,h1,h2,e.z _ _ h3,DenL.mono e h4⟩
 |.dT ks vs,_,h=>by
  unfold Den at h ⊢;obtain⟨a,xs,h1,h2,h3,h4⟩:=h;exact⟨a,xs,h1,h2,e.z _ _ h3,DenL.mono e h4⟩
 |.dF ks vs,_,h=>by
  unfold Den at h ⊢;obtain⟨a,o,es,ep,xs,h1,h2,h3,h4,h5⟩:=h;exact⟨a,o,es,ep,xs,h1,h2,h3,e.z _ _ h4,DenL.mono e h5⟩
 |.obj C fs ds,_,h=>by
  unfold Den at h ⊢;obtain⟨a,dx,xs,h1,h2,h3,h4⟩:=h;exact⟨a,dx,xs,h1,h2,e.z _ _ h3,DenL.mono e h4⟩
 |.cel k,_,h=>by
  unfold Den at h ⊢;exact⟨j0o h.1 e.le,by rw[e.g k h.1];exact h.2⟩
theorem DenL.mono (e:Ext w w' n n'):∀{ds:List D} {xs:List V},DenL K w n ds xs->DenL K w' n' ds xs
 |[],_,h=>by unfold DenL at h ⊢;exact h
 |d::ds,_,h=>by
  unfold DenL at h ⊢;obtain⟨v,ws,h1,h2,h3⟩:=h;exact⟨v,ws,h1,Den.mono e h2,DenL.mono e h3⟩
end
theorem Holds.mono {H H':Hp}{a:Addr}{c:Cl}(e:Ext w w' n n')(ha:H' a=H a)(h:Holds K w n H a c):Holds K w' n' H' a c:=by
 cases c with
 |lst ds=>obtain⟨xs,h1,h2⟩:=h;exact⟨xs,ha.trans h1,h2.mono e⟩
 |dK ks vs=>obtain⟨xs,h0,h1,h2⟩:=h;exact⟨xs,h0,ha.trans h1,h2.mono e⟩
 |dT ks vs=>obtain⟨xs,h0,h1,h2⟩:=h;exact⟨xs,h0,ha.trans h1,h2.mono e⟩
 |obj C fs ds=>obtain⟨dx,xs,h0,h1,h2⟩:=h;exact⟨dx,xs,h0,ha.trans h1,h2.mono e⟩
theorem Holds.some {H:Hp}{a:Addr}{c:Cl}(h:Holds K w n H a c):∃o,H a=some o:=by
 cases c with
 |lst ds=>obtain⟨xs,h1,h2⟩:=h;exact⟨_,h1⟩
 |dK ks vs=>obtain⟨xs,h0,h1,h2⟩:=h;exact⟨_,h1⟩
 |dT ks vs=>obtain⟨xs,h0,h1,h2⟩:=h;exact⟨_,h1⟩
 |obj C fs ds=>obtain⟨dx,xs,h0,h1,h2⟩:=h;exact⟨_,h1⟩
end
structure Rep (K:PySem.W.Frag) (w:Wd) (μ:M) (H:Hp):Prop where
 sub:jfK w.Z H
 liv:∀k c,μ[k]?=some (some c)->w.Z (w.γ k)=none/\Holds K w μ.length H (w.γ k) c
 inj:∀i j ci cj,μ[i]?=some (some ci)->μ[j]?=some (some cj)->w.γ i=w.γ j->i=j
section
variable {K:PySem.W.Frag} {w:Wd} {μ:M} {H:Hp}
theorem Rep.znone (R:Rep K w μ H){p:Addr}(hp:H p=none):w.Z p=none:=R.sub.free hp
theorem Rep.ne (R:Rep K w μ H){p:Addr}(hp:H p=none){k:Nat}{c:Cl}(h:μ[k]?=some (some c)):w.γ k≠p:=fun e=>by
 obtain⟨o,ho⟩:=(R.liv k c h).2.some;rw[e,hp]at ho;cases ho
theorem Rep.frz (R:Rep K w μ H){p:Addr}(hp:H p=none)(o:HO):Rep K ⟨upd w.Z p o,w.γ⟩ μ (upd H p o)/\Ext w ⟨upd w.Z p o,w.γ⟩ μ.length μ.length:=by
 have ex:Ext w ⟨upd w.Z p o,w.γ⟩ μ.length μ.length:=⟨(jfK.refl _).upd (R.znone hp),fun _ _=>rfl,j0l _⟩;refine⟨⟨fun b u h=>?_,fun k c h=>?_,R.inj⟩,ex⟩
 ·replace h:upd w.Z p o b=some u:=h;by_cases e:b=p
  ·subst e;rw[jaz]at h ⊢;exact h
  ·rw[jap e]at h ⊢;exact R.sub _ _ h
 ·have hne:=R.ne hp h;exact⟨by show upd w.Z p o (w.γ k)=none;rw[jap hne];exact(R.liv k c h).1,(R.liv k c h).2.mono ex (jap hne)⟩
theorem Rep.cell (R:Rep K w μ H){p:Addr}(hp:H p=none)(o:HO)(c:Cl)(hc:∀w':Wd,Ext w w' μ.length (μ.length+1)->Holds K w' (μ.length+1) (upd H p o) p c) :
  ∃w':Wd,Rep K w' (μ++[some c]) (upd H p o)/\Ext w w' μ.length (μ.length+1)/\w'.γ μ.length=p:=by
 have ex:Ext w ⟨w.Z,fun i=>if i=μ.length then p else w.γ i⟩ μ.length (μ.length+1):=⟨jfK.refl _,fun i hi=>if_neg (j0m hi),Nat.le_succ _⟩;have hcases:∀(k:Nat) (d:Cl),(μ++[some c])[k]?=some (some d)->(k<μ.length/\μ[k]?=some (some d))∨(k=μ.length/\d=c):=fun k d h=>by
  by_cases hk:k<μ.length
  ·exact .inl ⟨hk,by rwa [j00 hk]at h⟩
  ·rw[j06 (by omega)]at h;have hk0:k - μ.length=0:=by
    cases e:k - μ.length with
    |zero=>rfl
    |succ m=>rw[e]at h;simp at h
   rw[hk0]at h;exact .inr ⟨by omega,by simpa using h.symm⟩
 refine⟨_,⟨?_,?_,?_⟩,ex,if_pos rfl⟩
 ·intro b u h;have hb:b≠p:=jau (R.sub _ _ h) hp;rw[jap hb];exact R.sub _ _ h
 ·intro k d h;have hlen:(μ++[some c]).length=μ.length+1:=by simp
  rw[hlen];rcases hcases k d h with⟨hk,h'⟩|⟨rfl,rfl⟩
  ·have hne:=R.ne hp h';have hg:(if k=μ.length then p else w.γ k)=w.γ k:=if_neg (j0m hk);show w.Z (if k=μ.length then p else w.γ k)=none/\Holds K _ _ _ (if k=μ.length then p else w.γ k) d;rw[hg];exact⟨(R.liv k d h').1,(R.liv k d h').2.mono ex (jap hne)⟩
  ·show w.Z (if μ.length=μ.length then p else w.γ μ.length)=none/\Holds K _ _ _ (if μ.length=μ.length then p else w.γ μ.length) d;rw[if_pos rfl];exact⟨R.znone hp,hc _ ex⟩
 ·intro i j ci cj hi hj e;have e':(if i=μ.length then p else w.γ i)=(if j=μ.length then p else w.γ j):=e;rcases hcases i ci hi with⟨hi',h1⟩|⟨rfl,_⟩<;>rcases hcases j cj hj with⟨hj',h2⟩|⟨rfl,_⟩
  ·rw[if_neg (j0m hi'),if_neg (j0m hj')]at e';exact R.inj i j ci cj h1 h2 e'
  ·rw[if_neg (j0m hi'),if_pos rfl]at e';exact absurd e' (R.ne hp h1)
  ·rw[if_pos rfl,if_neg (j0m hj')]at e';exact absurd e'.symm (R.ne hp h2)
  ·rfl
theorem Rep.put (R:Rep K w μ H){k:Nat}{c0 c:Cl}(hk:μ[k]?=some (some c0))(o:HO)(hc:Holds K w μ.length (upd H (w.γ k) o) (w.γ k) c):Rep K w (μ.set k (some c)) (upd H (w.γ k) o):=by
 have hkl:k<μ.length:=(j0e.mp hk).1;have hz:=(R.liv k c0 hk).1;have hcases:∀(j:Nat) (d:Cl),(μ.set k (some c))[j]?=some (some d)->(j=k/\d=c)∨(j≠k/\μ[j]?=some (some d)):=fun j d h=>by
  by_cases e:j=k
  ·subst e;rw[j1o hkl]at h;exact .inl ⟨rfl,by simpa using h.symm⟩
  ·rw[j1t (fun z=>e z.symm)]at h;exact .inr ⟨e,h⟩
 refine⟨fun b u h=>?_,fun j d h=>?_,fun i j ci cj hi hj e=>?_⟩
 ·have hb:b≠w.γ k:=fun z=>by rw[z,hz]at h;cases h
  rw[jap hb];exact R.sub _ _ h
 ·rw[List.length_set];rcases hcases j d h with⟨rfl,rfl⟩|⟨hne,h'⟩
  ·exact⟨hz,hc⟩
  ·have:w.γ j≠w.γ k:=fun z=>hne (R.inj j k d c0 h' hk z);exact⟨(R.liv j d h').1,(R.liv j d h').2.mono (Ext.refl _ _) (jap this)⟩
 ·have l1:∃c',μ[i]?=some (some c'):=by
   rcases hcases i ci hi with⟨rfl,_⟩|⟨_,h⟩
   ·exact⟨_,hk⟩
   ·exact⟨_,h⟩
  have l2:∃c',μ[j]?=some (some c'):=by
   rcases hcases j cj hj with⟨rfl,_⟩|⟨_,h⟩
   ·exact⟨_,hk⟩
   ·exact⟨_,h⟩
  exact R.inj i j _ _ l1.choose_spec l2.choose_spec e
end
noncomputable abbrev S3:=List (Option D)
def jBd (K:PySem.W.Frag)(w:Wd)(n:Nat)(o:Option D)(x:Option V):Prop:=∀d,o=some d->∃v,x=some v/\Den K w n d v
abbrev jby (K:PySem.W.Frag) (w:Wd) (n:Nat) (ρ:S3) (σ:_L2.St):Prop:=Paired (jBd K w n) ρ σ
section
variable {K:PySem.W.Frag} {w w':Wd} {n n':Nat}
theorem jby.mono (e:Ext w w' n n'):∀{ρ:S3} {σ:_L2.St},jby K w n ρ σ->jby K w' n' ρ σ
 |_,_,.nil=>.nil
 |_,_,.cons h t=>.cons (fun d hd=>let⟨v,h1,h2⟩:=h d hd;⟨v,h1,h2.mono e⟩) (jby.mono e t)
theorem jby.get:∀{ρ:S3} {σ:_L2.St} {i:Nat} {d:D},jby K w n ρ σ->ρ[i]?=some (some d)->∃v,σ[i]?=some (some v)/\Den K w n d v
 |_,_,0,d,.cons h t,e=>by
  obtain⟨v,h1,h2⟩:=h d (by simpa using e);exact⟨v,by simp[h1],h2⟩
 |_,_,i+1,d,.cons h t,e=>by
  obtain⟨v,h1,h2⟩:=jby.get (i:=i) (d:=d) t (by simpa using e);exact⟨v,by simpa using h1,h2⟩
 |_,_,_,_,.nil,e=>by simp at e
theorem jby.set {d:D}{v:V}(hd:Den K w n d v):∀{ρ:S3} {σ:_L2.St} (i:Nat),jby K w n ρ σ->jby K w n (ρ.set i (some d)) (σ.set i (some v))
 |_,_,_,.nil=>.nil
 |_,_,0,.cons _ t=>.cons (fun d' e=>by cases e;exact⟨v,rfl,hd⟩) t
 |_,_,i+1,.cons h t=>.cons h (jby.set hd i t)
theorem jby.drop1:∀{ρ:S3} {σ:_L2.St} (i:Nat),jby K w n ρ σ->jby K w n (ρ.set i none) σ
 |_,_,_,.nil=>.nil
 |_,_,0,.cons _ t=>.cons (fun d' e=>by cases e) t
 |_,_,i+1,.cons h t=>.cons h (jby.drop1 i t)
noncomputable def forget (fg:List Nat)(ρ:S3):S3:=fg.foldl (fun r i=>r.set i none) ρ
theorem jby.forget:∀(fg:List Nat) {ρ:S3} {σ:_L2.St},jby K w n ρ σ->jby K w n (forget fg ρ) σ
 |[],_,_,h=>h
 |i::fg,_,_,h=>jby.forget fg (h.drop1 i)
theorem jby.blank:∀(k:Nat) {ρ:S3} {σ:_L2.St},jby K w n ρ σ->jby K w n (List.replicate k none++ρ) (List.replicate k none++σ)
 |0,_,_,h=>h
 |k+1,_,_,h=>by
  rw[j0U,j0U];exact .cons (fun d e=>by cases e) (jby.blank k h)
theorem jby.start {vs:List V}{ds:List D}(h:DenL K w n ds vs)(m:Nat):jby K w n (ds.map some++List.replicate m none) (vs.map some++List.replicate m none):=by
 have h':=jav.mp h;clear h
 induction h' with
 |nil=>
  have:=jby.blank (K:=K) (w:=w) (n:=n) m (Paired.nil:jby K w n [] []);simpa using this
 |cons r t ih=>exact .cons (fun d e=>by cases e;exact⟨_,rfl,r⟩) ih
end
def T3E (K:PySem.W.Frag)(r:S3->M->Out D):TE:=fun σ H Q=>∃(w:Wd) (μ:M) (ρ:S3) (d:D) (μ':M),Rep K w μ H/\jby K w μ.length ρ σ/\r ρ μ=.ok d μ'/\∀w' H' v,Ext w w' μ.length μ'.length->Rep K w' μ' H'->Den K w' μ'.length d v->Q v H'
def T3T (K:PySem.W.Frag)(r:S3->M->Out Bool):TT:=fun σ H Q=>∃(w:Wd) (μ:M) (ρ:S3) (b:Bool) (μ':M),Rep K w μ H/\jby K w μ.length ρ σ/\r ρ μ=.ok b μ'/\∀w' H',Ext w w' μ.length μ'.length->Rep K w' μ' H'->Q b H'
def T3A (K:PySem.W.Frag)(r:S3->M->Out (List D)):TA:=fun σ H Q=>∃(w:Wd) (μ:M) (ρ:S3) (ds:List D) (μ':M),Rep K w μ H/\jby K w μ.length ρ σ/\r ρ μ=.ok ds μ'/\∀w' H' vs,Ext w w' μ.length μ'.length->Rep K w' μ' H'->DenL K w' μ'.length ds vs->Q vs H'
theorem T3A.mono {K:PySem.W.Frag}{r:S3->M->Out (List D)}:jq9 (T3A K r):=fun σ H P P' h ⟨w,μ,ρ,ds,μ',R,S,e,q⟩=>⟨w,μ,ρ,ds,μ',R,S,e,fun w' H' vs x R' d=>h _ _ (q w' H' vs x R' d)⟩
set_option genInjectivity true in
inductive Fl where
 |nx (ρ:S3)|rt (d:D)|bk (ρ:S3)|ct (ρ:S3)
noncomputable def jzR (K:PySem.W.Frag)(w:Wd)(n:Nat)(H:Hp)(E:Ends):Fl->Prop
 |.nx ρ=>∀σ,jby K w n ρ σ->E.nx σ H
 |.rt d=>∀v,Den K w n d v->E.rt v H
 |.bk ρ=>∀σ,jby K w n ρ σ->E.bk σ H
 |.ct ρ=>∀σ,jby K w n ρ σ->E.ct σ H
def T3S (K:PySem.W.Frag)(r:S3->M->Out Fl):TS:=fun E σ H=>∃(w:Wd) (μ:M) (ρ:S3) (fl:Fl) (μ':M),Rep K w μ H/\jby K w μ.length ρ σ/\r ρ μ=.ok fl μ'/\∀w' H',Ext w w' μ.length μ'.length->Rep K w' μ' H'->jzR K w' μ'.length H' E fl
noncomputable abbrev Fn:=List D->M->Out D
noncomputable def jlC (K:PySem.W.Frag)(np:Nat)(F:Fn):Sp:=fun vs H Q _=>vs.length=np/\∃(w:Wd) (μ:M) (ds:List D) (d:D) (μ':M),Rep K w μ H/\DenL K w μ.length ds vs/\F ds μ=.ok d μ'/\∀w' H' v,Ext w w' μ.length μ'.length->Rep K w' μ' H'->Den K w' μ'.length d v->Q v H'
inductive Tg where|nm (i:Nat)|tp (is:List Nat)
inductive IK where|seq|enm|zip|rng1|rng2|str|items
inductive Md where|raw|frz|new
inductive Bi where|len|sum|min2|max2|list|tuple|int|all|isT (n:String)|isT2 (n m:String)|listRange|str|lenSet|dictZip|dict
inductive Mt where|append|extend|join|split
inductive E where
 |var (i:Nat)|cst (d:D)
 |bin (op:Operator) (m:Bool) (a b:E)
 |neg (a:E)|not_ (a:E)|and_ (a b:E)|or_ (a b:E)
 |cmp (op:CmpOp) (a b:E)|chain (o1 o2:CmpOp) (a b c:E)
 |isN (a:E)|notN (a:E)
 |ife (c a b:E)
 |tup (es:List E)|lst (m:Bool) (es:List E)
 |ix (a b:E)|sl (m:Bool) (a:E) (lo hi:List E)|stp (m:Bool) (a:E) (lo st:List E)
 |fld (a:E) (i:Nat) (f:Str)
 |call (f:Nat) (md:Md) (es:List E)
 |bi (b:Bi) (m:Bool) (es:List E)
 |mt (b:Mt) (o:E) (es:List E)|clr (o:E)|dget (o a:E)|isC (a:E) (i:Nat)
 |comp (m:Bool) (own:Nat) (tg:Tg) (ik:IK) (es:List E) (ifs:List E) (elt:E)
 |gl (f:Nat)|gget (f:Nat) (a d:E)|gin (neg:Bool) (f:Nat) (a:E)|gix (f:Nat) (a:E)
inductive S where
 |asg (tg:Tg) (e:E)|par (i j:Nat) (a b:E)|unp (is:List Nat) (e:E)|setF (o:E) (i:Nat) (f:Str) (e:E)|setI (o i e:E)|ex (e:E)
 |ite (c:E) (a b:List S)
 |for_ (tg:Tg) (ik:IK) (es:List E) (body:List S) (fg:List Nat)
 |ret (e:E)|retN|pass|never
inductive Dat where
 |cst (d:D)|dct (kvs:List (Str×D))|cls (C:Addr) (k:Nat) (fs:List Str)
structure FnE where
 name:Str
 ps:List Str
 lv:Nat
 F:Fn
 dat:Option Dat
noncomputable def jf1 (μ:M):D->Option (List D)
 |.lst ds=>some ds
 |.scr ds=>some ds
 |.cel k=>match μ[k]? with
  |some (some (.lst ds))=>some ds
  |_=>none
 |_=>none
noncomputable def jfJ (μ:M):D->Option (List D)
 |.tup ds=>some ds
 |d=>jf1 μ d
noncomputable def mkL (m:Bool)(ds:List D)(μ:M):Out D:=if m then .ok (.cel μ.length) (μ++[some (.lst ds)])else .ok (.lst ds) μ
noncomputable def cutD (ds:List D)(lo hi:Option Int):List D:=(ds.drop (HT.sIx ds.length 0 lo)).take (HT.sIx ds.length ds.length hi - HT.sIx ds.length 0 lo)
noncomputable def jjl:D->Option V
 |.non=>some .non
 |.bl b=>some (.bl b)
 |.int i=>some (.int i)
 |.str x=>some (.str x)
 |_=>none
abbrev jqI (i j:Int):Prop:=(-18446744073709551616<i/\i<18446744073709551616)∨(-18446744073709551616<j/\j<18446744073709551616)
abbrev jwd (_ j:Int):Prop:=0<j/\j<18446744073709551616
abbrev jzY (_ j:Int):Prop:=0<j
abbrev jwl (i j:Int):Prop:=0<=j/\j<=1000000/\i.natAbs<18446744073709551616
noncomputable def jvV (C:Int->Int->Prop)(f:Int->Int->Int)(a b:D)(μ:M):Out D:=
 match a,b with
 |.int i,.int j=>@ite _ (C i j) (Classical.propDecidable _) (.ok (.int (f i j)) μ) .bad
 |_,_=>.bad
noncomputable def jzz (m:Bool)(a b:D)(μ:M):Out D:=
 match a,b with
 |.int i,.int j=>.ok (.int (i+j)) μ
 |.str x,.str y=>@ite _ (x.length+y.length<=sizeLine) (Classical.propDecidable _) (.ok (.str (x++y)) μ) .bad
 |.tup xs,.tup ys=>@ite _ (xs.length+ys.length<=sizeLine) (Classical.propDecidable _) (.ok (.tup (xs++ys)) μ) .bad
 |a,b=>match jf1 μ a,jf1 μ b with
  |some xs,some ys=>@ite _ (xs.length+ys.length<=sizeLine) (Classical.propDecidable _) (mkL m (xs++ys) μ) .bad
  |_,_=>.bad
noncomputable def jzw (a b:D)(μ:M):Out D:=
 match a,b with
 |.int i,.int j=>@ite _ (jqI i j) (Classical.propDecidable _) (.ok (.int (i*j)) μ) .bad
 |.str z,.int n=>if 0<=n/\n<=1000/\z.length<=1000 then .ok (.str (Txt.mul z n)) μ else .bad
 |.lst ds,.int n=>if 0<=n/\n<1000/\ds≠[]/\ds.length<=1000 then .ok (.lst (List.replicate n.toNat ds).flatten) μ else .bad
 |_,_=>.bad
noncomputable def jiV (op:Operator)(m:Bool):D->D->M->Out D:=
 match op with
 |.Add=>jzz m
 |.Sub=>jvV (fun _ _=>True) (· - ·)
 |.Mult=>jzw
 |.FloorDiv=>jvV jwd (· / ·)
 |.Mod=>jvV jzY (· % ·)
 |.Pow=>jvV jwl (fun i j=>i ^ j.toNat)
 |_=>fun _ _ _=>.bad
noncomputable def jkD (f:D->D->Option Bool):List D->List D->Option Bool
 |x::xs,y::ys=>match f x y,jkD f xs ys with
  |some a,some b=>some (a&&b)
  |_,_=>none
 |_,_=>some true
noncomputable def eqN (f:D->D->Option Bool)(μ:M)(a b:D):Option Bool:=
 match a,b with
 |.tup xs,.tup ys=>(jkD f xs ys).map (· && xs.length==ys.length)
 |a,b=>match jf1 μ a,jf1 μ b with
  |some xs,some ys=>if xs.length=ys.length then jkD f xs ys else some false
  |_,_=>none
noncomputable def eqD (μ:M):Nat->D->D->Option Bool
 |0,_,_=>none
 |n+1,a,b=>match jjl a,jjl b with
  |some x,some y=>some (eqV x y)
  |_,_=>eqN (eqD μ n) μ a b
noncomputable def jk2 (μ:M)(a b:D):Option Bool:=
 match jjl a,jjl b with
 |some x,some y=>if jy5 x y=true then some (decide (x=y))else none
 |_,_=>eqN (eqD μ 8) μ a b
noncomputable def jvT (x:V):List D->Option Bool
 |[]=>some false
 |d::ds=>match jjl d,jvT x ds with
  |some y,some r=>some (eqV y x||r)
  |_,_=>none
noncomputable def jyT:D->Option Key
 |.int i=>some (.inl i)
 |.str x=>some (.inr x)
 |_=>none
noncomputable def jlc (μ:M):D->Option (List Key×List D)
 |.dK ks vs=>some (ks,vs)
 |.dF ks vs=>some (ks,vs)
 |.cel c=>match μ[c]? with
  |some (some (.dK ks vs))=>some (ks,vs)
  |_=>none
 |_=>none
noncomputable def jjx {κ:Type}[DecidableEq κ](k:κ):List κ->List D->Option D
 |g::ks,d::ds=>if g=k then some d else jjx k ks ds
 |_,_=>none
noncomputable def inD (μ:M)(a b:D):Option Bool:=
 match jfJ μ b with
 |some ds=>match jjl a with
  |some x=>jvT x ds
  |none=>none
 |none=>match jyT a,jlc μ b with
  |some k,some (ks,vs)=>some (jjx k ks vs).isSome
  |_,_=>match a,b with
   |.str x,.str y=>some (Txt.contains y x)
   |_,_=>none
noncomputable def jny (op:CmpOp)(a b:D)(μ:M):Option Bool:=
 match op with
 |.Eq=>jk2 μ a b
 |.NotEq=>(jk2 μ a b).map (!·)
 |.Lt=>match a,b with
  |.int i,.int j=>some (decide (i<j))
  |.str i,.str j=>some (decide (i.cps.toList<j.cps.toList))
  |_,_=>none
 |.LtE=>match a,b with
  |.int i,.int j=>some (decide (i<=j))
  |.str i,.str j=>some (!decide (j.cps.toList<i.cps.toList))
  |_,_=>none
 |.Gt=>match a,b with
  |.int i,.int j=>some (decide (j<i))
  |_,_=>none
 |.GtE=>match a,b with
  |.int i,.int j=>some (decide (j<=i))
  |_,_=>none
 |.In=>inD μ a b
 |.NotIn=>(inD μ a b).map (!·)
 |.Is=>match a,b with
  |.bl c,.bl d=>some (c==d)
  |_,_=>none
 |.IsNot=>match a,b with
  |.bl c,.bl d=>some (c !=d)
  |_,_=>none
noncomputable def jdO (op:CmpOp)(a b:D)(μ:M):Out D:=
 match jny op a b μ with
 |some r=>.ok (.bl r) μ
 |none=>.bad
noncomputable def jyY (μ:M):D->Option Bool
 |.non=>some false
 |.bl b=>some b
 |.int i=>some (i !=0)
 |.str y=>@ite _ (y.length<=sizeLine) (Classical.propDecidable _) (some ((y.length:Int) !=0)) none
 |.tup ds=>some (!ds.isEmpty)
 |d=>(jf1 μ d).map (!·.isEmpty)
noncomputable def jvP (a:D)(k:Key)(μ:M):Out D:=
 match jlc μ a with
 |some (ks,vs)=>match jjx k ks vs with
  |some d=>.ok d μ
  |none=>.bad
 |none=>.bad
noncomputable def ixD (a b:D)(μ:M):Out D:=
 match b with
 |.int i=>match a with
  |.str z=>@ite _ (z.length<=sizeLine) (Classical.propDecidable _) (match atI z.cps.toList i with
    |some c=>.ok (.str ⟨#[c]⟩) μ
    |none=>.bad) .bad
  |a=>match jfJ μ a with
   |some ds=>match atI ds i with
    |some d=>.ok d μ
    |none=>.bad
   |none=>jvP a (.inl i) μ
 |.str k=>jvP a (.inr k) μ
 |_=>.bad
noncomputable def slD (m:Bool)(a:D)(lo hi:Option Int)(μ:M):Out D:=
 match a with
 |.str z=>@ite _ (z.length<=sizeLine) (Classical.propDecidable _) (.ok (.str (Txt.slice z lo hi)) μ) .bad
 |.tup ds=>.ok (.tup (cutD ds lo hi)) μ
 |a=>match jf1 μ a with
  |some ds=>mkL m (cutD ds lo hi) μ
  |none=>.bad
noncomputable def jAr (m:Bool)(a:D)(lo st:Option Int)(μ:M):Out D:=
 match lo,st with
 |some i,some k=>if 0<=i/\0<k then match jf1 μ a with
   |some ds=>mkL m ((jzP ds.length i k).filterMap (ds[·]?)) μ
   |none=>.bad
  else .bad
 |_,_=>.bad
noncomputable def jnA (f:Str):List Str->List D->Option D
 |g::fs,d::ds=>if f=g then some d else jnA f fs ds
 |_,_=>none
open Classical in
noncomputable def jy9 (C:Addr)(f:Str)(a:D)(μ:M):Out D:=
 match a with
 |.obj C' fs ds=>match(if C'=C then jnA f fs ds else none)with
  |some d=>.ok d μ
  |none=>.bad
 |.cel k=>match μ[k]? with
  |some (some (.obj C' fs ds))=>match(if C'=C then jnA f fs ds else none)with
   |some d=>.ok d μ
   |none=>.bad
  |_=>.bad
 |_=>.bad
noncomputable def jhE (f:Str):List Str->List Str
 |[]=>[f]
 |g::r=>if g=f then g::r else g::jhE f r
noncomputable def je6 {α:Type}(f:Str)(d:α):List Str->List α->List α
 |[],_=>[d]
 |g::r,x::xs=>if g=f then d::xs else x::je6 f d r xs
 |_::_,[]=>[]
open Classical in
noncomputable def jy6 (C:Addr)(f:Str)(d x:D)(μ:M):Option M:=
 match x with
 |.cel k=>match μ[k]? with
  |some (some (.obj C' fs ds))=>if C'=C/\fs.length<1000 then some (μ.set k (some (.obj C' (jhE f fs) (je6 f d fs ds))))else none
  |_=>none
 |_=>none
noncomputable def jtN:List D->Option (List Bool)
 |[]=>some []
 |.bl i::ds=>(jtN ds).map (i :: ·)
 |_=>none
noncomputable def jg5:List D->Option (List Str)
 |[]=>some []
 |.str i::ds=>(jg5 ds).map (i :: ·)
 |_=>none
noncomputable def tyD (μ:M):D->Option String
 |.non=>some "NoneType"
 |.bl _=>some "bool"
 |.int _=>some "int"
 |.str _=>some "str"
 |.tup _=>some "tuple"
 |.scr _=>none
 |d=>(jf1 μ d).map fun _=>"list"
noncomputable def jvX (n t:String):Option Bool:=
 if n = "int" then some (t = "int" ||t = "bool")
 else if n = "bool"∨n = "str"∨n = "tuple"∨n = "list"∨n = "dict" then some (t=n)
 else none
noncomputable def jzt (ds:List D)(μ:M):Out D:=
 match ds with
 |[.str z]=>@ite _ (z.length<=sizeLine) (Classical.propDecidable _) (.ok (.int z.length) μ) .bad
 |[d]=>match jfJ μ d with
  |some xs=>.ok (.int xs.length) μ
  |none=>.bad
 |_=>.bad
noncomputable def jzs (ds:List D)(μ:M):Out D:=
 match ds with
 |[.int i,.int j]=>.ok (.int (if j<i then j else i)) μ
 |_=>.bad
noncomputable def jzL (ds:List D)(μ:M):Out D:=
 match ds with
 |[.int i,.int j]=>.ok (.int (if j > i then j else i)) μ
 |_=>.bad
noncomputable def juY (m:Bool)(ds:List D)(μ:M):Out D:=
 match ds with
 |[d]=>match jfJ μ d with
  |some xs=>mkL m xs μ
  |none=>match d with
   |.str z=>if z.cps.size<=1000 then mkL m (z.cps.toList.map fun c=>.str ⟨#[c]⟩) μ else .bad
   |_=>.bad
 |_=>.bad
noncomputable def jg0 (ds:List D)(μ:M):Out D:=
 match ds with
 |[d]=>match jfJ μ d with
  |some xs=>.ok (.tup xs) μ
  |none=>.bad
 |_=>.bad
noncomputable def jy0 (ds:List D)(μ:M):Out D:=
 match ds with
 |[d]=>match jf1 μ d with
  |some xs=>match jtN xs with
   |some bs=>.ok (.bl (bs.all id)) μ
   |none=>.bad
  |none=>.bad
 |_=>.bad
noncomputable def jyZ (n:String)(ds:List D)(μ:M):Out D:=
 match ds with
 |[d]=>match tyD μ d with
  |some t=>match jvX n t with
   |some r=>.ok (.bl r) μ
   |none=>.bad
  |none=>.bad
 |_=>.bad
noncomputable def jrY (n m t:String):Option Bool:=
 match jvX n t with
 |some true=>some true
 |some false=>jvX m t
 |none=>none
noncomputable def juX (n m:String)(ds:List D)(μ:M):Out D:=
 match ds with
 |[d]=>match tyD μ d with
  |some t=>match jrY n m t with
   |some b=>.ok (.bl b) μ
   |none=>.bad
  |none=>.bad
 |_=>.bad
noncomputable def ksD:List D->Option (List Key)
 |[]=>some []
 |d::ds=>match jyT d,ksD ds with
  |some k,some ks=>some (k::ks)
  |_,_=>none
noncomputable def jsp:List D->Option (List (List Key))
 |[]=>some []
 |.tup d::ds=>match ksD d,jsp ds with
  |some k,some ks=>some (k::ks)
  |_,_=>none
 |_=>none
noncomputable def jzf:D->Option (List D)
 |.lst xs=>some xs
 |.tup xs=>some xs
 |_=>none
noncomputable def jfS (ds:List D)(μ:M):Out D:=
 match ds with
 |[d]=>match jfJ μ d with
  |some xs=>match jg5 xs with
   |some zs=>if zs.length<=1000 then .ok (.int (ddS zs).length) μ else .bad
   |none=>match jsp xs with
    |some ks=>if ks.length<=18 then .ok (.int (ddS ks).length) μ else .bad
    |none=>.bad
  |none=>.bad
 |_=>.bad
noncomputable def jvW:List D->Option (List D×List D)
 |[]=>some ([],[])
 |.tup [k,v]::ds=>(jvW ds).map fun r=>(k::r.1,v::r.2)
 |_=>none
open Classical in
noncomputable def jl (ds:List D)(μ:M):Out D:=
 match ds with
 |[d]=>match jzf d with
  |some xs=>match jvW xs with
   |some (as,vs)=>match ksD as with
    |some ks=>if ks.length<=1000/\ks.Nodup then .ok (.dK ks vs) μ else .bad
    |none=>match jsp as with
     |some ks=>if ks.length<=1000/\ks.Nodup then .ok (.dT ks vs) μ else .bad
     |none=>.bad
   |none=>.bad
  |none=>.bad
 |_=>.bad
noncomputable def biD (b:Bi)(m:Bool):List D->M->Out D:=
 match b with
 |.len=>jzt
 |.sum=>fun _ _=>.bad
 |.min2=>jzs
 |.max2=>jzL
 |.list=>juY m
 |.tuple=>jg0
 |.int=>fun _ _=>.bad
 |.all=>jy0
 |.isT n=>jyZ n
 |.isT2 n m=>juX n m
 |.listRange=>fun _ _=>.bad
 |.str=>fun _ _=>.bad
 |.lenSet=>jfS
 |.dictZip=>fun _ _=>.bad
 |.dict=>jl
noncomputable def jpP (b:Mt)(o:D)(μ:M):Bool:=
 match b,o with
 |.join,.str _=>true
 |.join,_=>false
 |.split,.str _=>true
 |.split,_=>false
 |_,.cel k=>match μ[k]? with
  |some (some (.lst _))=>true
  |_=>false
 |_,_=>false
noncomputable def jz (o:D)(ds:List D)(μ:M):Out D:=
 match o,ds with
 |.cel k,[d]=>match μ[k]? with
  |some (some (.lst xs))=>@ite _ (xs.length<sizeLine) (Classical.propDecidable _) (.ok .non (μ.set k (some (.lst (xs++[d]))))) .bad
  |_=>.bad
 |_,_=>.bad
noncomputable def jq5 (o:D)(ds:List D)(μ:M):Out D:=
 match o,ds with
 |.str z,[d]=>match jf1 μ d with
  |some xs=>match jg5 xs with
   |some ys=>@ite _ ((ys.map (·.length)).sum+ys.length*z.length<=16777216) (Classical.propDecidable _) (.ok (.str (Txt.join z ys)) μ) .bad
   |none=>.bad
  |none=>.bad
 |_,_=>.bad
noncomputable def jpo (o a:D)(μ:M):Out D:=
 match o,a with
 |.dT ks vs,.tup d=>match ksD d with
  |some k=>.ok ((jjx k ks vs).getD .non) μ
  |none=>.bad
 |_,_=>.bad
noncomputable def jxY (o:D)(μ:M):Out D:=
 match o with
 |.cel k=>match μ[k]? with
  |some (some (.lst _))=>.ok .non (μ.set k (some (.lst [])))
  |_=>.bad
 |_=>.bad
noncomputable def mtD (b:Mt):D->List D->M->Out D:=
 match b with
 |.append=>jz
 |.extend=>fun _ _ _=>.bad
 |.join=>jq5
 |.split=>fun _ _ _=>.bad
noncomputable def jog:List Nat->List D->S3->Option S3
 |[],[],ρ=>some ρ
 |i::is,d::ds,ρ=>jog is ds (ρ.set i (some d))
 |_,_,_=>none
noncomputable def jkC (tg:Tg)(d:D)(ρ:S3):Option S3:=
 match tg,d with
 |.nm i,d=>some (ρ.set i (some d))
 |.tp is,.tup ds=>jog is ds ρ
 |_,_=>none
noncomputable def jAy:List D->List D->List D
 |x::xs,y::ys=>.tup [x,y]::jAy xs ys
 |_,_=>[]
noncomputable def jkA:Nat->List D->List D
 |k,x::xs=>.tup [.int (k:Int),x]::jkA (k+1) xs
 |_,[]=>[]
noncomputable def jAj (ds:List D)(μ:M):Option (List D):=
 match ds with
 |[d]=>jfJ μ d
 |_=>none
noncomputable def juR (ds:List D)(μ:M):Option (List D):=
 match ds with
 |[d]=>(jfJ μ d).map (jkA 0)
 |_=>none
noncomputable def jAi (ds:List D)(μ:M):Option (List D):=
 match ds with
 |[d,d']=>match jfJ μ d,jfJ μ d' with
  |some xs,some ys=>some (jAy xs ys)
  |_,_=>none
 |_=>none
noncomputable def jl5 (ds:List D)(_:M):Option (List D):=
 match ds with
 |[.int j]=>@ite _ (-(2 ^ 62)<=j/\j<2 ^ 62) (Classical.propDecidable _) (some ((List.range j.toNat).map fun(k:Nat)=>.int (k:Int))) none
 |_=>none
noncomputable def jlP (ds:List D)(_:M):Option (List D):=
 match ds with
 |[.int i,.int j]=>@ite _ (-(2 ^ 62)<=i/\i<2 ^ 62/\-(2 ^ 62)<=j/\j<2 ^ 62) (Classical.propDecidable _) (some ((List.range (j - i).toNat).map fun(k:Nat)=>.int (i+(k:Int)))) none
 |_=>none
noncomputable def jvl (ds:List D)(_:M):Option (List D):=
 match ds with
 |[.str z]=>some (z.cps.toList.map fun c=>.str ⟨#[c]⟩)
 |_=>none
noncomputable def jx1:Key->D
 |.inl i=>.int i
 |.inr x=>.str x
noncomputable def jAB:List Key->List D->List D
 |k::ks,d::ds=>.tup [jx1 k,d]::jAB ks ds
 |_,_=>[]
noncomputable def jv (ds:List D)(_:M):Option (List D):=
 match ds with
 |[.dF ks vs]=>some (jAB ks vs)
 |_=>none
noncomputable def itD (ik:IK):List D->M->Option (List D):=
 match ik with
 |.seq=>jAj
 |.enm=>juR
 |.zip=>jAi
 |.rng1=>jl5
 |.rng2=>jlP
 |.str=>jvl
 |.items=>jv
noncomputable def jdT (ik:IK)(ds:List D)(xs:List D)(μ:M):Bool:=@decide (itD ik ds μ=some xs) (Classical.propDecidable _)
noncomputable def jdU (ok:M->Bool)(tg:Tg)(cond:S3->M->Out Bool)(elt:S3->M->Out D)(ρ:S3):List D->M->Out (List D)
 |[],μ=>if ok μ then .ok [] μ else .bad
 |d::ds,μ=>if ok μ then match jkC tg d ρ with
   |some ρ1=>(cond ρ1 μ).bind fun b μ1=>if b then(elt ρ1 μ1).bind fun y μ2=>(jdU ok tg cond elt ρ ds μ2).bind fun ys μ3=>.ok (y::ys) μ3 else jdU ok tg cond elt ρ ds μ1
   |none=>.bad
  else .bad
noncomputable def jc9 (ok:M->Bool)(tg:Tg)(body:S3->M->Out Fl)(fg:List Nat):List D->S3->M->Out Fl
 |[],ρ,μ=>if ok μ then .ok (.nx (forget fg ρ)) μ else .bad
 |d::ds,ρ,μ=>if ok μ then match jkC tg d ρ with
   |some ρ1=>match body ρ1 μ with
    |.ok (.nx ρ2) μ2=>jc9 ok tg body fg ds (forget fg ρ2) μ2
    |.ok (.ct ρ2) μ2=>jc9 ok tg body fg ds (forget fg ρ2) μ2
    |.ok (.bk ρ2) μ2=>.ok (.nx (forget fg ρ2)) μ2
    |.ok (.rt d) μ2=>.ok (.rt d) μ2
    |.exc x μ2=>.exc x μ2
    |.bad=>.bad
   |none=>.bad
  else .bad
mutual
noncomputable def jbp (h:Nat->Option D):D->Option D
 |.tup ds=>(frzGs h ds).map .tup
 |.lst ds=>(frzGs h ds).map .lst
 |.scr ds=>(frzGs h ds).map .scr
 |.dK ks vs=>(frzGs h vs).map (.dK ks)
 |.dT ks vs=>(frzGs h vs).map (.dT ks)
 |.dF ks vs=>(frzGs h vs).map (.dF ks)
 |.obj C fs ds=>(frzGs h ds).map (.obj C fs)
 |.cel k=>h k
 |.non=>some .non
 |.bl b=>some (.bl b)
 |.int i=>some (.int i)
 |.str x=>some (.str x)
 |.ty n=>some (.ty n)
noncomputable def frzGs (h:Nat->Option D):List D->Option (List D)
 |[]=>some []
 |d::ds=>match jbp h d,frzGs h ds with
  |some e,some es=>some (e::es)
  |_,_=>none
end
noncomputable def jkB (μ:M)(n0:Nat)(keep:List Nat):Nat->Nat->Option D
 |f,k=>if k<n0 then some (.cel k)else if k∈keep then none else
  match f with
  |0=>none
  |f+1=>match μ[k]? with
   |some (some (.lst ds))=>(frzGs (jkB μ n0 keep f) ds).map .lst
   |some (some (.dK ks vs))=>(frzGs (jkB μ n0 keep f) vs).map (.dK ks)
   |some (some (.dT ks vs))=>(frzGs (jkB μ n0 keep f) vs).map (.dT ks)
   |some (some (.obj C fs ds))=>(frzGs (jkB μ n0 keep f) ds).map (.obj C fs)
   |_=>none
noncomputable def jmF (μ:M)(n0:Nat)(d:D):Option D:=jbp (jkB μ n0 [] 4) d
noncomputable def jqE:D->List Nat
 |.cel k=>[k]
 |.tup ds=>ds.filterMap fun d=>match d with
  |.cel k=>some k
  |_=>none
 |_=>[]
noncomputable def job (n0:Nat)(ks:List Nat)(k:Nat):Option D:=(ks.idxOf? k).map fun j=>.cel (n0+j)
noncomputable def jjM (μ:M)(n0:Nat)(ks:List Nat):List Nat->Option (List (List D))
 |[]=>some []
 |k::r=>match μ[k]? with
  |some (some (.lst ds))=>match frzGs (jkB μ n0 ks 4) ds,jjM μ n0 ks r with
   |some c,some cs=>some (c::cs)
   |_,_=>none
  |_=>none
noncomputable def jwC (μ:M)(n0:Nat)(ks:List Nat):D->Option D
 |.cel k=>job n0 ks k
 |d=>jbp (jkB μ n0 ks 4) d
noncomputable def jl0 (μ:M)(n0:Nat)(ks:List Nat):List D->Option (List D)
 |[]=>some []
 |d::ds=>match jwC μ n0 ks d,jl0 μ n0 ks ds with
  |some e,some es=>some (e::es)
  |_,_=>none
noncomputable def jyS (μ:M)(n0:Nat)(d:D):Option (D×List (List D)):=
 if(jqE d).Nodup/\∀k∈jqE d,n0<=k then
  match jjM μ n0 (jqE d) (jqE d)with
  |some cs=>match d with
   |.cel k=>(job n0 (jqE d) k).map fun d'=>(d',cs)
   |.tup ds=>(jl0 μ n0 (jqE d) ds).map fun es=>(.tup es,cs)
   |_=>none
  |none=>none
 else none
open Classical in
noncomputable def jao (md:Md)(F:Fn)(ds:List D)(μ:M):Out D:=
 match md with
 |.raw=>F ds μ
 |.frz=>match F ds μ with
  |.ok d μ'=>if μ'.take μ.length=μ then match jmF μ' μ.length d with
    |some d'=>.ok d' μ
    |none=>.bad
   else .bad
  |.exc x μ'=>if μ'.take μ.length=μ then match jmF μ' μ.length x with
    |some x'=>.exc x' μ
    |none=>.bad
   else .bad
  |.bad=>.bad
 |.new=>match F ds μ with
  |.ok d μ'=>if μ'.take μ.length=μ then match jyS μ' μ.length d with
    |some (d',cs)=>.ok d' (μ++cs.map fun xs=>some (.lst xs))
    |none=>.bad
   else .bad
  |.exc x μ'=>if μ'.take μ.length=μ then match jmF μ' μ.length x with
    |some x'=>.exc x' μ
    |none=>.bad
   else .bad
  |.bad=>.bad
noncomputable def jgk (G:List FnE)(f:Nat):Option Dat:=(G[f]?).bind (·.dat)
noncomputable def jlj (z:Str):List (Str×D)->Option D
 |[]=>none
 |p::r=>if p.1=z then some p.2 else jlj z r
noncomputable def glD (o:Option Dat)(μ:M):Out D:=
 match o with
 |some (.cst d)=>.ok d μ
 |_=>.bad
noncomputable def jh0 (o:Option Dat)(f:Str)(x:D)(μ:M):Out D:=
 match o with
 |some (.cls C _ _)=>jy9 C f x μ
 |_=>.bad
open Classical in
noncomputable def ju7 (o:Option Dat)(x:D)(μ:M):Out D:=
 match o,x with
 |some (.cls C _ _),.obj C' _ _=>if C'=C then .ok (.bl true) μ else .bad
 |_,_=>.bad
noncomputable def jAm (o:Option Dat)(f:Str)(d x:D)(μ:M):Option M:=
 match o with
 |some (.cls C _ _)=>jy6 C f d x μ
 |_=>none
noncomputable def jvN (o:Option Dat)(x y:D)(μ:M):Out D:=
 match o,x with
 |some (.dct kvs),.str z=>.ok ((jlj z kvs).getD y) μ
 |_,_=>.bad
noncomputable def jzb (neg:Bool)(o:Option Dat)(x:D)(μ:M):Out D:=
 match o,x with
 |some (.dct kvs),.str z=>.ok (.bl (if neg then !(jlj z kvs).isSome else(jlj z kvs).isSome)) μ
 |_,_=>.bad
noncomputable def jAL (o:Option Dat)(x:D)(μ:M):Out D:=
 match o,x with
 |some (.dct kvs),.str z=>match jlj z kvs with
  |some d=>.ok d μ
  |none=>.bad
 |_,_=>.bad
noncomputable def jfx (G:List FnE)(f:Nat)(md:Md)(ds:List D)(μ:M):Out D:=
 match G[f]? with
 |some g=>jao md g.F ds μ
 |none=>.bad
noncomputable def jlo (o:Out (List D)):Out (Option Int):=o.bind fun ds μ=>match ds with
 |[]=>.ok none μ
 |[.int i]=>.ok (some i) μ
 |_=>.bad
noncomputable def toB (r:S3->M->Out D)(ρ:S3)(μ:M):Out Bool:=(r ρ μ).bind fun d μ1=>match jyY μ1 d with
 |some b=>.ok b μ1
 |none=>.bad
structure Ev where
 v:S3->M->Out D
 t:S3->M->Out Bool
noncomputable def Ev.of (v:S3->M->Out D):Ev:=⟨v,toB v⟩
noncomputable section
variable (G:List FnE)
mutual
noncomputable def ev:E->Ev
 |.var i=>.of fun ρ μ=>match ρ[i]? with
  |some (some d)=>.ok d μ
  |_=>.bad
 |.cst d=>.of fun _ μ=>.ok d μ
 |.bin op m a b=>.of fun ρ μ=>((ev a).v ρ μ).bind fun x μ1=>((ev b).v ρ μ1).bind fun y μ2=>jiV op m x y μ2
 |.neg a=>.of fun ρ μ=>((ev a).v ρ μ).bind fun x μ1=>match x with
  |.int i=>.ok (.int (-i)) μ1
  |_=>.bad
 |.not_ a=>⟨fun ρ μ=>((ev a).v ρ μ).bind fun x μ1=>match x with
  |.bl c=>.ok (.bl (!c)) μ1
  |_=>.bad,fun ρ μ=>((ev a).t ρ μ).bind fun c μ1=>.ok (!c) μ1⟩
 |.and_ a b=>⟨fun ρ μ=>((ev a).v ρ μ).bind fun x μ1=>match x with
  |.bl c=>if c then(ev b).v ρ μ1 else .ok (.bl false) μ1
  |_=>.bad,fun ρ μ=>((ev a).t ρ μ).bind fun c μ1=>if c then(ev b).t ρ μ1 else .ok false μ1⟩
 |.or_ a b=>⟨fun ρ μ=>((ev a).v ρ μ).bind fun x μ1=>match x with
  |.bl c=>if c then .ok (.bl true) μ1 else(ev b).v ρ μ1
  |_=>.bad,fun ρ μ=>((ev a).t ρ μ).bind fun c μ1=>if c then .ok true μ1 else(ev b).t ρ μ1⟩
 |.cmp op a b=>.of fun ρ μ=>((ev a).v ρ μ).bind fun x μ1=>((ev b).v ρ μ1).bind fun y μ2=>jdO op x y μ2
 |.chain o1 o2 a b c=>.of fun ρ μ=>((ev a).v ρ μ).bind fun x μ1=>((ev b).v ρ μ1).bind fun y μ2=>(jdO o1 x y μ2).bind fun z μ3=>match z with
  |.bl k=>if k then((ev c).v ρ μ3).bind fun u μ4=>jdO o2 y u μ4 else .ok (.bl false) μ3
  |_=>.bad
 |.isN a=>.of fun ρ μ=>((ev a).v ρ μ).bind fun x μ1=>match x with
  |.non=>.ok (.bl true) μ1
  |_=>.ok (.bl false) μ1
 |.notN a=>.of fun ρ μ=>((ev a).v ρ μ).bind fun x μ1=>match x with
  |.non=>.ok (.bl false) μ1
  |_=>.ok (.bl true) μ1
 |.ife c a b=>.of fun ρ μ=>((ev c).t ρ μ).bind fun k μ1=>if k then(ev a).v ρ μ1 else(ev b).v ρ μ1
 |.tup es=>.of fun ρ μ=>(evL es ρ μ).bind fun ds μ1=>if ds.length<=sizeLine then .ok (.tup ds) μ1 else .bad
 |.lst m es=>.of fun ρ μ=>(evL es ρ μ).bind fun ds μ1=>if ds.length<=sizeLine then mkL m ds μ1 else .bad
 |.ix a b=>.of fun ρ μ=>((ev a).v ρ μ).bind fun x μ1=>((ev b).v ρ μ1).bind fun y μ2=>ixD x y μ2
 |.sl m a lo hi=>.of fun ρ μ=>((ev a).v ρ μ).bind fun x μ1=>(jlo (evL lo ρ μ1)).bind fun l μ2=>(jlo (evL hi ρ μ2)).bind fun h μ3=>slD m x l h μ3
 |.stp m a lo st=>.of fun ρ μ=>((ev a).v ρ μ).bind fun x μ1=>(jlo (evL lo ρ μ1)).bind fun l μ2=>(jlo (evL st ρ μ2)).bind fun h μ3=>jAr m x l h μ3
 |.fld a i f=>.of fun ρ μ=>((ev a).v ρ μ).bind fun x μ1=>jh0 (jgk G i) f x μ1
 |.call f md es=>.of fun ρ μ=>(evL es ρ μ).bind fun ds μ1=>jfx G f md ds μ1
 |.bi b m es=>.of fun ρ μ=>(evL es ρ μ).bind fun ds μ1=>biD b m ds μ1
 |.mt b o es=>.of fun ρ μ=>((ev o).v ρ μ).bind fun x μ1=>if jpP b x μ1 then(evL es ρ μ1).bind fun ds μ2=>mtD b x ds μ2 else .bad
 |.clr o=>.of fun ρ μ=>((ev o).v ρ μ).bind fun x μ1=>jxY x μ1
 |.dget o a=>.of fun ρ μ=>((ev o).v ρ μ).bind fun x μ1=>((ev a).v ρ μ1).bind fun y μ2=>jpo x y μ2
 |.isC a i=>.of fun ρ μ=>((ev a).v ρ μ).bind fun x μ1=>ju7 (jgk G i) x μ1
 |.comp m own tg ik es ifs elt=>.of fun ρ μ=>(evL es ρ μ).bind fun ds μ1=>match itD ik ds μ1 with
  |some xs=>if xs.length<=sizeLine then(jdU (jdT ik ds xs) tg (evTs ifs) (ev elt).v (List.replicate own none++ρ) xs μ1).bind fun ys μ2=>mkL m ys μ2 else .bad
  |none=>.bad
 |.gl f=>.of fun _ μ=>glD (jgk G f) μ
 |.gget f a d=>.of fun ρ μ=>((ev a).v ρ μ).bind fun x μ1=>((ev d).v ρ μ1).bind fun y μ2=>jvN (jgk G f) x y μ2
 |.gin neg f a=>.of fun ρ μ=>((ev a).v ρ μ).bind fun x μ1=>jzb neg (jgk G f) x μ1
 |.gix f a=>.of fun ρ μ=>((ev a).v ρ μ).bind fun x μ1=>jAL (jgk G f) x μ1
noncomputable def evL:List E->S3->M->Out (List D)
 |[],_,μ=>.ok [] μ
 |e::es,ρ,μ=>((ev e).v ρ μ).bind fun d μ1=>(evL es ρ μ1).bind fun ds μ2=>.ok (d::ds) μ2
noncomputable def evTs:List E->S3->M->Out Bool
 |[],_,μ=>.ok true μ
 |[e],ρ,μ=>(ev e).t ρ μ
 |_,_,_=>.bad
end
mutual
noncomputable def run:S->S3->M->Out Fl
 |.asg tg e,ρ,μ=>((ev G e).v ρ μ).bind fun d μ1=>match jkC tg d ρ with
  |some ρ1=>.ok (.nx ρ1) μ1
  |none=>.bad
 |.par i j a b,ρ,μ=>((ev G a).v ρ μ).bind fun x μ1=>((ev G b).v ρ μ1).bind fun y μ2=>.ok (.nx ((ρ.set i (some x)).set j (some y))) μ2
 |.unp is e,ρ,μ=>((ev G e).v ρ μ).bind fun d μ1=>match(jf1 μ1 d).bind fun ds=>jog is ds ρ with
  |some ρ1=>.ok (.nx ρ1) μ1
  |none=>.bad
 |.setF o i f e,ρ,μ=>((ev G e).v ρ μ).bind fun d μ1=>((ev G o).v ρ μ1).bind fun x μ2=>match jAm (jgk G i) f d x μ2 with
  |some μ3=>.ok (.nx ρ) μ3
  |none=>.bad
 |.setI o i e,ρ,μ=>.bad
 |.ex e,ρ,μ=>((ev G e).v ρ μ).bind fun _ μ1=>.ok (.nx ρ) μ1
 |.ite c a b,ρ,μ=>((ev G c).t ρ μ).bind fun k μ1=>if k then runs a ρ μ1 else runs b ρ μ1
 |.for_ tg ik es body fg,ρ,μ=>(evL G es ρ μ).bind fun ds μ1=>match itD ik ds μ1 with
  |some xs=>jc9 (jdT ik ds xs) tg (runs body) fg xs ρ μ1
  |none=>.bad
 |.ret e,ρ,μ=>((ev G e).v ρ μ).bind fun d μ1=>.ok (.rt d) μ1
 |.retN,_,μ=>.ok (.rt .non) μ
 |.pass,ρ,μ=>.ok (.nx ρ) μ
 |.never,_,_=>.bad
noncomputable def runs:List S->S3->M->Out Fl
 |[],ρ,μ=>.ok (.nx ρ) μ
 |s::ss,ρ,μ=>match run s ρ μ with
  |.ok (.nx ρ1) μ1=>runs ss ρ1 μ1
  |r=>r
end
noncomputable def fnOf (np nl:Nat)(body:List S):Fn:=fun ds μ=>if ds.length=np then match runs G body (ds.map some++List.replicate nl none) μ with
  |.ok (.rt d) μ1=>.ok d μ1
  |.ok (.nx _) μ1=>.ok .non μ1
  |.ok _ _=>.bad
  |.exc x μ1=>.exc x μ1
  |.bad=>.bad
 else .bad
end
section
variable {K:PySem.W.Frag} {w:Wd} {μ:M} {H:Hp} {n:Nat}
theorem jcp {d:D}{v x:V}(h:Den K w n d v)(e:jjl d=some x):v=x/\jfG v=true:=by
 cases d<;>simp only[jjl,j0G]at e<;>first|(subst e;unfold Den at h;subst h;exact⟨rfl,rfl⟩)|cases e
theorem jaR {d:D}{v:V}{ds:List D}(R:Rep K w μ H)(h:Den K w μ.length d v)(e:jf1 μ d=some ds):∃a xs,v=.ref a/\SqL K H a xs/\DenL K w μ.length ds xs:=by
 cases d with
 |lst xs=>
  simp only[jf1,j0G]at e;subst e;unfold Den at h;obtain⟨a,xs,h1,h2,h3⟩:=h;exact⟨a,xs,h1,SqL.of (R.sub _ _ h2),h3⟩
 |scr xs=>
  simp only[jf1,j0G]at e;subst e;unfold Den at h;obtain⟨a,xs,h1,h2,h3⟩:=h;exact⟨a,xs,h1,R.sub.seq h2,h3⟩
 |cel k=>
  simp only[jf1]at e;split at e
  ·rename_i ys hk;cases e;unfold Den at h;obtain⟨xs,h1,h2⟩:=(R.liv k _ hk).2;exact⟨_,xs,h.2,SqL.of h1,h2⟩
  ·cases e
 |_=>cases e
theorem jbU {ds:List D}{v:V}(R:Rep K w μ H)(h:Den K w μ.length (.tup ds) v):∃a xs,v=.ref a/\SqT K H a xs/\DenL K w μ.length ds xs:=by
 unfold Den at h;obtain⟨a,xs,h1,h2,h3⟩:=h;exact⟨a,xs,h1,SqT.of (R.sub _ _ h2),h3⟩
theorem jfW {d:D}{v:V}{ds:List D}(R:Rep K w μ H)(h:Den K w μ.length d v)(e:jfJ μ d=some ds):∃a xs,v=.ref a/\(SqL K H a xs∨SqT K H a xs)/\DenL K w μ.length ds xs:=by
 unfold jfJ at e;split at e
 ·cases e;obtain⟨a,xs,h1,h2,h3⟩:=jbU R h;exact⟨a,xs,h1,.inr h2,h3⟩
 ·obtain⟨a,xs,h1,h2,h3⟩:=jaR R h e;exact⟨a,xs,h1,.inl h2,h3⟩
theorem jad {ds:List D}{xs:List V}(h:DenL K w n ds xs):ds.length=xs.length:=(jav.mp h).length
theorem jgv:∀{ds:List D} {xs:List V} {i:Nat} {d:D},DenL K w n ds xs->ds[i]?=some d->∃v,xs[i]?=some v/\Den K w n d v:=by
 intro ds xs i d h e;have h':=jav.mp h;clear h
 induction h' generalizing i with
 |nil=>simp at e
 |cons r t ih=>
  cases i with
  |zero=>
   simp only[j04,j0G]at e;subst e;exact⟨_,rfl,r⟩
  |succ i=>simpa using ih (i:=i) (by simpa using e)
theorem jfp {α β:Type}{F:α->β->Prop}:∀{us ws:List α} {xs ys:List β},Paired F us xs->Paired F ws ys->Paired F (us++ws) (xs++ys)
 |_,_,_,_,.nil,s=>s
 |_,_,_,_,.cons r t,s=>.cons r (jfp t s)
theorem jgG {α β:Type}{F:α->β->Prop}:∀{us:List α} {xs:List β} (k:Nat),Paired F us xs->Paired F (us.take k) (xs.take k)
 |_,_,0,_=>by simp;exact .nil
 |_,_,_+1,.nil=>.nil
 |_,_,k+1,.cons r t=>.cons r (jgG k t)
theorem jgV {α β:Type}{F:α->β->Prop}:∀{us:List α} {xs:List β} (k:Nat),Paired F us xs->Paired F (us.drop k) (xs.drop k)
 |_,_,0,h=>h
 |_,_,_+1,.nil=>.nil
 |_,_,k+1,.cons r t=>jgV k t
theorem DenL.append {ds es:List D}{xs ys:List V}(h:DenL K w n ds xs)(k:DenL K w n es ys):DenL K w n (ds++es) (xs++ys):=jav.mpr (jfp (jav.mp h) (jav.mp k))
theorem DenL.cut {ds:List D}{xs:List V}(h:DenL K w n ds xs)(lo hi:Option Int):DenL K w n (cutD ds lo hi) (jsa xs lo hi):=by
 unfold cutD jsa;rw[jad h];exact jav.mpr (jgG _ (jgV _ (jav.mp h)))
theorem DenL.one {d:D}{v:V}(h:Den K w n d v):DenL K w n [d] [v]:=jav.mpr (.cons h .nil)
theorem jmc:∀{ds:List D} {xs:List V} {ns:List Bool},DenL K w n ds xs->jtN ds=some ns->xs=ns.map V.bl
 |[],xs,ns,h,e=>by
  cases e;unfold DenL at h;exact h
 |.bl i::ds,xs,ns,h,e=>by
  unfold DenL at h;obtain⟨v,ws,rfl,h1,h2⟩:=h;unfold Den at h1;unfold jtN at e
  cases e2:jtN ds with
  |none=>rw[e2]at e;cases e
  |some ms=>
   rw[e2]at e;cases e;rw[h1,jmc h2 e2];rfl
 |.non::_,_,_,_,e|.int _::_,_,_,_,e|.str _::_,_,_,_,e|.ty _::_,_,_,_,e|.tup _::_,_,_,_,e|.lst _::_,_,_,_,e|.scr _::_,_,_,_,e|.dK _ _::_,_,_,_,e|.dT _ _::_,_,_,_,e|.dF _ _::_,_,_,_,e|.obj _ _ _::_,_,_,_,e|.cel _::_,_,_,_,e=>by cases e
theorem jho:∀{ds:List D} {xs:List V} {ns:List Str},DenL K w n ds xs->jg5 ds=some ns->xs=ns.map V.str
 |[],xs,ns,h,e=>by
  cases e;unfold DenL at h;exact h
 |.str i::ds,xs,ns,h,e=>by
  unfold DenL at h;obtain⟨v,ws,rfl,h1,h2⟩:=h;unfold Den at h1;unfold jg5 at e
  cases e2:jg5 ds with
  |none=>rw[e2]at e;cases e
  |some ms=>
   rw[e2]at e;cases e;rw[h1,jho h2 e2];rfl
 |.non::_,_,_,_,e|.bl _::_,_,_,_,e|.int _::_,_,_,_,e|.ty _::_,_,_,_,e|.tup _::_,_,_,_,e|.lst _::_,_,_,_,e|.scr _::_,_,_,_,e|.dK _ _::_,_,_,_,e|.dT _ _::_,_,_,_,e|.dF _ _::_,_,_,_,e|.obj _ _ _::_,_,_,_,e|.cel _::_,_,_,_,e=>by cases e
abbrev jjA (K:PySem.W.Frag) (w:Wd) (n:Nat) (d:D) (μ':M) (Q:VK):Prop:=∀w' H' v,Ext w w' n μ'.length->Rep K w' μ' H'->Den K w' μ'.length d v->Q v H'
theorem jfs {Q:VK}{d:D}{p:Addr}{o:HO}(R:Rep K w μ H)(q:jjA K w μ.length d μ Q)(hp:H p=none)(hd:∀w',Ext w w' μ.length μ.length->w'.Z p=some o->Den K w' μ.length d (.ref p)):Q (.ref p) (upd H p o):=by
 obtain⟨R',x⟩:=R.frz hp o;exact q _ _ _ x R' (hd _ x jaz)
theorem jaf {Q:VK}{d:D}{v:V}(R:Rep K w μ H)(q:jjA K w μ.length d μ Q)(h:Den K w μ.length d v):Q v H:=q w H v (Ext.refl _ _) R h
theorem je7 {m:Bool}{ds:List D}{xs:List V}{d:D}{μ':M}{Q:VK}(R:Rep K w μ H)(h:DenL K w μ.length ds xs)(e:mkL m ds μ=.ok d μ')(q:jjA K w μ.length d μ' Q):∀p,H p=none->Q (.ref p) (upd H p (.lst xs)):=by
 intro p hp
 cases m with
 |false=>
  simp only[mkL,j0p,if_false]at e;cases e;exact jfs R q hp fun w' x hz=>by unfold Den;exact⟨p,xs,rfl,hz,h.mono x⟩
 |true=>
  simp only[mkL,if_true]at e;cases e;obtain⟨w',R',x,hg⟩:=R.cell hp (.lst xs) (.lst ds) (fun w' x=>⟨xs,jaz,h.mono x⟩);have hl:(μ++[some (Cl.lst ds)]).length=μ.length+1:=by simp
  refine q w' _ _ (by rw[hl];exact x) R' ?_;unfold Den;exact⟨by rw[hl];exact j0W _,by rw[hg]⟩
end
theorem imE {X:Cx}{e:Expr}{t t':TE}(h:PE X e t)(k:∀σ H Q,t' σ H Q->t σ H Q):PE X e t':=fun pins s σ H Q I hw=>h pins s σ H Q I (k σ H Q hw)
theorem imT {X:Cx}{e:Expr}{t t':TT}(h:PT X e t)(k:∀σ H Q,t' σ H Q->t σ H Q):PT X e t':=fun pins s σ H Q I hw=>h pins s σ H Q I (k σ H Q hw)
theorem imW {X:Cx}{e:Expr}{t t':TT}(h:PW X e t)(k:∀σ H Q,t' σ H Q->t σ H Q):PW X e t':=fun wh pins s σ H Q I hw=>h wh pins s σ H Q I (k σ H Q hw)
theorem imA {X:Cx}{e:List Expr}{t t':TA}(h:PA X e t)(k:∀σ H Q,t' σ H Q->t σ H Q):PA X e t':=fun pos pins s σ H Q I hw=>h pos pins s σ H Q I (k σ H Q hw)
theorem imS {X:Cx}{e:Stmt}{t t':TS}(h:PS X e t)(k:∀E σ H,t' E σ H->t E σ H):PS X e t':=fun pins s σ H Q I hw=>h pins s σ H Q I (k Q σ H hw)
theorem jvU {X:Cx}{e:List Stmt}{t t':TS}(h:PSs X e t)(k:∀E σ H,t' E σ H->t E σ H):PSs X e t':=fun pins s σ H Q I hw=>h pins s σ H Q I (k Q σ H hw)
section
variable {K:PySem.W.Frag}
def jpR (K:PySem.W.Frag)(f:D->D->M->Out D)(r:R2):Prop:=∀(w:Wd) (μ:M) (H:Hp) (d1 d2 d:D) (μ':M) (v1 v2:V) (Q:VK),Rep K w μ H->Den K w μ.length d1 v1->Den K w μ.length d2 v2->f d1 d2 μ=.ok d μ'->jjA K w μ.length d μ' Q->r v1 v2 H Q
theorem jru {f:D->D->M->Out D}{r:R2}{ra rb:S3->M->Out D}(hs:jpR K f r){σ:_L2.St}{H:Hp}{Q:VK} :
  T3E K (fun ρ μ=>(ra ρ μ).bind fun x μ1=>(rb ρ μ1).bind fun y μ2=>f x y μ2) σ H Q->tOp r (T3E K ra) (T3E K rb) σ H Q:=by
 rintro⟨w,μ,ρ,d,μ',R,S,e,q⟩;obtain⟨x,μ1,e1,e⟩:=Out.bind_ok e;obtain⟨y,μ2,e2,e⟩:=Out.bind_ok e;exact⟨w,μ,ρ,x,μ1,R,S,e1,fun w1 H1 v1 x1 R1 d1=>⟨w1,μ1,ρ,y,μ2,R1,S.mono x1,e2,fun w2 H2 v2 x2 R2 d2=>hs w2 μ2 H2 x y d μ' v1 v2 Q R2 (d1.mono x2) d2 e fun w3 H3 v x3 R3 d3=>q w3 H3 v ((x1.trans x2).trans x3) R3 d3⟩⟩
theorem jr4 {f:D->M->Out D}{r:V->Hp->VK->Prop}{ra:S3->M->Out D}(hs:∀(w:Wd) (μ:M) (H:Hp) (d1 d:D) (μ':M) (v1:V) (Q:VK),Rep K w μ H->Den K w μ.length d1 v1->f d1 μ=.ok d μ'->jjA K w μ.length d μ' Q->r v1 H Q){σ:_L2.St}{H:Hp}{Q:VK} :
  T3E K (fun ρ μ=>(ra ρ μ).bind fun x μ1=>f x μ1) σ H Q->T3E K ra σ H fun x H1=>r x H1 Q:=by
 rintro⟨w,μ,ρ,d,μ',R,S,e,q⟩;obtain⟨x,μ1,e1,e⟩:=Out.bind_ok e;exact⟨w,μ,ρ,x,μ1,R,S,e1,fun w1 H1 v1 x1 R1 d1=>hs w1 μ1 H1 x d μ' v1 Q R1 d1 e fun w3 H3 v x3 R3 d3=>q w3 H3 v (x1.trans x3) R3 d3⟩
end
section
variable {K:PySem.W.Frag} {X:Cx}
theorem jiP {C:Int->Int->Prop}{f:Int->Int->Int}:jpR K (jvV C f) (rI C fun i j=>.int (f i j)):=by
 intro w μ H d1 d2 d μ' v1 v2 Q R h1 h2 e q;unfold jvV at e;split at e
 ·split at e
  ·rename_i hc;cases e;unfold Den at h1 h2;exact⟨_,_,h1,h2,hc,jaf R q (by unfold Den;rfl)⟩
  ·cases e
 ·cases e
def jv8 (K:PySem.W.Frag):R2:=fun x y H Q=>rI0 (fun i j=>.int (i+j)) x y H Q∨(∃i j,x=.str i/\y=.str j/\i.length+j.length<=sizeLine/\Q (.str (i++j)) H)∨(jyj K x y H Q∨jws K x y H Q)∨jxD K x y H Q
theorem js8:OpR X (binaryOp .Add) (jv8 X.K):=jxa.or (jm0.or ((jue.or jvn).or jvH))
theorem jtK {m:Bool}:jpR K (jzz m) (jv8 K):=by
 intro w μ H d1 d2 d μ' v1 v2 Q R h1 h2 e q;unfold jzz at e;split at e
 ·cases e;unfold Den at h1 h2;exact .inl ⟨_,_,h1,h2,jaf R q (by unfold Den;rfl)⟩
 ·split at e
  ·rename_i hc;cases e;unfold Den at h1 h2;exact .inr (.inl ⟨_,_,h1,h2,hc,jaf R q (by unfold Den;rfl)⟩)
  ·cases e
 ·split at e
  ·rename_i hc;cases e;obtain⟨a,us,rfl,s1,l1⟩:=jbU R h1;obtain⟨b,ws,rfl,s2,l2⟩:=jbU R h2;by_cases hu:us=[]
   ·subst hu;cases jav.mp l1;rw[j1f]at q;exact .inr (.inr (.inl (.inl ⟨a,b,ws,rfl,rfl,s1,s2,jaf R q h2⟩)))
   refine .inr (.inr (.inl (.inr ⟨a,b,us,ws,rfl,rfl,s1,s2,hu,by rw[<- jad l1,<- jad l2];exact hc,fun z=>?_,fun z p hp=>?_⟩)))
   ·subst z;cases jav.mp l2;rw[j0C]at q;exact jaf R q h1
   ·exact jfs R q hp fun w' x hz=>by unfold Den;exact⟨p,_,rfl,hz,(l1.append l2).mono x⟩
  ·cases e
 ·split at e
  ·rename_i xs ys e1 e2;split at e
   ·rename_i hc;obtain⟨a,us,rfl,s1,l1⟩:=jaR R h1 e1;obtain⟨b,ws,rfl,s2,l2⟩:=jaR R h2 e2;exact .inr (.inr (.inr ⟨a,b,us,ws,rfl,rfl,s1,s2,by rw[<- jad l1,<- jad l2];exact hc,je7 R (l1.append l2) e q⟩))
   ·cases e
  ·cases e
def jzH (K:PySem.W.Frag):R2:=fun x y H Q=>rI jqI (fun i j=>.int (i*j)) x y H Q∨jwu x y H Q∨jxB K x y H Q
theorem jlZ {w:Wd}{n:Nat}{ds:List D}{xs:List V}(h:DenL K w n ds xs):∀k:Nat,DenL K w n (List.replicate k ds).flatten (List.replicate k xs).flatten
 |0=>by unfold DenL;rfl
 |k+1=>by
  rw[j0U,j0U,j1u,j1u];exact h.append (jlZ h k)
theorem juP:jpR K jzw (jzH K):=by
 intro w μ H d1 d2 d μ' v1 v2 Q R h1 h2 e q;unfold jzw at e;split at e
 ·split at e
  ·rename_i hc;cases e;unfold Den at h1 h2;exact .inl ⟨_,_,h1,h2,hc,jaf R q (by unfold Den;rfl)⟩
  ·cases e
 ·split at e
  ·rename_i hc;cases e;unfold Den at h1 h2;exact .inr (.inl ⟨_,_,h1,h2,hc.1,hc.2.1,hc.2.2,jaf R q (by unfold Den;rfl)⟩)
  ·cases e
 ·split at e
  ·rename_i hc;obtain⟨a,us,rfl,s1,l1⟩:=jaR R h1 rfl;unfold Den at h2;refine .inr (.inr ⟨a,us,_,rfl,h2,s1,fun z=>?_,by rw[<- jad l1];exact hc.2.2.2,hc.1,hc.2.1,je7 (m:=false) R (jlZ l1 _) e q⟩);subst z;cases jav.mp l1;exact hc.2.2.1 rfl
  ·cases e
 ·cases e
theorem jnP:OpR X (binaryOp .FloorDiv) (rI jwd fun i j=>.int (i / j)):=opI fun i j _ _ _ _ _ hc q=>by
 have h1:(0:Int)<j:=hc.1;have h2:j<18446744073709551616:=hc.2;have h3:j.natAbs.log2<64:=(Nat.log2_lt (by omega)).mpr (by omega);exact floordiv_int (by omega) (by rw[Int.fdiv_eq_ediv_of_nonneg i (by omega)];exact q) (.inl (PyProof.noPylong_of_log2 (by omega)))
theorem jk1 {f:Value->Value->Sem Value}{r r':R2}(h:OpR X f r)(k:∀x y H Q,r' x y H Q->r x y H Q):OpR X f r':=fun pins s σ H x y v u Q I rx ry q=>h pins s σ H x y v u Q I rx ry (k _ _ _ _ q)
theorem jqh:OpR X (binaryOp .Mult) (rI jqI fun i j=>.int (i*j)):=jk1 jwp fun x y H Q ⟨i,j,h1,h2,hc,q⟩=>⟨i,j,h1,h2,by unfold jqI at hc;unfold jyR;omega,q⟩
theorem jqw:OpR X (binaryOp .Pow) (rI jwl fun i j=>.int (i ^ j.toNat)):=jk1 jyq fun x y H Q ⟨i,j,h1,h2,hc,q⟩=>⟨i,j,h1,h2,⟨hc.1,hc.2.1,by have:=hc.2.2;omega⟩,q⟩
theorem jwG {op:Operator}{m:Bool}:∃r,OpR X (binaryOp op) r/\jpR X.K (jiV op m) r:=by
 cases op with
 |Add=>exact⟨_,js8,jtK⟩
 |Sub=>exact⟨_,jk1 jxZ fun x y H Q ⟨i,j,h1,h2,_,q⟩=>⟨i,j,h1,h2,q⟩,jiP⟩
 |Mult=>exact⟨_,(jqh).or (juA.or juo),juP⟩
 |FloorDiv=>exact⟨_,jnP,jiP⟩
 |Mod=>exact⟨_,jxr,jiP⟩
 |Pow=>exact⟨_,jqw,jiP⟩
 |_=>exact⟨fun _ _ _ _=>False,fun _ _ _ _ _ _ _ _ _ _ _ _ h=>h.elim,fun _ _ _ _ _ _ _ _ _ _ _ _ _ e _=>by cases e⟩
theorem joH {A:Around}{s:Shared}{w:Wd}{n:Nat}{f:D->D->Option Bool}(hf:∀d1 d2 x y u v b,Den K w n d1 x->Den K w n d2 y->jaN x u->jaN y v->f d1 d2=some b->SeqAt.EqAt A s u v b) :
  ∀{ds es:List D} {xs ys:List V} {us vs:List Value} {b:Bool},DenL K w n ds xs->DenL K w n es ys->jaO xs us->jaO ys vs->jkD f ds es=some b ->
   ∃g:Nat->Bool,(∀(j:Nat) (h1:j<us.length) (h2:j<vs.length),SeqAt.EqAt A s us[j] vs[j] (g j))/\(List.range (min us.length vs.length)).all g=b:=by
 intro ds es xs ys us vs b h1 h2 r1 r2;have p1:=jav.mp h1;have p2:=jav.mp h2;clear h1 h2
 induction p1 generalizing es ys us vs b with
 |nil=>
  intro e;cases r1;simp only[jkD,j0G]at e;subst e;exact⟨fun _=>true,fun j h=>absurd h (by simp),by simp⟩
 |cons k1 t1 ih=>
  intro e
  cases p2 with
  |nil=>
   cases r2;simp only[jkD,j0G]at e;subst e;exact⟨fun _=>true,fun j _ h=>absurd h (by simp),by simp⟩
  |cons k2 t2=>
   cases r1 with
   |cons q1 q1'=>
    cases r2 with
    |cons q2 q2'=>
     simp only[jkD]at e;split at e
     ·rename_i a c ea ec;cases e;obtain⟨g,hg,hb⟩:=ih q1' q2' t2 ec;refine⟨fun j=>match j with|0=>a|j+1=>g j,fun j j1 j2=>?_,?_⟩
      ·cases j with
       |zero=>exact hf _ _ _ _ _ _ _ k1 k2 q1 q2 ea
       |succ j=>exact hg j (Nat.lt_of_succ_lt_succ j1) (Nat.lt_of_succ_lt_succ j2)
      ·rw[<- hb,j0q,j0q,Nat.add_min_add_right,List.range_succ_eq_map,j0Y,List.all_map];rfl
     ·cases e
section
variable {pins:List (Addr×Obj)} {σ:_L2.St} {H:Hp} {s:Shared} {w:Wd} {μ:M}
theorem ju8 (I:Inv X pins σ H s){a:Addr}{xs ys:List V}(h:SqT X.K H a xs)(k:SqT X.K H a ys):xs=ys:=by
 obtain⟨its,rv,p,_⟩:=I.tuple h;obtain⟨its2,rv2,p2,_⟩:=I.tuple k;obtain⟨o,g1,_,n1,d1⟩:=p;obtain⟨o2,g2,_,n2,d2⟩:=p2;rw[g1]at g2;cases g2;rw[d1]at d2;have e:its=its2:=by
  injection d2 with e _;simpa using e
 subst e;exact jaO.inj rv rv2
theorem juT (I:Inv X pins σ H s){a:Addr}{xs ys:List V}(h:SqL X.K H a xs)(k:SqL X.K H a ys):xs=ys:=by
 obtain⟨its,rv,p,_⟩:=I.list h;obtain⟨its2,rv2,p2,_⟩:=I.list k;obtain⟨o,n1,g1,_,_,d1⟩:=p;obtain⟨o2,n2,g2,_,_,d2⟩:=p2;rw[g1]at g2;cases g2;rw[d1]at d2;have e:its=its2:=by
  injection d2 with e _;simpa using e
 subst e;exact jaO.inj rv rv2
theorem jj5 {f:D->D->Option Bool}{n:Nat}(hf:∀d1 d2 x b,Den X.K w n d1 x->Den X.K w n d2 x->f d1 d2=some b->b=true):∀{ds es:List D} {xs:List V} {b:Bool},DenL X.K w n ds xs->DenL X.K w n es xs->jkD f ds es=some b->b=true:=by
 intro ds es xs b h1 h2;have p1:=jav.mp h1;have p2:=jav.mp h2;clear h1 h2
 induction p1 generalizing es b with
 |nil=>
  intro e;simp only[jkD,j0G]at e;exact e.symm
 |cons k1 t1 ih=>
  intro e
  cases p2 with
  |cons k2 t2=>
   simp only[jkD]at e;split at e
   ·rename_i a c ea ec;cases e;rw[hf _ _ _ _ k1 k2 ea,ih t2 ec];rfl
   ·cases e
theorem jmf (I:Inv X pins σ H s)(R:Rep X.K w μ H){f:D->D->Option Bool}(hf:∀d1 d2 x b,Den X.K w μ.length d1 x->Den X.K w μ.length d2 x->f d1 d2=some b->b=true){d1 d2:D}{x:V}{b:Bool}(h1:Den X.K w μ.length d1 x)(h2:Den X.K w μ.length d2 x)(e:eqN f μ d1 d2=some b):b=true:=by
 unfold eqN at e;split at e
 ·rename_i xs ys;obtain⟨a,us,e1,s1,l1⟩:=jbU R h1;obtain⟨c,ws,e2,s2,l2⟩:=jbU R h2;rw[e1]at e2;cases e2;have:=ju8 I s1 s2;subst this
  cases e3:jkD f xs ys with
  |none=>rw[e3]at e;cases e
  |some k=>
   rw[e3]at e;cases e;rw[jj5 hf l1 l2 e3,jad l1,jad l2];simp
 ·split at e
  ·rename_i xs ys q1 q2;obtain⟨a,us,e1,s1,l1⟩:=jaR R h1 q1;obtain⟨c,ws,e2,s2,l2⟩:=jaR R h2 q2;rw[e1]at e2;cases e2;have:=juT I s1 s2;subst this;rw[if_pos (by rw[jad l1,jad l2])]at e;exact jj5 hf l1 l2 e
  ·cases e
theorem jlB (I:Inv X pins σ H s)(R:Rep X.K w μ H):∀(n:Nat) (d1 d2:D) (x:V) (b:Bool),Den X.K w μ.length d1 x->Den X.K w μ.length d2 x->eqD μ n d1 d2=some b->b=true
 |0,_,_,_,_,_,_,e=>by cases e
 |n+1,d1,d2,x,b,h1,h2,e=>by
  unfold eqD at e;split at e
  ·rename_i x' y' e1 e2;cases e;obtain⟨q1,f1⟩:=jcp h1 e1;obtain⟨q2,f2⟩:=jcp h2 e2;rw[<- q1,<- q2];exact jlO f1
  ·exact jmf I R (jlB I R n) h1 h2 e
theorem jpN (I:Inv X pins σ H s)(R:Rep X.K w μ H){A:Around}{f:D->D->Option Bool}(hu:A.units<cLine)(hf:∀d1 d2 x y u v b,Den X.K w μ.length d1 x->Den X.K w μ.length d2 y->jaN x u->jaN y v->f d1 d2=some b->SeqAt.EqAt A.in1 s u v b)
  {d1 d2:D} {x y:V} {b:Bool} (h1:Den X.K w μ.length d1 x) (h2:Den X.K w μ.length d2 y) (e:eqN f μ d1 d2=some b) :
  ∃a c,x=.ref a/\y=.ref c/\SeqAt.RcAt A s (.ref a) (.ref c) b/\SeqAt.RcNeAt A s (.ref a) (.ref c) (!b):=by
 unfold eqN at e;split at e
 ·rename_i xs ys;obtain⟨a,us,rfl,s1,l1⟩:=jbU R h1;obtain⟨c,ws,rfl,s2,l2⟩:=jbU R h2
  cases e3:jkD f xs ys with
  |none=>rw[e3]at e;cases e
  |some k=>
   rw[e3]at e;cases e;obtain⟨its,rv,p,_⟩:=I.tuple s1;obtain⟨its2,rv2,p2,_⟩:=I.tuple s2;obtain⟨g,hg,hk⟩:=joH hf l1 l2 rv rv2 e3;have hj:∀j (h1:j<its.toArray.size) (h2:j<its2.toArray.size),SeqAt.EqAt A.in1 s its.toArray[j] its2.toArray[j] (g j):=fun j h1 h2=>by
    have:=hg j (by simpa using h1) (by simpa using h2);simpa using this
   have t1:=SeqAt.RcAt.tuples (A:=A) (e:=g) (show s.heap.IsTuple a its.toArray from p) (show s.heap.IsTuple c its2.toArray from p2) hu hj;have t2:=SeqAt.RcNeAt.tuples (A:=A) (e:=g) (show s.heap.IsTuple a its.toArray from p) (show s.heap.IsTuple c its2.toArray from p2) hu hj;have el:(its.toArray.size==its2.toArray.size)=(xs.length==ys.length):=by
    rw[j0j,j0j,<- rv.length,<- rv2.length,jad l1,jad l2]
   have ek:(List.range (min its.toArray.size its2.toArray.size)).all g=k:=by simpa using hk
   rw[el,ek]at t1 t2;exact⟨a,c,rfl,rfl,t1,t2⟩
 ·split at e
  ·rename_i xs ys q1 q2;obtain⟨a,us,rfl,s1,l1⟩:=jaR R h1 q1;obtain⟨c,ws,rfl,s2,l2⟩:=jaR R h2 q2;obtain⟨its,rv,p,_⟩:=I.list s1;obtain⟨its2,rv2,p2,_⟩:=I.list s2;have z1:its.toArray.size=xs.length:=by rw[j0j,<- rv.length,jad l1]
   have z2:its2.toArray.size=ys.length:=by rw[j0j,<- rv2.length,jad l2]
   split at e
   ·rename_i hl;obtain⟨g,hg,hk⟩:=joH hf l1 l2 rv rv2 e;have hj:∀j (h1:j<its.toArray.size) (h2:j<its2.toArray.size),SeqAt.EqAt A.in1 s its.toArray[j] its2.toArray[j] (g j):=fun j h1 h2=>by
     have:=hg j (by simpa using h1) (by simpa using h2);simpa using this
    have t1:=SeqAt.RcAt.lists (A:=A) (e:=g) p.isList p2.isList (by rw[z1,z2,hl]) hu hj;have t2:=SeqAt.RcNeAt.lists (A:=A) (e:=g) p.isList p2.isList (by rw[z1,z2,hl]) hu hj;have ek:(List.range its.toArray.size).all g=b:=by
     have:min its.length its2.length=its.toArray.size:=by
      rw[<- j0j,<- j0j,z1,z2,hl,Nat.min_self]
     rw[this]at hk;exact hk
    rw[ek]at t1 t2;exact⟨a,c,rfl,rfl,t1,t2⟩
   ·rename_i hl;cases e;have hne:(its.toArray.size !=its2.toArray.size)=true:=by
     rw[z1,z2];simp[hl]
    exact⟨a,c,rfl,rfl,SeqAt.RcAt.lists_lengths (A:=A) p.isList p2.isList hne hu,SeqAt.RcNeAt.lists_lengths (A:=A) p.isList p2.isList hne hu⟩
  ·cases e
theorem jpm (I:Inv X pins σ H s)(R:Rep X.K w μ H):∀(n:Nat) {A:Around} (d1 d2:D) (x y:V) (u v:Value) (b:Bool),A.units+n<cLine ->
  Den X.K w μ.length d1 x->Den X.K w μ.length d2 y->jaN x u->jaN y v->eqD μ n d1 d2=some b->SeqAt.EqAt A s u v b
 |0,A,d1,d2,x,y,u,v,b,hu,h1,h2,r1,r2,e=>by cases e
 |n+1,A,d1,d2,x,y,u,v,b,hu,h1,h2,r1,r2,e=>by
  have hu1:A.units<cLine:=by omega
  unfold eqD at e;split at e
  ·rename_i x' y' e1 e2;cases e;obtain⟨rfl,f1⟩:=jcp h1 e1;obtain⟨rfl,f2⟩:=jcp h2 e2;exact jso r1 r2 f1 f2
  ·obtain⟨a,c,rfl,rfl,t1,_⟩:=jpN I R hu1 (fun d1 d2 x y u v b=>jpm I R n (A:=A.in1) d1 d2 x y u v b (by rw[Around.in1_units];omega)) h1 h2 e;cases r1;cases r2;by_cases hne:a=c
   ·subst hne;rw[jmf I R (jlB I R n) h1 h2 e];exact SeqAt.EqAt.same _
   ·exact SeqAt.EqAt.of_refs hne t1
end
def jzh (K:PySem.W.Frag)(ne:Bool):R2:=fun x y H Q=>(jy5 x y=true/\Q (.bl (if ne then !decide (x=y)else decide (x=y))) H)∨∃w μ d1 d2 b,Rep K w μ H/\Den K w μ.length d1 x/\Den K w μ.length d2 y/\eqN (eqD μ 8) μ d1 d2=some b/\Q (.bl (if ne then !b else b)) H
theorem jw9 (hu:X.A.units+16<cLine):OpR X (compareOp .Eq) (jzh X.K false):=by
 intro pins s σ H x y v u Q I rx ry h;rcases h with⟨hs,q⟩|⟨w,μ,d1,d2,b,R,h1,h2,e,q⟩
 ·exact jzB pins s σ H x y v u Q I rx ry ⟨hs,q⟩
 ·obtain⟨a,c,rfl,rfl,t1,_⟩:=jpN I R (A:=X.A) (by omega) (fun d1 d2 x y u v b=>jpm I R 8 (A:=X.A.in1) d1 d2 x y u v b (by rw[Around.in1_units];omega)) h1 h2 e;cases rx;cases ry;exact t1 _ _ _ _ ⟨.bl b,H,I,rfl,q⟩
theorem jxQ (hu:X.A.units+16<cLine):OpR X (compareOp .NotEq) (jzh X.K true):=by
 intro pins s σ H x y v u Q I rx ry h;rcases h with⟨hs,q⟩|⟨w,μ,d1,d2,b,R,h1,h2,e,q⟩
 ·exact jzQ pins s σ H x y v u Q I rx ry ⟨hs,q⟩
 ·obtain⟨a,c,rfl,rfl,_,t2⟩:=jpN I R (A:=X.A) (by omega) (fun d1 d2 x y u v b=>jpm I R 8 (A:=X.A.in1) d1 d2 x y u v b (by rw[Around.in1_units];omega)) h1 h2 e;cases rx;cases ry;exact t2 _ _ _ _ ⟨.bl (!b),H,I,rfl,q⟩
theorem jjq {op:CmpOp}{a b d:D}{μ μ':M}(e:jdO op a b μ=.ok d μ'):∃r,jny op a b μ=some r/\d=.bl r/\μ'=μ:=by
 unfold jdO at e;split at e
 ·rename_i r hr;cases e;exact⟨r,hr,rfl,rfl⟩
 ·cases e
theorem jxq {w:Wd}{n:Nat}{x:V}:∀{ds:List D} {xs:List V} {b:Bool},DenL K w n ds xs->jvT x ds=some b->xs.all jfG=true/\inV x xs=b:=by
 intro ds xs b h;have p:=jav.mp h;clear h
 induction p generalizing b with
 |nil=>
  intro e;cases e;exact⟨rfl,rfl⟩
 |cons k t ih=>
  intro e;simp only[jvT]at e;split at e
  ·rename_i y r e1 e2;cases e;obtain⟨q,f⟩:=jcp k e1;obtain⟨i1,i2⟩:=ih e2;refine⟨by rw[j0Y,f,i1];rfl,?_⟩;unfold inV at i2 ⊢;rw[List.any_cons,i2,q]
  ·cases e
theorem jlT {w:Wd}{μ:M}{H:Hp}{d:D}{v:V}{ks:List Key}{vs:List D}(R:Rep K w μ H)(h:Den K w μ.length d v)(e:jlc μ d=some (ks,vs)):∃a xs,v=.ref a/\ks.length=vs.length/\Rd H a (.dK (ks.zip xs))/\DenL K w μ.length vs xs:=by
 cases d with
 |dK ks' vs'=>
  simp only[jlc,j0G,Prod.mk.injEq]at e;obtain⟨rfl,rfl⟩:=e;unfold Den at h;obtain⟨a,xs,h1,h2,h3,h4⟩:=h;exact⟨a,xs,h1,h2,.inl (R.sub _ _ h3),h4⟩
 |dF ks' vs'=>
  simp only[jlc,j0G,Prod.mk.injEq]at e;obtain⟨rfl,rfl⟩:=e;unfold Den at h;obtain⟨a,o,es,ep,xs,h1,h2,h3,h4,h5⟩:=h;exact⟨a,xs,h1,h2,.inr ⟨o,R.sub _ _ h4⟩,h5⟩
 |cel k=>
  simp only[jlc]at e;split at e
  ·rename_i ks' vs' hk;simp only[j0G,Prod.mk.injEq]at e;obtain⟨rfl,rfl⟩:=e;unfold Den at h;obtain⟨xs,h0,h1,h2⟩:=(R.liv k _ hk).2;exact⟨_,xs,h.2,h0,.inl h1,h2⟩
  ·cases e
 |_=>cases e
theorem jgf {κ:Type}[DecidableEq κ]{w:Wd}{n:Nat}(k:κ):∀{ks:List κ} {vs:List D} {xs:List V},DenL K w n vs xs->ks.length=vs.length->(∀d,jjx k ks vs=some d->∃v,jnr (ks.zip xs) k=some v/\Den K w n d v)/\(jjx k ks vs=none->jnr (ks.zip xs) k=none)
 |[],vs,xs,h,hl=>⟨fun d e=>(by cases e),fun _=>rfl⟩
 |g::ks,[],xs,h,hl=>by cases hl
 |g::ks,d::vs,xs,h,hl=>by
  unfold DenL at h;obtain⟨v,ws,rfl,h1,h2⟩:=h;obtain⟨i1,i2⟩:=jgf k h2 (by simpa using hl);rw[List.zip_cons_cons];by_cases c:g=k
  ·have a1:jjx k (g::ks) (d::vs)=some d:=by unfold jjx;rw[if_pos c]
   rw[a1,jiJ (p:=(g,v)) c];exact⟨fun d' e=>by cases e;exact⟨v,rfl,h1⟩,fun e=>by cases e⟩
  ·have a1:jjx k (g::ks) (d::vs)=jjx k ks vs:=by rw[jjx,if_neg c]
   rw[a1,jjp (p:=(g,v)) c];exact⟨i1,i2⟩
theorem jsj {w:Wd}{n:Nat}{d:D}{v:V}{k:Key}(h:Den K w n d v)(e:jyT d=some k):v=kV k:=by
 cases d<;>simp only[jyT,j0G]at e<;>first|(subst e;unfold Den at h;exact h)|cases e
theorem jss {neg:Bool}:jpR K (fun a b μ=>match(inD μ a b).map (fun r=>if neg then !r else r)with
  |some r=>.ok (.bl r) μ
  |none=>.bad) (fun x y H Q=>rIn K neg x y H Q∨jtY neg x y H Q∨jzG neg x y H Q):=by
 intro w μ H d1 d2 d μ' v1 v2 Q R h1 h2 e q;dsimp only at e
 cases e0:inD μ d1 d2 with
 |none=>rw[e0]at e;cases e
 |some r=>
  rw[e0]at e;cases e;unfold inD at e0;split at e0
  ·rename_i ds e2;split at e0
   ·rename_i x e1;obtain⟨q1,f1⟩:=jcp h1 e1;obtain⟨a,xs,rfl,s2,l2⟩:=jfW R h2 e2;obtain⟨i1,i2⟩:=jxq l2 e0;exact .inl ⟨a,xs,rfl,s2,f1,i1,by rw[q1,i2];exact jaf R q (by unfold Den;rfl)⟩
   ·cases e0
  ·split at e0
   ·rename_i k ks vs e1 e2;cases e0;obtain⟨a,xs,rfl,hl,hz,l2⟩:=jlT R h2 e2;obtain⟨i1,i2⟩:=jgf k l2 hl;have es:(jnr (ks.zip xs) k).isSome=(jjx k ks vs).isSome:=by
     cases hg:jjx k ks vs with
     |none=>rw[i2 hg];rfl
     |some d=>
      obtain⟨v,hv,_⟩:=i1 d hg;rw[hv];rfl
    exact .inr (.inl ⟨a,_,rfl,.inl ⟨_,k,hz,jsj h1 e1,rfl⟩,by rw[es];exact jaf R q (by unfold Den;rfl)⟩)
   ·split at e0
    ·cases e0;unfold Den at h1 h2;exact .inr (.inr ⟨_,_,h1,h2,jaf R q (by unfold Den;rfl)⟩)
    ·cases e0
theorem jcr {f:D->D->M->Out D}{r:R2}(h:∀(w:Wd) (μ:M) (H:Hp) (d1 d2:D) (b:Bool) (v1 v2:V) (Q:VK),Rep K w μ H->Den K w μ.length d1 v1->Den K w μ.length d2 v2->f d1 d2 μ=.ok (.bl b) μ->Q (.bl b) H->r v1 v2 H Q)(hb:∀d1 d2 d μ μ',f d1 d2 μ=.ok d μ'->∃b,d=.bl b/\μ'=μ):jpR K f r:=by
 intro w μ H d1 d2 d μ' v1 v2 Q R h1 h2 e q;obtain⟨b,rfl,rfl⟩:=hb _ _ _ _ _ e;exact h w μ' H d1 d2 b v1 v2 Q R h1 h2 e (jaf R q (by unfold Den;rfl))
theorem jd4 {op:CmpOp}:∀d1 d2 d μ μ',jdO op d1 d2 μ=.ok d μ'->∃b,d=.bl b/\μ'=μ:=fun _ _ _ _ _ e=>let⟨r,_,h1,h2⟩:=jjq e;⟨r,h1,h2⟩
theorem jf3 {op:CmpOp}{a b:D}{μ:M}{r:Bool}(e:jdO op a b μ=.ok (.bl r) μ):jny op a b μ=some r:=by
 obtain⟨r',h,h1,_⟩:=jjq e;cases h1;exact h
theorem jpn {w:Wd}{μ:M}{H:Hp}{d1 d2:D}{b:Bool}{v1 v2:V}{Q:VK}(ne:Bool)(R:Rep K w μ H)(h1:Den K w μ.length d1 v1)(h2:Den K w μ.length d2 v2)(e:jk2 μ d1 d2=some b)(q:Q (.bl (if ne then !b else b)) H):jzh K ne v1 v2 H Q:=by
 unfold jk2 at e;split at e
 ·rename_i x y e1 e2;split at e
  ·rename_i hs;cases e;obtain⟨rfl,_⟩:=jcp h1 e1;obtain⟨rfl,_⟩:=jcp h2 e2;exact .inl ⟨hs,q⟩
  ·cases e
 ·exact .inr ⟨w,μ,d1,d2,b,R,h1,h2,e,q⟩
theorem jpj {op:CmpOp}(hu:X.A.units+16<cLine):∃r,OpR X (compareOp op) r/\jpR X.K (jdO op) r:=by
 cases op with
 |Eq=>exact⟨_,jw9 hu,jcr (fun w μ H d1 d2 b v1 v2 Q R h1 h2 e q=>jpn false R h1 h2 (jf3 e) q) jd4⟩
 |NotEq=>
  refine⟨_,jxQ hu,jcr (fun w μ H d1 d2 b v1 v2 Q R h1 h2 e q=>?_) jd4⟩;have e':(jk2 μ d1 d2).map (!·)=some b:=jf3 e
  cases e2:jk2 μ d1 d2 with
  |none=>rw[e2]at e';cases e'
  |some c=>
   rw[e2]at e';cases e';exact jpn true R h1 h2 e2 q
 |Lt=>
  refine⟨_,(jAl.or joC),jcr (fun w μ H d1 d2 b v1 v2 Q R h1 h2 e q=>?_) jd4⟩;have e':=jf3 e;simp only[jny]at e';split at e'
  ·cases e';unfold Den at h1 h2;exact .inl ⟨_,_,h1,h2,q⟩
  ·cases e';unfold Den at h1 h2;exact .inr ⟨_,_,h1,h2,q⟩
  ·cases e'
 |LtE=>
  refine⟨_,(jzN.or joV),jcr (fun w μ H d1 d2 b v1 v2 Q R h1 h2 e q=>?_) jd4⟩;have e':=jf3 e;simp only[jny]at e';split at e'
  ·cases e';unfold Den at h1 h2;exact .inl ⟨_,_,h1,h2,q⟩
  ·cases e';unfold Den at h1 h2;exact .inr ⟨_,_,h1,h2,q⟩
  ·cases e'
 |Gt=>
  refine⟨_,jA,jcr (fun w μ H d1 d2 b v1 v2 Q R h1 h2 e q=>?_) jd4⟩;have e':=jf3 e;simp only[jny]at e';split at e'
  ·cases e';unfold Den at h1 h2;exact⟨_,_,h1,h2,q⟩
  ·cases e'
 |GtE=>
  refine⟨_,jz5,jcr (fun w μ H d1 d2 b v1 v2 Q R h1 h2 e q=>?_) jd4⟩;have e':=jf3 e;simp only[jny]at e';split at e'
  ·cases e';unfold Den at h1 h2;exact⟨_,_,h1,h2,q⟩
  ·cases e'
 |In=>
  refine⟨_,joX.or ((juQ (by omega)).or jwV),fun w μ H d1 d2 d μ' v1 v2 Q R h1 h2 e q=>jss (neg:=false) w μ H d1 d2 d μ' v1 v2 Q R h1 h2 ?_ q⟩;obtain⟨r,hr,h3,h4⟩:=jjq e;have hr':inD μ d1 d2=some r:=hr;dsimp only;rw[hr',h3,h4];rfl
 |NotIn=>
  refine⟨_,jjF.or ((jmU (by omega)).or jux),fun w μ H d1 d2 d μ' v1 v2 Q R h1 h2 e q=>jss (neg:=true) w μ H d1 d2 d μ' v1 v2 Q R h1 h2 ?_ q⟩;obtain⟨r,hr,h3,h4⟩:=jjq e;have hr':(inD μ d1 d2).map (!·)=some r:=hr;dsimp only;rw[h3,h4]
  cases e2:inD μ d1 d2 with
  |none=>rw[e2]at hr';cases hr'
  |some c=>
   rw[e2]at hr';cases hr';rfl
 |Is=>
  refine⟨_,jwy,jcr (fun w μ H d1 d2 b v1 v2 Q R h1 h2 e q=>?_) jd4⟩;have e':=jf3 e;simp only[jny]at e';split at e'
  ·cases e';unfold Den at h1 h2;exact⟨_,_,h1,h2,q⟩
  ·cases e'
 |IsNot=>
  refine⟨_,jnH,jcr (fun w μ H d1 d2 b v1 v2 Q R h1 h2 e q=>?_) jd4⟩;have e':=jf3 e;simp only[jny]at e';split at e'
  ·cases e';unfold Den at h1 h2;exact⟨_,_,h1,h2,q⟩
  ·cases e'
theorem jre {w:Wd}{n:Nat}{ds:List D}{xs:List V}{i:Int}{d:D}(h:DenL K w n ds xs)(e:atI ds i=some d):∃v,atI xs i=some v/\Den K w n d v:=by
 unfold atI at e ⊢;rw[jad h]at e
 cases e2:ixN xs.length i with
 |none=>rw[e2]at e;cases e
 |some j=>
  rw[e2]at e;exact jgv h e
theorem joF {w:Wd}{μ μ':M}{H:Hp}{d1 d:D}{v1 v2:V}{k:Key}{Q:VK}(R:Rep K w μ H)(h1:Den K w μ.length d1 v1)(hk:v2=kV k)(e:jvP d1 k μ=.ok d μ')(q:jjA K w μ.length d μ' Q):jsU v1 v2 H Q:=by
 unfold jvP at e;split at e
 ·rename_i ks vs e2;split at e
  ·rename_i d' hd;obtain⟨a,xs,rfl,hl,hz,l2⟩:=jlT R h1 e2;obtain⟨v,hv,hdv⟩:=(jgf k l2 hl).1 d' hd;cases e;exact⟨a,v,rfl,.inl ⟨_,k,hz,hk,hv.symm⟩,jaf R q hdv⟩
  ·cases e
 ·cases e
theorem jz7:jpR K ixD (fun x y H Q=>rIx K x y H Q∨jsU x y H Q):=by
 intro w μ H d1 d2 d μ' v1 v2 Q R h1 h2 e q;unfold ixD at e;split at e
 ·rename_i i;unfold Den at h2;split at e
  ·rename_i z;unfold Den at h1;split at e
   ·rename_i hz;split at e
    ·rename_i c hc;cases e;exact .inl (.inr (.inr ⟨z,i,c,h1,h2,hz,hc,jaf R q (by unfold Den;rfl)⟩))
    ·cases e
   ·cases e
  ·split at e
   ·rename_i ds hs;split at e
    ·rename_i d' hd;cases e;obtain⟨a,xs,rfl,s1,l1⟩:=jfW R h1 hs;obtain⟨v,e1,e2⟩:=jre l1 hd;rcases s1 with s1|s1
     ·exact .inl (.inl ⟨a,xs,i,v,rfl,h2,s1,e1,jaf R q e2⟩)
     ·exact .inl (.inr (.inl ⟨a,xs,i,v,rfl,h2,s1,e1,jaf R q e2⟩))
    ·cases e
   ·exact .inr (joF R h1 (k:=.inl i) h2 e q)
 ·rename_i k;unfold Den at h2;exact .inr (joF R h1 (k:=.inr k) h2 e q)
 ·cases e
noncomputable def jAo (K:PySem.W.Frag):V->Option Int->Option Int->Hp->VK->Prop:=fun x lo hi H Q=>jAP x lo hi H Q∨(jAs K x lo hi H Q∨jAx K x lo hi H Q)∨jAN K x lo hi H Q
theorem jv2:SlR X (jAo X.K):=jyb.or ((jqa.or jxo).or jtO)
theorem jwM {m:Bool}{w:Wd}{μ μ':M}{H:Hp}{d1 d:D}{v1:V}{lo hi:Option Int}{Q:VK}(R:Rep K w μ H)(h1:Den K w μ.length d1 v1)(e:slD m d1 lo hi μ=.ok d μ')(q:jjA K w μ.length d μ' Q):jAo K v1 lo hi H Q:=by
 unfold slD at e;split at e
 ·split at e
  ·rename_i hz;cases e;unfold Den at h1;exact .inl ⟨_,h1,hz,jaf R q (by unfold Den;rfl)⟩
  ·cases e
 ·cases e;obtain⟨a,us,rfl,s1,l1⟩:=jbU R h1;by_cases hw:HT.sIx us.length 0 lo=0/\HT.sIx us.length us.length hi=us.length
  ·refine .inr (.inl (.inl ⟨a,us,rfl,s1,hw,jaf R q ?_⟩));have hw':=hw;rw[<- jad l1]at hw';unfold cutD;rw[hw'.1,hw'.2,List.drop_zero,Nat.sub_zero,List.take_length];exact h1
  ·refine .inr (.inl (.inr ⟨a,us,rfl,s1,hw,fun p hp=>?_⟩));exact jfs R q hp fun w' x hz=>by unfold Den;exact⟨p,_,rfl,hz,(l1.cut lo hi).mono x⟩
 ·split at e
  ·rename_i ds hs;obtain⟨a,us,rfl,s1,l1⟩:=jaR R h1 hs;exact .inr (.inr ⟨a,us,rfl,s1,je7 R (l1.cut lo hi) e q⟩)
  ·cases e
theorem jgQ {w:Wd}{n:Nat}{ds:List D}{xs:List V}(h:DenL K w n ds xs):ds.isEmpty=xs.isEmpty:=by
 cases jav.mp h<;>rfl
theorem jtQ {w:Wd}{μ:M}{H:Hp}{d:D}{v:V}{b:Bool}(R:Rep K w μ H)(h:Den K w μ.length d v)(e:jyY μ d=some b):jw4 K v H b:=by
 unfold jyY at e;split at e
 ·cases e;unfold Den at h;subst h;rfl
 ·cases e;unfold Den at h;subst h;rfl
 ·cases e;unfold Den at h;subst h;rfl
 ·split at e
  ·rename_i hz;cases e;unfold Den at h;subst h;exact⟨hz,rfl⟩
  ·cases e
 ·cases e;obtain⟨a,us,rfl,s1,l1⟩:=jbU R h;exact .inr (.inl ⟨us,s1,by rw[jgQ l1]⟩)
 ·cases e2:jf1 μ d with
  |none=>rw[e2]at e;cases e
  |some ds=>
   rw[e2]at e;cases e;obtain⟨a,us,rfl,s1,l1⟩:=jaR R h e2;exact .inl ⟨us,s1,by show(!ds.isEmpty)=_;rw[jgQ l1]⟩
end
section
variable {K:PySem.W.Frag} {X:Cx}
theorem jxA {σ:_L2.St}{H:Hp}{Q:List V->Hp->Prop}:T3A K (fun _ μ=>.ok [] μ) σ H Q->jAI σ H Q:=by
 rintro⟨w,μ,ρ,ds,μ',R,S,e,q⟩;cases e;exact q w H [] (Ext.refl _ _) R (by unfold DenL;rfl)
theorem jtl {r1:S3->M->Out D}{r2:S3->M->Out (List D)}{σ:_L2.St}{H:Hp}{Q:List V->Hp->Prop} :
  T3A K (fun ρ μ=>(r1 ρ μ).bind fun d μ1=>(r2 ρ μ1).bind fun ds μ2=>.ok (d::ds) μ2) σ H Q->jon (T3E K r1) (T3A K r2) σ H Q:=by
 rintro⟨w,μ,ρ,d,μ',R,S,e,q⟩;obtain⟨x,μ1,e1,e⟩:=Out.bind_ok e;obtain⟨ys,μ2,e2,e⟩:=Out.bind_ok e;cases e;exact⟨w,μ,ρ,x,μ1,R,S,e1,fun w1 H1 v1 x1 R1 d1=>⟨w1,μ1,ρ,ys,_,R1,S.mono x1,e2,fun w2 H2 vs x2 R2 d2=>q w2 H2 (v1::vs) (x1.trans x2) R2 (by unfold DenL;exact⟨v1,vs,rfl,d1.mono x2,d2⟩)⟩⟩
def jnl (K:PySem.W.Frag)(f:List D->M->Out D)(r:List V->Hp->VK->Prop):Prop:=∀(w:Wd) (μ:M) (H:Hp) (ds:List D) (d:D) (μ':M) (vs:List V) (Q:VK),Rep K w μ H->DenL K w μ.length ds vs->f ds μ=.ok d μ'->jjA K w μ.length d μ' Q->r vs H Q
theorem jhl {f:List D->M->Out D}{r:List V->Hp->VK->Prop}{rl:S3->M->Out (List D)}(hs:jnl K f r){σ:_L2.St}{H:Hp}{Q:VK} :
  T3E K (fun ρ μ=>(rl ρ μ).bind fun ds μ1=>f ds μ1) σ H Q->T3A K rl σ H fun vs H1=>r vs H1 Q:=by
 rintro⟨w,μ,ρ,d,μ',R,S,e,q⟩;obtain⟨ds,μ1,e1,e⟩:=Out.bind_ok e;exact⟨w,μ,ρ,ds,μ1,R,S,e1,fun w1 H1 vs x1 R1 d1=>hs w1 μ1 H1 ds d μ' vs Q R1 d1 e fun w3 H3 v x3 R3 d3=>q w3 H3 v (x1.trans x3) R3 d3⟩
theorem jli {w:Wd}{n:Nat}{d:D}{vs:List V}(h:DenL K w n [d] vs):∃v,vs=[v]/\Den K w n d v:=by
 unfold DenL at h;obtain⟨v,ws,rfl,h1,h2⟩:=h;unfold DenL at h2;subst h2;exact⟨v,rfl,h1⟩
theorem jyX {w:Wd}{n:Nat}{d e:D}{vs:List V}(h:DenL K w n [d,e] vs):∃v u,vs=[v,u]/\Den K w n d v/\Den K w n e u:=by
 unfold DenL at h;obtain⟨v,ws,rfl,h1,h2⟩:=h;obtain⟨u,rfl,h3⟩:=jli h2;exact⟨v,u,rfl,h1,h3⟩
theorem juV:jnl K (fun ds μ=>if ds.length<=sizeLine then .ok (.tup ds) μ else .bad) (fun xs H Q=>xs.length<=sizeLine/\∀p,H p=none->Q (.ref p) (upd H p (.tup xs))):=by
 intro w μ H ds d μ' vs Q R h e q;dsimp only at e;split at e
 ·rename_i hl;cases e;refine⟨by rw[<- jad h];exact hl,fun p hp=>?_⟩;exact jfs R q hp fun w' x hz=>by unfold Den;exact⟨p,_,rfl,hz,h.mono x⟩
 ·cases e
theorem jvp {m:Bool}:jnl K (fun ds μ=>if ds.length<=sizeLine then mkL m ds μ else .bad) (fun xs H Q=>xs.length<=sizeLine/\∀p,H p=none->Q (.ref p) (upd H p (.lst xs))):=by
 intro w μ H ds d μ' vs Q R h e q;dsimp only at e;split at e
 ·rename_i hl;exact⟨by rw[<- jad h];exact hl,je7 R h e q⟩
 ·cases e
noncomputable abbrev jzM (K:PySem.W.Frag):List V->Hp->VK->Prop:=fun xs H Q=>(∃p ys,xs=[.ref p]/\(SqL K H p ys∨SqT K H p ys)/\Q (.int ys.length) H)∨∃z,xs=[.str z]/\z.length<=sizeLine/\Q (.int z.length) H
theorem jth:jnl K jzt (jzM K):=by
 intro w μ H ds d μ' vs Q R h e q;unfold jzt at e;split at e
 ·split at e
  ·rename_i hz;cases e;obtain⟨v,rfl,h1⟩:=jli h;unfold Den at h1;subst h1;exact .inr ⟨_,rfl,hz,jaf R q (by unfold Den;rfl)⟩
  ·cases e
 ·split at e
  ·rename_i xs hs;cases e;obtain⟨v,rfl,h1⟩:=jli h;obtain⟨a,ys,rfl,s1,l1⟩:=jfW R h1 hs;exact .inl ⟨a,ys,rfl,s1,by rw[<- jad l1];exact jaf R q (by unfold Den;rfl)⟩
  ·cases e
 ·cases e
theorem jvr:jnl K jzs (fun xs H Q=>∃i j,xs=[.int i,.int j]/\Q (.int (if j<i then j else i)) H):=by
 intro w μ H ds d μ' vs Q R h e q;unfold jzs at e;split at e
 ·cases e;obtain⟨v,u,rfl,h1,h2⟩:=jyX h;unfold Den at h1 h2;subst h1 h2;exact⟨_,_,rfl,jaf R q (by unfold Den;rfl)⟩
 ·cases e
theorem jtJ:jnl K jzL (fun xs H Q=>∃i j,xs=[.int i,.int j]/\Q (.int (if j > i then j else i)) H):=by
 intro w μ H ds d μ' vs Q R h e q;unfold jzL at e;split at e
 ·cases e;obtain⟨v,u,rfl,h1,h2⟩:=jyX h;unfold Den at h1 h2;subst h1 h2;exact⟨_,_,rfl,jaf R q (by unfold Den;rfl)⟩
 ·cases e
theorem jik {w:Wd}{n:Nat}:∀cs:List Nat,DenL K w n (cs.map fun c=>D.str ⟨#[c]⟩) (cs.map fun c=>V.str ⟨#[c]⟩)
 |[]=>by unfold DenL;rfl
 |c::cs=>by rw[j0k,j0k];unfold DenL;exact⟨_,_,rfl,by unfold Den;rfl,jik cs⟩
theorem jrR {m:Bool}:jnl K (juY m) (fun xs H Q=>(∃p ys,xs=[.ref p]/\(SqL K H p ys∨SqT K H p ys)/\∀l,H l=none->Q (.ref l) (upd H l (.lst ys)))∨(∃z:Str,xs=[.str z]/\z.cps.size<=1000/\∀l,H l=none->Q (.ref l) (upd H l (.lst (z.cps.toList.map fun c=>V.str ⟨#[c]⟩))))):=by
 intro w μ H ds d μ' vs Q R h e q;unfold juY at e;split at e
 ·split at e
  ·rename_i xs hs;obtain⟨v,rfl,h1⟩:=jli h;obtain⟨a,ys,rfl,s1,l1⟩:=jfW R h1 hs;exact .inl ⟨a,ys,rfl,s1,je7 R l1 e q⟩
  ·split at e
   ·split at e
    ·rename_i hz;obtain⟨v,rfl,h1⟩:=jli h;unfold Den at h1;subst h1;exact .inr ⟨_,rfl,hz,je7 R (jik _) e q⟩
    ·cases e
   ·cases e
 ·cases e
theorem jpe:jnl K jg0 (fun xs H Q=>∃p ys,xs=[.ref p]/\((SqL K H p ys/\∀l,H l=none->Q (.ref l) (upd H l (.tup ys)))∨(SqT K H p ys/\Q (.ref p) H))):=by
 intro w μ H ds d μ' vs Q R h e q;unfold jg0 at e;split at e
 ·rename_i d0;split at e
  ·rename_i xs hs;cases e;obtain⟨v,rfl,h1⟩:=jli h;unfold jfJ at hs;split at hs
   ·cases hs;obtain⟨a,ys,rfl,s1,l1⟩:=jbU R h1;exact⟨a,ys,rfl,.inr ⟨s1,jaf R q h1⟩⟩
   ·obtain⟨a,ys,rfl,s1,l1⟩:=jaR R h1 hs;exact⟨a,ys,rfl,.inl ⟨s1,fun p hp=>jfs R q hp fun w' x hz=>by unfold Den;exact⟨p,_,rfl,hz,l1.mono x⟩⟩⟩
  ·cases e
 ·cases e
theorem jty (hc:X.calm=true):jnl X.K jy0 (fun xs H Q=>X.calm=true/\∃(p:Addr) (bs:List Bool),xs=[.ref p]/\SqL X.K H p (bs.map V.bl)/\Q (.bl (bs.all id)) H):=by
 intro w μ H ds d μ' vs Q R h e q;unfold jy0 at e;split at e
 ·split at e
  ·rename_i xs hs;split at e
   ·rename_i ns hn;cases e;obtain⟨v,rfl,h1⟩:=jli h;obtain⟨a,ys,rfl,s1,l1⟩:=jaR R h1 hs;have:=jmc l1 hn;subst this;exact⟨hc,a,ns,rfl,s1,jaf R q (by unfold Den;rfl)⟩
   ·cases e
  ·cases e
 ·cases e
theorem jmq {μ:M}{d:D}{t:String}(e:tyD μ d=some t):(d=.non/\t = "NoneType")∨(∃b,d=.bl b/\t = "bool")∨(∃i,d=.int i/\t = "int")∨(∃x,d=.str x/\t = "str")∨(∃ds,d=.tup ds/\t = "tuple")∨(∃ds,jf1 μ d=some ds/\t = "list"):=by
 cases d with
 |non=>cases e;exact .inl ⟨rfl,rfl⟩
 |bl b=>cases e;exact .inr (.inl ⟨b,rfl,rfl⟩)
 |int i=>cases e;exact .inr (.inr (.inl ⟨i,rfl,rfl⟩))
 |str x=>cases e;exact .inr (.inr (.inr (.inl ⟨x,rfl,rfl⟩)))
 |tup ds=>cases e;exact .inr (.inr (.inr (.inr (.inl ⟨ds,rfl,rfl⟩))))
 |scr ds=>cases e
 |lst ds=>cases e;exact .inr (.inr (.inr (.inr (.inr ⟨ds,rfl,rfl⟩))))
 |cel k=>
  simp only[tyD]at e
  cases e2:jf1 μ (.cel k)with
  |none=>rw[e2]at e;cases e
  |some ds=>rw[e2]at e;cases e;exact .inr (.inr (.inr (.inr (.inr ⟨ds,rfl,rfl⟩))))
 |_=>cases e
theorem jl3 {n t:String} {b:Bool} (ht:t = "NoneType"∨t = "bool"∨t = "int"∨t = "str"∨t = "tuple"∨t = "list") (e:jvX n t=some b):PySem.W.kitOne K (.type t) (.type n)=some b:=by
 unfold jvX at e;split at e
 ·rename_i hn;subst hn;rcases ht with rfl|rfl|rfl|rfl|rfl|rfl<;>(cases e;rfl)
 ·split at e
  ·rename_i hn;rcases hn with rfl|rfl|rfl|rfl|rfl<;>rcases ht with rfl|rfl|rfl|rfl|rfl|rfl<;>(cases e;rfl)
  ·cases e
noncomputable def jzi (K:PySem.W.Frag)(n:String):List V->Hp->VK->Prop:=fun xs H Q=>∃(x:V) (w:Wd) (μ:M) (d:D) (t:String) (b:Bool),xs=[x,.ty n]/\Rep K w μ H/\Den K w μ.length d x/\tyD μ d=some t/\jvX n t=some b/\Q (.bl b) H
theorem jq3 {n:String}:jbx X (.builtin "isinstance") (jzi X.K n):=by
 intro pins s σ H xs us Q I r h;obtain⟨x,w,μ,d,t,b,rfl,R,hd,ht,hb,q⟩:=h;obtain⟨u,u2,rfl,ru,ru2⟩:=r.two;cases(show u2=Value.type n from ru2);have hk:∀hh,PySem.W.kitOne X.K (.type t) (.type n)=some b:=fun hh=>jl3 hh hb;have fin:∀tk,EP X pins σ Q (.bool b) {s with toks:=tk}:=fun tk=>⟨.bl b,H,I.tok tk,rfl,q⟩;rcases jmq ht with⟨rfl,rfl⟩|⟨k,rfl,rfl⟩|⟨i,rfl,rfl⟩|⟨y,rfl,rfl⟩|⟨ds,rfl,rfl⟩|⟨ds,e,rfl⟩
 ·unfold Den at hd;subst hd;exact jd8 I ru .non (hk (by simp)) fin
 ·unfold Den at hd;subst hd;exact jd8 I ru (.bl k) (hk (by simp)) fin
 ·unfold Den at hd;subst hd;exact jd8 I ru (.int i) (hk (by simp)) fin
 ·unfold Den at hd;subst hd;exact jd8 I ru (.str y) (hk (by simp)) fin
 ·obtain⟨a,xs,rfl,s1,_⟩:=jbU R hd;cases ru;obtain⟨its,_,p,_⟩:=I.tuple s1;obtain⟨o,h1,h2,_⟩:=p;exact j0Q PySem.W.kitx_tuple I.kIn ⟨o,h1,h2⟩ (hk (by simp)) (fun z=>nomatch z) fin
 ·obtain⟨a,xs,rfl,s1,_⟩:=jaR R hd e;cases ru;obtain⟨its,_,p,_⟩:=I.list s1;obtain⟨o,n1,h1,h2,_⟩:=p;exact j0Q PySem.W.kitx_list I.kIn ⟨o,h1,h2⟩ (hk (by simp)) (fun z=>nomatch z) fin
theorem jui {n:String}{w:Wd}{μ μ':M}{H:Hp}{ds:List D}{d:D}{vs:List V}{Q:VK}(R:Rep K w μ H)(h:DenL K w μ.length ds vs)(e:jyZ n ds μ=.ok d μ')(q:jjA K w μ.length d μ' Q):jzi K n (vs++[.ty n]) H Q:=by
 unfold jyZ at e;split at e
 ·rename_i d0;split at e
  ·rename_i t ht;split at e
   ·rename_i r hr;cases e;obtain⟨v,rfl,h1⟩:=jli h;exact⟨v,w,μ,d0,t,r,rfl,R,h1,ht,hr,jaf R q (by unfold Den;rfl)⟩
   ·cases e
  ·cases e
 ·cases e
theorem jsX {n m t:String} {b:Bool} (ht:t = "NoneType"∨t = "bool"∨t = "int"∨t = "str"∨t = "tuple"∨t = "list") (e:jrY n m t=some b):PySem.W.kitAny K (.type t) [.type n,.type m]=some b:=by
 unfold jrY at e;split at e
 ·rename_i h;cases e;have k:=jl3 (K:=K) ht h;unfold PySem.W.kitAny;rw[k]
 ·rename_i h;have k:=jl3 (K:=K) ht h;have k2:=jl3 (K:=K) ht e;unfold PySem.W.kitAny;rw[k];unfold PySem.W.kitAny;dsimp only;rw[k2];cases b<;>rfl
 ·cases e
noncomputable def jxm (K:PySem.W.Frag)(n m:String):List V->Hp->VK->Prop:=fun xs H Q=>∃(x:V) (p:Addr) (w:Wd) (μ:M) (d:D) (t:String) (b:Bool),xs=[x,.ref p]/\SqT K H p [.ty n,.ty m]/\Rep K w μ H/\Den K w μ.length d x/\tyD μ d=some t/\jrY n m t=some b/\Q (.bl b) H
theorem joO {n m:String}:jbx X (.builtin "isinstance") (jxm X.K n m):=by
 intro pins s σ H xs us Q I r h;obtain⟨x,p,w,μ,d,t,b,rfl,hsq,R,hd,ht,hb,q⟩:=h;obtain⟨u,u2,rfl,ru,ru2⟩:=r.two;cases(show u2=Value.ref p from ru2);have hk:∀hh,PySem.W.kitAny X.K (.type t) [.type n,.type m]=some b:=fun hh=>jsX hh hb;have fin:∀tk,EP X pins σ Q (.bool b) {s with toks:=tk}:=fun tk=>⟨.bl b,H,I.tok tk,rfl,q⟩;obtain⟨its,rv,hp,_⟩:=I.tuple hsq;cases jiO (show [V.ty n,V.ty m].mapM jvQ=some [.type n,.type m]from rfl) rv;obtain⟨⟨cc,dd,dt,sl⟩,ho,hcc,nn,hdd⟩:=hp;simp only at hcc hdd;subst hcc hdd;rcases jmq ht with⟨rfl,rfl⟩|⟨k,rfl,rfl⟩|⟨i,rfl,rfl⟩|⟨y,rfl,rfl⟩|⟨ds,rfl,rfl⟩|⟨ds,e,rfl⟩
 ·unfold Den at hd;subst hd;cases(show u=Value.none from ru);exact j1w PySem.W.kitx_none I.kIn True.intro ho (hk (by simp)) (fun z=>nomatch z) fin
 ·unfold Den at hd;subst hd;cases(show u=Value.bool k from ru);exact j1w PySem.W.kitx_bool I.kIn True.intro ho (hk (by simp)) (fun z=>nomatch z) fin
 ·unfold Den at hd;subst hd;obtain⟨tt,z⟩:=(show ∃t,u=Value.int i t from ru);cases z;exact j1w PySem.W.kitx_int I.kIn True.intro ho (hk (by simp)) (fun z=>nomatch z) fin
 ·unfold Den at hd;subst hd;obtain⟨tt,z⟩:=(show ∃t,u=Value.str y t from ru);cases z;exact j1w PySem.W.kitx_str I.kIn True.intro ho (hk (by simp)) (fun z=>nomatch z) fin
 ·obtain⟨a,xs,rfl,s1,_⟩:=jbU R hd;cases ru;obtain⟨its2,_,p2,_⟩:=I.tuple s1;obtain⟨o,h1,h2,_⟩:=p2;exact j1w PySem.W.kitx_tuple I.kIn ⟨o,h1,h2⟩ ho (hk (by simp)) (fun z=>nomatch z) fin
 ·obtain⟨a,xs,rfl,s1,_⟩:=jaR R hd e;cases ru;obtain⟨its2,_,p2,_⟩:=I.list s1;obtain⟨o,n1,h1,h2,_⟩:=p2;exact j1w PySem.W.kitx_list I.kIn ⟨o,h1,h2⟩ ho (hk (by simp)) (fun z=>nomatch z) fin
def jzx (K:PySem.W.Frag)(f:D->List D->M->Out D)(r:V->List V->Hp->VK->Prop):Prop:=∀(w:Wd) (μ:M) (H:Hp) (o:D) (x:V) (ds:List D) (d:D) (μ':M) (vs:List V) (Q:VK),Rep K w μ H->Den K w μ.length o x->DenL K w μ.length ds vs->f o ds μ=.ok d μ'->jjA K w μ.length d μ' Q->r x vs H Q
theorem Rep.putL {w:Wd}{μ:M}{H:Hp}{k:Nat}{ds es:List D}{ys:List V}(R:Rep K w μ H)(hk:μ[k]?=some (some (.lst ds)))(h:DenL K w μ.length es ys):Rep K w (μ.set k (some (.lst es))) (upd H (w.γ k) (.lst ys)):=R.put hk (.lst ys) ⟨ys,jaz,h⟩
theorem jmm {w:Wd}{μ:M}{H':Hp}{k:Nat}{c:Cl}{d:D}{v:V}{Q:VK}(R:Rep K w (μ.set k (some c)) H')(q:jjA K w μ.length d (μ.set k (some c)) Q)(h:Den K w μ.length d v):Q v H':=by
 have hl:(μ.set k (some c)).length=μ.length:=List.length_set;exact q w H' v (by rw[hl];exact Ext.refl _ _) R (by rw[hl];exact h)
theorem juU:jzx K jz rAppend:=by
 intro w μ H o x ds d μ' vs Q R h1 h2 e q;unfold jz at e;split at e
 ·rename_i k d0;split at e
  ·rename_i xs hk;split at e
   ·rename_i hz;cases e;obtain⟨v,rfl,h3⟩:=jli h2;unfold Den at h1;obtain⟨ys,g1,g2⟩:=(R.liv k _ hk).2;refine⟨w.γ k,ys,v,h1.2,rfl,g1,by rw[<- jad g2];exact hz,?_⟩;exact jmm (R.putL hk (g2.append (DenL.one h3))) q (by unfold Den;rfl)
   ·cases e
  ·cases e
 ·cases e
theorem jr0:jzx K jq5 (jx2 K):=by
 intro w μ H o x ds d μ' vs Q R h1 h2 e q;unfold jq5 at e;split at e
 ·split at e
  ·rename_i xs hs;split at e
   ·rename_i ys hy;split at e
    ·rename_i hz;cases e;obtain⟨v,rfl,h3⟩:=jli h2;unfold Den at h1;obtain⟨a,us,rfl,s1,l1⟩:=jaR R h3 hs;have:=jho l1 hy;subst this;exact⟨_,a,ys,h1,rfl,s1,hz,jaf R q (by unfold Den;rfl)⟩
    ·cases e
   ·cases e
  ·cases e
 ·cases e
theorem jn8 {f:D->List D->M->Out D}{ok:D->M->Bool}{T:String}{r:V->List V->Hp->VK->Prop}{ro:S3->M->Out D}{rl:S3->M->Out (List D)}(hs:jzx K f r)(ht:∀(w:Wd) (μ:M) (H:Hp) (o:D) (x:V),Rep K w μ H->Den K w μ.length o x->ok o μ=true->tyV K T x H){σ:_L2.St}{H:Hp}{Q:VK} :
  T3E K (fun ρ μ=>(ro ρ μ).bind fun x μ1=>if ok x μ1 then(rl ρ μ1).bind fun ds μ2=>f x ds μ2 else .bad) σ H Q->tBM K T r (T3E K ro) (T3A K rl) σ H Q:=by
 rintro⟨w,μ,ρ,d,μ',R,S,e,q⟩;obtain⟨x,μ1,e1,e⟩:=Out.bind_ok e;split at e
 ·rename_i hok;obtain⟨ds,μ2,e2,e⟩:=Out.bind_ok e;exact⟨w,μ,ρ,x,μ1,R,S,e1,fun w1 H1 v1 x1 R1 d1=>⟨ht w1 μ1 H1 x v1 R1 d1 hok,⟨w1,μ1,ρ,ds,μ2,R1,S.mono x1,e2,fun w2 H2 vs x2 R2 d2=>hs w2 μ2 H2 x v1 ds d μ' vs Q R2 (d1.mono x2) d2 e fun w3 H3 v x3 R3 d3=>q w3 H3 v ((x1.trans x2).trans x3) R3 d3⟩⟩⟩
 ·cases e
theorem jng {w:Wd}{μ:M}{H:Hp}{k:Nat}{x:V}{ds:List D}(R:Rep K w μ H)(h:Den K w μ.length (.cel k) x)(hk:μ[k]?=some (some (.lst ds))):tyV K "list" x H:=by
 unfold Den at h;obtain⟨ys,g1,g2⟩:=(R.liv k _ hk).2;rw[h.2];exact .inl ⟨rfl,ys,SqL.of g1⟩
theorem joT {b:Mt}{w:Wd}{μ:M}{H:Hp}{o:D}{x:V}(hb:b=.append∨b=.extend)(R:Rep K w μ H)(h:Den K w μ.length o x)(e:jpP b o μ=true):tyV K "list" x H:=by
 cases o with
 |cel k=>
  have e':(match μ[k]? with|some (some (.lst _))=>true|_=>false)=true:=by
   rcases hb with rfl|rfl<;>exact e
  split at e'
  ·rename_i ds hk;unfold Den at h;obtain⟨ys,g1,g2⟩:=(R.liv k _ hk).2;rw[h.2];exact .inl ⟨rfl,ys,SqL.of g1⟩
  ·cases e'
 |_=>rcases hb with rfl|rfl<;>cases e
theorem jrd {w:Wd}{μ:M}{H:Hp}{o:D}{x:V}(h:Den K w μ.length o x)(e:jpP .join o μ=true):tyV K "str" x H:=by
 cases o with
 |str z=>
  unfold Den at h;subst h;rfl
 |_=>cases e
end
section
variable {K:PySem.W.Frag} {X:Cx}
def jBn (K:PySem.W.Frag)(tl:TE):TI:=fun σ H R=>tl σ H fun x H1=>∃a,x=.ref a/\((∃xs,SqL K H1 a xs/\R (Itl K a) H1)∨∃xs,SqT K H1 a xs/\R (Itt K a) H1)
theorem jw5 {tg e:Expr}{te:TE}(h:PE X e te):PI X tg e (jBn X.K te):=by
 intro pins s σ H R I hw;refine thn (h pins s σ H _ I hw) fun v s1 ⟨x,H1,I1,r1,q1⟩=>?_;obtain⟨a,e,q⟩:=q1;subst e;cases r1;rcases q with⟨xs,hq,q⟩|⟨xs,hq,q⟩
 ·obtain⟨its,rv,p,hz⟩:=I1.list hq;refine wpAny_pyIter_list p.isList ?_;refine⟨s1.heap.objs.size,[s1.heap.objs.size],_,_,H1,rfl,I1.kept (t':=s1.toks) fun b o e=>j0c _ e,jn3 a _,⟨_,j0n _ rfl,rfl,rfl⟩,fun b hb=>?_,q⟩;have e:b=s1.heap.objs.size:=by simpa using hb
  subst e;exact I1.fpOk (j0l _) (I1.hok.fresh (j0l _))
 ·obtain⟨its,rv,p,hz⟩:=I1.tuple hq;refine wpAny_pyIter_tuple (show s1.heap.IsTuple a its.toArray from p) ?_;refine⟨s1.heap.objs.size,[s1.heap.objs.size],_,_,H1,rfl,I1.kept (t':=s1.toks) fun b o e=>j0c _ e,jm7 a _,⟨_,j0n _ rfl,rfl,rfl⟩,fun b hb=>?_,q⟩;have e:b=s1.heap.objs.size:=by simpa using hb
  subst e;exact I1.fpOk (j0l _) (I1.hok.fresh (j0l _))
theorem imI {tg it:Expr}{t t':TI}(h:PI X tg it t)(k:∀σ H R,t' σ H R->t σ H R):PI X tg it t':=fun pins s σ H R I hw=>h pins s σ H R I (k σ H R hw)
def jt7 (K:PySem.W.Frag)(w:Wd)(n:Nat)(ok:M->Bool)(xs:List D)(J:It):Prop:=∀(w2:Wd) (μ2:M) (H2:Hp),Ext w w2 n μ2.length->Rep K w2 μ2 H2->ok μ2=true ->
 J.stop xs.length H2/\∀i d,xs[i]?=some d->J.go i H2/\∀x H3,J.yld i H2 x H3->∃w3,Ext w2 w3 μ2.length μ2.length/\Rep K w3 μ2 H3/\Den K w3 μ2.length d x
def T3I (K:PySem.W.Frag)(ik:IK)(r:S3->M->Out (List D)):TI:=fun σ H R=>∃(w:Wd) (μ:M) (ρ:S3) (ds:List D) (μ1:M) (xs:List D),Rep K w μ H/\jby K w μ.length ρ σ/\r ρ μ=.ok ds μ1/\itD ik ds μ1=some xs /\
 ∀w' H' J,Ext w w' μ.length μ1.length->Rep K w' μ1 H'->jt7 K w' μ1.length (jdT ik ds xs) xs J->R J H'
theorem jgX {ik:IK}{ds xs:List D}{μ:M}:jdT ik ds xs μ=true↔itD ik ds μ=some xs:=by
 unfold jdT;exact @decide_eq_true_iff _ (Classical.propDecidable _)
theorem jx4 {w:Wd}{n:Nat}{ok:M->Bool}{xs:List D}{a:Addr}(h:∀(w2:Wd) (μ2:M) (H2:Hp),Ext w w2 n μ2.length->Rep K w2 μ2 H2->ok μ2=true->∃ys,SqL K H2 a ys/\DenL K w2 μ2.length xs ys):jt7 K w n ok xs (Itl K a):=by
 intro w2 μ2 H2 x2 R2 hk;obtain⟨ys,s1,l1⟩:=h w2 μ2 H2 x2 R2 hk;refine⟨⟨ys,s1,by rw[<- jad l1];exact j0l _⟩,fun i d hd=>?_⟩;obtain⟨v,e1,e2⟩:=jgv l1 hd;refine⟨⟨ys,v,s1,e1⟩,fun x H3 y=>?_⟩;obtain⟨rfl,y⟩:=y;have:=y ys s1;rw[e1]at this;cases this;exact⟨w2,Ext.refl _ _,R2,e2⟩
theorem jwK {w:Wd}{n:Nat}{ok:M->Bool}{xs:List D}{a:Addr}(h:∀(w2:Wd) (μ2:M) (H2:Hp),Ext w w2 n μ2.length->Rep K w2 μ2 H2->ok μ2=true->∃ys,SqT K H2 a ys/\DenL K w2 μ2.length xs ys):jt7 K w n ok xs (Itt K a):=by
 intro w2 μ2 H2 x2 R2 hk;obtain⟨ys,s1,l1⟩:=h w2 μ2 H2 x2 R2 hk;refine⟨⟨ys,s1,by rw[<- jad l1];exact j0l _⟩,fun i d hd=>?_⟩;obtain⟨v,e1,e2⟩:=jgv l1 hd;refine⟨⟨ys,v,s1,e1⟩,fun x H3 y=>?_⟩;obtain⟨rfl,y⟩:=y;have:=y ys s1;rw[e1]at this;cases this;exact⟨w2,Ext.refl _ _,R2,e2⟩
theorem jsb {r:S3->M->Out D}{ρ:S3}{μ μ1:M}{ds:List D}(e:((r ρ μ).bind fun d μ1=>(Out.ok [] μ1).bind fun ds μ2=>.ok (d::ds) μ2)=.ok ds μ1):∃d,ds=[d]/\r ρ μ=.ok d μ1:=by
 obtain⟨d,μ2,e1,e⟩:=Out.bind_ok e;cases e;exact⟨d,rfl,e1⟩
theorem jtL {tg it:Expr}{r:S3->M->Out D}(h:PE X it (T3E X.K r)):PI X tg it (T3I X.K .seq (fun ρ μ=>(r ρ μ).bind fun d μ1=>(Out.ok [] μ1).bind fun ds μ2=>.ok (d::ds) μ2)):=by
 refine imI (jw5 h) fun σ H R=>?_;rintro⟨w,μ,ρ,ds,μ1,xs,Rp,S,e,ei,q⟩;obtain⟨d,rfl,e1⟩:=jsb e;refine⟨w,μ,ρ,d,μ1,Rp,S,e1,fun w1 H1 v x1 R1 d1=>?_⟩;have ei':jfJ μ1 d=some xs:=ei;by_cases ht:∃ds,d=.tup ds
 ·obtain⟨ds,rfl⟩:=ht;cases ei';obtain⟨a,ys,rfl,s1,l1⟩:=jbU R1 d1;refine⟨a,rfl,.inr ⟨ys,s1,q w1 H1 _ x1 R1 (jwK fun w2 μ2 H2 x2 R2 hk=>?_)⟩⟩;obtain⟨a',ys',ea,s2,l2⟩:=jbU R2 (d1.mono x2);cases ea;exact⟨ys',s2,l2⟩
 ·have hL:∀μ,jfJ μ d=jf1 μ d:=fun μ=>by
   cases d with
   |tup ds=>exact absurd ⟨ds,rfl⟩ ht
   |_=>rfl
  rw[hL]at ei';obtain⟨a,ys,rfl,s1,l1⟩:=jaR R1 d1 ei';refine⟨a,rfl,.inl ⟨ys,s1,q w1 H1 _ x1 R1 (jx4 fun w2 μ2 H2 x2 R2 hk=>?_)⟩⟩;have e2:jfJ μ2 d=some xs:=jgX.mp hk;rw[hL]at e2;obtain⟨a',ys',ea,s2,l2⟩:=jaR R2 (d1.mono x2) e2;cases ea;exact⟨ys',s2,l2⟩
theorem joc:∀{ds:List D} {k i:Nat} {d:D},(jkA k ds)[i]?=some d->∃x,ds[i]?=some x/\d=.tup [.int ((k+i:Nat):Int),x]
 |[],_,_,_,e=>by simp[jkA]at e
 |x::ds,k,0,d,e=>by
  simp only[jkA,j04,j0G]at e;exact⟨x,rfl,e.symm⟩
 |x::ds,k,i+1,d,e=>by
  simp only[jkA,List.getElem?_cons_succ]at e;obtain⟨y,h1,h2⟩:=joc e;exact⟨y,by simpa using h1,by rw[h2];congr 4;omega⟩
theorem jnF:∀(ds:List D) (k:Nat),(jkA k ds).length=ds.length
 |[],_=>rfl
 |x::ds,k=>by simp[jkA,jnF ds]
noncomputable def jAO:D->Bool
 |.tup _=>true
 |_=>false
theorem joK {w:Wd}{μ:M}{H:Hp}{d:D}{v:V}{ds:List D}(R:Rep K w μ H)(h:Den K w μ.length d v)(e:jfJ μ d=some ds):∃a xs,v=.ref a/\SqB (jAO d) K H a xs/\DenL K w μ.length ds xs:=by
 by_cases ht:∃ds,d=.tup ds
 ·obtain⟨es,rfl⟩:=ht;cases e;exact jbU R h
 ·have hL:jfJ μ d=jf1 μ d/\jAO d=false:=by
   cases d with
   |tup ds=>exact absurd ⟨ds,rfl⟩ ht
   |_=>exact⟨rfl,rfl⟩
  rw[hL.1]at e;rw[hL.2];exact jaR R h e
theorem jt9 {elts:List Expr} {x1:Nat} {tpos p pos:Pos} {a:Expr} {r:S3->M->Out (List D)} (hg:jbj X.env.scope "enumerate" =true) (hm:X.mg "enumerate" =none) (ha:PA X [a] (T3A X.K r)) (hs:jak a=true) :
  PI X (.Tuple elts x1 tpos) (.Call (.Name "enumerate" p) [a] [] pos) (T3I X.K .enm r):=by
 refine imI (jrG (jay hg).1 hm ha (jaB hs)) fun σ H R=>?_;rintro⟨w,μ,ρ,ds,μ1,xs,Rp,S,e,ei,q⟩;refine⟨w,μ,ρ,ds,μ1,Rp,S,e,fun w1 H1 vs x1 R1 d1=>?_⟩;replace ei:juR ds μ1=some xs:=ei;unfold juR at ei;split at ei
 case h_2=>cases ei
 rename_i d
 cases e0:jfJ μ1 d with
 |none=>rw[e0]at ei;cases ei
 |some ys0=>
  rw[e0]at ei;cases ei;obtain⟨v,rfl,h1⟩:=jli d1;obtain⟨a,ys,rfl,s1,l1⟩:=joK R1 h1 e0;refine⟨a,_,rfl,⟨ys,s1⟩,q w1 H1 _ x1 R1 ?_⟩;intro w2 μ2 H2 x2 R2 hk;have e2:(jfJ μ2 d).map (jkA 0)=some (jkA 0 ys0):=jgX.mp hk
  cases e3:jfJ μ2 d with
  |none=>rw[e3]at e2;cases e2
  |some zs=>
   rw[e3]at e2;have hz:jkA 0 zs=jkA 0 ys0:=by simpa using e2
   obtain⟨a',ys',ea,s2,l2⟩:=joK R2 (h1.mono x2) e3;cases ea;rw[<- hz];refine⟨⟨ys',s2,by rw[<- jad l2,<- jnF zs 0]⟩,fun i d' hd=>?_⟩;obtain⟨x0,g1,rfl⟩:=joc hd;obtain⟨u,u1,u2⟩:=jgv l2 g1;refine⟨⟨ys',u,s2,u1⟩,fun x H3 y=>?_⟩;obtain⟨p,y0,rfl,hn,rfl,y⟩:=y;have:=y ys' s2;rw[u1]at this;cases this;obtain⟨R3,x3⟩:=R2.frz hn (.tup [.int (i:Int),u]);refine⟨_,x3,R3,?_⟩;unfold Den;refine⟨p,_,rfl,jaz,?_⟩;unfold DenL;exact⟨_,_,rfl,by unfold Den;simp,DenL.one (u2.mono x3)⟩
noncomputable def jiv:Expr->Bool
 |.Call _ as _ _=>!as.isEmpty
 |_=>true
theorem jrF {e:Expr}{f:Str}{env:Env}(h:jiv e=true):attributeBase e f env (eval e env)=eval e env:=by
 cases e with
 |Call g as ks p=>
  cases as with
  |nil=>cases h
  |cons a as=>cases g<;>rfl
 |_=>rfl
theorem jsO {w:Wd}{n:Nat}{ok:M->Bool}{lo:Int}{m:Nat}:jt7 K w n ok ((List.range m).map fun(k:Nat)=>.int (lo+(k:Int))) (Itr lo m):=by
 intro w2 μ2 H2 x2 R2 hk;refine⟨(by show m<=_;simp),fun i d hd=>?_⟩;have hi:i<m:=by
  have:=(j0e.mp hd).1;simpa using this
 have ed:d=.int (lo+(i:Int)):=by
  have:((List.range m).map fun(k:Nat)=>D.int (lo+(k:Int)))[i]?=some (.int (lo+(i:Int))):=by simp[hi]
  rw[this]at hd;exact(j0H hd).symm
 subst ed;refine⟨hi,fun x H3 y=>?_⟩;obtain⟨rfl,rfl⟩:=y;exact⟨w2,Ext.refl _ _,R2,by unfold Den;rfl⟩
theorem jtp {tg:Expr} {p pos:Pos} {a:Expr} {r:S3->M->Out (List D)} (hg:jbj X.env.scope "range" =true) (hm:X.mg "range" =none) (ha:PA X [a] (T3A X.K r)) (hs:jak a=true) :
  PI X tg (.Call (.Name "range" p) [a] [] pos) (T3I X.K .rng1 r):=by
 refine imI (jnb hg hm ha hs) fun σ H R=>?_;rintro⟨w,μ,ρ,ds,μ1,xs,Rp,S,e,ei,q⟩;refine⟨w,μ,ρ,ds,μ1,Rp,S,e,fun w1 H1 vs x1 R1 d1=>?_⟩;replace ei:jl5 ds μ1=some xs:=ei;unfold jl5 at ei;split at ei
 case h_2=>cases ei
 rename_i j;split at ei
 case isFalse=>cases ei
 rename_i hj;obtain⟨v,rfl,h1⟩:=jli d1;unfold Den at h1;subst h1;have e0:xs=(List.range j.toNat).map fun(k:Nat)=>D.int (0+(k:Int)):=by
  have:=j0H ei;rw[<- this];congr 1
  funext k
  rw[Int.zero_add]
 refine⟨j,rfl,hj.1,hj.2,q w1 H1 _ x1 R1 ?_⟩;rw[e0];exact jsO
theorem jtt {tg:Expr} {p pos:Pos} {a b:Expr} {r:S3->M->Out (List D)} (hg:jbj X.env.scope "range" =true) (hm:X.mg "range" =none) (ha:PA X [a,b] (T3A X.K r)) (hs:jah [a,b]=true) :
  PI X tg (.Call (.Name "range" p) [a,b] [] pos) (T3I X.K .rng2 r):=by
 refine imI (jmR hg hm ha hs) fun σ H R=>?_;rintro⟨w,μ,ρ,ds,μ1,xs,Rp,S,e,ei,q⟩;refine⟨w,μ,ρ,ds,μ1,Rp,S,e,fun w1 H1 vs x1 R1 d1=>?_⟩;replace ei:jlP ds μ1=some xs:=ei;unfold jlP at ei;split at ei
 case h_2=>cases ei
 rename_i i j;split at ei
 case isFalse=>cases ei
 rename_i hj;obtain⟨v,u,rfl,h1,h2⟩:=jyX d1;unfold Den at h1 h2;subst h1 h2;cases ei;exact⟨i,j,rfl,hj,q w1 H1 _ x1 R1 jsO⟩
theorem jvj {tg it:Expr}{r:S3->M->Out D}(h:PE X it (T3E X.K r)):PI X tg it (T3I X.K .str (fun ρ μ=>(r ρ μ).bind fun d μ1=>(Out.ok [] μ1).bind fun ds μ2=>.ok (d::ds) μ2)):=by
 refine imI (jxn h) fun σ H R=>?_;rintro⟨w,μ,ρ,ds,μ1,xs,Rp,S,e,ei,q⟩;obtain⟨d,rfl,e1⟩:=jsb e;refine⟨w,μ,ρ,d,μ1,Rp,S,e1,fun w1 H1 v x1 R1 d1=>?_⟩;replace ei:jvl [d] μ1=some xs:=ei;unfold jvl at ei;split at ei
 case h_2=>cases ei
 rename_i z hz;cases hz;cases ei;unfold Den at d1;subst d1;refine⟨z,rfl,q w1 H1 _ x1 R1 ?_⟩;intro w2 μ2 H2 x2 R2 hk;refine⟨?_,fun i d hd=>?_⟩
 ·show z.cps.size<=_;simp
 ·have hd':(z.cps.toList.map fun c=>D.str ⟨#[c]⟩)[i]?=some d:=hd;rw[j0X]at hd'
  cases e2:z.cps.toList[i]? with
  |none=>rw[e2]at hd';cases hd'
  |some c=>
   rw[e2]at hd';cases hd';have hi:i<z.cps.size:=by
    have:=(j0e.mp e2).1;simpa using this
   refine⟨hi,fun x H3 y=>?_⟩;obtain⟨rfl,c',hc',rfl⟩:=y;have:z.cps[i]?=some c:=by
    rw[<- Array.getElem?_toList];exact e2
   rw[this]at hc';cases hc';exact⟨w2,Ext.refl _ _,R2,by unfold Den;rfl⟩
def juN (K:PySem.W.Frag)(tg:Tg)(g:TG):Prop:=∀(w:Wd) (μ:M) (H:Hp) (ρ ρ':S3) (σ:_L2.St) (d:D) (v:V) (Q:_L2.St->Hp->Prop),Rep K w μ H->jby K w μ.length ρ σ->Den K w μ.length d v->jkC tg d ρ=some ρ'->(∀σ',jby K w μ.length ρ' σ'->Q σ' H)->g v σ H Q
theorem jgI {α:Type}{xs:List α}{i:Nat}(h:i<xs.length):∃d,xs[i]?=some d/\xs.drop i=d::xs.drop (i+1):=⟨xs[i],by simp[h],List.drop_eq_getElem_cons h⟩
theorem jqt {ok:M->Bool}{tg:Tg}{cond:S3->M->Out Bool}{elt:S3->M->Out D}{ρ:S3}{xs ys:List D}{μ μ':M}(e:jdU ok tg cond elt ρ xs μ=.ok ys μ'):ok μ=true:=by
 cases xs<;>(unfold jdU at e;split at e<;>first|assumption|cases e)
def jz4 (K:PySem.W.Frag)(w1:Wd)(n1:Nat)(ok:M->Bool)(tg:Tg)(cond:S3->M->Out Bool)(elt:S3->M->Out D)(ρ:S3)(xs ys:List D)(μ2:M)(i:Nat)(vs:List V)(H:Hp):Prop:=
 i<=xs.length/\vs.length<=i/\∃(w2:Wd) (μ:M) (acc rest:List D),Ext w1 w2 n1 μ.length/\Rep K w2 μ H/\DenL K w2 μ.length acc vs/\jdU ok tg cond elt ρ (xs.drop i) μ=.ok rest μ2/\acc++rest=ys
theorem jqs {ok:M->Bool}{tg:Tg}{g:TG}{cond:S3->M->Out Bool}{elt:S3->M->Out D}{ρ:S3}{σ:_L2.St}{J:It}{k:Nat}{m:Bool}{xs ys:List D}{w1:Wd}{μ1 μ2 μ3:M}{H1:Hp}{d:D}{Q:VK}(hT:juN K tg g)(R1:Rep K w1 μ1 H1)(S1:jby K w1 μ1.length ρ σ)
  (hJ:jt7 K w1 μ1.length ok xs J) (hz:xs.length<=sizeLine) (e:jdU ok tg cond elt (List.replicate k none++ρ) xs μ1=.ok ys μ2) (em:mkL m ys μ2=.ok d μ3) (q:jjA K w1 μ1.length d μ3 Q):Cmp J k g (T3T K cond) (T3E K elt) σ Q H1:=by
 refine⟨fun i n ys' H=>n=xs.length - i/\jz4 K w1 μ1.length ok tg cond elt (List.replicate k none++ρ) xs ys μ2 i ys' H,
  ⟨xs.length,by simp,j1r _,j0l _,w1,μ1,[],ys,Ext.refl _ _,R1,by unfold DenL;rfl,e,rfl⟩,?_⟩
 rintro i n ys' H ⟨rfl,hi,hy,w2,μ,acc,rest,x2,R2,l2,ec,ea⟩;have hok:=jqt ec;obtain⟨hstop,hgo⟩:=hJ w2 μ H x2 R2 hok;by_cases hlt:i<xs.length
 ·obtain⟨d0,hd0,hdr⟩:=jgI hlt;obtain⟨g1,g2⟩:=hgo i d0 hd0;rw[hdr]at ec;unfold jdU at ec;rw[if_pos hok]at ec;split at ec
  ·rename_i ρ1 has;obtain⟨b,μa,eb,ec⟩:=Out.bind_ok ec;refine .inr ⟨g1,by omega,fun y H'=>jz4 K w1 μ1.length ok tg cond elt (List.replicate k none++ρ) xs ys μ2 (i+1) (ys'++[y]) H',jz4 K w1 μ1.length ok tg cond elt (List.replicate k none++ρ) xs ys μ2 (i+1) ys',
    fun y H' r=>⟨xs.length - (i+1),by omega,rfl,r⟩,fun H' r=>⟨xs.length - (i+1),by omega,rfl,r⟩,fun x H3 hyl=>?_⟩
   obtain⟨w3,x3,R3,d3⟩:=g2 x H3 hyl;refine hT w3 μ H3 _ ρ1 _ d0 x _ R3 ((S1.mono (x2.trans x3)).blank k) d3 has fun σ2 S2=>?_;refine⟨w3,μ,ρ1,b,μa,R3,S2,eb,fun w4 H4 x4 R4=>?_⟩;have x14:=(x2.trans x3).trans x4;dsimp only
   cases b with
   |false=>
    rw[if_neg j0i];rw[if_neg j0i]at ec;exact⟨hlt,by omega,w4,μa,acc,rest,x14,R4,l2.mono (x3.trans x4),ec,ea⟩
   |true=>
    rw[if_pos rfl];rw[if_pos rfl]at ec;obtain⟨y,μb,ey,ec⟩:=Out.bind_ok ec;obtain⟨zs,μc,ez,ec⟩:=Out.bind_ok ec;cases ec;refine⟨w4,μa,ρ1,y,μb,R4,S2.mono x4,ey,fun w5 H5 v5 x5 R5 d5=>?_⟩;exact⟨hlt,by simp;omega,w5,μb,acc++[y],zs,x14.trans x5,R5,(l2.mono ((x3.trans x4).trans x5)).append (DenL.one d5),ez,by rw[j1b];exact ea⟩
  ·cases ec
 ·have ei:i=xs.length:=by omega
  subst ei;rw[List.drop_length]at ec;unfold jdU at ec;rw[if_pos hok]at ec;cases ec;rw[j0C]at ea;subst ea;exact .inl ⟨hstop,je7 R2 l2 em fun w3 H3 v x3 R3 d3=>q w3 H3 v (x2.trans x3) R3 d3⟩
theorem jvs {ok:M->Bool}{tg:Tg}{body:S3->M->Out Fl}{fg:List Nat}{xs:List D}{ρ:S3}{μ μ':M}{fl:Fl}(e:jc9 ok tg body fg xs ρ μ=.ok fl μ'):ok μ=true:=by
 cases xs<;>(unfold jc9 at e;split at e<;>first|assumption|cases e)
def jAw (K:PySem.W.Frag)(w1:Wd)(n1:Nat)(ok:M->Bool)(tg:Tg)(body:S3->M->Out Fl)(fg:List Nat)(xs:List D)(fl:Fl)(μ2:M)(i:Nat)(σ:_L2.St)(H:Hp):Prop:=
 i<=xs.length/\∃(w2:Wd) (μ:M) (ρ':S3),Ext w1 w2 n1 μ.length/\Rep K w2 μ H/\jby K w2 μ.length ρ' σ/\jc9 ok tg body fg (xs.drop i) ρ' μ=.ok fl μ2
theorem juW {ok:M->Bool}{tg:Tg}{g:TG}{body:S3->M->Out Fl}{fg:List Nat}{ρ:S3}{σ:_L2.St}{J:It}{xs:List D}{w1:Wd}{μ1 μ2:M}{H1:Hp}{fl:Fl}{E:Ends}(hT:juN K tg g)(R1:Rep K w1 μ1 H1)(S1:jby K w1 μ1.length ρ σ)
  (hJ:jt7 K w1 μ1.length ok xs J) (e:jc9 ok tg body fg xs ρ μ1=.ok fl μ2) (q:∀w' H',Ext w1 w' μ1.length μ2.length->Rep K w' μ2 H'->jzR K w' μ2.length H' E fl):Lop J g (T3S K body) E σ H1:=by
 refine⟨fun i n σ' H=>n=xs.length - i/\jAw K w1 μ1.length ok tg body fg xs fl μ2 i σ' H,
  ⟨xs.length,by simp,j1r _,w1,μ1,ρ,Ext.refl _ _,R1,S1,e⟩,?_⟩
 rintro i n σ' H ⟨rfl,hi,w2,μ,ρ',x2,R2,S2,ef⟩;have hok:=jvs ef;obtain⟨hstop,hgo⟩:=hJ w2 μ H x2 R2 hok;by_cases hlt:i<xs.length
 ·obtain⟨d0,hd0,hdr⟩:=jgI hlt;obtain⟨g1,g2⟩:=hgo i d0 hd0;rw[hdr]at ef;unfold jc9 at ef;rw[if_pos hok]at ef;split at ef
  ·rename_i ρ1 has;refine .inr ⟨g1,jAw K w1 μ1.length ok tg body fg xs fl μ2 (i+1),
    fun σ'' H' r=>⟨xs.length - (i+1),by omega,rfl,r⟩,fun x H3 hyl=>?_⟩
   obtain⟨w3,x3,R3,d3⟩:=g2 x H3 hyl;refine hT w3 μ H3 _ ρ1 _ d0 x _ R3 (S2.mono x3) d3 has fun σ2 S3'=>?_;split at ef
   ·rename_i ρ2 μa eb;refine⟨w3,μ,ρ1,.nx ρ2,μa,R3,S3',eb,fun w4 H4 x4 R4 σ4 S4=>?_⟩;exact⟨hlt,w4,μa,_,(x2.trans x3).trans x4,R4,S4.forget fg,ef⟩
   ·rename_i ρ2 μa eb;refine⟨w3,μ,ρ1,.ct ρ2,μa,R3,S3',eb,fun w4 H4 x4 R4 σ4 S4=>?_⟩;exact⟨hlt,w4,μa,_,(x2.trans x3).trans x4,R4,S4.forget fg,ef⟩
   ·rename_i ρ2 μa eb;cases ef;refine⟨w3,μ,ρ1,.bk ρ2,_,R3,S3',eb,fun w4 H4 x4 R4 σ4 S4=>?_⟩;exact q w4 H4 ((x2.trans x3).trans x4) R4 σ4 (S4.forget fg)
   ·rename_i d μa eb;cases ef;refine⟨w3,μ,ρ1,.rt d,_,R3,S3',eb,fun w4 H4 x4 R4 v4 d4=>?_⟩;exact q w4 H4 ((x2.trans x3).trans x4) R4 v4 d4
   ·cases ef
   ·cases ef
  ·cases ef
 ·have ei:i=xs.length:=by omega
  subst ei;rw[List.drop_length]at ef;unfold jc9 at ef;rw[if_pos hok]at ef;cases ef;exact .inl ⟨hstop,q w2 H x2 R2 σ' (S2.forget fg)⟩
end
mutual
noncomputable def Bel (n:Nat):D->Prop
 |.tup ds=>BelL n ds
 |.lst ds=>BelL n ds
 |.scr ds=>BelL n ds
 |.dK _ vs=>BelL n vs
 |.dT _ vs=>BelL n vs
 |.dF _ vs=>BelL n vs
 |.obj _ _ ds=>BelL n ds
 |.cel k=>k<n
 |.non=>True
 |.bl _=>True
 |.int _=>True
 |.str _=>True
 |.ty _=>True
noncomputable def BelL (n:Nat):List D->Prop
 |[]=>True
 |d::ds=>Bel n d/\BelL n ds
end
section
variable {K:PySem.W.Frag}
mutual
theorem jtD {w:Wd}{n:Nat}:∀{d:D} {v:V},Den K w n d v->Bel n d
 |.non,_,_=>by unfold Bel;trivial
 |.bl _,_,_=>by unfold Bel;trivial
 |.int _,_,_=>by unfold Bel;trivial
 |.str _,_,_=>by unfold Bel;trivial
 |.ty _,_,_=>by unfold Bel;trivial
 |.tup ds,_,h=>by unfold Den at h;unfold Bel;obtain⟨_,_,_,_,h⟩:=h;exact denL_bel h
 |.lst ds,_,h=>by unfold Den at h;unfold Bel;obtain⟨_,_,_,_,h⟩:=h;exact denL_bel h
 |.scr ds,_,h=>by unfold Den at h;unfold Bel;obtain⟨_,_,_,_,h⟩:=h;exact denL_bel h
 |.dK _ ds,_,h=>by unfold Den at h;unfold Bel;obtain⟨_,_,_,_,_,h⟩:=h;exact denL_bel h
 |.dT _ ds,_,h=>by unfold Den at h;unfold Bel;obtain⟨_,_,_,_,_,h⟩:=h;exact denL_bel h
 |.dF _ ds,_,h=>by unfold Den at h;unfold Bel;obtain⟨_,_,_,_,_,_,_,_,_,h⟩:=h;exact denL_bel h
 |.obj _ _ ds,_,h=>by unfold Den at h;unfold Bel;obtain⟨_,_,_,_,_,_,h⟩:=h;exact denL_bel h
 |.cel k,_,h=>by unfold Den at h;unfold Bel;exact h.1
theorem denL_bel {w:Wd}{n:Nat}:∀{ds:List D} {vs:List V},DenL K w n ds vs->BelL n ds
 |[],_,_=>by unfold BelL;trivial
 |d::ds,_,h=>by unfold DenL at h;unfold BelL;obtain⟨_,_,_,h1,h2⟩:=h;exact⟨jtD h1,denL_bel h2⟩
end
section
variable {w' w'':Wd} {n' n0 n'':Nat} (hz:jfK w'.Z w''.Z) (hg:∀i,i<n0->w''.γ i=w'.γ i) (hn:n0<=n'')
include hz hg hn
mutual
theorem jsV:∀{d:D} {v:V},Den K w' n' d v->Bel n0 d->Den K w'' n'' d v
 |.non,_,h,_=>by unfold Den at h ⊢;exact h
 |.bl _,_,h,_=>by unfold Den at h ⊢;exact h
 |.int _,_,h,_=>by unfold Den at h ⊢;exact h
 |.str _,_,h,_=>by unfold Den at h ⊢;exact h
 |.ty _,_,h,_=>by unfold Den at h ⊢;exact h
 |.tup ds,_,h,b=>by unfold Den at h ⊢;unfold Bel at b;obtain⟨a,xs,h1,h2,h3⟩:=h;exact⟨a,xs,h1,hz _ _ h2,denL_shr h3 b⟩
 |.lst ds,_,h,b=>by unfold Den at h ⊢;unfold Bel at b;obtain⟨a,xs,h1,h2,h3⟩:=h;exact⟨a,xs,h1,hz _ _ h2,denL_shr h3 b⟩
 |.scr ds,_,h,b=>by unfold Den at h ⊢;unfold Bel at b;obtain⟨a,xs,h1,h2,h3⟩:=h;exact⟨a,xs,h1,hz.seq h2,denL_shr h3 b⟩
 |.dK _ ds,_,h,b=>by unfold Den at h ⊢;unfold Bel at b;obtain⟨a,xs,h1,h2,h3,h4⟩:=h;exact⟨a,xs,h1,h2,hz _ _ h3,denL_shr h4 b⟩
 |.dT _ ds,_,h,b=>by unfold Den at h ⊢;unfold Bel at b;obtain⟨a,xs,h1,h2,h3,h4⟩:=h;exact⟨a,xs,h1,h2,hz _ _ h3,denL_shr h4 b⟩
 |.dF _ ds,_,h,b=>by unfold Den at h ⊢;unfold Bel at b;obtain⟨a,o,es,ep,xs,h1,h2,h3,h4,h5⟩:=h;exact⟨a,o,es,ep,xs,h1,h2,h3,hz _ _ h4,denL_shr h5 b⟩
 |.obj _ _ ds,_,h,b=>by unfold Den at h ⊢;unfold Bel at b;obtain⟨a,dx,xs,h1,h2,h3,h4⟩:=h;exact⟨a,dx,xs,h1,h2,hz _ _ h3,denL_shr h4 b⟩
 |.cel k,_,h,b=>by unfold Den at h ⊢;unfold Bel at b;exact⟨j0o b hn,by rw[hg k b];exact h.2⟩
theorem denL_shr:∀{ds:List D} {vs:List V},DenL K w' n' ds vs->BelL n0 ds->DenL K w'' n'' ds vs
 |[],_,h,_=>by unfold DenL at h ⊢;exact h
 |d::ds,_,h,b=>by unfold DenL at h ⊢;unfold BelL at b;obtain⟨v,ws,h1,h2,h3⟩:=h;exact⟨v,ws,h1,jsV h2 b.1,denL_shr h3 b.2⟩
end
end
theorem jaH {α β:Type}{o:Option α}{f:α->β}{b:β}(h:o.map f=some b):∃a,o=some a/\b=f a:=by
 cases o with
 |none=>cases h
 |some a=>exact⟨a,rfl,by cases h;rfl⟩
section
variable {w' w'':Wd} {n' n'':Nat} {h:Nat->Option D} (hz:jfK w'.Z w''.Z) (hk:∀k d',h k=some d'->k<n'->Den K w'' n'' d' (.ref (w'.γ k)))
include hz hk
mutual
theorem jlA:∀{d d':D} {v:V},jbp h d=some d'->Den K w' n' d v->Den K w'' n'' d' v
 |.non,_,_,e,q=>by unfold jbp at e;cases e;unfold Den at q ⊢;exact q
 |.bl _,_,_,e,q=>by unfold jbp at e;cases e;unfold Den at q ⊢;exact q
 |.int _,_,_,e,q=>by unfold jbp at e;cases e;unfold Den at q ⊢;exact q
 |.str _,_,_,e,q=>by unfold jbp at e;cases e;unfold Den at q ⊢;exact q
 |.ty _,_,_,e,q=>by unfold jbp at e;cases e;unfold Den at q ⊢;exact q
 |.tup ds,_,_,e,q=>by
  unfold jbp at e;obtain⟨es,e1,rfl⟩:=jaH e;unfold Den at q ⊢;obtain⟨a,xs,h1,h2,h3⟩:=q;exact⟨a,xs,h1,hz _ _ h2,frzGs_den e1 h3⟩
 |.lst ds,_,_,e,q=>by
  unfold jbp at e;obtain⟨es,e1,rfl⟩:=jaH e;unfold Den at q ⊢;obtain⟨a,xs,h1,h2,h3⟩:=q;exact⟨a,xs,h1,hz _ _ h2,frzGs_den e1 h3⟩
 |.scr ds,_,_,e,q=>by
  unfold jbp at e;obtain⟨es,e1,rfl⟩:=jaH e;unfold Den at q ⊢;obtain⟨a,xs,h1,h2,h3⟩:=q;exact⟨a,xs,h1,hz.seq h2,frzGs_den e1 h3⟩
 |.dK ks ds,_,_,e,q=>by
  unfold jbp at e;obtain⟨es,e1,rfl⟩:=jaH e;unfold Den at q ⊢;obtain⟨a,xs,h1,h2,h3,h4⟩:=q;have h5:=frzGs_den e1 h4;exact⟨a,xs,h1,by rw[h2,jad h4,jad h5],hz _ _ h3,h5⟩
 |.dT ks ds,_,_,e,q=>by
  unfold jbp at e;obtain⟨es,e1,rfl⟩:=jaH e;unfold Den at q ⊢;obtain⟨a,xs,h1,h2,h3,h4⟩:=q;have h5:=frzGs_den e1 h4;exact⟨a,xs,h1,by rw[h2,jad h4,jad h5],hz _ _ h3,h5⟩
 |.dF ks ds,_,_,e,q=>by
  unfold jbp at e;obtain⟨es,e1,rfl⟩:=jaH e;unfold Den at q ⊢;obtain⟨a,o,es,ep,xs,h1,h2,h3,h4,h5⟩:=q;have h6:=frzGs_den e1 h5;exact⟨a,o,es,ep,xs,h1,by rw[h2,jad h5,jad h6],h3,hz _ _ h4,h6⟩
 |.obj C fs ds,_,_,e,q=>by
  unfold jbp at e;obtain⟨es,e1,rfl⟩:=jaH e;unfold Den at q ⊢;obtain⟨a,dx,xs,h1,h2,h3,h4⟩:=q;have h5:=frzGs_den e1 h4;exact⟨a,dx,xs,h1,by rw[h2,jad h4,jad h5],hz _ _ h3,h5⟩
 |.cel k,_,_,e,q=>by
  unfold jbp at e;unfold Den at q;rw[q.2];exact hk k _ e q.1
theorem frzGs_den:∀{ds es:List D} {vs:List V},frzGs h ds=some es->DenL K w' n' ds vs->DenL K w'' n'' es vs
 |[],_,_,e,q=>by unfold frzGs at e;cases e;unfold DenL at q ⊢;exact q
 |d::ds,_,_,e,q=>by
  unfold frzGs at e;split at e
  ·rename_i e1 es1 q1 q2;cases e;unfold DenL at q ⊢;obtain⟨v,ws,h1,h2,h3⟩:=q;exact⟨v,ws,h1,jlA q1 h2,frzGs_den q2 h3⟩
  ·cases e
end
end
theorem jp {w:Wd}{n:Nat}{H:Hp}{a:Addr}{c:Cl}(h:Holds K w n H a c):(match c with|.lst ds=>BelL n ds|.dK _ vs=>BelL n vs|.dT _ vs=>BelL n vs|.obj _ _ ds=>BelL n ds):=by
 cases c with
 |lst ds=>obtain⟨_,_,h⟩:=h;exact denL_bel h
 |dK ks vs=>obtain⟨_,_,_,h⟩:=h;exact denL_bel h
 |dT ks vs=>obtain⟨_,_,_,h⟩:=h;exact denL_bel h
 |obj C fs ds=>obtain⟨_,_,_,_,h⟩:=h;exact denL_bel h
theorem jjQ {μ:M}{n0:Nat}{ks:List Nat}:∀{r:List Nat} {cs:List (List D)},jjM μ n0 ks r=some cs->r.length=cs.length/\∀(j k:Nat),r[j]?=some k->∃ds c,μ[k]?=some (some (.lst ds))/\frzGs (jkB μ n0 ks 4) ds=some c/\cs[j]?=some c
 |[],_,e=>by unfold jjM at e;cases e;exact⟨rfl,fun j k h=>by simp at h⟩
 |k::r,_,e=>by
  unfold jjM at e;split at e
  ·rename_i ds hk;split at e
   ·rename_i c cs e1 e2;cases e;obtain⟨i1,i2⟩:=jjQ e2;refine⟨by rw[j0q,j0q,i1],fun j k' h=>?_⟩
    cases j with
    |zero=>
     simp only[j04,j0G]at h;subst h;exact⟨ds,c,hk,e1,rfl⟩
    |succ j=>
     obtain⟨ds',c',g1,g2,g3⟩:=i2 j k' (by simpa using h);exact⟨ds',c',g1,g2,by simpa using g3⟩
   ·cases e
  ·cases e
theorem jmp:∀{l:List Nat} {i j k:Nat},l.Nodup->l[i]?=some k->l[j]?=some k->i=j
 |[],_,_,_,_,h,_=>by simp at h
 |x::l,0,0,_,_,_,_=>rfl
 |x::l,0,j+1,k,nd,h1,h2=>by
  simp only[j04,j0G]at h1;subst h1;exact absurd (j0z (by simpa using h2)) (j1e.mp nd).1
 |x::l,i+1,0,k,nd,h1,h2=>by
  simp only[j04,j0G]at h2;subst h2;exact absurd (j0z (by simpa using h1)) (j1e.mp nd).1
 |x::l,i+1,j+1,k,nd,h1,h2=>congrArg (· + 1) (jmp (i:=i) (j:=j) (k:=k) (j1e.mp nd).2 (by simpa using h1) (by simpa using h2))
open Classical in
theorem jnS {w w':Wd}{μ μ':M}{H H':Hp}{keep:List Nat}{cs:List (List D)}(R:Rep K w μ H)(x:Ext w w' μ.length μ'.length)(R':Rep K w' μ' H')(ht:μ'.take μ.length=μ)(nd:keep.Nodup)(ge:∀k∈keep,μ.length<=k)
  (hc:jjM μ' μ.length keep keep=some cs):∃w'':Wd,Ext w w'' μ.length (μ++cs.map fun xs=>some (Cl.lst xs)).length/\Rep K w'' (μ++cs.map fun xs=>some (Cl.lst xs)) H' /\
   (∀d d' v,Den K w' μ'.length d v->jbp (jkB μ' μ.length keep 4) d=some d'->Den K w'' (μ++cs.map fun xs=>some (Cl.lst xs)).length d' v) /\
   (∀k d',k<μ'.length->job μ.length keep k=some d'->Den K w'' (μ++cs.map fun xs=>some (Cl.lst xs)).length d' (.ref (w'.γ k)))/\jfK w'.Z w''.Z:=by
 obtain⟨kl,kg⟩:=jjQ hc;have hlen:(μ++cs.map fun xs=>some (Cl.lst xs)).length=μ.length+cs.length:=by simp
 have hpre:∀i,i<μ.length->μ'[i]?=μ[i]?:=fun i hi=>by
  have:=congrArg (fun l=>l[i]?) ht;simp only[List.getElem?_take,hi,if_true]at this;exact this
 have hg:∀i,(if i<μ.length then w'.γ i else w'.γ (keep.getD (i - μ.length) 0))=(fun i=>if i<μ.length then w'.γ i else w'.γ (keep.getD (i - μ.length) 0)) i:=fun _=>rfl;generalize hw:(⟨fun a=>match w'.Z a with
   |some o=>some o
   |none=>if(∃k c,μ.length<=k/\k∉keep/\μ'[k]?=some (some c)/\w'.γ k=a)then H' a else none,fun i=>if i<μ.length then w'.γ i else w'.γ (keep.getD (i - μ.length) 0)⟩:Wd)=w''
 have gLo:∀i,i<μ.length->w''.γ i=w'.γ i:=fun i hi=>by subst hw;exact if_pos hi
 have gHi:∀j k,keep[j]?=some k->w''.γ (μ.length+j)=w'.γ k:=fun j k hj=>by
  subst hw;show(if μ.length+j<μ.length then _ else w'.γ (keep.getD (μ.length+j - μ.length) 0))=_;rw[if_neg (by omega),Nat.add_sub_cancel_left];simp[hj]
 have zs:jfK w'.Z w''.Z:=fun a o h=>by
  subst hw;show(match w'.Z a with|some o=>some o|none=>_)=some o;rw[h]
 have zH:∀a o,w''.Z a=some o->H' a=some o:=fun a o h=>by
  subst hw;replace h:(match w'.Z a with|some o=>some o|none=>if(∃k c,μ.length<=k/\k∉keep/\μ'[k]?=some (some c)/\w'.γ k=a)then H' a else none)=some o:=h
  cases e:w'.Z a with
  |some o'=>
   rw[e]at h;cases h;exact R'.sub _ _ e
  |none=>
   rw[e]at h;dsimp only at h;split at h
   ·exact h
   ·cases h
 have zF:∀k c,μ.length<=k->k∉keep->μ'[k]?=some (some c)->w''.Z (w'.γ k)=H' (w'.γ k):=fun k c h1 h2 h3=>by
  subst hw;show(match w'.Z (w'.γ k)with|some o=>some o|none=>if(∃k' c,μ.length<=k'/\k'∉keep/\μ'[k']?=some (some c)/\w'.γ k'=w'.γ k)then H' (w'.γ k)else none)=_;rw[(R'.liv k c h3).1];exact if_pos ⟨k,c,h1,h2,h3,rfl⟩
 have zN:∀j c,(j<μ.length∨j∈keep)->μ'[j]?=some (some c)->w''.Z (w'.γ j)=none:=fun j c h1 h3=>by
  subst hw;show(match w'.Z (w'.γ j)with|some o=>some o|none=>if(∃k' c,μ.length<=k'/\k'∉keep/\μ'[k']?=some (some c)/\w'.γ k'=w'.γ j)then H' (w'.γ j)else none)=_;rw[(R'.liv j c h3).1];refine if_neg ?_;rintro⟨k,c',g1,g2,g3,g4⟩;have:=R'.inj k j c' c g3 h3 g4;subst this;rcases h1 with h1|h1
  ·omega
  ·exact g2 h1
 have nle:μ.length<=(μ++cs.map fun xs=>some (Cl.lst xs)).length:=by rw[hlen];exact Nat.le_add_right _ _
 have fK:∀(f k:Nat) (d':D),jkB μ' μ.length keep f k=some d'->k<μ'.length->Den K w'' (μ++cs.map fun xs=>some (Cl.lst xs)).length d' (.ref (w'.γ k)):=by
  intro f
  induction f with
  |zero=>
   intro k d' e hk;unfold jkB at e;split at e
   ·rename_i h0;cases e;unfold Den;exact⟨j0o h0 nle,by rw[gLo k h0]⟩
   ·split at e
    ·cases e
    ·cases e
  |succ f ih=>
   intro k d' e hk;unfold jkB at e;split at e
   ·rename_i h0;cases e;unfold Den;exact⟨j0o h0 nle,by rw[gLo k h0]⟩
   ·rename_i h0;split at e
    ·cases e
    ·rename_i h1;dsimp only at e;split at e
     ·rename_i ds hk';obtain⟨es,e1,rfl⟩:=jaH e;obtain⟨xs,g1,g2⟩:=(R'.liv k _ hk').2;have g3:=frzGs_den zs ih e1 g2;unfold Den;exact⟨_,xs,rfl,(zF k _ (by omega) h1 hk').trans g1,g3⟩
     ·rename_i ks ds hk';obtain⟨es,e1,rfl⟩:=jaH e;obtain⟨xs,g0,g1,g2⟩:=(R'.liv k _ hk').2;have g3:=frzGs_den zs ih e1 g2;unfold Den;exact⟨_,xs,rfl,by rw[g0,jad g2,jad g3],(zF k _ (by omega) h1 hk').trans g1,g3⟩
     ·rename_i ks ds hk';obtain⟨es,e1,rfl⟩:=jaH e;obtain⟨xs,g0,g1,g2⟩:=(R'.liv k _ hk').2;have g3:=frzGs_den zs ih e1 g2;unfold Den;exact⟨_,xs,rfl,by rw[g0,jad g2,jad g3],(zF k _ (by omega) h1 hk').trans g1,g3⟩
     ·rename_i C fs ds hk';obtain⟨es,e1,rfl⟩:=jaH e;obtain⟨dx,xs,g0,g1,g2⟩:=(R'.liv k _ hk').2;have g3:=frzGs_den zs ih e1 g2;unfold Den;exact⟨_,dx,xs,rfl,by rw[g0,jad g2,jad g3],(zF k _ (by omega) h1 hk').trans g1,g3⟩
     ·cases e
 have hcell:∀(i:Nat) (c:Cl),(μ++cs.map fun xs=>some (Cl.lst xs))[i]?=some (some c)->(i<μ.length/\μ'[i]?=some (some c))∨∃j k ds es,i=μ.length+j/\keep[j]?=some k/\μ'[k]?=some (some (.lst ds))/\frzGs (jkB μ' μ.length keep 4) ds=some es/\c=.lst es:=fun i c h=>by
  by_cases hi:i<μ.length
  ·rw[j00 hi]at h;exact .inl ⟨hi,by rw[hpre i hi];exact h⟩
  ·rw[j06 (by omega),j0X]at h
   cases e:cs[i - μ.length]? with
   |none=>rw[e]at h;cases h
   |some es=>
    rw[e]at h;have hj:i - μ.length<keep.length:=by
     rw[kl];exact(j0e.mp e).1
    obtain⟨ds,es',g1,g2,g3⟩:=kg (i - μ.length) keep[i - μ.length] (by simp[hj]);rw[e]at g3;cases g3;exact .inr ⟨i - μ.length,_,ds,es,by omega,by simp[hj],g1,g2,by simpa using h.symm⟩
 refine⟨w'',⟨x.z.trans zs,fun i hi=>(gLo i hi).trans (x.g i hi),nle⟩,⟨fun a o h=>zH a o h,fun i c h=>?_,fun i j ci cj hi hj e=>?_⟩,fun d d' v hd e=>jlA zs (fK 4) e hd,fun k d' hk e=>?_,zs⟩
 ·rcases hcell i c h with⟨hi,h'⟩|⟨j,k,ds,es,rfl,g1,g2,g3,rfl⟩
  ·rw[gLo i hi];refine⟨zN i c (.inl hi) h',?_⟩;have b:=jp (R.liv i c (by rw[<- hpre i hi];exact h')).2;have hh:=(R'.liv i c h').2
   cases c with
   |lst ds=>obtain⟨xs,g1,g2⟩:=hh;exact⟨xs,g1,denL_shr zs gLo nle g2 b⟩
   |dK ks vs=>obtain⟨xs,g0,g1,g2⟩:=hh;exact⟨xs,g0,g1,denL_shr zs gLo nle g2 b⟩
   |dT ks vs=>obtain⟨xs,g0,g1,g2⟩:=hh;exact⟨xs,g0,g1,denL_shr zs gLo nle g2 b⟩
   |obj C fs ds=>obtain⟨dx,xs,g0,g1,g2⟩:=hh;exact⟨dx,xs,g0,g1,denL_shr zs gLo nle g2 b⟩
  ·rw[gHi j k g1];have hk:k∈keep:=j0z g1;obtain⟨xs,q1,q2⟩:=(R'.liv k _ g2).2;exact⟨zN k _ (.inr hk) g2,xs,q1,frzGs_den zs (fK 4) g3 q2⟩
 ·rcases hcell i ci hi with⟨hi',h1⟩|⟨j1,k1,ds1,es1,rfl,a1,a2,_,_⟩<;>rcases hcell j cj hj with⟨hj',h2⟩|⟨j2,k2,ds2,es2,rfl,b1,b2,_,_⟩
  ·rw[gLo i hi',gLo j hj']at e;exact R'.inj i j _ _ h1 h2 e
  ·rw[gLo i hi',gHi j2 k2 b1]at e;have:=R'.inj i k2 _ _ h1 b2 e;have:=ge k2 (j0z b1);omega
  ·rw[gHi j1 k1 a1,gLo j hj']at e;have:=R'.inj k1 j _ _ a2 h2 e;have:=ge k1 (j0z a1);omega
  ·rw[gHi j1 k1 a1,gHi j2 k2 b1]at e;have hk:=R'.inj k1 k2 _ _ a2 b2 e;subst hk;rw[jmp nd a1 b1]
 ·unfold job at e;obtain⟨j,e1,rfl⟩:=jaH e;have hj:keep[j]?=some k:=by
   have:=List.idxOf?_eq_some_iff.mp e1;obtain⟨h1,h2,_⟩:=this;exact j0e.mpr ⟨h1,by simpa using h2⟩
  unfold Den;refine⟨?_,by rw[gHi j k hj]⟩;rw[hlen,<- kl];have:=(j0e.mp hj).1;omega
end
structure Stt where
 N:List Str
 sc:Scope
 cmp:Bool
noncomputable def jdy:List Str:=["len","sum","min","max","list","tuple","int","all","isinstance","range","str","enumerate","zip","bool","dict","set"]
noncomputable def jjL (c:Stt)(i:Nat)(e:Expr):Bool:=
 match e with
 |.Name x _=>if c.cmp then jrJ c.N c.sc i x else jhT c.N c.sc i x
 |_=>false
noncomputable def jp6 (c:Stt):List Nat->List Expr->Bool
 |[],[]=>true
 |i::is,e::es=>jjL c i e&&jp6 c is es
 |_,_=>false
noncomputable def jcS (c:Stt)(tg:Tg)(e:Expr):Bool:=
 match tg,e with
 |.nm i,e=>jjL c i e
 |.tp is,.Tuple es _ _=>jp6 c is es&&jah es
 |_,_=>false
noncomputable def jw3:Expr->Bool
 |.Tuple ..=>true
 |_=>false
noncomputable def jf4:Expr->Option Str
 |.Name x _=>some x
 |_=>none
theorem jdY {e:Expr}{x:Str}(h:jf4 e=some x):∃p,e=.Name x p:=by
 unfold jf4 at h;split at h
 ·cases h;exact⟨_,rfl⟩
 ·cases h
noncomputable def jhk:Expr->Option (Str×List Expr)
 |.Call f as ks _=>match ks with
  |[]=>match jf4 f with
   |some x=>some (x,as)
   |none=>none
  |_=>none
 |_=>none
theorem jd0 {e:Expr}{x:Str}{as:List Expr}(h:jhk e=some (x,as)):∃p q,e=.Call (.Name x p) as [] q:=by
 unfold jhk at h;split at h
 ·split at h
  ·split at h
   ·rename_i y hy;cases h;obtain⟨p,rfl⟩:=jdY hy;exact⟨p,_,rfl⟩
   ·cases h
  ·cases h
 ·cases h
noncomputable def ji0:Expr->Option (Expr×Str×Pos×Pos)
 |.Call f as ks q=>match f,as,ks with
  |.Attribute z n p,[],[]=>some (z,n,p,q)
  |_,_,_=>none
 |_=>none
theorem jmC {e z:Expr}{n:Str}{p q:Pos}(h:ji0 e=some (z,n,p,q)):e=.Call (.Attribute z n p) [] [] q:=by
 unfold ji0 at h;split at h
 ·split at h
  ·cases h;rfl
  ·cases h
 ·cases h
noncomputable def jdN (c:Stt)(ik:IK)(tg it:Expr):Option (List Expr):=
 match ik with
 |.seq=>some [it]
 |.str=>some [it]
 |.items=>none
 |.enm=>match jhk it with
  |some (x,[a])=>if x == "enumerate" && jbj c.sc "enumerate" && jak a&&jw3 tg then some [a]else none
  |_=>none
 |.zip=>none
 |.rng1=>match jhk it with
  |some (x,[a])=>if x == "range" && jbj c.sc "range" && jak a then some [a]else none
  |_=>none
 |.rng2=>match jhk it with
  |some (x,[a,b])=>if x == "range" && jbj c.sc "range" && jah [a,b]then some [a,b]else none
  |_=>none
noncomputable def jmn:Bi->Str
 |.len=>"len" |.sum=>"sum" |.min2=>"min" |.max2=>"max" |.list=>"list" |.tuple=>"tuple" |.int=>"int" |.all=>"all" |.isT _=>"isinstance" |.isT2 _ _=>"isinstance" |.listRange=>"list" |.str=>"str" |.lenSet=>"len" |.dictZip=>"dict" |.dict=>"dict"
noncomputable def jnE:Expr->Option (Str×Str)
 |.Tuple es _ _=>match es with
  |[a,b]=>match jf4 a with
   |some x=>match jf4 b with
    |some y=>some (x,y)
    |none=>none
   |none=>none
  |_=>none
 |_=>none
theorem jpw {e:Expr}{x y:Str}(h:jnE e=some (x,y)):∃p q k r,e=.Tuple [.Name x p,.Name y q] k r:=by
 unfold jnE at h;split at h
 ·split at h
  ·split at h
   ·rename_i hx;split at h
    ·rename_i hy;cases h;obtain⟨p,rfl⟩:=jdY hx;obtain⟨q,rfl⟩:=jdY hy;exact⟨_,_,_,_,rfl⟩
    ·cases h
   ·cases h
  ·cases h
 ·cases h
noncomputable def jdP (c:Stt)(b:Bi)(as:List Expr):Option (List Expr):=
 match b with
 |.isT n=>match as with
  |[a,t]=>match jf4 t with
   |some x=>if x==Str.ofString n&&jbj c.sc x&&isTn n&&jak a then some [a]else none
   |none=>none
  |_=>none
 |.isT2 n m=>match as with
  |[a,t]=>match jnE t with
   |some (x,y)=>if x==Str.ofString n&&y==Str.ofString m&&jbj c.sc x&&jbj c.sc y&&isTn n&&isTn m&&jak a then some [a]else none
   |none=>none
  |_=>none
 |.listRange=>none
 |.lenSet=>match as with
  |[e]=>match jhk e with
   |some (x,[a])=>if x == "set" && jbj c.sc "set" && jak a then some [a]else none
   |_=>none
  |_=>none
 |.dictZip=>none
 |_=>some as
where isTn (n:String):Bool:=n == "int" ||n == "bool" ||n == "str" ||n == "list" ||n == "tuple" ||n == "dict"
noncomputable def jl4:Mt->Str
 |.append=>"append" |.extend=>"extend" |.join=>"join" |.split=>"split"
noncomputable def jb6:Expr->List Str
 |.Name x _=>[x]
 |.Tuple es _ _=>es.filterMap fun e=>match e with
  |.Name x _=>some x
  |_=>none
 |_=>[]
noncomputable def jhh (own N:List Str):List Str:=own++N.map fun x=>if own.contains x then Str.ofString "?" ++ x else x
noncomputable def jgB (c:Stt)(tg:Expr)(scope:Scope):Stt:=⟨jhh (jb6 tg) c.N,jgr scope c.sc,true⟩
noncomputable def tst:Expr->Bool
 |.IfExp ..=>false
 |_=>true
noncomputable def jzj (d:D)(k:Const):Bool:=
 match d,k with
 |.int i,.int j=>i==j
 |.bl a,.bool b=>a==b
 |.non,.none=>true
 |.str x,.str y=>x==y
 |_,_=>false
noncomputable def jgx:Expr->Bool
 |.Slice ..=>false
 |_=>true
theorem jla {b:Expr}(h:jgx b=true):joj b:=by
 intro o i;cases b<;>first|rfl|cases h
noncomputable def jfX:Expr->Bool
 |.Constant k _ _=>match k with
  |.none=>true
  |_=>false
 |_=>false
theorem jil {e:Expr}(h:jfX e=true):∃k p,e=.Constant .none k p:=by
 unfold jfX at h;split at h
 ·split at h
  ·exact⟨_,_,rfl⟩
  ·cases h
 ·cases h
theorem jlv {P:Str->Pos->Bool}{e:Expr}(h:(match e with
  |.Name x p=>P x p
  |_=>false)=true):∃x p,e=.Name x p/\P x p=true:=by
 split at h
 ·exact⟨_,_,rfl,h⟩
 ·cases h
theorem jpi {P:Const->Nat->Pos->Bool}{e:Expr}(h:(match e with
  |.Constant k n p=>P k n p
  |_=>false)=true):∃k n p,e=.Constant k n p/\P k n p=true:=by
 split at h
 ·exact⟨_,_,_,rfl,h⟩
 ·cases h
theorem jsS {P:Expr->Operator->Expr->Pos->Bool}{e:Expr}(h:(match e with
  |.BinOp x o y p=>P x o y p
  |_=>false)=true):∃x o y p,e=.BinOp x o y p/\P x o y p=true:=by
 split at h
 ·exact⟨_,_,_,_,rfl,h⟩
 ·cases h
theorem jtB {P:Expr->Bool}{e:Expr}(h:(match e with
  |.UnaryOp .USub x _=>P x
  |_=>false)=true):∃x p,e=.UnaryOp .USub x p/\P x=true:=by
 split at h
 ·exact⟨_,_,rfl,h⟩
 ·cases h
theorem jtG {P:Expr->Bool}{e:Expr}(h:(match e with
  |.UnaryOp .Not x _=>P x
  |_=>false)=true):∃x p,e=.UnaryOp .Not x p/\P x=true:=by
 split at h
 ·exact⟨_,_,rfl,h⟩
 ·cases h
theorem juO {P:Expr->Expr->Bool}{R:Expr->Expr->Expr->List Expr->Pos->Bool}{e:Expr}(h:(match e with
  |.BoolOp .And [x,y] _=>P x y
  |.BoolOp .And (x::y::z::rest) p=>R x y z rest p
  |_=>false)=true):(∃x y p,e=.BoolOp .And [x,y] p/\P x y=true)∨∃x y z rest p,e=.BoolOp .And (x::y::z::rest) p/\R x y z rest p=true:=by
 split at h
 ·exact .inl ⟨_,_,_,rfl,h⟩
 ·exact .inr ⟨_,_,_,_,_,rfl,h⟩
 ·cases h
theorem jxT {P:Expr->Expr->Bool}{R:Expr->Expr->Expr->List Expr->Pos->Bool}{e:Expr}(h:(match e with
  |.BoolOp .Or [x,y] _=>P x y
  |.BoolOp .Or (x::y::z::rest) p=>R x y z rest p
  |_=>false)=true):(∃x y p,e=.BoolOp .Or [x,y] p/\P x y=true)∨∃x y z rest p,e=.BoolOp .Or (x::y::z::rest) p/\R x y z rest p=true:=by
 split at h
 ·exact .inl ⟨_,_,_,rfl,h⟩
 ·exact .inr ⟨_,_,_,_,_,rfl,h⟩
 ·cases h
theorem jkH {P:Expr->CmpOp->Expr->Bool}{e:Expr}(h:(match e with
  |.Compare x [o] [y] _=>P x o y
  |_=>false)=true):∃x o y p,e=.Compare x [o] [y] p/\P x o y=true:=by
 split at h
 ·exact⟨_,_,_,_,rfl,h⟩
 ·cases h
theorem jo8 {P:Expr->CmpOp->CmpOp->Expr->Expr->Bool}{e:Expr}(h:(match e with
  |.Compare x [p,q] [y,z] _=>P x p q y z
  |_=>false)=true):∃x p q y z r,e=.Compare x [p,q] [y,z] r/\P x p q y z=true:=by
 split at h
 ·exact⟨_,_,_,_,_,_,rfl,h⟩
 ·cases h
theorem jun {P:Expr->Expr->Expr->Bool}{e:Expr}(h:(match e with
  |.IfExp z x y _=>P z x y
  |_=>false)=true):∃z x y p,e=.IfExp z x y p/\P z x y=true:=by
 split at h
 ·exact⟨_,_,_,_,rfl,h⟩
 ·cases h
theorem jvt {P:List Expr->Bool}{e:Expr}(h:(match e with
  |.Tuple xs _ _=>P xs
  |_=>false)=true):∃xs k p,e=.Tuple xs k p/\P xs=true:=by
 split at h
 ·exact⟨_,_,_,rfl,h⟩
 ·cases h
theorem jvJ {P:List Expr->Bool}{e:Expr}(h:(match e with
  |.List xs _=>P xs
  |_=>false)=true):∃xs p,e=.List xs p/\P xs=true:=by
 split at h
 ·exact⟨_,_,rfl,h⟩
 ·cases h
theorem jt4 {P:Expr->Expr->Bool}{e:Expr}(h:(match e with
  |.Subscript x y _=>P x y
  |_=>false)=true):∃x y p,e=.Subscript x y p/\P x y=true:=by
 split at h
 ·exact⟨_,_,_,rfl,h⟩
 ·cases h
theorem jv9 {P:Expr->Option Expr->Option Expr->Bool}{e:Expr}(h:(match e with
  |.Subscript x (.Slice l u none _) _=>P x l u
  |_=>false)=true):∃x l u p q,e=.Subscript x (.Slice l u none p) q/\P x l u=true:=by
 split at h
 ·exact⟨_,_,_,_,_,rfl,h⟩
 ·cases h
theorem jtC {P:Expr->Str->Bool}{e:Expr}(h:(match e with
  |.Attribute x n _=>P x n
  |_=>false)=true):∃x n p,e=.Attribute x n p/\P x n=true:=by
 split at h
 ·exact⟨_,_,_,rfl,h⟩
 ·cases h
theorem jgl {P:Str->Pos->Expr->List Expr->Pos->Bool}{e:Expr}(h:(match e with
  |.Call (.Name x q) (y::ys) [] p=>P x q y ys p
  |_=>false)=true):∃x q y ys p,e=.Call (.Name x q) (y::ys) [] p/\P x q y ys p=true:=by
 split at h
 ·exact⟨_,_,_,_,_,rfl,h⟩
 ·cases h
theorem jsA {P:Expr->Str->Pos->Expr->List Expr->Pos->Bool}{e:Expr}(h:(match e with
  |.Call (.Attribute z n q) (y::ys) [] p=>P z n q y ys p
  |_=>false)=true):∃z n q y ys p,e=.Call (.Attribute z n q) (y::ys) [] p/\P z n q y ys p=true:=by
 split at h
 ·exact⟨_,_,_,_,_,_,rfl,h⟩
 ·cases h
theorem jmv {P:Expr->Comprehension->Scope->Bool}{e:Expr}(h:(match e with
  |.ListComp el [g] scope _=>P el g scope
  |_=>false)=true):∃el g scope p,e=.ListComp el [g] scope p/\P el g scope=true:=by
 split at h
 ·exact⟨_,_,_,_,rfl,h⟩
 ·cases h
noncomputable def jsT (G:List FnE)(i:Nat)(f:Str):Bool:=
 match G[i]? with
 |some g=>match g.dat with
  |some (.cls _ _ fs)=>fs.contains f
  |_=>false
 |none=>false
noncomputable def nmG (G:List FnE)(c:Stt)(f:Nat)(x:Str):Bool:=
 match G[f]? with
 |some g=>g.name==x&&jbj c.sc x
 |none=>false
section
variable (G:List FnE) (j:Nat)
mutual
noncomputable def chk:E->Stt->Expr->Bool
 |.var i,c,e=>match e with
  |.Name x _=>jkI c.N c.sc i x
  |_=>false
 |.cst d,_,e=>match e with
  |.Constant k _ _=>jzj d k
  |_=>false
 |.bin op _ a b,c,e=>match e with
  |.BinOp x o y _=>o==op&&chk a c x&&chk b c y
  |_=>false
 |.neg a,c,e=>match e with
  |.UnaryOp .USub x _=>chk a c x
  |_=>false
 |.not_ a,c,e=>match e with
  |.UnaryOp .Not x _=>chk a c x&&tst x
  |_=>false
 |.and_ a b,c,e=>match e with
  |.BoolOp .And [x,y] _=>chk a c x&&tst x&&(chk b c y&&tst y)
  |.BoolOp .And (x::y::z::rest) p=>chk a c x&&tst x&&chk b c (.BoolOp .And (y::z::rest) p)
  |_=>false
 |.or_ a b,c,e=>match e with
  |.BoolOp .Or [x,y] _=>chk a c x&&tst x&&(chk b c y&&tst y)
  |.BoolOp .Or (x::y::z::rest) p=>chk a c x&&tst x&&chk b c (.BoolOp .Or (y::z::rest) p)
  |_=>false
 |.cmp op a b,c,e=>match e with
  |.Compare x [o] [y] _=>o==op&&chk a c x&&chk b c y&&!(behindInMarks o y)
  |_=>false
 |.chain o1 o2 a b d,c,e=>match e with
  |.Compare x [p,q] [y,z] _=>p==o1&&q==o2&&chk a c x&&chk b c y&&chk d c z&&!(lastMarks [p,q] [y,z])
  |_=>false
 |.isN a,c,e=>match e with
  |.Compare x [o] [y] _=>o==.Is&&jfX y&&chk a c x
  |_=>false
 |.notN a,c,e=>match e with
  |.Compare x [o] [y] _=>o==.IsNot&&jfX y&&chk a c x
  |_=>false
 |.ife k a b,c,e=>match e with
  |.IfExp z x y _=>chk k c z&&tst z&&chk a c x&&chk b c y
  |_=>false
 |.tup es,c,e=>match e with
  |.Tuple xs _ _=>chkL es c xs&&jah xs
  |_=>false
 |.lst _ es,c,e=>match e with
  |.List xs _=>chkL es c xs&&jah xs
  |_=>false
 |.ix a b,c,e=>match e with
  |.Subscript x y _=>chk a c x&&chk b c y&&jgx y
  |_=>false
 |.sl _ a lo hi,c,e=>match e with
  |.Subscript x (.Slice l h none _) _=>chk a c x&&chkL lo c l.toList&&chkL hi c h.toList
  |_=>false
 |.stp _ _ _ _,_,_=>false
 |.fld a i f,c,e=>match e with
  |.Attribute x n _=>n==f&&jiv x&&jsT G i f&&chk a c x
  |_=>false
 |.call f _ es,c,e=>match e with
  |.Call (.Name x _) (y::ys) [] _=>(match G[f]? with
   |some g=>g.name==x&&jbj c.sc x&&es.length==g.ps.length&&decide (g.lv<=j)
   |none=>false)&&chkL es c (y::ys)&&jah (y::ys)
  |_=>false
 |.bi b _ es,c,e=>match e with
  |.Call (.Name x _) (y::ys) [] _=>jmn b==x&&jbj c.sc x&&jah (y::ys)&&(match jdP c b (y::ys)with
   |some as=>chkL es c as
   |none=>false)
  |_=>false
 |.mt b o es,c,e=>match e with
  |.Call (.Attribute z name apos) (y::ys) [] cpos=>jl4 b==name&&chk o c z&&jaW z&&jah (y::ys)&&decide (ys.length<28)&&(apos.endLine==cpos.line)&&chkL es c (y::ys)
  |_=>false
 |.clr o,c,e=>match ji0 e with
  |some (z,n,p,q)=>n == "clear" && chk o c z&&jaW z&&(p.endLine==q.line)
  |none=>false
 |.dget o a,c,e=>match e with
  |.Call (.Attribute z n q) (y::ys) [] p=>n == "get" && ys.isEmpty&&chk o c z&&chk a c y&&jaW z&&jak y&&(q.endLine==p.line)
  |_=>false
 |.isC a i,c,e=>match e with
  |.Call (.Name x _) (y::ys) [] _=>x == "isinstance" && jbj c.sc x&&(match ys with
   |[z]=>match jf4 z with
    |some t=>nmG G c i t
    |none=>false
   |_=>false)&&chk a c y&&jak y
  |_=>false
 |.comp _ own tg ik es ifs elt,c,e=>match e with
  |.ListComp el [g] scope _=>g.is_async==0&&own==(jb6 g.target).length&&jzZ c.N c.sc (jb6 g.target) (jhh (jb6 g.target) c.N) scope&&decide (jhh (jb6 g.target) c.N).Nodup&&jeG g.iter&&(match jdN c ik g.target g.iter with
   |some as=>chkL es c as
   |none=>false)&&jcS (jgB c g.target scope) tg g.target&&chkTs ifs (jgB c g.target scope) g.ifs&&chk elt (jgB c g.target scope) el
  |_=>false
 |.gl f,c,e=>match e with
  |.Name x _=>nmG G c f x
  |_=>false
 |.gget _ _ _,_,_=>false
 |.gin _ _ _,_,_=>false
 |.gix _ _,_,_=>false
noncomputable def chkL:List E->Stt->List Expr->Bool
 |[],_,[]=>true
 |e::es,c,x::xs=>chk e c x&&jak x&&chkL es c xs
 |_,_,_=>false
noncomputable def chkTs:List E->Stt->List Expr->Bool
 |[],_,[]=>true
 |[e],c,[x]=>chk e c x&&tst x
 |_,_,_=>false
end
end
structure ClsI (K:PySem.W.Frag) (C:Addr):Prop where
 ha:PySem.W.findIn K (.ref C) "__class__" =some (some (.builtin "object.__class__"))
 hn:PySem.W.specialIn K (.builtin "object.__class__") "__get__" =some (some (.builtin "getset_descriptor.__get__"))
 ht:PySem.W.takesIn K (.builtin "object.__class__")=some true
 hm:PySem.W.mroIn K C (.type "object")=some true
noncomputable def jiR (K:PySem.W.Frag)(W:World)(mg:Str->Option Value)(x:Str):Dat->Prop
 |.cst d=>∃u v,mg x=some u/\jaN v u/\∀wd n,Den K wd n d v
 |.dct kvs=>∃a xs,mg x=some (.ref a)/\MD K W a ((kvs.map (·.1)).zip xs)/\∀wd n,DenL K wd n (kvs.map (·.2)) xs
 |.cls C _ fs=>mg x=some (.ref C)/\Cls K C/\ClsI K C/\∀f∈fs,jeJ K C f
structure Ok (G:List FnE) (j:Nat) (c:Stt) (X:Cx):Prop where
 hN:X.N=c.N
 nd:c.N.Nodup
 sc:X.env.scope=c.sc
 calm:X.calm=true
 room:Room j X.A
 mg:∀x∈jdy,X.mg x=none
 fns:∀(i:Nat) (g:FnE),G[i]?=some g->g.lv<=j->CalG CX0 X.prog X.w X.K X.mg X.base g.lv g.name g.ps (jlC X.K g.ps.length g.F)
 dts:∀(i:Nat) (g:FnE) (d:Dat),G[i]?=some g->g.dat=some d->jiR X.K X.w X.mg g.name d
 fn:c.cmp=false->∀x,X.fn x=true
noncomputable def jAR:Expr->Bool
 |.BoolOp ..=>true
 |_=>false
structure Snd (G:List FnE) (X:Cx) (ir:E) (e:Expr):Prop where
 v:PE X e (T3E X.K (ev G ir).v)
 t:tst e=true->PT X e (T3T X.K (ev G ir).t)
 w:jAR e=true->PW X e (T3T X.K (ev G ir).t)
section
variable {K:PySem.W.Frag} {X:Cx} {G:List FnE} {j:Nat} {c:Stt}
theorem jyo {r:S3->M->Out D}{σ:_L2.St}{H:Hp}{Q:Bool->Hp->Prop}:T3T K (toB r) σ H Q->T3E K r σ H fun x H'=>∃k,jw4 K x H' k/\Q k H':=by
 rintro⟨w,μ,ρ,b,μ',R,S,e,q⟩;obtain⟨d,μ1,e1,e⟩:=Out.bind_ok e;split at e
 ·rename_i b' hb;cases e;exact⟨w,μ,ρ,d,_,R,S,e1,fun w1 H1 v x1 R1 d1=>⟨b,jtQ R1 d1 hb,q w1 H1 x1 R1⟩⟩
 ·cases e
theorem jam {e:Expr}{r:S3->M->Out D}(v:PE X e (T3E X.K r))(h:jpE e=true):(tst e=true->PT X e (T3T X.K (toB r)))/\(jAR e=true->PW X e (T3T X.K (toB r))):=
 ⟨fun _=>imT (jml ⟨v⟩ h).h fun σ H Q q=>jyo q,fun hb=>by cases e<;>first|(cases hb;done)|(cases h;done)⟩
theorem jqV {r:S3->M->Out D}(hb:∀ρ μ d μ',r ρ μ=.ok d μ'->∃b,d=.bl b){σ:_L2.St}{H:Hp}{Q:Bool->Hp->Prop}:T3T K (toB r) σ H Q->T3E K r σ H fun x H'=>∃k,x=.bl k/\Q k H':=by
 rintro⟨w,μ,ρ,b,μ',R,S,e,q⟩;obtain⟨d,μ1,e1,e⟩:=Out.bind_ok e;obtain⟨b',rfl⟩:=hb _ _ _ _ e1;have e':Out.ok b' μ1=.ok b μ':=e;cases e';refine⟨w,μ,ρ,.bl b,_,R,S,e1,fun w1 H1 v x1 R1 d1=>?_⟩;unfold Den at d1;exact⟨b,d1,q w1 H1 x1 R1⟩
theorem jqq (o:Ok G j c X):X.A.units+16<cLine:=by
 have:=o.room.un;omega
noncomputable def jig:D->Bool
 |.non=>true
 |_=>false
theorem jo1 {w:Wd}{n:Nat}{d:D}{v:V}(h:Den K w n d v):decide (v=.non)=jig d:=by
 cases d with
 |non=>unfold Den at h;subst h;rfl
 |bl b=>unfold Den at h;subst h;rfl
 |int i=>unfold Den at h;subst h;rfl
 |str x=>unfold Den at h;subst h;rfl
 |ty t=>unfold Den at h;subst h;rfl
 |tup ds=>unfold Den at h;obtain⟨a,xs,rfl,_⟩:=h;rfl
 |lst ds=>unfold Den at h;obtain⟨a,xs,rfl,_⟩:=h;rfl
 |scr ds=>unfold Den at h;obtain⟨a,xs,rfl,_⟩:=h;rfl
 |dK ks ds=>unfold Den at h;obtain⟨a,xs,rfl,_⟩:=h;rfl
 |dT ks ds=>unfold Den at h;obtain⟨a,xs,rfl,_⟩:=h;rfl
 |dF ks ds=>unfold Den at h;obtain⟨a,_,_,_,xs,rfl,_⟩:=h;rfl
 |obj C fs ds=>unfold Den at h;obtain⟨a,dx,xs,rfl,_⟩:=h;rfl
 |cel k=>unfold Den at h;obtain⟨_,rfl⟩:=h;rfl
theorem jtq {i:Nat}{e:Expr}(o:Ok G j c X)(h:chk G j (.var i) c e=true):Snd G X (.var i) e:=by
 have hh:=jlv (P:=fun x _=>jkI c.N c.sc i x) h;clear h;obtain⟨x,pos,rfl,h⟩:=hh
 ·have hv:PE X (.Name x pos) (T3E X.K (ev G (.var i)).v):=by
   refine imE (pvk i (by rw[o.hN,o.sc];exact h)) fun σ H Q=>?_;rintro⟨w,μ,ρ,d,μ',R,S,e,q⟩;have e':(match ρ[i]? with|some (some d)=>Out.ok d μ|_=>.bad)=.ok d μ':=e;split at e'
   ·rename_i d' hd;cases e';obtain⟨v,h1,h2⟩:=S.get hd;exact⟨v,h1,jaf R q h2⟩
   ·cases e'
  exact⟨hv,(jam hv rfl).1,(jam hv rfl).2⟩
theorem jvf {d:D}{e:Expr}(h:chk G j (.cst d) c e=true):Snd G X (.cst d) e:=by
 have hh:=jpi (P:=fun k _ _=>jzj d k) h;clear h;obtain⟨k,kk,pos,rfl,h⟩:=hh
 ·have key:∀v:V,(∀w n,Den X.K w n d v)->PE X (.Constant k kk pos) (nC v)->Snd G X (.cst d) (.Constant k kk pos):=fun v hd hp=>by
   have hv:PE X (.Constant k kk pos) (T3E X.K (ev G (.cst d)).v):=by
    refine imE hp fun σ H Q=>?_;rintro⟨w,μ,ρ,d',μ',R,S,e,q⟩;have e':Out.ok d μ=.ok d' μ':=e;cases e';exact jaf R q (hd _ _)
   exact⟨hv,(jam hv rfl).1,(jam hv rfl).2⟩
  unfold jzj at h;split at h
  ·have:=eq_of_beq h;subst this;exact key _ (fun w n=>by unfold Den;rfl) (jx0).h
  ·have:=eq_of_beq h;subst this;exact key _ (fun w n=>by unfold Den;rfl) (juD).h
  ·exact key _ (fun w n=>by unfold Den;rfl) (jxk).h
  ·have:=eq_of_beq h;subst this;exact key _ (fun w n=>by unfold Den;rfl) (jwI).h
  ·cases h
theorem jur {op:Operator}{m:Bool}{a b:E}{x y:Expr}{pos:Pos}(ha:Snd G X a x)(hb:Snd G X b y):Snd G X (.bin op m a b) (.BinOp x op y pos):=by
 obtain⟨r,ho,hs⟩:=jwG (X:=X) (op:=op) (m:=m);have hv:PE X (.BinOp x op y pos) (T3E X.K (ev G (.bin op m a b)).v):=imE (jz1 ho ha.v hb.v) fun σ H Q q=>jru hs q;exact⟨hv,(jam hv rfl).1,(jam hv rfl).2⟩
theorem ju5 {a:E}{x:Expr}{pos:Pos}(ha:Snd G X a x):Snd G X (.neg a) (.UnaryOp .USub x pos):=by
 have hv:PE X (.UnaryOp .USub x pos) (T3E X.K (ev G (.neg a)).v):=by
  refine imE (jzu jxy ⟨ha.v⟩).h fun σ H Q q=>jr4 (r:=rU fun i=>.int (-i)) (fun w μ H d1 d μ' v1 Q R h e q=>?_) q;split at e
  ·cases e;unfold Den at h;exact⟨_,h,jaf R q (by unfold Den;rfl)⟩
  ·cases e
 exact⟨hv,(jam hv rfl).1,(jam hv rfl).2⟩
theorem jsY {a:E}{x:Expr}{pos:Pos}(ht:tst x=true)(ha:Snd G X a x):Snd G X (.not_ a) (.UnaryOp .Not x pos):=by
 refine⟨?_,fun _=>?_,fun h=>by cases h⟩
 ·refine imE (jst ⟨ha.v⟩).h fun σ H Q q=>jr4 (r:=fun x H Q=>∃c,x=.bl c/\Q (.bl (!c)) H) (fun w μ H d1 d μ' v1 Q R h e q=>?_) q;split at e
  ·cases e;unfold Den at h;exact⟨_,h,jaf R q (by unfold Den;rfl)⟩
  ·cases e
 ·refine imT (jnM ⟨ha.t ht⟩).h fun σ H Q=>?_;rintro⟨w,μ,ρ,b,μ',R,S,e,q⟩;obtain⟨k,μ1,e1,e⟩:=Out.bind_ok e;cases e;exact⟨w,μ,ρ,k,_,R,S,e1,q⟩
theorem jwc {a b:E}{σ:_L2.St}{H:Hp}{Q:VK}:T3E K (ev G (.and_ a b)).v σ H Q->jtZ (T3E K (ev G a).v) (T3E K (ev G b).v) σ H Q:=by
 rintro⟨w,μ,ρ,d,μ',R,S,e,q⟩;obtain⟨x,μ1,e1,e⟩:=Out.bind_ok e;split at e
 ·rename_i k;refine⟨w,μ,ρ,_,μ1,R,S,e1,fun w1 H1 v x1 R1 d1=>?_⟩;unfold Den at d1;refine⟨k,d1,?_⟩
  cases k with
  |true=>
   rw[if_pos rfl]at e ⊢;exact⟨w1,μ1,ρ,d,μ',R1,S.mono x1,e,fun w2 H2 v2 x2 R2 d2=>q w2 H2 v2 (x1.trans x2) R2 d2⟩
  |false=>
   rw[if_neg j0i]at e ⊢;cases e;exact q w1 H1 _ x1 R1 (by unfold Den;rfl)
 ·cases e
theorem jAK {a b:E}{σ:_L2.St}{H:Hp}{Q:VK}:T3E K (ev G (.or_ a b)).v σ H Q->jAk (T3E K (ev G a).v) (T3E K (ev G b).v) σ H Q:=by
 rintro⟨w,μ,ρ,d,μ',R,S,e,q⟩;obtain⟨x,μ1,e1,e⟩:=Out.bind_ok e;split at e
 ·rename_i k;refine⟨w,μ,ρ,_,μ1,R,S,e1,fun w1 H1 v x1 R1 d1=>?_⟩;unfold Den at d1;refine⟨k,d1,?_⟩
  cases k with
  |true=>
   rw[if_pos rfl]at e ⊢;cases e;exact q w1 H1 _ x1 R1 (by unfold Den;rfl)
  |false=>
   rw[if_neg j0i]at e ⊢;exact⟨w1,μ1,ρ,d,μ',R1,S.mono x1,e,fun w2 H2 v2 x2 R2 d2=>q w2 H2 v2 (x1.trans x2) R2 d2⟩
 ·cases e
theorem jx7 {a b:E}{σ:_L2.St}{H:Hp}{Q:Bool->Hp->Prop}:T3T K (ev G (.and_ a b)).t σ H Q->jzX (T3T K (ev G a).t) (T3T K (ev G b).t) σ H Q:=by
 rintro⟨w,μ,ρ,d,μ',R,S,e,q⟩;obtain⟨k,μ1,e1,e⟩:=Out.bind_ok e;refine⟨w,μ,ρ,k,μ1,R,S,e1,fun w1 H1 x1 R1=>?_⟩;dsimp only
 cases k with
 |true=>
  rw[if_pos rfl]at e ⊢;exact⟨w1,μ1,ρ,d,μ',R1,S.mono x1,e,fun w2 H2 x2 R2=>q w2 H2 (x1.trans x2) R2⟩
 |false=>
  rw[if_neg j0i]at e ⊢;cases e;exact q w1 H1 x1 R1
theorem jAU {a b:E}{σ:_L2.St}{H:Hp}{Q:Bool->Hp->Prop}:T3T K (ev G (.or_ a b)).t σ H Q->tOr (T3T K (ev G a).t) (T3T K (ev G b).t) σ H Q:=by
 rintro⟨w,μ,ρ,d,μ',R,S,e,q⟩;obtain⟨k,μ1,e1,e⟩:=Out.bind_ok e;refine⟨w,μ,ρ,k,μ1,R,S,e1,fun w1 H1 x1 R1=>?_⟩;dsimp only
 cases k with
 |true=>
  rw[if_pos rfl]at e ⊢;cases e;exact q w1 H1 x1 R1
 |false=>
  rw[if_neg j0i]at e ⊢;exact⟨w1,μ1,ρ,d,μ',R1,S.mono x1,e,fun w2 H2 x2 R2=>q w2 H2 (x1.trans x2) R2⟩
theorem jrD {a b:E}{x y:Expr}{pos:Pos}(h1:tst x=true)(h2:tst y=true)(ha:Snd G X a x)(hb:Snd G X b y):Snd G X (.and_ a b) (.BoolOp .And [x,y] pos):=by
 have hw:PW X (.BoolOp .And [x,y] pos) (T3T X.K (ev G (.and_ a b)).t):=imW (jsK ⟨ha.t h1⟩ (ju9 ⟨hb.t h2⟩)).h fun σ H Q q=>jx7 q;exact⟨imE (jr8 ⟨ha.v⟩ (jsc ⟨hb.v⟩)).h fun σ H Q q=>jwc q,fun _=>hw.pt,fun _=>hw⟩
theorem jqY {a b:E}{x y:Expr}{rest:List Expr}{pos:Pos}(h1:tst x=true)(ha:Snd G X a x)(hb:Snd G X b (.BoolOp .And (y::rest) pos)):Snd G X (.and_ a b) (.BoolOp .And (x::y::rest) pos):=by
 have hw:PW X (.BoolOp .And (x::y::rest) pos) (T3T X.K (ev G (.and_ a b)).t):=imW (jsK ⟨ha.t h1⟩ ⟨hb.w rfl⟩).h fun σ H Q q=>jx7 q;exact⟨imE (jr8 ⟨ha.v⟩ ⟨hb.v⟩).h fun σ H Q q=>jwc q,fun _=>hw.pt,fun _=>hw⟩
theorem js3 {a b:E}{x y:Expr}{pos:Pos}(h1:tst x=true)(h2:tst y=true)(ha:Snd G X a x)(hb:Snd G X b y):Snd G X (.or_ a b) (.BoolOp .Or [x,y] pos):=by
 have hw:PW X (.BoolOp .Or [x,y] pos) (T3T X.K (ev G (.or_ a b)).t):=imW (ju ⟨ha.t h1⟩ (jsC ⟨hb.t h2⟩)).h fun σ H Q q=>jAU q;exact⟨imE (jwb ⟨ha.v⟩ (jsc ⟨hb.v⟩)).h fun σ H Q q=>jAK q,fun _=>hw.pt,fun _=>hw⟩
theorem jtE {a b:E}{x y:Expr}{rest:List Expr}{pos:Pos}(h1:tst x=true)(ha:Snd G X a x)(hb:Snd G X b (.BoolOp .Or (y::rest) pos)):Snd G X (.or_ a b) (.BoolOp .Or (x::y::rest) pos):=by
 have hw:PW X (.BoolOp .Or (x::y::rest) pos) (T3T X.K (ev G (.or_ a b)).t):=imW (ju ⟨ha.t h1⟩ ⟨hb.w rfl⟩).h fun σ H Q q=>jAU q;exact⟨imE (jwb ⟨ha.v⟩ ⟨hb.v⟩).h fun σ H Q q=>jAK q,fun _=>hw.pt,fun _=>hw⟩
theorem jtH {op:CmpOp}{a b:E}{x y:Expr}{pos:Pos}(o:Ok G j c X)(hm:behindInMarks op y=false)(ha:Snd G X a x)(hb:Snd G X b y):Snd G X (.cmp op a b) (.Compare x [op] [y] pos):=by
 obtain⟨r,ho,hs⟩:=jpj (X:=X) (op:=op) (jqq o);refine⟨imE (jxC ho ⟨ha.v⟩ ⟨hb.v⟩ hm).h fun σ H Q q=>jru hs q,fun _=>?_,fun h=>by cases h⟩;refine imT (jxF ho ⟨ha.v⟩ ⟨hb.v⟩ hm).h fun σ H Q q=>jru hs (jqV (fun ρ μ d μ' e=>?_) q);obtain⟨_,_,_,e⟩:=Out.bind_ok e;obtain⟨_,_,_,e⟩:=Out.bind_ok e;obtain⟨b,h,_⟩:=jd4 _ _ _ _ _ e;exact⟨b,h⟩
theorem jpJ {o1 o2:CmpOp}{a b d:E}{r r':R2}(hs:jpR K (jdO o1) r)(hs':jpR K (jdO o2) r'){σ:_L2.St}{H:Hp}{Q:VK}:T3E K (ev G (.chain o1 o2 a b d)).v σ H Q->jjO r r' (T3E K (ev G a).v) (T3E K (ev G b).v) (T3E K (ev G d).v) σ H Q:=by
 rintro⟨w,μ,ρ,d0,μ',R,S,e,q⟩;obtain⟨x,μ1,e1,e⟩:=Out.bind_ok e;obtain⟨y,μ2,e2,e⟩:=Out.bind_ok e;obtain⟨z,μ3,e3,eB⟩:=Out.bind_ok e;clear e;obtain⟨k,rfl,rfl⟩:=jd4 _ _ _ _ _ e3;refine⟨w,μ,ρ,x,μ1,R,S,e1,fun w1 H1 v1 x1 R1 d1=>⟨w1,μ1,ρ,y,μ3,R1,S.mono x1,e2,fun w2 H2 v2 x2 R2 d2=>?_⟩⟩;refine hs w2 μ3 H2 x y (.bl k) μ3 v1 v2 _ R2 (d1.mono x2) d2 e3 fun w3 H3 v3 x3 R3 d3=>?_;unfold Den at d3;refine⟨k,d3,?_⟩;have e':(if k then((ev G d).v ρ μ3).bind fun u μ4=>jdO o2 y u μ4 else Out.ok (.bl false) μ3)=.ok d0 μ':=eB
 cases k with
 |true=>
  rw[if_pos rfl]at e' ⊢;obtain⟨u,μ4,e4,e'⟩:=Out.bind_ok e';exact⟨w3,μ3,ρ,u,μ4,R3,S.mono ((x1.trans x2).trans x3),e4,fun w4 H4 v4 x4 R4 d4=>hs' w4 μ4 H4 y u d0 μ' v2 v4 Q R4 (d2.mono (x3.trans x4)) d4 e' fun w5 H5 v5 x5 R5 d5=>q w5 H5 v5 ((((x1.trans x2).trans x3).trans x4).trans x5) R5 d5⟩
 |false=>
  rw[if_neg j0i]at e' ⊢;cases e';exact q w3 H3 _ ((x1.trans x2).trans x3) R3 (by unfold Den;rfl)
theorem jpW {o1 o2:CmpOp}{a b d:E}{x y z:Expr}{pos:Pos}(o:Ok G j c X)(hm:lastMarks [o1,o2] [y,z]=false)(ha:Snd G X a x)(hb:Snd G X b y)(hd:Snd G X d z):Snd G X (.chain o1 o2 a b d) (.Compare x [o1,o2] [y,z] pos):=by
 obtain⟨r,ho,hs⟩:=jpj (X:=X) (op:=o1) (jqq o);obtain⟨r',ho',hs'⟩:=jpj (X:=X) (op:=o2) (jqq o);refine⟨imE (jqy ho ho' ⟨ha.v⟩ ⟨hb.v⟩ ⟨hd.v⟩ hm).h fun σ H Q q=>jpJ hs hs' q,fun _=>?_,fun h=>by cases h⟩;refine imT (jqg ho ho' ⟨ha.v⟩ ⟨hb.v⟩ ⟨hd.v⟩ hm).h fun σ H Q q=>jpJ hs hs' (jqV (fun ρ μ d μ' e=>?_) q);obtain⟨_,_,_,e⟩:=Out.bind_ok e;obtain⟨_,_,_,e⟩:=Out.bind_ok e;obtain⟨z,_,e3,e⟩:=Out.bind_ok e;split at e
 ·split at e
  ·obtain⟨_,_,_,e⟩:=Out.bind_ok e;obtain⟨b,h,_⟩:=jd4 _ _ _ _ _ e;exact⟨b,h⟩
  ·cases e;exact⟨_,rfl⟩
 ·cases e
theorem jwX {a:E}{σ:_L2.St}{H:Hp}{Q:VK}:T3E K (ev G (.isN a)).v σ H Q->jy1 (T3E K (ev G a).v) σ H Q:=fun q=>jr4 (r:=fun x H Q=>Q (.bl (decide (x=.non))) H) (fun w μ H d1 d μ' v1 Q R h e q=>by
 rw[jo1 h];split at e
 ·cases e;exact jaf R q (by unfold Den;rfl)
 ·rename_i hn;cases e;have:jig d1=false:=by
   cases d1<;>first|rfl|exact absurd rfl hn
  rw[this];exact jaf R q (by unfold Den;rfl)) q
theorem jsh {a:E}{σ:_L2.St}{H:Hp}{Q:VK}:T3E K (ev G (.notN a)).v σ H Q->jrm (T3E K (ev G a).v) σ H Q:=fun q=>jr4 (r:=fun x H Q=>Q (.bl (!decide (x=.non))) H) (fun w μ H d1 d μ' v1 Q R h e q=>by
 rw[jo1 h];split at e
 ·cases e;exact jaf R q (by unfold Den;rfl)
 ·rename_i hn;cases e;have:jig d1=false:=by
   cases d1<;>first|rfl|exact absurd rfl hn
  rw[this];exact jaf R q (by unfold Den;rfl)) q
theorem jt0 {a:E}{x:Expr}{k:Nat}{p pos:Pos}(ha:Snd G X a x):Snd G X (.isN a) (.Compare x [.Is] [.Constant .none k p] pos):=by
 refine⟨imE (jwD ⟨ha.v⟩).h fun σ H Q q=>jwX q,fun _=>?_,fun h=>by cases h⟩;refine imT (jwT ⟨ha.v⟩).h fun σ H Q q=>jwX (jqV (fun ρ μ d μ' e=>?_) q);obtain⟨_,_,_,e⟩:=Out.bind_ok e;split at e<;>(cases e;exact⟨_,rfl⟩)
theorem jri {a:E}{x:Expr}{k:Nat}{p pos:Pos}(ha:Snd G X a x):Snd G X (.notN a) (.Compare x [.IsNot] [.Constant .none k p] pos):=by
 refine⟨imE (jvo ⟨ha.v⟩).h fun σ H Q q=>jsh q,fun _=>?_,fun h=>by cases h⟩;refine imT (ju6 ⟨ha.v⟩).h fun σ H Q q=>jsh (jqV (fun ρ μ d μ' e=>?_) q);obtain⟨_,_,_,e⟩:=Out.bind_ok e;split at e<;>(cases e;exact⟨_,rfl⟩)
theorem juZ {k a b:E}{z x y:Expr}{pos:Pos}(ht:tst z=true)(hk:Snd G X k z)(ha:Snd G X a x)(hb:Snd G X b y):Snd G X (.ife k a b) (.IfExp z x y pos):=by
 refine⟨imE (jqT ⟨hk.t ht⟩ ⟨ha.v⟩ ⟨hb.v⟩).h fun σ H Q=>?_,(fun h=>by cases h),(fun h=>by cases h)⟩;rintro⟨w,μ,ρ,d,μ',R,S,e,q⟩;obtain⟨k',μ1,e1,e⟩:=Out.bind_ok e;refine⟨w,μ,ρ,k',μ1,R,S,e1,fun w1 H1 x1 R1=>?_⟩;dsimp only
 cases k' with
 |true=>
  rw[if_pos rfl]at e ⊢;exact⟨w1,μ1,ρ,d,μ',R1,S.mono x1,e,fun w2 H2 v2 x2 R2 d2=>q w2 H2 v2 (x1.trans x2) R2 d2⟩
 |false=>
  rw[if_neg j0i]at e ⊢;exact⟨w1,μ1,ρ,d,μ',R1,S.mono x1,e,fun w2 H2 v2 x2 R2 d2=>q w2 H2 v2 (x1.trans x2) R2 d2⟩
theorem jql {es:List E}{xs:List Expr}{k:Nat}{pos:Pos}(h:PA X xs (T3A X.K (evL G es))):Snd G X (.tup es) (.Tuple xs k pos):=by
 have hv:PE X (.Tuple xs k pos) (T3E X.K (ev G (.tup es)).v):=imE (jmy h) fun σ H Q q=>jhl juV q;exact⟨hv,(jam hv rfl).1,(jam hv rfl).2⟩
theorem jqU {m:Bool}{es:List E}{xs:List Expr}{pos:Pos}(h:PA X xs (T3A X.K (evL G es))):Snd G X (.lst m es) (.List xs pos):=by
 have hv:PE X (.List xs pos) (T3E X.K (ev G (.lst m es)).v):=imE (jwv h) fun σ H Q q=>jhl jvp q;exact⟨hv,(jam hv rfl).1,(jam hv rfl).2⟩
theorem jxO {a b:E}{x y:Expr}{pos:Pos}(o:Ok G j c X)(hp:jgx y=true)(ha:Snd G X a x)(hb:Snd G X b y):Snd G X (.ix a b) (.Subscript x y pos):=by
 have hv:PE X (.Subscript x y pos) (T3E X.K (ev G (.ix a b)).v):=imE (jzI (jyu.or (jzU (by have:=jqq o;omega))) ha.v hb.v (jla hp)) fun σ H Q q=>jru jz7 q;exact⟨hv,(jam hv rfl).1,(jam hv rfl).2⟩
end
section
variable {K:PySem.W.Frag} {X:Cx} {G:List FnE} {j:Nat} {c:Stt}
noncomputable def T3O (K:PySem.W.Frag)(r:S3->M->Out (Option Int)):TO:=fun σ H Q=>∃(w:Wd) (μ:M) (ρ:S3) (o:Option Int) (μ':M),Rep K w μ H/\jby K w μ.length ρ σ/\r ρ μ=.ok o μ'/\∀w' H',Ext w w' μ.length μ'.length->Rep K w' μ' H'->Q o H'
theorem imO {e:Option Expr}{t t':TO}(h:PO X e t)(k:∀σ H Q,t' σ H Q->t σ H Q):PO X e t':=fun pins s σ H Q I hw=>h pins s σ H Q I (k σ H Q hw)
theorem jy {es:List E}{l:Option Expr}(h:∀e x,es=[e]->l=some x->PE X x (T3E X.K (ev G e).v))(hl:es.length=l.toList.length):PO X l (T3O X.K fun ρ μ=>jlo (evL G es ρ μ)):=by
 cases l with
 |none=>
  have:es=[]:=j05.mp hl;subst this;refine imO jud fun σ H Q=>?_;rintro⟨w,μ,ρ,o,μ',R,S,e,q⟩;have e':Out.ok none μ=.ok o μ':=by
   have:evL G [] ρ μ=.ok [] μ:=rfl;unfold jlo at e;dsimp only at e;rw[this]at e;exact e
  cases e';exact q w H (Ext.refl _ _) R
 |some x=>
  obtain⟨e1,rfl⟩:∃e1,es=[e1]:=j1p.mp hl;refine imO (jtj (h e1 x rfl rfl)) fun σ H Q=>?_;rintro⟨w,μ,ρ,o,μ',R,S,e,q⟩
  have e':(((ev G e1).v ρ μ).bind fun d μ1=>Out.ok [d] μ1).bind (fun ds μ=>match ds with
    |[]=>.ok none μ
    |[.int i]=>.ok (some i) μ
    |_=>.bad)=.ok o μ':=by
   have:evL G [e1] ρ μ=(((ev G e1).v ρ μ).bind fun d μ1=>Out.ok [d] μ1):=rfl;unfold jlo at e;dsimp only at e;rw[this]at e;exact e
  obtain⟨ds,μ1,e1',e2⟩:=Out.bind_ok e';obtain⟨d,μ2,e3,e4⟩:=Out.bind_ok e1';cases e4;split at e2
  ·rename_i hh;cases hh
  ·rename_i i hh;cases hh;cases e2;refine⟨w,μ,ρ,.int i,_,R,S,e3,fun w1 H1 v x1 R1 d1=>?_⟩;unfold Den at d1;exact⟨i,d1,q w1 H1 x1 R1⟩
  ·cases e2
theorem jxv {m:Bool}{a:E}{lo hi:List E}{x:Expr}{l h:Option Expr}{p pos:Pos}(ha:Snd G X a x)(hl:PO X l (T3O X.K fun ρ μ=>jlo (evL G lo ρ μ)))(hh:PO X h (T3O X.K fun ρ μ=>jlo (evL G hi ρ μ))):Snd G X (.sl m a lo hi) (.Subscript x (.Slice l h none p) pos):=by
 have hv:PE X (.Subscript x (.Slice l h none p) pos) (T3E X.K (ev G (.sl m a lo hi)).v):=by
  refine imE (jqc jv2 ha.v hl hh) fun σ H Q=>?_;rintro⟨w,μ,ρ,d,μ',R,S,e,q⟩;obtain⟨d1,μ1,e1,e⟩:=Out.bind_ok e;obtain⟨o1,μ2,e2,e⟩:=Out.bind_ok e;obtain⟨o2,μ3,e3,e⟩:=Out.bind_ok e;exact⟨w,μ,ρ,d1,μ1,R,S,e1,fun w1 H1 v1 x1 R1 k1=>⟨w1,μ1,ρ,o1,μ2,R1,S.mono x1,e2,fun w2 H2 x2 R2=>⟨w2,μ2,ρ,o2,μ3,R2,S.mono (x1.trans x2),e3,fun w3 H3 x3 R3=>jwM R3 (k1.mono (x2.trans x3)) e fun w4 H4 v4 x4 R4 k4=>q w4 H4 v4 (((x1.trans x2).trans x3).trans x4) R4 k4⟩⟩⟩
 exact⟨hv,(jam hv rfl).1,(jam hv rfl).2⟩
theorem ji4:∀{es:List E} {ρ:S3} {μ μ':M} {ds:List D},evL G es ρ μ=.ok ds μ'->ds.length=es.length
 |[],ρ,μ,μ',ds,e=>by
  have e':Out.ok [] μ=.ok ds μ':=e;cases e';rfl
 |x::es,ρ,μ,μ',ds,e=>by
  obtain⟨d,μ1,e1,e⟩:=Out.bind_ok e;obtain⟨ds',μ2,e2,e⟩:=Out.bind_ok e;cases e;rw[j0q,j0q,ji4 e2]
theorem jmt {md:Md}{F:Fn}{np:Nat}{w1:Wd}{μ1 μ':M}{H1:Hp}{ds:List D}{d:D}{vs:List V}{Q:VK}{EX:XK}(hl:ds.length=np)(R1:Rep K w1 μ1 H1)(l1:DenL K w1 μ1.length ds vs)(e:jao md F ds μ1=.ok d μ')(q:jjA K w1 μ1.length d μ' Q):jlC K np F vs H1 Q EX:=by
 refine⟨by rw[<- jad l1];exact hl,?_⟩
 cases md with
 |raw=>exact⟨w1,μ1,ds,d,μ',R1,l1,e,q⟩
 |frz=>
  simp only[jao]at e;split at e
  ·rename_i d0 μ0 e0;split at e
   ·rename_i ht;split at e
    ·rename_i d' hd';cases e;refine⟨w1,_,ds,d0,μ0,R1,l1,e0,fun w2 H2 v x2 R2 d2=>?_⟩;obtain⟨w3,x3,R3,f3,_,_⟩:=jnS (keep:=[]) (cs:=[]) R1 x2 R2 ht List.nodup_nil (fun k h=>by cases h) rfl;simp only[j0F,j0C]at x3 R3 f3;exact q w3 H2 v x3 R3 (f3 _ _ _ d2 hd')
    ·cases e
   ·cases e
  ·split at e
   ·split at e<;>cases e
   ·cases e
  ·cases e
 |new=>
  simp only[jao]at e;split at e
  ·rename_i d0 μ0 e0;split at e
   ·rename_i ht;split at e
    ·rename_i d' cs hd';cases e;refine⟨w1,μ1,ds,d0,μ0,R1,l1,e0,fun w2 H2 v x2 R2 d2=>?_⟩;unfold jyS at hd';split at hd'
     ·rename_i hk;split at hd'
      ·rename_i cs' hc;obtain⟨w3,x3,R3,f3,c3,z3⟩:=jnS (keep:=jqE d0) (cs:=cs') R1 x2 R2 ht hk.1 hk.2 hc;split at hd'
       ·rename_i k;obtain⟨d'',e1,e2⟩:=jaH hd';cases e2;unfold Den at d2;rw[d2.2]at *;exact q w3 H2 _ x3 R3 (c3 k _ d2.1 e1)
       ·rename_i es;obtain⟨es',e1,e2⟩:=jaH hd';cases e2;refine q w3 H2 v x3 R3 ?_;unfold Den at d2 ⊢;obtain⟨a,xs,rfl,s1,l2⟩:=d2;refine⟨a,xs,rfl,z3 _ _ s1,?_⟩;generalize jqE (.tup es)=ks at e1 f3 c3;clear hd' s1 hk hc e0 q;have p2:=jav.mp l2;clear l2;refine jav.mpr ?_
        induction p2 generalizing es' with
        |nil=>unfold jl0 at e1;cases e1;exact .nil
        |cons r t ih=>
         unfold jl0 at e1;split at e1
         ·rename_i y ys h1 h2;cases e1;refine .cons ?_ (ih _ h2);unfold jwC at h1;split at h1
          ·unfold Den at r;rw[r.2];exact c3 _ _ r.1 h1
          ·exact f3 _ _ _ r h1
         ·cases e1
       ·cases hd'
      ·cases hd'
     ·cases hd'
    ·cases e
   ·cases e
  ·split at e
   ·split at e<;>cases e
   ·cases e
  ·cases e
theorem jq1 {f:Nat}{g:FnE}{md:Md}{es:List E}{x:Str}{y:Expr}{ys:List Expr}{p pos:Pos}(o:Ok G j c X)(hf:G[f]?=some g)(hn:g.name=x)(hg:jbj c.sc x=true)(hp:es.length=g.ps.length)(hlv:g.lv<=j)(hst:jah (y::ys)=true)(h:PA X (y::ys) (T3A X.K (evL G es))) :
  Snd G X (.call f md es) (.Call (.Name x p) (y::ys) [] pos):=by
 subst hn;have hv:PE X (.Call (.Name g.name p) (y::ys) [] pos) (T3E X.K (ev G (.call f md es)).v):=by
  refine imE (jr9 (o.fns f g hf hlv) o.room hlv (by rw[o.sc];exact hg) jAf T3A.mono h hst) fun σ H Q=>?_;rintro⟨w,μ,ρ,d,μ',R,S,e,q⟩;obtain⟨ds,μ1,e1,e⟩:=Out.bind_ok e;unfold jfx at e;rw[hf]at e;refine⟨w,μ,ρ,ds,μ1,R,S,e1,fun w1 H1 vs x1 R1 d1=>?_⟩;show jlC X.K g.ps.length g.F (vs++[]) H1 Q E0;rw[j0C];exact jmt ((ji4 e1).trans hp) R1 d1 e fun w2 H2 v x2 R2 d2=>q w2 H2 v (x1.trans x2) R2 d2
 exact⟨hv,(jam hv rfl).1,(jam hv rfl).2⟩
theorem jek {α β:Type}{F:α->β->Prop}:∀{xs:List α} {ys:List β},xs.length=ys.length->(∀(i:Nat) (a:α) (b:β),xs[i]?=some a->ys[i]?=some b->F a b)->Paired F xs ys
 |[],[],_,_=>.nil
 |[],_::_,h,_=>by cases h
 |_::_,[],h,_=>by cases h
 |a::xs,b::ys,h,k=>.cons (k 0 a b rfl rfl) (jek (by simpa using h) fun i a b h1 h2=>k (i+1) a b (by simpa using h1) (by simpa using h2))
theorem jfg {w:Wd}{n:Nat}:∀ks:List Int,DenL K w n (ks.map D.int) (ks.map V.int)
 |[]=>by unfold DenL;rfl
 |k::ks=>by rw[j0k,j0k];unfold DenL;exact⟨_,_,rfl,by unfold Den;rfl,jfg ks⟩
end
section
variable {K:PySem.W.Frag} {X:Cx} {G:List FnE} {j:Nat} {c:Stt}
theorem mg_of (o:Ok G j c X){x:Str}(h:x∈jdy):X.mg x=none:=o.mg x h
theorem ja7 (o:Ok G j c X){x:Str}(h:jbj c.sc x=true):jbj X.env.scope x=true:=by rw[o.sc];exact h
theorem jrE {w:Wd}{n:Nat}:∀{ds:List D} {vs:List V} {ks:List Key},DenL K w n ds vs->ksD ds=some ks->vs=ks.map kV
 |[],vs,ks,h,e=>by
  cases e;unfold DenL at h;exact h
 |d::ds,vs,ks,h,e=>by
  unfold DenL at h;obtain⟨v,ws,rfl,h1,h2⟩:=h;unfold ksD at e;split at e
  ·rename_i k r h3 h4;cases e;rw[jsj h1 h3,jrE h2 h4];rfl
  ·cases e
theorem joy {w:Wd}{n:Nat}:∀{ds:List D} {vs:List V} {ks:List (List Key)},DenL K w n ds vs->jsp ds=some ks->Paired (fun k x=>∃c,x=V.ref c/\w.Z c=some (.tup (k.map kV))) ks vs
 |[],vs,ks,h,e=>by
  cases e;unfold DenL at h;subst h;exact .nil
 |d::ds,vs,ks,h,e=>by
  unfold DenL at h;obtain⟨v,ws,rfl,h1,h2⟩:=h
  cases d with
  |tup d=>
   unfold jsp at e;split at e
   ·rename_i k r h3 h4;cases e;unfold Den at h1;obtain⟨a,xs,rfl,hz,hd⟩:=h1;exact .cons ⟨a,rfl,by rw[<- jrE hd h3];exact hz⟩ (joy h2 h4)
   ·cases e
  |_=>cases e
theorem jnp:jnl X.K jfS (jn4 X.K):=by
 intro w μ H ds d μ' vs Q R h e q;unfold jfS at e;split at e
 ·split at e
  ·rename_i xs hs;split at e
   ·rename_i zs hz;split at e
    ·rename_i hl;cases e;obtain⟨v,rfl,h1⟩:=jli h;obtain⟨a,us,rfl,s1,l1⟩:=jfW R h1 hs;have:=jho l1 hz;subst this;refine⟨a,_,_,rfl,s1,.inl ⟨zs,rfl,hl,rfl⟩,fun l hn=>⟨l,_,rfl,jaz,j0I (jlN zs) hl,?_⟩⟩;obtain⟨R',x⟩:=R.frz hn (jvO l (ddS zs).length);exact q _ _ _ x R' (by unfold Den;rfl)
    ·cases e
   ·split at e
    ·rename_i ks hk;split at e
     ·rename_i hl;cases e;obtain⟨v,rfl,h1⟩:=jli h;obtain⟨a,us,rfl,s1,l1⟩:=jfW R h1 hs;refine⟨a,_,_,rfl,s1,.inr ⟨ks,hl,rfl,Paired.imp' (fun k x ⟨c,e1,e2⟩=>⟨c,e1,SqT.of (R.sub _ _ e2)⟩) (joy l1 hk)⟩,fun l hn=>⟨l,_,rfl,jaz,j0I (jlN ks) (j0I hl (by decide)),?_⟩⟩;obtain⟨R',x⟩:=R.frz hn (jvO l (ddS ks).length);exact q _ _ _ x R' (by unfold Den;rfl)
     ·cases e
    ·cases e
  ·cases e
 ·cases e
theorem jsL {w:Wd}{n:Nat}:∀{ds:List D} {vs:List V} {as bs:List D},DenL K w n ds vs->jvW ds=some (as,bs)->∃xs ys,DenL K w n as xs/\DenL K w n bs ys/\Paired (fun p x=>∃T,x=V.ref T/\w.Z T=some (.tup [p.1,p.2])) (xs.zip ys) vs/\xs.length=ys.length
 |[],vs,as,bs,h,e=>by
  cases e;unfold DenL at h;subst h;exact⟨[],[],by unfold DenL;rfl,by unfold DenL;rfl,.nil,rfl⟩
 |d::ds,vs,as,bs,h,e=>by
  unfold jvW at e;split at e
  ·rename_i z;cases z
  ·rename_i k v r z;cases z;obtain⟨⟨as',bs'⟩,h3,h4⟩:=jaH e;cases h4;unfold DenL at h;obtain⟨u,ws,rfl,h1,h2⟩:=h;unfold Den at h1;obtain⟨T,xs,rfl,hz,hd⟩:=h1;obtain⟨x,y,rfl,d1,d2⟩:=jyX hd;obtain⟨us,ys,k1,k2,k3,k4⟩:=jsL h2 h3;exact⟨x::us,y::ys,by unfold DenL;exact⟨x,us,rfl,d1,k1⟩,by unfold DenL;exact⟨y,ys,rfl,d2,k2⟩,.cons ⟨T,rfl,hz⟩ k3,by simp[k4]⟩
  ·cases e
theorem jim {α β γ:Type}{F:γ->β->Prop}{f:α->γ}:∀{xs:List α} {ys:List β},Paired F (xs.map f) ys->Paired (fun a b=>F (f a) b) xs ys
 |[],_,h=>by cases h;exact .nil
 |_::_,_,h=>by
  cases h with
  |cons r t=>exact .cons r (jim t)
theorem jrC:jnl K jl jxt:=by
 intro w μ H ds d μ' vs Q R h e q;unfold jl at e;split at e
 ·rename_i d0;split at e
  ·rename_i xs hp;split at e
   ·rename_i as bs hpr;obtain⟨v,rfl,h1⟩:=jli h;obtain⟨a,us,rfl,s1,l1⟩:∃a us,v=V.ref a/\(H a=some (.lst us)∨H a=some (.tup us))/\DenL K w μ.length xs us:=by
     cases d0 with
     |lst ys=>
      cases hp;unfold Den at h1;obtain⟨a,us,h2,h3,h4⟩:=h1;exact⟨a,us,h2,.inl (R.sub _ _ h3),h4⟩
     |tup ys=>
      cases hp;unfold Den at h1;obtain⟨a,us,h2,h3,h4⟩:=h1;exact⟨a,us,h2,.inr (R.sub _ _ h3),h4⟩
     |_=>cases hp
    obtain⟨xs',ys',k1,k2,k3,k4⟩:=jsL l1 hpr;have lb:=jad k2;split at e
    ·rename_i ks hk;split at e
     ·rename_i hc;cases e;have hx:=jrE k1 hk;subst hx;rw[j0f]at k4;refine⟨a,us,rfl,s1,.inl ⟨ks.zip ys',by rw[List.length_zip];omega,by rw[List.map_fst_zip (by omega)];exact hc.2,?_,fun l hn=>?_⟩⟩
      ·have e1:(ks.map kV).zip ys'=(ks.zip ys').map fun p=>(kV p.1,p.2):=by rw[List.zip_map_left];rfl
       rw[e1]at k3;exact Paired.imp' (fun ku x ⟨T,e1,e2⟩=>⟨T,e1,R.sub _ _ e2⟩) (jim k3)
      ·obtain⟨R',x⟩:=R.frz hn (.dK (ks.zip ys'));exact q _ _ _ x R' (by unfold Den;exact⟨l,ys',rfl,by omega,jaz,k2.mono x⟩)
     ·cases e
    ·split at e
     ·rename_i ks hk;split at e
      ·rename_i hc;cases e;have hx:=joy k1 hk;have lk:=hx.length;refine⟨a,us,rfl,s1,.inr ⟨ks.zip ys',by rw[List.length_zip];omega,by rw[List.map_fst_zip (by omega)];exact hc.2,?_,fun l hn=>?_⟩⟩
       ·refine jek (by rw[List.length_zip,<- k3.length,List.length_zip];omega) fun i ku x e1 e2=>?_;rw[List.getElem?_zip_eq_some]at e1;obtain⟨c,e3,c',e4,e5⟩:=jey hx e1.1;obtain⟨x',e6,T,e7,e8⟩:=jey k3 (show(xs'.zip ys')[i]?=some (c,ku.2)from by rw[List.getElem?_zip_eq_some];exact⟨e3,e1.2⟩);rw[e2]at e6;cases e6;subst e4;exact⟨T,c',e7,R.sub _ _ e8,R.sub _ _ e5⟩
       ·obtain⟨R',x⟩:=R.frz hn (.dT (ks.zip ys'));exact q _ _ _ x R' (by unfold Den;exact⟨l,ys',rfl,by omega,jaz,k2.mono x⟩)
      ·cases e
     ·cases e
   ·cases e
  ·cases e
 ·cases e
theorem jfu {x:Str}{id:String}{f:List D->M->Out D}{r:List V->Hp->VK->Prop}{es:List E}{y:Expr}{ys:List Expr}{p pos:Pos}(o:Ok G j c X)(hc:jbx X (.builtin id) r)(hs:jnl X.K f r)(hg:jbj c.sc x=true)(hm:x∈jdy)(hv:bootBuiltins x=some (.builtin id))(hst:jah (y::ys)=true)(h:PA X (y::ys) (T3A X.K (evL G es))) :
  PE X (.Call (.Name x p) (y::ys) [] pos) (T3E X.K fun ρ μ=>(evL G es ρ μ).bind fun ds μ1=>f ds μ1):=imE (jbm hc (ja7 o hg) (mg_of o hm) hv h hst) fun σ H Q q=>jhl hs q
theorem jf2 {x:Str}{T:String}{f:List D->M->Out D}{r:List V->Hp->VK->Prop}{es:List E}{y:Expr}{ys:List Expr}{p pos:Pos}(o:Ok G j c X)(hc:jbx X (.type T) r)(hs:jnl X.K f r)(hg:jbj c.sc x=true)(hm:x∈jdy)(hv:bootBuiltins x=some (.type T))(hst:jah (y::ys)=true)(h:PA X (y::ys) (T3A X.K (evL G es))) :
  PE X (.Call (.Name x p) (y::ys) [] pos) (T3E X.K fun ρ μ=>(evL G es ρ μ).bind fun ds μ1=>f ds μ1):=imE (jih hc (ja7 o hg) (mg_of o hm) hv h hst) fun σ H Q q=>jhl hs q
theorem jpp {e1:E}{ρ:S3}{μ μ':M}{ds:List D}(e:evL G [e1] ρ μ=.ok ds μ'):∃d,ds=[d]/\(ev G e1).v ρ μ=.ok d μ':=by
 obtain⟨d,μ1,e1',e⟩:=Out.bind_ok e;cases e;exact⟨d,rfl,e1'⟩
theorem jx8 {n:String} {e1:E} {a:Expr} {x:Str} {p q pos:Pos} (o:Ok G j c X) (hg:jbj c.sc "isinstance" =true) (hx:x=Str.ofString n) (hgx:jbj c.sc x=true) (hn:jdP.isTn n=true) (ha:jak a=true) (h:PE X a (T3E X.K (ev G e1).v)) :
  PE X (.Call (.Name "isinstance" p) [a,.Name x q] [] pos) (T3E X.K fun ρ μ=>(evL G [e1] ρ μ).bind fun ds μ1=>jyZ n ds μ1):=by
 subst hx;have hb':bootBuiltins (Str.ofString n)=some (.type n)/\Str.ofString n∈jdy:=by
  unfold jdP.isTn at hn;simp only[j1v,beq_iff_eq]at hn;rcases hn with((((rfl|rfl)|rfl)|rfl)|rfl)|rfl
  ·exact⟨js,by decide +kernel⟩
  ·exact⟨joW,by decide +kernel⟩
  ·exact⟨jr7,by decide +kernel⟩
  ·exact⟨jlb,by decide +kernel⟩
  ·exact⟨jiD,by decide +kernel⟩
  ·exact⟨jlt,by decide +kernel⟩
 have h2:PE X (.Name (Str.ofString n) q) (nC (.ty n)):=(jkT (v:=.ty n) (ja7 o hgx) (mg_of o hb'.2) hb'.1 rfl).h;have hA:PA X [a,.Name (Str.ofString n) q] (jon (T3E X.K (ev G e1).v) (jon (nC (.ty n)) jAt)):=pac h (pac h2 jdQ) ha;refine imE (jbm (r:=jzi X.K n) jq3 (ja7 o hg) (mg_of o (by decide +kernel)) jbY hA (by unfold jah;simp[ha];rfl)) fun σ H Q=>?_;rintro⟨w,μ,ρ,d,μ',R,S,e,q⟩;obtain⟨ds,μ1,e1,e⟩:=Out.bind_ok e;obtain⟨d0,rfl,e2⟩:=jpp e1;exact⟨w,μ,ρ,d0,μ1,R,S,e2,fun w1 H1 v x1 R1 d1=>jui R1 (DenL.one d1) e fun w3 H3 v x3 R3 d3=>q w3 H3 v (x1.trans x3) R3 d3⟩
theorem jrn {n:String}(hn:jdP.isTn n=true):bootBuiltins (Str.ofString n)=some (.type n)/\Str.ofString n∈jdy:=by
 unfold jdP.isTn at hn;simp only[j1v,beq_iff_eq]at hn;rcases hn with((((rfl|rfl)|rfl)|rfl)|rfl)|rfl
 ·exact⟨js,by decide +kernel⟩
 ·exact⟨joW,by decide +kernel⟩
 ·exact⟨jr7,by decide +kernel⟩
 ·exact⟨jlb,by decide +kernel⟩
 ·exact⟨jiD,by decide +kernel⟩
 ·exact⟨jlt,by decide +kernel⟩
theorem jvz {n m:String} {e1:E} {a:Expr} {x y:Str} {p q q' r pos:Pos} {k:Nat} (o:Ok G j c X) (hg:jbj c.sc "isinstance" =true) (hx:x=Str.ofString n) (hy:y=Str.ofString m) (hgx:jbj c.sc x=true) (hgy:jbj c.sc y=true) (hn:jdP.isTn n=true) (hm:jdP.isTn m=true) (ha:jak a=true) (h:PE X a (T3E X.K (ev G e1).v)) :
  PE X (.Call (.Name "isinstance" p) [a,.Tuple [.Name x q,.Name y q'] k r] [] pos) (T3E X.K fun ρ μ=>(evL G [e1] ρ μ).bind fun ds μ1=>juX n m ds μ1):=by
 subst hx hy;have h2:PE X (.Name (Str.ofString n) q) (nC (.ty n)):=(jkT (v:=.ty n) (ja7 o hgx) (mg_of o (jrn hn).2) (jrn hn).1 rfl).h;have h3:PE X (.Name (Str.ofString m) q') (nC (.ty m)):=(jkT (v:=.ty m) (ja7 o hgy) (mg_of o (jrn hm).2) (jrn hm).1 rfl).h;have hA:PA X [a,.Tuple [.Name (Str.ofString n) q,.Name (Str.ofString m) q'] k r] _:=pac h (pac (jmy (pac h2 (pac h3 jdQ))) jdQ) ha;refine imE (jbm (r:=jxm X.K n m) joO (ja7 o hg) (mg_of o (by decide +kernel)) jbY hA (by unfold jah;simp[ha];rfl)) fun σ H Q=>?_;rintro⟨w,μ,ρ,d,μ',R,S,e,q⟩;obtain⟨ds,μ1,e1,e⟩:=Out.bind_ok e;obtain⟨d0,rfl,e2⟩:=jpp e1;refine⟨w,μ,ρ,d0,μ1,R,S,e2,fun w1 H1 v x1 R1 d1=>⟨by show 2<=sizeLine;decide,fun p1 hp1=>?_⟩⟩;obtain⟨R2,x2⟩:=R1.frz hp1 (.tup [.ty n,.ty m]);unfold juX at e;dsimp only at e;split at e
 ·rename_i t ht;split at e
  ·rename_i b hb;cases e;exact⟨v,p1,_,_,d0,t,b,rfl,SqT.of jaz,R2,d1.mono x2,ht,hb,q _ _ _ (x1.trans x2) R2 (by unfold Den;rfl)⟩
  ·cases e
 ·cases e
theorem jiX {e:Expr}{r:S3->M->Out (List D)}:PE X e (T3E X.K fun ρ μ=>(r ρ μ).bind fun _ _=>Out.bad):=fun pins s σ H Q I ⟨w,μ,ρ,d,μ',R,S,e,q⟩=>by
 obtain⟨_,_,_,e⟩:=Out.bind_ok e;cases e
theorem jw {b:Bi}{m:Bool}{es:List E}{x:Str}{y:Expr}{ys as:List Expr}{p pos:Pos}(o:Ok G j c X)(hx:jmn b=x)(hg:jbj c.sc x=true)(hst:jah (y::ys)=true)(hb:jdP c b (y::ys)=some as)(hA:PA X as (T3A X.K (evL G es)))(h1:∀e a,es=[e]->as=[a]->PE X a (T3E X.K (ev G e).v))(hl:es.length=as.length) :
  Snd G X (.bi b m es) (.Call (.Name x p) (y::ys) [] pos):=by
 subst hx;have hv:PE X (.Call (.Name (jmn b) p) (y::ys) [] pos) (T3E X.K (ev G (.bi b m es)).v):=by
  cases b with
  |len=>cases hb;exact jfu o (jkq.or jko) jth hg (by decide +kernel) jsD hst hA
  |sum=>cases hb;exact jiX
  |min2=>cases hb;exact jfu o (jpz o.calm) jvr hg (by decide +kernel) jyx hst hA
  |max2=>cases hb;exact jfu o (jop o.calm) jtJ hg (by decide +kernel) jxe hst hA
  |dict=>cases hb;exact jf2 o (joG o.calm (by have:=o.room.un;omega)) jrC hg (by decide +kernel) jlt hst hA
  |list=>cases hb;exact jf2 o (jkx.or (jnn o.calm)) jrR hg (by decide +kernel) jlb hst hA
  |tuple=>cases hb;exact jf2 o jiN jpe hg (by decide +kernel) jiD hst hA
  |int=>cases hb;exact jiX
  |all=>cases hb;exact jfu o jqi (jty o.calm) hg (by decide +kernel) jwj hst hA
  |str=>cases hb;exact jiX
  |isT n=>
   simp only[jdP]at hb;split at hb
   ·rename_i a t heq;split at hb
    ·rename_i x hx;split at hb
     ·rename_i hc;cases hb;cases heq;obtain⟨q,rfl⟩:=jdY hx;simp only[j0a,beq_iff_eq]at hc;obtain⟨⟨⟨c1,c2⟩,c3⟩,c4⟩:=hc;obtain⟨e1,rfl⟩:∃e1,es=[e1]:=j1p.mp hl;exact jx8 o hg c1 c2 c3 c4 (h1 e1 _ rfl rfl)
     ·cases hb
    ·cases hb
   ·cases hb
  |isT2 n m=>
   simp only[jdP]at hb;split at hb
   ·rename_i a t heq;split at hb
    ·rename_i x y hx;split at hb
     ·rename_i hc;cases hb;cases heq;obtain⟨q,q',k,r,rfl⟩:=jpw hx;simp only[j0a,beq_iff_eq]at hc;obtain⟨⟨⟨⟨⟨⟨c1,c2⟩,c3⟩,c4⟩,c5⟩,c6⟩,c7⟩:=hc;obtain⟨e1,rfl⟩:∃e1,es=[e1]:=j1p.mp hl;exact jvz o hg c1 c2 c3 c4 c5 c6 c7 (h1 e1 _ rfl rfl)
     ·cases hb
    ·cases hb
   ·cases hb
  |listRange=>cases hb
  |lenSet=>
   simp only[jdP]at hb;split at hb
   ·rename_i e heq;split at hb
    ·rename_i x a hx;split at hb
     ·rename_i hc;cases hb;cases heq;obtain⟨p2,q2,rfl⟩:=jd0 hx;simp only[j0a,beq_iff_eq]at hc;obtain⟨⟨c1,c2⟩,c3⟩:=hc;subst c1;exact imE (jpq o.calm (by have:=o.room.un;omega) (ja7 o hg) (mg_of o (by decide +kernel)) (ja7 o c2) (mg_of o (by decide +kernel)) hA c3) fun σ H Q q=>jhl jnp q
     ·cases hb
    ·cases hb
   ·cases hb
  |dictZip=>cases hb
 exact⟨hv,(jam hv rfl).1,(jam hv rfl).2⟩
theorem jtv {ob:E}{z:Expr}{apos cpos:Pos}(o:Ok G j c X)(hz:Snd G X ob z)(hp:jaW z=true)(hline:(apos.endLine==cpos.line)=true):Snd G X (.clr ob) (.Call (.Attribute z "clear" apos) [] [] cpos):=by
 have hv:PE X (.Call (.Attribute z "clear" apos) [] [] cpos) (T3E X.K (ev G (.clr ob)).v):=by
  refine imE (jwr PySem.F.plainAttrs_list PySem.F.slot_list_clear PySem.F.type_list_clear jqZ ⟨hz.v⟩ hp hline).h fun σ H Q=>?_;rintro⟨w,μ,ρ,d,μ',R,S,e,q⟩;obtain⟨d1,μ1,e1,e⟩:=Out.bind_ok e;refine⟨w,μ,ρ,d1,μ1,R,S,e1,fun w1 H1 v1 x1 R1 k1=>?_⟩;unfold jxY at e;split at e
  ·rename_i k;split at e
   ·rename_i xs hk;cases e;have ty:=jng R1 k1 hk;unfold Den at k1;obtain⟨ys,g1,g2⟩:=(R1.liv k _ hk).2;refine⟨ty,w1.γ k,ys,k1.2,rfl,g1,?_⟩;exact jmm (R1.putL hk (by unfold DenL;rfl)) (fun w2 H2 v x2 R2 d2=>q w2 H2 v (x1.trans x2) R2 d2) (by unfold Den;rfl)
   ·cases e
  ·cases e
 exact⟨hv,(jam hv rfl).1,(jam hv rfl).2⟩
theorem jrj {ob a:E}{z y:Expr}{apos cpos:Pos}(o:Ok G j c X)(hz:Snd G X ob z)(ha:Snd G X a y)(hp:jaW z=true)(hs:jak y=true)(hline:(apos.endLine==cpos.line)=true):Snd G X (.dget ob a) (.Call (.Attribute z "get" apos) [y] [] cpos):=by
 have hv:PE X (.Call (.Attribute z "get" apos) [y] [] cpos) (T3E X.K (ev G (.dget ob a)).v):=by
  have e1:starEach [y] X.env=[(false,eval y X.env)]:=jaB hs;refine imE (jrt (by have:=o.room.un;omega) hz.v ha.v ⟨jkL hp,jsw (by unfold jah;simp[hs]) (by decide),hline,by rw[e1];rfl⟩) fun σ H Q=>?_;rintro⟨w,μ,ρ,d,μ',R,S,e,q⟩;obtain⟨d1,μ1,e1,e⟩:=Out.bind_ok e;obtain⟨d2,μ2,e2,e⟩:=Out.bind_ok e;refine⟨w,μ,ρ,d1,μ1,R,S,e1,fun w1 H1 v1 x1 R1 k1=>?_⟩;unfold jpo at e;split at e
  ·rename_i ks vs kd _;split at e
   ·rename_i k hk;cases e;unfold Den at k1;obtain⟨p,xs,rfl,hl,hz,hd⟩:=k1;refine⟨p,rfl,.inr ⟨_,.inl (R1.sub _ _ hz)⟩,w1,μ1,ρ,_,_,R1,S.mono x1,e2,fun w2 H2 v2 x2 R2 k2=>?_⟩;unfold Den at k2;obtain⟨c2,ys,rfl,hz2,hd2⟩:=k2;have hv:=jrE hd2 hk;subst hv;refine⟨_,jo9.t (R2.sub _ _ (x2.z _ _ hz)) (R2.sub _ _ hz2),?_⟩;obtain⟨i1,i2⟩:=jgf k (hd.mono x2) hl
    cases hg:jjx k ks vs with
    |none=>
     rw[i2 hg];rw[hg]at q;exact q w2 H2 _ (x1.trans x2) R2 (by unfold Den;rfl)
    |some dv=>
     obtain⟨v,h1,h2⟩:=i1 dv hg;rw[h1];rw[hg]at q;exact q w2 H2 _ (x1.trans x2) R2 h2
   ·cases e
  ·cases e
 exact⟨hv,(jam hv rfl).1,(jam hv rfl).2⟩
theorem jyk {b:Mt}{ob:E}{es:List E}{z y:Expr}{ys:List Expr}{apos cpos:Pos}(o:Ok G j c X)(hz:Snd G X ob z)(hp:jaW z=true)(hst:jah (y::ys)=true)(hl:ys.length<28)(hline:(apos.endLine==cpos.line)=true)(hA:PA X (y::ys) (T3A X.K (evL G es))) :
  Snd G X (.mt b ob es) (.Call (.Attribute z (jl4 b) apos) (y::ys) [] cpos):=by
 have hv:PE X (.Call (.Attribute z (jl4 b) apos) (y::ys) [] cpos) (T3E X.K (ev G (.mt b ob es)).v):=by
  cases b with
  |append=>exact imE (jyD PySem.F.plainAttrs_list PySem.F.slot_list_append PySem.F.type_list_append jnX ⟨hz.v⟩ ⟨hA⟩ hp hst hl hline).h fun σ H Q q=>jn8 juU (fun w μ H ob x R h e=>joT (.inl rfl) R h e) q
  |extend=>
   intro pins s σ H Q I hw;obtain⟨w,μ,ρ,d,μ',R,S,e,q⟩:=hw;obtain⟨x,μ1,e1,e⟩:=Out.bind_ok e;split at e
   ·obtain⟨_,_,_,e⟩:=Out.bind_ok e;cases e
   ·cases e
  |split=>
   intro pins s σ H Q I hw;obtain⟨w,μ,ρ,d,μ',R,S,e,q⟩:=hw;obtain⟨x,μ1,e1,e⟩:=Out.bind_ok e;split at e
   ·obtain⟨_,_,_,e⟩:=Out.bind_ok e;cases e
   ·cases e
  |join=>exact imE (jyD PySem.F.plainAttrs_str PySem.F.slot_str_join PySem.F.type_str_join jvI ⟨hz.v⟩ ⟨hA⟩ hp hst hl hline).h fun σ H Q q=>jn8 jr0 (fun w μ H ob x R h e=>jrd h e) q
 exact⟨hv,(jam hv rfl).1,(jam hv rfl).2⟩
theorem jmg {i:Nat}{e:Expr}(o:Ok G j c X)(h:jjL c i e=true):PG X e (jfd i)/\jak e=true:=by
 unfold jjL at h;split at h
 ·rename_i x pos;refine⟨?_,rfl⟩;split at h
  ·exact juK (by rw[o.hN];exact o.nd) (by rw[o.hN,o.sc];exact h)
  ·rename_i hc;exact jqM (by rw[o.hN];exact o.nd) (by rw[o.hN,o.sc];exact h) (o.fn (by simpa using hc) x)
 ·cases h
noncomputable def gNs:List Nat->TGs
 |[]=>jAT
 |i::is=>jv4 (jfd i) (gNs is)
theorem jjh (o:Ok G j c X):∀{is:List Nat} {es:List Expr},jp6 c is es=true->PGs X es (gNs is)/\es.length=is.length
 |[],[],_=>⟨jvd,rfl⟩
 |[],_::_,h=>by cases h
 |_::_,[],h=>by cases h
 |i::is,e::es,h=>by
  unfold jp6 at h;simp only[j0a]at h;obtain⟨h1,h2⟩:=h;obtain⟨p1,p2⟩:=jmg o h1;obtain⟨q1,q2⟩:=jjh o h2;exact⟨jqn p1 q1 (by rw[jfB p2];rfl),by simp[q2]⟩
theorem jju {w:Wd}{n:Nat}:∀{is:List Nat} {ds:List D} {vs:List V} {ρ ρ':S3} {σ:_L2.St} {H:Hp} {Q:_L2.St->Hp->Prop},DenL K w n ds vs->jby K w n ρ σ->jog is ds ρ=some ρ'->(∀σ',jby K w n ρ' σ'->Q σ' H)->gNs is vs σ H Q/\ds.length=is.length
 |[],[],vs,ρ,ρ',σ,H,Q,h,S,e,q=>by
  unfold DenL at h;cases e;exact⟨⟨h,q σ S⟩,rfl⟩
 |[],_::_,_,_,_,_,_,_,_,_,e,_=>by cases e
 |_::_,[],_,_,_,_,_,_,_,_,e,_=>by cases e
 |i::is,d::ds,vs,ρ,ρ',σ,H,Q,h,S,e,q=>by
  unfold DenL at h;obtain⟨v,ws,rfl,h1,h2⟩:=h;obtain⟨g1,g2⟩:=jju (is:=is) (H:=H) (Q:=Q) h2 (S.set h1 i) e q;exact⟨⟨v,ws,rfl,g1⟩,by simp[g2]⟩
noncomputable def gOf (K:PySem.W.Frag):Tg->TG
 |.nm i=>jfd i
 |.tp is=>jAn K is.length (gNs is)
theorem jeC (tg:Tg):juN K tg (gOf K tg):=by
 intro w μ H ρ ρ' σ d v Q R S hd e q
 cases tg with
 |nm i=>
  cases e;exact q _ (S.set hd i)
 |tp is=>
  cases d with
  |tup ds=>
   obtain⟨a,xs,rfl,s1,l1⟩:=jbU R hd;obtain⟨g1,g2⟩:=jju (H:=H) (Q:=Q) l1 S e q;exact⟨a,xs,rfl,s1,by rw[<- jad l1,g2],g1⟩
  |_=>cases e
theorem jm8 {tg:Tg}{t:Expr}(o:Ok G j c X)(h:jcS c tg t=true):PG X t (gOf X.K tg)/\jak t=true:=by
 unfold jcS at h;split at h
 ·exact jmg o h
 ·rename_i is es k pos;simp only[j0a]at h;obtain⟨h1,h2⟩:=h;obtain⟨p1,p2⟩:=jjh o h1;exact⟨jwB o.calm p1 ((jgW h2).1.trans p2) (jgW h2).2,rfl⟩
 ·cases h
theorem jvq:evL G []=fun _ μ=>.ok [] μ:=rfl
theorem jrw {e:E}{es:List E}:evL G (e::es)=fun ρ μ=>((ev G e).v ρ μ).bind fun d μ1=>(evL G es ρ μ1).bind fun ds μ2=>.ok (d::ds) μ2:=rfl
theorem jqf:evTs G []=fun _ μ=>.ok true μ:=rfl
theorem jpZ {e:E}:evTs G [e]=(ev G e).t:=rfl
end
section
variable {K:PySem.W.Frag} {X:Cx} {G:List FnE} {j:Nat} {c:Stt}
theorem jsm {f:Nat}{x:Str}(h:nmG G c f x=true):∃g,G[f]?=some g/\g.name=x/\jbj c.sc x=true:=by
 unfold nmG at h;split at h
 ·rename_i g hg;simp only[j0a,beq_iff_eq]at h;exact⟨g,hg,h.1,h.2⟩
 ·cases h
theorem jdC {f:Nat}{g:FnE}(h:G[f]?=some g):jgk G f=g.dat:=by unfold jgk;rw[h];rfl
theorem joE {i:Nat}{f:Str}(o:Ok G j c X)(h:jsT G i f=true):∃g C k fs,G[i]?=some g/\g.dat=some (.cls C k fs)/\X.mg g.name=some (.ref C)/\Cls X.K C/\jeJ X.K C f:=by
 unfold jsT at h;split at h
 ·rename_i g hg;split at h
  ·rename_i C k fs hd;obtain⟨h1,h2,_,h3⟩:=o.dts i g _ hg hd;exact⟨g,C,k,fs,hg,hd,h1,h2,h3 f (by simpa using h)⟩
  ·cases h
 ·cases h
theorem jkR {w:Wd}{n:Nat}{f:Str}:∀{fs:List Str} {ds:List D} {xs:List V} {d:D},DenL K w n ds xs->jnA f fs ds=some d->∃v,(fs.zip xs).lookup f=some v/\Den K w n d v
 |[],_,_,_,_,e=>by unfold jnA at e;cases e
 |_::_,[],_,_,_,e=>by unfold jnA at e;cases e
 |g::fs,a::ds,xs,d,h,e=>by
  unfold DenL at h;obtain⟨v,ws,rfl,h1,h2⟩:=h;unfold jnA at e;split at e
  ·rename_i hg;subst hg;cases e;exact⟨v,by simp[List.lookup],h1⟩
  ·rename_i hg;obtain⟨u,e1,e2⟩:=jkR h2 e;refine⟨u,?_,e2⟩;have:(f==g)=false:=by simpa using hg
   rw[List.zip_cons_cons,List.lookup_cons,this];exact e1
theorem jum {a:E}{i:Nat}{f:Str}{x:Expr}{pos:Pos}(o:Ok G j c X)(hp:jiv x=true)(hf:jsT G i f=true)(ha:Snd G X a x):Snd G X (.fld a i f) (.Attribute x f pos):=by
 obtain⟨g,C,k,fs,hg,hd,hm,hC,hN⟩:=joE o hf;have hv:PE X (.Attribute x f pos) (T3E X.K (ev G (.fld a i f)).v):=by
  refine imE (jxR ha.v (jrF hp)) fun σ H Q=>?_;rintro⟨w,μ,ρ,d,μ',R,S,e,q⟩;obtain⟨d1,μ1,e1,e⟩:=Out.bind_ok e;rw[jdC hg,hd]at e;refine⟨w,μ,ρ,d1,μ1,R,S,e1,fun w1 H1 v1 x1 R1 k1=>?_⟩;have e':jy9 C f d1 μ1=.ok d μ':=e;unfold jy9 at e';split at e'
  ·rename_i C' fs' ds';split at e'
   ·rename_i d0 hg0;cases e';split at hg0
    ·rename_i hcc;subst hcc;unfold Den at k1;obtain⟨b,dx,xs,rfl,h2,h3,h4⟩:=k1;obtain⟨v,l1,l2⟩:=jkR h4 hg0;exact⟨b,C',dx,_,v,rfl,R1.sub _ _ h3,hC,hN,l1,q w1 H1 v x1 R1 l2⟩
    ·cases hg0
   ·cases e'
  ·rename_i kc;split at e'
   ·rename_i C' fs' ds' hk;split at e'
    ·rename_i d0 hg0;cases e';split at hg0
     ·rename_i hcc;subst hcc;unfold Den at k1;obtain⟨dx,xs,h2,h3,h4⟩:=(R1.liv kc _ hk).2;obtain⟨v,l1,l2⟩:=jkR h4 hg0;exact⟨w1.γ kc,C',dx,_,v,k1.2,h3,hC,hN,l1,q w1 H1 v x1 R1 l2⟩
     ·cases hg0
    ·cases e'
   ·cases e'
  ·cases e'
 exact⟨hv,(jam hv rfl).1,(jam hv rfl).2⟩
theorem joU {e:Expr}{t:TE}(h:∀σ H Q,¬ t σ H Q):PE X e t:=fun pins s σ H Q I hw=>(h σ H Q hw).elim
theorem juJ {a:E} {i:Nat} {t:Str} {y:Expr} {p q pos:Pos} (o:Ok G j c X) (hg:jbj c.sc "isinstance" =true) (h:nmG G c i t=true) (hs:jak y=true) (ha:Snd G X a y):Snd G X (.isC a i) (.Call (.Name "isinstance" p) [y,.Name t q] [] pos):=by
 obtain⟨g,hgi,rfl,hgt⟩:=jsm h;have hv:PE X (.Call (.Name "isinstance" p) [y,.Name g.name q] [] pos) (T3E X.K (ev G (.isC a i)).v):=by
  cases hd:g.dat with
  |none=>
   refine joU fun σ H Q=>?_;rintro⟨w,μ,ρ,d,μ',R,S,e,_⟩;obtain⟨d1,μ1,e1,e⟩:=Out.bind_ok e;rw[jdC hgi,hd]at e;cases e
  |some dt=>
   cases dt with
   |cls C k fs=>
    obtain⟨hm,hC,hI,_⟩:=o.dts i g _ hgi hd;have hr:jbx X (.builtin "isinstance") (fun xs H Q=>∃b dx fs,xs=[.ref b,.ref C]/\H b=some (.ins C dx fs)/\Q (.bl true) H):=by
     intro pins s σ H xs us Q I r h;obtain⟨b,dx,fs,rfl,hb,q⟩:=h;obtain⟨u1,u2,rfl,r1,r2⟩:=joZ r;cases(show u2=Value.ref C from r2);exact jd8 I r1 (.ins hb hC hI.ha hI.hn hI.ht hI.hm) (show PySem.W.kitOne X.K (.ref C) (.ref C)=some true by unfold PySem.W.kitOne;rw[if_pos (by simp)]) fun tk=>⟨.bl true,H,I.tok tk,rfl,q⟩
    refine imE (jbm hr (ja7 o hg) (mg_of o (by decide +kernel)) jbY (pac ha.v (pac (jip (ja7 o hgt) hm (show jaN (.ref C) (.ref C)from rfl)) jdQ) hs) (by unfold jah;simp[hs];rfl)) fun σ H Q=>?_;rintro⟨w,μ,ρ,d,μ',R,S,e,q⟩;obtain⟨d1,μ1,e1,e⟩:=Out.bind_ok e;rw[jdC hgi,hd]at e;refine⟨w,μ,ρ,d1,μ1,R,S,e1,fun w1 H1 v1 x1 R1 k1=>?_⟩;have e':ju7 (some (.cls C k fs)) d1 μ1=.ok d μ':=e;unfold ju7 at e';split at e'
    ·rename_i hh;cases hh;split at e'
     ·rename_i hcc;subst hcc;cases e';unfold Den at k1;obtain⟨b,dx,xs,rfl,h2,h3,h4⟩:=k1;exact⟨b,dx,_,rfl,R1.sub _ _ h3,q w1 H1 _ x1 R1 (by unfold Den;rfl)⟩
     ·cases e'
    ·cases e'
   |_=>
    refine joU fun σ H Q=>?_;rintro⟨w,μ,ρ,d,μ',R,S,e,_⟩;obtain⟨d1,μ1,e1,e⟩:=Out.bind_ok e;rw[jdC hgi,hd]at e;cases e
 exact⟨hv,(jam hv rfl).1,(jam hv rfl).2⟩
theorem jwH {f:Nat}{x:Str}{pos:Pos}(o:Ok G j c X)(h:nmG G c f x=true):Snd G X (.gl f) (.Name x pos):=by
 obtain⟨g,hg,rfl,hok⟩:=jsm h;have hv:PE X (.Name g.name pos) (T3E X.K (ev G (.gl f)).v):=by
  cases hd:g.dat with
  |none=>
   intro pins s σ H Q I hw;obtain⟨w,μ,ρ,d,μ',R,S,e,q⟩:=hw;have e':glD (jgk G f) μ=.ok d μ':=e;rw[jdC hg,hd]at e';cases e'
  |some t=>
   cases t with
   |dct kvs=>
    intro pins s σ H Q I hw;obtain⟨w,μ,ρ,d,μ',R,S,e,q⟩:=hw;have e':glD (jgk G f) μ=.ok d μ':=e;rw[jdC hg,hd]at e';cases e'
   |cls C k fs=>
    intro pins s σ H Q I hw;obtain⟨w,μ,ρ,d,μ',R,S,e,q⟩:=hw;have e':glD (jgk G f) μ=.ok d μ':=e;rw[jdC hg,hd]at e';cases e'
   |cst d0=>
    obtain⟨u,v,hm,rv,hden⟩:=o.dts f g _ hg hd;refine imE (jip (ja7 o hok) hm rv) fun σ H Q=>?_;rintro⟨w,μ,ρ,d,μ',R,S,e,q⟩;have e':glD (jgk G f) μ=.ok d μ':=e;rw[jdC hg,hd]at e';cases e';exact jaf R q (hden _ _)
 exact⟨hv,(jam hv rfl).1,(jam hv rfl).2⟩
end
section
variable {K:PySem.W.Frag} {X:Cx} {G:List FnE} {j:Nat} {c:Stt}
theorem jrT {ik:IK}{es:List E}{tg it:Expr}{as:List Expr}(o:Ok G j c X)(h:jdN c ik tg it=some as)(hA:PA X as (T3A X.K (evL G es)))(h1:∀e a,es=[e]->as=[a]->PE X a (T3E X.K (ev G e).v))(hl:es.length=as.length):PI X tg it (T3I X.K ik (evL G es)):=by
 have e1:∀e,(fun ρ μ=>((ev G e).v ρ μ).bind fun d μ1=>(Out.ok [] μ1).bind fun ds μ2=>Out.ok (d::ds) μ2)=evL G [e]:=fun e=>rfl
 cases ik with
 |seq=>
  cases h;obtain⟨e0,rfl⟩:∃e0,es=[e0]:=j1p.mp hl;rw[<- e1];exact jtL (h1 e0 _ rfl rfl)
 |str=>
  cases h;obtain⟨e0,rfl⟩:∃e0,es=[e0]:=j1p.mp hl;rw[<- e1];exact jvj (h1 e0 _ rfl rfl)
 |items=>cases h
 |enm=>
  simp only[jdN]at h;split at h
  ·rename_i x a hx;split at h
   ·rename_i hc;cases h;obtain⟨p,q,rfl⟩:=jd0 hx;simp only[j0a,beq_iff_eq]at hc;obtain⟨⟨⟨rfl,c2⟩,c3⟩,c4⟩:=hc
    cases tg with
    |Tuple elts k tp=>exact jt9 (ja7 o c2) (mg_of o (by decide +kernel)) hA c3
    |_=>cases c4
   ·cases h
  ·cases h
 |zip=>cases h
 |rng1=>
  simp only[jdN]at h;split at h
  ·rename_i x a hx;split at h
   ·rename_i hc;cases h;obtain⟨p,q,rfl⟩:=jd0 hx;simp only[j0a,beq_iff_eq]at hc;obtain⟨⟨rfl,c2⟩,c3⟩:=hc;exact jtp (ja7 o c2) (mg_of o (by decide +kernel)) hA c3
   ·cases h
  ·cases h
 |rng2=>
  simp only[jdN]at h;split at h
  ·rename_i x a b hx;split at h
   ·rename_i hc;cases h;obtain⟨p,q,rfl⟩:=jd0 hx;simp only[j0a,beq_iff_eq]at hc;obtain⟨⟨rfl,c2⟩,c3⟩:=hc;exact jtt (ja7 o c2) (mg_of o (by decide +kernel)) hA c3
   ·cases h
  ·cases h
theorem jmo {t:Expr}{scope:Scope}(o:Ok G j c X)(hnd:(jhh (jb6 t) c.N).Nodup)(C:Addr)(fp:List Addr)(s:Shared)(H:Hp):Ok G j (jgB c t scope) (jaX X (jhh (jb6 t) c.N) scope C fp s H) where
 hN:=rfl
 nd:=hnd
 sc:=by
  show relabel scope X.env=jgr scope c.sc;rw[jpc,o.sc]
 calm:=o.calm
 room:=o.room
 mg:=o.mg
 fns:=o.fns
 dts:=o.dts
 fn:=fun h=>by cases h
structure CompOk (G:List FnE) (X:Cx) (tg:Tg) (ik:IK) (es ifs:List E) (elt:E) (own:List Str) (N':List Str) (scope:Scope) (t it:Expr) (fs:List Expr) (el:Expr):Prop where
 cs:CompScope X own N' scope
 hit:PI X t it (T3I X.K ik (evL G es))
 hg:∀C fp s H,PG (jaX X N' scope C fp s H) t (gOf X.K tg)
 ht:(∀C fp s H,PTs (jaX X N' scope C fp s H) fs (T3T X.K (evTs G ifs)))
 he:∀C fp s H,PE (jaX X N' scope C fp s H) el (T3E X.K (ev G elt).v)
 ns:jeG it=true
theorem jpy {m:Bool}{own:Nat}{tg:Tg}{g:TG}{ik:IK}{es ifs:List E}{elt:E}(hT:juN K tg g){σ:_L2.St}{H:Hp}{Q:VK}:T3E K (ev G (.comp m own tg ik es ifs elt)).v σ H Q->js9 own (T3I K ik (evL G es)) g (T3T K (evTs G ifs)) (T3E K (ev G elt).v) σ H Q:=by
 rintro⟨w,μ,ρ,d,μ',R,S,e,q⟩;obtain⟨ds,μ1,e1,e⟩:=Out.bind_ok e;split at e
 ·rename_i xs hx;split at e
  ·rename_i hz;obtain⟨ys,μ2,e2,e3⟩:=Out.bind_ok e;exact⟨w,μ,ρ,ds,μ1,xs,R,S,e1,hx,fun w1 H1 J x1 R1 hJ=>jqs hT R1 (S.mono x1) hJ hz e2 e3 fun w2 H2 v x2 R2 d2=>q w2 H2 v (x1.trans x2) R2 d2⟩
  ·cases e
 ·cases e
theorem jrl {m:Bool}{own:List Str}{tg:Tg}{ik:IK}{es ifs:List E}{elt:E}{N':List Str}{scope:Scope}{t it el:Expr}{fs:List Expr}{pos:Pos}(o:Ok G j c X)(h:CompOk G X tg ik es ifs elt own N' scope t it fs el):Snd G X (.comp m own.length tg ik es ifs elt) (.ListComp el [⟨t,it,fs,0⟩] scope pos):=by
 have hv:PE X (.ListComp el [⟨t,it,fs,0⟩] scope pos) (T3E X.K (ev G (.comp m own.length tg ik es ifs elt)).v):=imE (juL o.calm h.cs h.hit h.hg h.ht h.he (jfl h.ns)) fun σ H Q q=>jpy (jeC tg) q;exact⟨hv,(jam hv rfl).1,(jam hv rfl).2⟩
end
noncomputable def jy2 (G:List FnE)(j:Nat)(own:Nat)(tg:Tg)(ik:IK)(es ifs:List E)(elt:E)(c:Stt):Expr->Comprehension->Scope->Bool:=fun el g scope=>g.is_async==0&&own==(jb6 g.target).length&&jzZ c.N c.sc (jb6 g.target) (jhh (jb6 g.target) c.N) scope&&decide (jhh (jb6 g.target) c.N).Nodup&&jeG g.iter&&(match jdN c ik g.target g.iter with
   |some as=>chkL G j es c as
   |none=>false)&&jcS (jgB c g.target scope) tg g.target&&chkTs G j ifs (jgB c g.target scope) g.ifs&&chk G j elt (jgB c g.target scope) el
section
variable {G:List FnE} {j:Nat}
mutual
theorem snd:∀(ir:E) {c:Stt} {X:Cx} {e:Expr},Ok G j c X->chk G j ir c e=true->Snd G X ir e
 |.var i,c,X,e,o,h=>jtq o h
 |.cst d,c,X,e,o,h=>jvf h
 |.bin op m a b,c,X,e,o,h=>by
  have hh:=jsS (P:=fun x o y _=>o==op&&chk G j a c x&&chk G j b c y) h;clear h;obtain⟨x,o',y,p,rfl,h⟩:=hh;simp only[j0a,beq_iff_eq]at h;obtain⟨⟨rfl,h1⟩,h2⟩:=h;exact jur (snd a o h1) (snd b o h2)
 |.neg a,c,X,e,o,h=>by
  have hh:=jtB (P:=fun x=>chk G j a c x) h;clear h;obtain⟨x,p,rfl,h⟩:=hh;exact ju5 (snd a o h)
 |.not_ a,c,X,e,o,h=>by
  have hh:=jtG (P:=fun x=>chk G j a c x&&tst x) h;clear h;obtain⟨x,p,rfl,h⟩:=hh;simp only[j0a]at h;exact jsY h.2 (snd a o h.1)
 |.and_ a b,c,X,e,o,h=>by
  have hh:=juO (P:=fun x y=>chk G j a c x&&tst x&&(chk G j b c y&&tst y)) (R:=fun x y z rest p=>chk G j a c x&&tst x&&chk G j b c (.BoolOp .And (y::z::rest) p)) h;clear h;rcases hh with⟨x,y,p,rfl,h⟩|⟨x,y,z,rest,p,rfl,h⟩
  ·simp only[j0a]at h;exact jrD h.1.2 h.2.2 (snd a o h.1.1) (snd b o h.2.1)
  ·simp only[j0a]at h;exact jqY h.1.2 (snd a o h.1.1) (snd b o h.2)
 |.or_ a b,c,X,e,o,h=>by
  have hh:=jxT (P:=fun x y=>chk G j a c x&&tst x&&(chk G j b c y&&tst y)) (R:=fun x y z rest p=>chk G j a c x&&tst x&&chk G j b c (.BoolOp .Or (y::z::rest) p)) h;clear h;rcases hh with⟨x,y,p,rfl,h⟩|⟨x,y,z,rest,p,rfl,h⟩
  ·simp only[j0a]at h;exact js3 h.1.2 h.2.2 (snd a o h.1.1) (snd b o h.2.1)
  ·simp only[j0a]at h;exact jtE h.1.2 (snd a o h.1.1) (snd b o h.2)
 |.cmp op a b,c,X,e,o,h=>by
  have hh:=jkH (P:=fun x o y=>o==op&&chk G j a c x&&chk G j b c y&&!(behindInMarks o y)) h;clear h;obtain⟨x,o',y,p,rfl,h⟩:=hh;simp only[j0a,beq_iff_eq,j0O]at h;obtain⟨⟨⟨rfl,h1⟩,h2⟩,h3⟩:=h;exact jtH o h3 (snd a o h1) (snd b o h2)
 |.chain o1 o2 a b d,c,X,e,o,h=>by
  have hh:=jo8 (P:=fun x p q y z=>p==o1&&q==o2&&chk G j a c x&&chk G j b c y&&chk G j d c z&&!(lastMarks [p,q] [y,z])) h;clear h;obtain⟨x,p,q,y,z,r,rfl,h⟩:=hh;simp only[j0a,beq_iff_eq,j0O]at h;obtain⟨⟨⟨⟨⟨rfl,rfl⟩,h1⟩,h2⟩,h3⟩,h4⟩:=h;exact jpW o h4 (snd a o h1) (snd b o h2) (snd d o h3)
 |.isN a,c,X,e,o,h=>by
  have hh:=jkH (P:=fun x o y=>o==.Is&&jfX y&&chk G j a c x) h;clear h;obtain⟨x,o',y,p,rfl,h⟩:=hh;simp only[j0a,beq_iff_eq]at h;obtain⟨⟨rfl,h1⟩,h2⟩:=h;obtain⟨k,q,rfl⟩:=jil h1;exact jt0 (snd a o h2)
 |.notN a,c,X,e,o,h=>by
  have hh:=jkH (P:=fun x o y=>o==.IsNot&&jfX y&&chk G j a c x) h;clear h;obtain⟨x,o',y,p,rfl,h⟩:=hh;simp only[j0a,beq_iff_eq]at h;obtain⟨⟨rfl,h1⟩,h2⟩:=h;obtain⟨k,q,rfl⟩:=jil h1;exact jri (snd a o h2)
 |.ife k a b,c,X,e,o,h=>by
  have hh:=jun (P:=fun z x y=>chk G j k c z&&tst z&&chk G j a c x&&chk G j b c y) h;clear h;obtain⟨z,x,y,p,rfl,h⟩:=hh;simp only[j0a]at h;obtain⟨⟨⟨h1,h2⟩,h3⟩,h4⟩:=h;exact juZ h2 (snd k o h1) (snd a o h3) (snd b o h4)
 |.tup es,c,X,e,o,h=>by
  have hh:=jvt (P:=fun xs=>chkL G j es c xs&&jah xs) h;clear h;obtain⟨xs,k,p,rfl,h⟩:=hh;simp only[j0a]at h;exact jql (sndL es o h.1).1
 |.lst m es,c,X,e,o,h=>by
  have hh:=jvJ (P:=fun xs=>chkL G j es c xs&&jah xs) h;clear h;obtain⟨xs,p,rfl,h⟩:=hh;simp only[j0a]at h;exact jqU (sndL es o h.1).1
 |.ix a b,c,X,e,o,h=>by
  have hh:=jt4 (P:=fun x y=>chk G j a c x&&chk G j b c y&&jgx y) h;clear h;obtain⟨x,y,p,rfl,h⟩:=hh;simp only[j0a]at h;exact jxO o h.2 (snd a o h.1.1) (snd b o h.1.2)
 |.sl m a lo hi,c,X,e,o,h=>by
  have hh:=jv9 (P:=fun x l u=>chk G j a c x&&chkL G j lo c l.toList&&chkL G j hi c u.toList) h;clear h;obtain⟨x,l,u,p,q,rfl,h⟩:=hh;simp only[j0a]at h;obtain⟨⟨h1,h2⟩,h3⟩:=h;have k1:=sndL lo o h2;have k2:=sndL hi o h3;exact jxv (snd a o h1) (jy (fun e x e1 e2=>k1.2.1 e x e1 (by rw[e2];rfl)) k1.2.2) (jy (fun e x e1 e2=>k2.2.1 e x e1 (by rw[e2];rfl)) k2.2.2)
 |.stp m a lo st,c,X,e,o,h=>by
  have h':false=true:=h;cases h'
 |.fld a i f,c,X,e,o,h=>by
  have hh:=jtC (P:=fun x n=>n==f&&jiv x&&jsT G i f&&chk G j a c x) h;clear h;obtain⟨x,n,p,rfl,h⟩:=hh;simp only[j0a,beq_iff_eq]at h;obtain⟨⟨⟨rfl,h1⟩,h2⟩,h3⟩:=h;exact jum o h1 h2 (snd a o h3)
 |.call f md es,c,X,e,o,h=>by
  have hh:=jgl (P:=fun x _ y ys _=>(match G[f]? with
   |some g=>g.name==x&&jbj c.sc x&&es.length==g.ps.length&&decide (g.lv<=j)
   |none=>false)&&chkL G j es c (y::ys)&&jah (y::ys)) h
  clear h;obtain⟨x,q,y,ys,p,rfl,h⟩:=hh;simp only[j0a]at h;obtain⟨⟨h1,h2⟩,h3⟩:=h;split at h1
  ·rename_i g hg;simp only[j0a,beq_iff_eq,decide_eq_true_eq]at h1;obtain⟨⟨⟨a1,a2⟩,a3⟩,a4⟩:=h1;exact jq1 o hg a1 a2 a3 a4 h3 (sndL es o h2).1
  ·cases h1
 |.bi b m es,c,X,e,o,h=>by
  have hh:=jgl (P:=fun x _ y ys _=>jmn b==x&&jbj c.sc x&&jah (y::ys)&&(match jdP c b (y::ys)with
   |some as=>chkL G j es c as
   |none=>false)) h
  clear h;obtain⟨x,q,y,ys,p,rfl,h⟩:=hh;simp only[j0a,beq_iff_eq]at h;obtain⟨⟨⟨h1,h2⟩,h3⟩,h4⟩:=h;split at h4
  ·rename_i as ha;have k:=sndL es o h4;exact jw o h1 h2 h3 ha k.1 k.2.1 k.2.2
  ·cases h4
 |.mt b ob es,c,X,e,o,h=>by
  have hh:=jsA (P:=fun z n q y ys p=>jl4 b==n&&chk G j ob c z&&jaW z&&jah (y::ys)&&decide (ys.length<28)&&(q.endLine==p.line)&&chkL G j es c (y::ys)) h;clear h;obtain⟨z,n,q,y,ys,p,rfl,h⟩:=hh;simp only[j0a,beq_iff_eq,decide_eq_true_eq]at h;obtain⟨⟨⟨⟨⟨⟨rfl,h1⟩,h2⟩,h3⟩,h4⟩,h5⟩,h6⟩:=h;exact jyk o (snd ob o h1) h2 h3 h4 (by simpa using h5) (sndL es o h6).1
 |.clr ob,c,X,e,o,h=>by
  have h':(match ji0 e with
   |some (z,n,p,q)=>n == "clear" && chk G j ob c z&&jaW z&&(p.endLine==q.line)
   |none=>false)=true:=h
  clear h;split at h'
  ·rename_i z n p q he;simp only[j0a,beq_iff_eq]at h';obtain⟨⟨⟨rfl,h1⟩,h2⟩,h3⟩:=h';rw[jmC he];exact jtv o (snd ob o h1) h2 (by simpa using h3)
  ·cases h'
 |.dget ob a,c,X,e,o,h=>by
  have hh:=jsA (P:=fun z n q y ys p=>n == "get" && ys.isEmpty&&chk G j ob c z&&chk G j a c y&&jaW z&&jak y&&(q.endLine==p.line)) h;clear h;obtain⟨z,n,q,y,ys,p,rfl,h⟩:=hh;simp only[j0a,beq_iff_eq,List.isEmpty_iff]at h;obtain⟨⟨⟨⟨⟨⟨rfl,rfl⟩,h1⟩,h2⟩,h3⟩,h4⟩,h5⟩:=h;exact jrj o (snd ob o h1) (snd a o h2) h3 h4 (by simpa using h5)
 |.isC a i,c,X,e,o,h=>by
  have hh:=jgl (P:=fun x _ y ys _=>x == "isinstance" && jbj c.sc x&&(match ys with
   |[z]=>match jf4 z with
    |some t=>nmG G c i t
    |none=>false
   |_=>false)&&chk G j a c y&&jak y) h
  clear h;obtain⟨x,q,y,ys,p,rfl,h⟩:=hh;simp only[j0a,beq_iff_eq]at h;obtain⟨⟨⟨⟨rfl,h1⟩,h2⟩,h3⟩,h4⟩:=h;split at h2
  ·rename_i z;split at h2
   ·rename_i t ht;obtain⟨q',rfl⟩:=jdY ht;exact juJ o h1 h2 h4 (snd a o h3)
   ·cases h2
  ·cases h2
 |.comp m own tg ik es ifs elt,c,X,e,o,h=>by
  have hh:=jmv (P:=jy2 G j own tg ik es ifs elt c) h;clear h;obtain⟨el,g,scope,p,rfl,h⟩:=hh;obtain⟨t,it,fs,kk⟩:=g;simp only[jy2,j0a,beq_iff_eq,decide_eq_true_eq]at h;obtain⟨⟨⟨⟨⟨⟨⟨⟨rfl,rfl⟩,h1⟩,h2⟩,h3⟩,h4⟩,h5⟩,h6⟩,h7⟩:=h;split at h4
  ·rename_i as ha;have k:=sndL es o h4;have oi:=jmo (t:=t) (scope:=scope) o h2;exact jrl o ⟨csk (by rw[o.hN,o.sc];exact h1),jrT o ha k.1 k.2.1 k.2.2,fun C fp s H=>(jm8 (oi C fp s H) h5).1,fun C fp s H=>sndT ifs (oi C fp s H) h6,fun C fp s H=>(snd elt (oi C fp s H) h7).v,h3⟩
  ·cases h4
 |.gl f,c,X,e,o,h=>by
  have hh:=jlv (P:=fun x _=>nmG G c f x) h;clear h;obtain⟨x,p,rfl,h⟩:=hh;exact jwH o h
 |.gget f a d,c,X,e,o,h=>by
  have h':false=true:=h;cases h'
 |.gin neg f a,c,X,e,o,h=>by
  have h':false=true:=h;cases h'
 |.gix f a,c,X,e,o,h=>by
  have h':false=true:=h;cases h'
theorem sndT:∀(ifs:List E) {c:Stt} {X:Cx} {xs:List Expr},Ok G j c X->chkTs G j ifs c xs=true->PTs X xs (T3T X.K (evTs G ifs))
 |[],c,X,xs,o,h=>by
  cases xs with
  |nil=>
   intro pins s σ H Q I hw;refine juc pins s σ H Q I ?_;rw[jqf]at hw;obtain⟨w,μ,ρ,b,μ',R,S,e,q⟩:=hw;cases e;exact q w H (Ext.refl _ _) R
  |cons x xs=>have h':false=true:=h;cases h'
 |[e],c,X,xs,o,h=>by
  match xs,h with
  |[x],h=>
   have h:(chk G j e c x&&tst x)=true:=h;simp only[j0a]at h;rw[jpZ];exact jub ((snd e o h.1).t h.2)
  |[],h=>have h':false=true:=h;cases h'
  |_::_::_,h=>have h':false=true:=h;cases h'
 |e::e'::es,c,X,xs,o,h=>by
  cases xs<;>(have h':false=true:=h;cases h')
theorem sndL:∀(es:List E) {c:Stt} {X:Cx} {xs:List Expr},Ok G j c X->chkL G j es c xs=true->PA X xs (T3A X.K (evL G es))/\(∀e a,es=[e]->xs=[a]->PE X a (T3E X.K (ev G e).v))/\es.length=xs.length
 |[],c,X,xs,o,h=>by
  cases xs with
  |nil=>exact⟨imA jdQ fun σ H Q q=>jxA (by rw[jvq]at q;exact q),(fun e a h=>by cases h),rfl⟩
  |cons x xs=>have h':false=true:=h;cases h'
 |e::es,c,X,xs,o,h=>by
  cases xs with
  |nil=>have h':false=true:=h;cases h'
  |cons x xs=>
   have h:(chk G j e c x&&jak x&&chkL G j es c xs)=true:=h;simp only[j0a]at h;have k1:=snd e o h.1.1;have k2:=sndL es o h.2;exact⟨imA (pac k1.v k2.1 h.1.2) fun σ H Q q=>jtl (by rw[jrw]at q;exact q),(fun e' a h1 h2=>by cases h1;cases h2;exact k1.v),by simp[k2.2.2]⟩
end
end
noncomputable def jh:Expr->Bool
 |.Tuple ..=>true
 |_=>false
noncomputable def jw0 (sc:Scope)(y:Str)(py:Pos)(v:Expr):Bool:=
 match v with
 |.ListComp _ _ s p=>sc.names.lookup y==some .local&&py.line==p.line&&!(s.names.any fun(n,k)=>n==y&&(k==.local||k==.cell))
 |_=>false
noncomputable def tgV (tg:Tg)(v:Expr):Bool:=
 match tg with
 |.nm _=>true
 |.tp _=>notComp v&&!(jh v)
noncomputable def jsx:E->Bool
 |.comp ..=>true
 |_=>false
noncomputable def jrQ (e:E)(v:Expr):Bool:=jsx e||notComp v
noncomputable def jn6:Expr->Option (Expr×Str)
 |.Attribute x n _=>some (x,n)
 |_=>none
theorem jnI {e x:Expr}{n:Str}(h:jn6 e=some (x,n)):∃p,e=.Attribute x n p:=by
 unfold jn6 at h;split at h
 ·cases h;exact⟨_,rfl⟩
 ·cases h
noncomputable def jlV:Expr->Option (Expr×Expr)
 |.Tuple es _ _=>match es with
  |[a,b]=>some (a,b)
  |_=>none
 |_=>none
theorem jjE {e a b:Expr}(h:jlV e=some (a,b)):∃k p,e=.Tuple [a,b] k p:=by
 unfold jlV at h;split at h
 ·split at h
  ·cases h;exact⟨_,_,rfl⟩
  ·cases h
 ·cases h
noncomputable def jjj:Expr->Option (Str×Pos)
 |.Name x p=>some (x,p)
 |_=>none
theorem jh8 {e:Expr}{x:Str}{p:Pos}(h:jjj e=some (x,p)):e=.Name x p:=by
 unfold jjj at h;split at h
 ·cases h;rfl
 ·cases h
noncomputable def nmL (c:Stt)(i:Nat)(x:Str):Bool:=c.N[i]?==some x&&c.sc.names.lookup x==some .local
section
variable (G:List FnE) (j:Nat)
mutual
noncomputable def jvR:S->Stt->Stmt->Bool
 |.asg tg e,c,st=>match st with
  |.Assign [t] v _=>chk G j e c v&&jcS c tg t&&!c.cmp&&tgV tg v&&jrQ e v
  |_=>false
 |.par i k a b,c,st=>match st with
  |.Assign ts v _=>match ts with
   |[t]=>match jlV t,jlV v with
    |some (t1,t2),some (x1,x2)=>match jjj t1,jjj t2 with
     |some (x,px),some (y,py)=>nmL c i x&&nmL c k y&&(py.line==px.line)&&!(x==y)&&!(i==k)&&jak x1&&jak x2&&!(foldedForSure 8 x1&&foldedForSure 8 x2)&&!(constantsAlone 8 x1&&constantsAlone 8 x2)&&chk G j a c x1&&chk G j b c x2
     |_,_=>false
    |_,_=>false
   |_=>false
  |_=>false
 |.unp is e,c,st=>match st with
  |.Assign [t] v _=>chk G j e c v&&jcS c (.tp is) t&&notComp v&&!(jh v)
  |_=>false
 |.setF o i f e,c,st=>match st with
  |.Assign ts v _=>match ts with
   |[t]=>match jn6 t with
    |some (x,n)=>n==f&&jsT G i f&&chk G j e c v&&chk G j o c x&&notComp v
    |none=>false
   |_=>false
  |_=>false
 |.setI _ _ _,_,_=>false
 |.ex e,c,st=>match st with
  |.Expr v _=>chk G j e c v&&notComp v
  |_=>false
 |.ite k a b,c,st=>match st with
  |.If x ss tt _=>chk G j k c x&&tst x&&chkSs a c ss&&chkSs b c tt
  |_=>false
 |.for_ tg ik es body _,c,st=>match st with
  |.For t it ss [] _=>jeG it&&(match jdN c ik t it with
   |some as=>chkL G j es c as
   |none=>false)&&jcS c tg t&&chkSs body c ss
  |_=>false
 |.ret e,c,st=>match st with
  |.Return (some v) _=>chk G j e c v
  |_=>false
 |.retN,_,st=>match st with
  |.Return none _=>true
  |_=>false
 |.pass,_,st=>match st with
  |.Pass _=>true
  |_=>false
 |.never,_,_=>true
noncomputable def chkSs:List S->Stt->List Stmt->Bool
 |[],_,[]=>true
 |s::ss,c,t::ts=>jvR s c t&&chkSs ss c ts
 |_,_,_=>false
end
end
theorem jk9 {P:Expr->Expr->Pos->Bool}{e:Stmt}(h:(match e with
  |.Assign [t] v p=>P t v p
  |_=>false)=true):∃t v p,e=.Assign [t] v p/\P t v p=true:=by
 split at h
 ·exact⟨_,_,_,rfl,h⟩
 ·cases h
theorem jsM {P:Expr->Bool}{e:Stmt}(h:(match e with
  |.Expr v _=>P v
  |_=>false)=true):∃v p,e=.Expr v p/\P v=true:=by
 split at h
 ·exact⟨_,_,rfl,h⟩
 ·cases h
theorem jsu {P:Expr->List Stmt->List Stmt->Bool}{e:Stmt}(h:(match e with
  |.If x ss tt _=>P x ss tt
  |_=>false)=true):∃x ss tt p,e=.If x ss tt p/\P x ss tt=true:=by
 split at h
 ·exact⟨_,_,_,_,rfl,h⟩
 ·cases h
theorem jn1 {P:Expr->Expr->List Stmt->Bool}{e:Stmt}(h:(match e with
  |.For t it ss [] _=>P t it ss
  |_=>false)=true):∃t it ss p,e=.For t it ss [] p/\P t it ss=true:=by
 split at h
 ·exact⟨_,_,_,_,rfl,h⟩
 ·cases h
theorem jnQ {P:Expr->Bool}{e:Stmt}(h:(match e with
  |.Return (some v) _=>P v
  |_=>false)=true):∃v p,e=.Return (some v) p/\P v=true:=by
 split at h
 ·exact⟨_,_,rfl,h⟩
 ·cases h
theorem jrx {e:Stmt}(h:(match e with
  |.Return none _=>true
  |_=>false)=true):∃p,e=.Return none p:=by
 split at h
 ·exact⟨_,rfl⟩
 ·cases h
theorem jqe {e:Stmt}(h:(match e with
  |.Pass _=>true
  |_=>false)=true):∃p,e=.Pass p:=by
 split at h
 ·exact⟨_,rfl⟩
 ·cases h
structure OkS (G:List FnE) (j:Nat) (c:Stt) (X:Cx):Prop extends Ok G j c X where
 pass:PassesOwn (model X.prog X.w) X.A X.env X.xe
 kd:c.sc.kind=.function
section
variable {K:PySem.W.Frag} {X:Cx} {G:List FnE} {j:Nat} {c:Stt}
theorem jmr {tg:Tg}{e:E}{te:TE}{g:TG}(hT:juN K tg g)(he:∀σ H Q,T3E K (ev G e).v σ H Q->te σ H Q){E:Ends}{σ:_L2.St}{H:Hp}:T3S K (run G (.asg tg e)) E σ H->jvS te g E σ H:=by
 rintro⟨w,μ,ρ,fl,μ',R,S,e1,q⟩;obtain⟨d,μ1,e2,e1⟩:=Out.bind_ok e1;refine he σ H _ ⟨w,μ,ρ,d,μ1,R,S,e2,fun w1 H1 v x1 R1 d1=>?_⟩;split at e1
 ·rename_i ρ1 ha;cases e1;exact hT w1 _ H1 ρ ρ1 σ d v E.nx R1 (S.mono x1) d1 ha fun σ' S'=>q w1 H1 x1 R1 σ' S'
 ·cases e1
theorem jqp {sc:Scope}{y:Str}{py p:Pos}{el:Expr}{gs:List Comprehension}{s:Scope}{l:Nat}(hs:X.env.scope=sc)(hk:sc.kind=.function):swapsWith (.ListComp el gs s p) (some (.Name y py)) l X.env=pure (jw0 sc y py (.ListComp el gs s p)):=by
 have hb:X.env.blockKind=.function:=by
  unfold Env.blockKind;rw[hs,hk];rfl
 have hq:X.env.kindOf y=sc.names.lookup y:=by
  rw[<- hs];rfl
 show(pure (X.env.blockKind==.function&&X.env.kindOf y==some .local&&py.line==p.line&&!(s.names.any fun(n,k)=>n==y&&(k==.local||k==.cell))):Sem Bool)=_;rw[hb,hq];rfl
theorem jfP {es:List Expr}{k:Nat}{p:Pos}{v:Expr}{env:Env}(h:jh v=false):swappedStores [.Tuple es k p] v env=pure none:=by
 cases v<;>first|rfl|cases h
theorem juk {tg:Tg}{e:E}{t v:Expr}{pos:Pos}(o:OkS G j c X)(he:chk G j e c v=true)(ht:jcS c tg t=true)(hcm:c.cmp=false)(hx:tgV tg v=true)(hcp:jrQ e v=true):PS X (.Assign [t] v pos) (T3S X.K (run G (.asg tg e))):=by
 have k:=snd e o.toOk he;obtain⟨hg,hst⟩:=jm8 o.toOk ht
 cases tg with
 |tp is=>
  simp only[tgV,j0a,j0O]at hx;have hst2:swappedStores [t] v X.env=pure none:=by
   cases t with
   |Tuple es k p=>exact jfP hx.2
   |_=>cases ht
  exact imS (jpU k.v hg (show swapsWith v (some t) pos.line X.env=pure false from jbg hx.1) hst2 (by rw[jfB hst];rfl)) fun E σ H q=>jmr (jeC _) (fun _ _ _ q=>q) q
 |nm i=>
  have ht':jjL c i t=true:=ht;unfold jjL at ht';split at ht'
  ·rename_i x px;rw[hcm]at ht';have hok:jhT c.N c.sc i x=true:=ht';have hok':jhT X.N X.env.scope i x=true:=by rw[o.hN,o.sc];exact hok
   have hnd:X.N.Nodup:=by rw[o.hN];exact o.nd
   have hfn:X.fn x=true:=o.fn hcm x
   cases hI:jsx e with
   |false=>
    have hc:notComp v=true:=by simpa[jrQ,hI]using hcp
    exact imS (jiE hnd hok' k.v hc hfn) fun E σ H q=>jmr (g:=jfd i) (jeC (.nm i)) (fun _ _ _ q=>q) q
   |true=>
    cases e with
    |comp m own tg' ik es ifs elt=>
     have hh:=jmv (P:=jy2 G j own tg' ik es ifs elt c) he;clear he;obtain⟨el,g,s,p,rfl,he⟩:=hh;obtain⟨t',it,fs,kk⟩:=g;simp only[jy2,j0a,beq_iff_eq,decide_eq_true_eq]at he;obtain⟨⟨⟨⟨⟨⟨⟨⟨rfl,rfl⟩,h1⟩,h2⟩,h3⟩,h4⟩,h5⟩,h6⟩,h7⟩:=he
     ·have hs:=jqp (X:=X) (sc:=c.sc) (y:=x) (py:=px) (p:=p) (el:=el) (gs:=[⟨t',it,fs,0⟩]) (s:=s) (l:=pos.line) o.sc o.kd
      cases hsw:jw0 c.sc x px (.ListComp el [⟨t',it,fs,0⟩] s p)with
      |false=>
       rw[hsw]at hs;exact imS (jsi hnd (jbF hok').1 (jbF hok').2 k.v hs (.inl hfn)) fun E σ H q=>jmr (g:=jfd i) (jeC (.nm i)) (fun _ _ _ q=>q) q
      |true=>
       rw[hsw]at hs;split at h4
       ·rename_i as ha;have kk:=sndL es o.toOk h4;have oi:=jmo (t:=t') (scope:=s) o.toOk h2;exact imS (jm6 hnd (jbF hok').1 (jbF hok').2 o.calm (csk (by rw[o.hN,o.sc];exact h1)) (jrT o.toOk ha kk.1 kk.2.1 kk.2.2) (fun C fp s H=>(jm8 (oi C fp s H) h5).1) (fun C fp s H=>sndT ifs (oi C fp s H) h6) (fun C fp s H=>(snd elt (oi C fp s H) h7).v) hs (jfl h3) (.inl hfn))
         fun E σ H q=>jmr (g:=jfd i) (jeC (.nm i)) (fun _ _ _ q=>jpy (jeC tg') q) q
       ·cases h4
    |_=>cases hI
  ·cases ht'
theorem jmN {x y:Str}{px py pt pt2:Pos}{kt k2:Nat}{a b:Expr}{env:Env}(hb:env.blockKind=.function)(hx:env.kindOf x=some .local)(hy:env.kindOf y=some .local)(hl:(py.line==px.line)=true)(hne:x≠y)(h1:jak a=true)(h2:jak b=true)
  (h3:(foldedForSure 8 a&&foldedForSure 8 b)=false) (h4:(constantsAlone 8 a&&constantsAlone 8 b)=false) :
  swappedStores [.Tuple [.Name x px,.Name y py] kt pt] (.Tuple [a,b] k2 pt2) env=pure (some [x,y]):=by
 have e2:([a,b].all (foldedForSure 8))=false:=by simpa using h3
 have e3:([a,b].all (constantsAlone 8))=false:=by simpa using h4
 have e4:([x,y]:List Str).eraseDups.length=2:=by
  have:(y==x)=false:=by simpa using fun h=>hne h.symm
  simp[List.eraseDups_cons,this]
 unfold swappedStores;dsimp only;rw[hb,if_neg (by simp),if_neg]
 ·have e5:(Expr.Name x px).pos.line=px.line:=rfl;simp only[j08,List.filterMap_nil,hx,hy,beq_self_eq_true,j02,if_true,List.head?_cons,Option.map_some,Option.getD_some,e5,hl];rw[if_neg (by simp[e4]),if_neg (by rw[e2];decide),if_neg (by rw[e3];decide)]
 ·simp only[List.any_cons,List.any_nil,Bool.or_false,j1v];rintro(h|h)
  ·cases a<;>first|(cases h;done)|cases h1
  ·cases b<;>first|(cases h;done)|cases h2
theorem jsZ {i k:Nat}{a b:E}{x y:Str}{px py pt pt2 pos:Pos}{kt k2:Nat}{x1 x2:Expr}(o:OkS G j c X)(hi:nmL c i x=true)(hk:nmL c k y=true)(hl:(py.line==px.line)=true)(hne:x≠y)(hik:i≠k)(s1:jak x1=true)(s2:jak x2=true)(h3:(foldedForSure 8 x1&&foldedForSure 8 x2)=false)(h4:(constantsAlone 8 x1&&constantsAlone 8 x2)=false)(ha:chk G j a c x1=true)(hb:chk G j b c x2=true) :
  PS X (.Assign [.Tuple [.Name x px,.Name y py] kt pt] (.Tuple [x1,x2] k2 pt2) pos) (T3S X.K (run G (.par i k a b))):=by
 unfold nmL at hi hk;simp only[j0a,beq_iff_eq]at hi hk;have k1:=snd a o.toOk ha;have k2:=snd b o.toOk hb;have hbk:X.env.blockKind=.function:=by
  unfold Env.blockKind;rw[o.sc,o.kd];rfl
 have hq:∀z,X.env.kindOf z=c.sc.names.lookup z:=fun z=>by rw[<- o.sc];rfl
 refine imS (jyf o.calm (by rw[o.hN];exact o.nd) (by rw[o.hN];exact hi.1) (by rw[o.hN];exact hk.1) hik (by rw[o.sc];exact hi.2) (by rw[o.sc];exact hk.2) (pac k1.v (pac k2.v jdQ s2) s1)
  (jmN hbk (by rw[hq];exact hi.2) (by rw[hq];exact hk.2) hl hne s1 s2 h3 h4)) fun E σ H=>?_
 rintro⟨w,μ,ρ,fl,μ',R,S,e1,q⟩;obtain⟨d,μ1,a1,e1⟩:=Out.bind_ok e1;obtain⟨d2,μ2,a2,e1⟩:=Out.bind_ok e1;cases e1;refine⟨w,μ,ρ,d,μ1,R,S,a1,fun w1 H1 v1 x1 R1 k1=>⟨w1,μ1,ρ,d2,_,R1,S.mono x1,a2,fun w2 H2 v2 x2 R2 k2=>⟨v1,v2,rfl,?_⟩⟩⟩;exact q w2 H2 (x1.trans x2) R2 _ (((S.mono (x1.trans x2)).set (k1.mono x2) i).set k2 k)
theorem juw {is:List Nat}{e:E}{t v:Expr}{pos:Pos}(o:OkS G j c X)(he:chk G j e c v=true)(ht:jcS c (.tp is) t=true)(hc:notComp v=true)(hx:jh v=false):PS X (.Assign [t] v pos) (T3S X.K (run G (.unp is e))):=by
 have k:=snd e o.toOk he;unfold jcS at ht;split at ht
 ·rename_i hh;cases hh
 ·rename_i is' es kk pp hh;cases hh;simp only[j0a]at ht;obtain⟨h1,h2⟩:=ht;obtain⟨p1,p2⟩:=jjh o.toOk h1;have hg:=jyy (k:=kk) (pos:=pp) o.calm p1 ((jgW h2).1.trans p2) (jgW h2).2;refine imS (jpU k.v hg (show swapsWith v (some (.Tuple es kk pp)) pos.line X.env=pure false from jbg hc) (jfP hx) (by rw[jfB (show jak (.Tuple es kk pp)=true from rfl)];rfl)) fun E σ H=>?_;rintro⟨w,μ,ρ,fl,μ',R,S,e1,q⟩;obtain⟨d,μ1,a1,e1⟩:=Out.bind_ok e1;refine⟨w,μ,ρ,d,μ1,R,S,a1,fun w1 H1 v1 x1 R1 d1=>?_⟩;split at e1
  ·rename_i ρ1 hs;cases e1;obtain⟨ds,hds,hset⟩:=Option.bind_eq_some_iff.mp hs;obtain⟨a,xs,rfl,s1,l1⟩:=jaR R1 d1 hds;obtain⟨g1,g2⟩:=jju (H:=H1) (Q:=E.nx) l1 (S.mono x1) hset fun σ' S'=>q w1 H1 x1 R1 σ' S';exact⟨a,xs,rfl,s1,by rw[<- jad l1,g2],g1⟩
  ·cases e1
 ·cases ht
theorem jlW {f:Str}{y:V}:∀{fs:List Str} {xs:List V},fs.length=xs.length->jjf f y (fs.zip xs)=(jhE f fs).zip (je6 f y fs xs)
 |[],[],_=>rfl
 |[],_::_,h=>by cases h
 |_::_,[],h=>by cases h
 |g::fs,x::xs,h=>by
  have ih:=jlW (f:=f) (y:=y) (fs:=fs) (xs:=xs) (by simpa using h);unfold jhE je6;show(if g=f then(g,y)::fs.zip xs else(g,x)::jjf f y (fs.zip xs))=_;split
  ·rfl
  ·rw[ih];rfl
theorem jkm {α β:Type}{f:Str}{d:α}{e:β}:∀{fs:List Str} {xs:List α},fs.length=xs.length->(jhE f fs).length=(je6 f d fs xs).length
 |[],[],_=>rfl
 |[],_::_,h=>by cases h
 |_::_,[],h=>by cases h
 |g::fs,x::xs,h=>by
  have ih:=jkm (f:=f) (d:=d) (e:=e) (fs:=fs) (xs:=xs) (by simpa using h);unfold jhE je6;split
  ·simpa using h
  ·simp[ih]
theorem jka {w:Wd}{n:Nat}{f:Str}{d:D}{y:V}(hd:Den K w n d y):∀{fs:List Str} {ds:List D} {xs:List V},fs.length=ds.length->DenL K w n ds xs->DenL K w n (je6 f d fs ds) (je6 f y fs xs)
 |[],[],xs,_,h=>by
  unfold je6;exact DenL.one hd
 |[],_::_,_,h,_=>by cases h
 |_::_,[],_,h,_=>by cases h
 |g::fs,e::ds,xs,h,l=>by
  unfold DenL at l;obtain⟨v,ws,rfl,h1,h2⟩:=l;have ih:=jka hd (f:=f) (fs:=fs) (by simpa using h) h2;unfold je6;split
  ·unfold DenL;exact⟨y,ws,rfl,hd,h2⟩
  ·unfold DenL;exact⟨v,_,rfl,h1,ih⟩
theorem jrp {ob e:E}{i:Nat}{f:Str}{x v:Expr}{p pos:Pos}(o:OkS G j c X)(hf:jsT G i f=true)(he:chk G j e c v=true)(ho:chk G j ob c x=true)(hc:notComp v=true):PS X (.Assign [.Attribute x f p] v pos) (T3S X.K (run G (.setF ob i f e))):=by
 have k1:=snd e o.toOk he;have k2:=snd ob o.toOk ho;obtain⟨g,C,k,fs,hg,hd,hm,hC,hN⟩:=joE o.toOk hf;refine imS (jyl k2.v k1.v (jbg hc)) fun E σ H=>?_;rintro⟨w,μ,ρ,fl,μ',R,S,e1,q⟩;obtain⟨d,μ1,a1,e1⟩:=Out.bind_ok e1;obtain⟨d2,μ2,a2,e1⟩:=Out.bind_ok e1;refine⟨w,μ,ρ,d,μ1,R,S,a1,fun w1 H1 v1 x1 R1 k1=>⟨w1,μ1,ρ,d2,μ2,R1,S.mono x1,a2,fun w2 H2 v2 x2 R2 k2=>?_⟩⟩;rw[jdC hg,hd]at e1;split at e1
 ·rename_i μ3 h3;cases e1;replace h3:jy6 C f d d2 μ2=some μ':=h3;unfold jy6 at h3;split at h3
  ·rename_i kc;split at h3
   ·rename_i C' fs' ds' hk;split at h3
    ·rename_i hh;obtain⟨rfl,hl⟩:=hh;cases h3;obtain⟨dx,ys,g0,g1,g2⟩:=(R2.liv kc _ hk).2;unfold Den at k2;have gl:fs'.length=ys.length:=g0.trans (jad g2);refine⟨w2.γ kc,C',dx,_,k2.2,g1,hC,hN,by rw[List.length_zip];omega,?_⟩;have hlen:(μ2.set kc (some (Cl.obj C' (jhE f fs') (je6 f d fs' ds')))).length=μ2.length:=List.length_set;have R3:=R2.put hk (c:=Cl.obj C' (jhE f fs') (je6 f d fs' ds')) (.ins C' dx (jjf f v1 (fs'.zip ys))) ⟨dx,je6 f v1 fs' ys,jkm (e:=()) g0,by rw[jaz,jlW gl],jka (k1.mono x2) g0 g2⟩;have x12:=x1.trans x2;exact q w2 _ (by rw[hlen];exact x12) R3 σ (by rw[hlen];exact S.mono x12)
    ·cases h3
   ·cases h3
  ·cases h3
 ·cases e1
theorem jw8 {e:E}{v:Expr}{pos:Pos}(o:OkS G j c X)(he:chk G j e c v=true)(hc:notComp v=true):PS X (.Expr v pos) (T3S X.K (run G (.ex e))):=by
 refine imS (joi (snd e o.toOk he).v (jbg hc)) fun E σ H=>?_;rintro⟨w,μ,ρ,fl,μ',R,S,e1,q⟩;obtain⟨d,μ1,a1,e1⟩:=Out.bind_ok e1;cases e1;exact⟨w,μ,ρ,d,_,R,S,a1,fun w1 H1 v1 x1 R1 k1=>q w1 H1 x1 R1 σ (S.mono x1)⟩
theorem juu {e:E}{v:Expr}{pos:Pos}(o:OkS G j c X)(he:chk G j e c v=true):PS X (.Return (some v) pos) (T3S X.K (run G (.ret e))):=by
 refine imS (joR (snd e o.toOk he).v) fun E σ H=>?_;rintro⟨w,μ,ρ,fl,μ',R,S,e1,q⟩;obtain⟨d,μ1,a1,e1⟩:=Out.bind_ok e1;cases e1;exact⟨w,μ,ρ,d,_,R,S,a1,fun w1 H1 v1 x1 R1 k1=>q w1 H1 x1 R1 v1 k1⟩
theorem jt6 {k:E}{a b:List S}{x:Expr}{ss tt:List Stmt}{pos:Pos}(o:OkS G j c X)(hk:chk G j k c x=true)(ht:tst x=true)(ha:PSs X ss (T3S X.K (runs G a)))(hb:PSs X tt (T3S X.K (runs G b))):PS X (.If x ss tt pos) (T3S X.K (run G (.ite k a b))):=by
 refine imS (juM ((snd k o.toOk hk).t ht) ha hb) fun E σ H=>?_;rintro⟨w,μ,ρ,fl,μ',R,S,e1,q⟩;obtain⟨b',μ1,a1,e1⟩:=Out.bind_ok e1;refine⟨w,μ,ρ,b',μ1,R,S,a1,fun w1 H1 x1 R1=>?_⟩;dsimp only
 cases b' with
 |true=>
  rw[if_pos rfl]at e1 ⊢;exact⟨w1,μ1,ρ,fl,μ',R1,S.mono x1,e1,fun w2 H2 x2 R2=>q w2 H2 (x1.trans x2) R2⟩
 |false=>
  rw[if_neg j0i]at e1 ⊢;exact⟨w1,μ1,ρ,fl,μ',R1,S.mono x1,e1,fun w2 H2 x2 R2=>q w2 H2 (x1.trans x2) R2⟩
theorem jvv {tg:Tg}{ik:IK}{es:List E}{body:List S}{fg:List Nat}{t it:Expr}{as:List Expr}{ss:List Stmt}{pos:Pos}(o:OkS G j c X)(hn:jeG it=true)(hi:jdN c ik t it=some as)(hes:chkL G j es c as=true)(ht:jcS c tg t=true)(hb:PSs X ss (T3S X.K (runs G body))):PS X (.For t it ss [] pos) (T3S X.K (run G (.for_ tg ik es body fg))):=by
 have k:=sndL es o.toOk hes;refine imS (jsr o.pass o.calm (jrT o.toOk hi k.1 k.2.1 k.2.2) (jm8 o.toOk ht).1 hb (jfl hn)) fun E σ H=>?_;rintro⟨w,μ,ρ,fl,μ',R,S,e1,q⟩;obtain⟨ds,μ1,a1,e1⟩:=Out.bind_ok e1;split at e1
 ·rename_i xs hx;exact⟨w,μ,ρ,ds,μ1,xs,R,S,a1,hx,fun w1 H1 J x1 R1 hJ=>juW (jeC tg) R1 (S.mono x1) hJ e1 fun w2 H2 x2 R2=>q w2 H2 (x1.trans x2) R2⟩
 ·cases e1
theorem jtg {s:S}{ss:List S}{st:Stmt}{sts:List Stmt}(h1:PS X st (T3S X.K (run G s)))(h2:PSs X sts (T3S X.K (runs G ss))):PSs X (st::sts) (T3S X.K (runs G (s::ss))):=by
 refine jvU (jgy h1 h2) fun E σ H=>?_;rintro⟨w,μ,ρ,fl,μ',R,S,e1,q⟩;replace e1:(match run G s ρ μ with
  |.ok (.nx ρ1) μ1=>runs G ss ρ1 μ1
  |r=>r)=.ok fl μ':=e1
 cases e2:run G s ρ μ with
 |exc x μ1=>rw[e2]at e1;cases e1
 |bad=>rw[e2]at e1;cases e1
 |ok f1 μ1=>
  rw[e2]at e1;refine⟨w,μ,ρ,f1,μ1,R,S,e2,fun w1 H1 x1 R1=>?_⟩
  cases f1 with
  |nx ρ1=>
   intro σ1 S1;exact⟨w1,μ1,ρ1,fl,μ',R1,S1,e1,fun w2 H2 x2 R2=>q w2 H2 (x1.trans x2) R2⟩
  |rt d=>
   cases e1;exact q w1 H1 x1 R1
  |bk ρ1=>
   cases e1;exact q w1 H1 x1 R1
  |ct ρ1=>
   cases e1;exact q w1 H1 x1 R1
end
section
variable {G:List FnE} {j:Nat}
mutual
theorem jAQ:∀(s:S) {c:Stt} {X:Cx} {st:Stmt},OkS G j c X->jvR G j s c st=true->PS X st (T3S X.K (run G s))
 |.asg tg e,c,X,st,o,h=>by
  have hh:=jk9 (P:=fun t v _=>chk G j e c v&&jcS c tg t&&!c.cmp&&tgV tg v&&jrQ e v) h;clear h;obtain⟨t,v,p,rfl,h⟩:=hh;simp only[j0a,j0O]at h;exact juk o h.1.1.1.1 h.1.1.1.2 h.1.1.2 h.1.2 h.2
 |.par i k a b,c,X,st,o,h=>by
  unfold jvR at h;split at h
  ·split at h
   ·split at h
    ·rename_i t1 t2 x1 x2 ht hv;split at h
     ·rename_i x px y py hx hy;obtain⟨kt,pt,rfl⟩:=jjE ht;obtain⟨k2,pt2,rfl⟩:=jjE hv;cases jh8 hx;cases jh8 hy;simp only[j0a,j0O,beq_eq_false_iff_ne]at h;obtain⟨⟨⟨⟨⟨⟨⟨⟨⟨⟨h1,h2⟩,h3⟩,h4⟩,h5⟩,h6⟩,h7⟩,h8⟩,h9⟩,h10⟩,h11⟩:=h;exact jsZ o h1 h2 h3 h4 h5 h6 h7 h8 h9 h10 h11
     ·cases h
    ·cases h
   ·cases h
  ·cases h
 |.unp is e,c,X,st,o,h=>by
  have hh:=jk9 (P:=fun t v _=>chk G j e c v&&jcS c (.tp is) t&&notComp v&&!(jh v)) h;clear h;obtain⟨t,v,p,rfl,h⟩:=hh;simp only[j0a,j0O]at h;exact juw o h.1.1.1 h.1.1.2 h.1.2 h.2
 |.setF ob i f e,c,X,st,o,h=>by
  unfold jvR at h;split at h
  ·rename_i ts v p;split at h
   ·rename_i t;split at h
    ·rename_i x n ht;obtain⟨q,rfl⟩:=jnI ht;simp only[j0a,beq_iff_eq]at h;obtain⟨⟨⟨⟨rfl,h2⟩,h3⟩,h4⟩,h5⟩:=h;exact jrp o h2 h3 h4 h5
    ·cases h
   ·cases h
  ·cases h
 |.setI _ _ _,c,X,st,o,h=>by
  have h':false=true:=h;cases h'
 |.ex e,c,X,st,o,h=>by
  have hh:=jsM (P:=fun v=>chk G j e c v&&notComp v) h;clear h;obtain⟨v,p,rfl,h⟩:=hh;simp only[j0a]at h;exact jw8 o h.1 h.2
 |.ite k a b,c,X,st,o,h=>by
  have hh:=jsu (P:=fun x ss tt=>chk G j k c x&&tst x&&chkSs G j a c ss&&chkSs G j b c tt) h;clear h;obtain⟨x,ss,tt,p,rfl,h⟩:=hh;simp only[j0a]at h;obtain⟨⟨⟨h1,h2⟩,h3⟩,h4⟩:=h;exact jt6 o h1 h2 (sndSs a o h3) (sndSs b o h4)
 |.for_ tg ik es body fg,c,X,st,o,h=>by
  have hh:=jn1 (P:=fun t it ss=>jeG it&&(match jdN c ik t it with
   |some as=>chkL G j es c as
   |none=>false)&&jcS c tg t&&chkSs G j body c ss) h
  clear h;obtain⟨t,it,ss,p,rfl,h⟩:=hh;simp only[j0a]at h;obtain⟨⟨⟨h1,h2⟩,h3⟩,h4⟩:=h;split at h2
  ·rename_i as ha;exact jvv o h1 ha h2 h3 (sndSs body o h4)
  ·cases h2
 |.ret e,c,X,st,o,h=>by
  have hh:=jnQ (P:=fun v=>chk G j e c v) h;clear h;obtain⟨v,p,rfl,h⟩:=hh;exact juu o h
 |.retN,c,X,st,o,h=>by
  have hh:=jrx h;clear h;obtain⟨p,rfl⟩:=hh;refine imS jt3 fun E σ H=>?_;rintro⟨w,μ,ρ,fl,μ',R,S,e1,q⟩;have e2:Out.ok (Fl.rt D.non) μ=.ok fl μ':=e1;cases e2;exact q w H (Ext.refl _ _) R .non (by unfold Den;rfl)
 |.pass,c,X,st,o,h=>by
  have hh:=jqe h;clear h;obtain⟨p,rfl⟩:=hh;refine imS jtP fun E σ H=>?_;rintro⟨w,μ,ρ,fl,μ',R,S,e1,q⟩;have e2:Out.ok (Fl.nx ρ) μ=.ok fl μ':=e1;cases e2;exact q w H (Ext.refl _ _) R σ S
 |.never,c,X,st,o,h=>by
  refine imS jr2 fun E σ H=>?_;rintro⟨w,μ,ρ,fl,μ',R,S,e1,q⟩;have e2:(Out.bad:Out Fl)=.ok fl μ':=e1;cases e2
theorem sndSs:∀(ss:List S) {c:Stt} {X:Cx} {sts:List Stmt},OkS G j c X->chkSs G j ss c sts=true->PSs X sts (T3S X.K (runs G ss))
 |[],c,X,sts,o,h=>by
  cases sts with
  |nil=>
   refine jvU jkO fun E σ H=>?_;rintro⟨w,μ,ρ,fl,μ',R,S,e1,q⟩;have e2:Out.ok (Fl.nx ρ) μ=.ok fl μ':=e1;cases e2;exact q w H (Ext.refl _ _) R σ S
  |cons _ _=>
   have h':false=true:=h;cases h'
 |s::ss,c,X,sts,o,h=>by
  cases sts with
  |nil=>
   have h':false=true:=h;cases h'
  |cons t ts=>
   have h':(jvR G j s c t&&chkSs G j ss c ts)=true:=h;clear h;have h:=h';simp only[j0a]at h;exact jtg (jAQ s o h.1) (sndSs ss o h.2)
end
end
section
variable {P:Program} {w:World} {K:PySem.W.Frag} {mg:Str->Option Value} {base:Heap}
structure Tab (P:Program) (w:World) (K:PySem.W.Frag) (mg:Str->Option Value) (base:Heap) (j:Nat) (G:List FnE):Prop where
 hm:∀x∈jdy,mg x=none
 hf:∀(i:Nat) (g:FnE),G[i]?=some g->g.lv<=j->_L2.CalG CX0 P w K mg base g.lv g.name g.ps (jlC K g.ps.length g.F)
 hd:∀(i:Nat) (g:FnE) (d:Dat),G[i]?=some g->g.dat=some d->jiR K w mg g.name d
theorem jaE {x qual:Str}{st:Stmt}{f:Addr}{fd:FuncData}{N ps:List Str}{j:Nat}{G:List FnE}{body:List S}(F:Fun K x qual st f fd)(Sc:FnScope N ps (ja st))(T:Tab P w K mg base j G)(h:chkSs G j body ⟨N,ja st,false⟩ (jae st)=true) :
  FnOk P w K mg base CX0 (j+1) f fd ps (jlC K ps.length (fnOf G ps.length (N.length - ps.length) body)):=by
 refine F.okQ Sc (fun vs H Q E h=>h.1) (fun cdv A outer s H vs Q E hr hsp=>?_);refine⟨T3S K (runs G body),⟨sndSs body (c:=⟨N,ja st,false⟩) ⟨⟨rfl,Sc.nd,rfl,rfl,hr,T.hm,T.hf,T.hd,fun _ _=>rfl⟩,PassesOwn.never,Sc.kind⟩ h⟩,?_⟩;obtain⟨hl,w0,μ,ds,d,μ',R,hD,e,q⟩:=hsp;unfold fnOf at e;split at e
 ·rename_i hn;have hS:jby K w0 μ.length (ds.map some++List.replicate (N.length - ps.length) none) (_L2.start N vs):=by
   unfold _L2.start;rw[hl];exact jby.start hD _
  split at e
  ·rename_i d1 μ1 e1;cases e;exact⟨w0,μ,_,_,_,R,hS,e1,fun w1 H1 x1 R1 v dv=>q w1 H1 v x1 R1 dv⟩
  ·rename_i ρ1 μ1 e1;cases e;exact⟨w0,μ,_,_,_,R,hS,e1,fun w1 H1 x1 R1 σ' S'=>q w1 H1 .non x1 R1 (by unfold Den;rfl)⟩
  ·cases e
  ·cases e
  ·cases e
 ·cases e
theorem ju1 {f:Addr} {fd:FuncData} {k:Nat} {F:Fn} (h:FnOk P w K mg base CX0 k f fd ["_law_script"] (jlC K 1 F)) (hF:∀ns:List Int,ns.length<=63->∃μ,F [.scr (ns.map D.int)] []=.ok (.bl true) μ):FnOk P w K mg base CX0 k f fd ["_law_script"] (spLaw K):=by
 refine h.imp fun vs H Q E=>?_;rintro⟨a,ns,rfl,hS,hn,q⟩;obtain⟨μ,hm⟩:=hF ns hn;refine⟨rfl,⟨fun b=>if b=a then H a else none,fun _=>0⟩,[],_,_,μ,⟨fun b o h=>?_,fun k c h=>by simp at h,fun i j ci cj h=>by simp at h⟩,?_,hm,fun w' H' v _ _ hv=>?_⟩
 ·replace h:(if b=a then H a else none)=some o:=h;split at h
  ·rename_i e;rw[e];exact h
  ·cases h
 ·unfold DenL;refine⟨.ref a,[],rfl,?_,by unfold DenL;rfl⟩;unfold Den;refine⟨a,ns.map V.int,rfl,?_,jfg ns⟩;rcases hS with hS|hS
  ·left;rcases hS with h|⟨o,h⟩
   ·exact .inl (by show(if a=a then H a else none)=_;rw[if_pos rfl];exact h)
   ·exact .inr ⟨o,by show(if a=a then H a else none)=_;rw[if_pos rfl];exact h⟩
  ·exact .inr hS
 ·unfold Den at hv;subst hv;exact q H'
end
theorem nr {α:Type}{a b:α}(h:a=b):a=b:=h
section
variable {α β:Type}
theorem jbT {a:α}{μ:M}{f:α->M->Out β}:(Out.ok a μ).bind f=f a μ:=rfl
theorem jqH {f:α->M->Out β}:(Out.bad:Out α).bind f=.bad:=rfl
end
noncomputable def jo (o:Out Fl)(k:S3->M->Out Fl):Out Fl:=
 match o with
 |.ok (.nx ρ) μ=>k ρ μ
 |r=>r
noncomputable def jeY (o:Out Fl):Out D:=
 match o with
 |.ok (.rt d) μ=>.ok d μ
 |.ok (.nx _) μ=>.ok .non μ
 |.ok _ _=>.bad
 |.exc x μ=>.exc x μ
 |.bad=>.bad
theorem jfZ {ρ:S3}{μ:M}{k:S3->M->Out Fl}:jo (.ok (.nx ρ) μ) k=k ρ μ:=rfl
theorem juh {d:D}{μ:M}{k:S3->M->Out Fl}:jo (.ok (.rt d) μ) k=.ok (.rt d) μ:=rfl
theorem jvG {d:D}{μ:M}:jeY (.ok (.rt d) μ)=.ok d μ:=rfl
theorem jps {ρ:S3}{μ:M}:jeY (.ok (.nx ρ) μ)=.ok .non μ:=rfl
section
variable {G:List FnE} {ρ:S3} {μ:M}
theorem ju3 {np nl:Nat}{b:List S}{ds:List D}:fnOf G np nl b ds μ=if ds.length=np then jeY (runs G b (ds.map some++List.replicate nl none) μ)else .bad:=rfl
theorem jl8:runs G [] ρ μ=.ok (.nx ρ) μ:=rfl
theorem jcR {s:S}{ss:List S}:runs G (s::ss) ρ μ=jo (_L3.run G s ρ μ) (runs G ss):=rfl
noncomputable def jza (tg:Tg)(ρ:S3)(d:D)(μ:M):Out Fl:=
 match jkC tg d ρ with
 |some ρ1=>.ok (.nx ρ1) μ
 |none=>.bad
theorem juy {tg:Tg}{e:E}:_L3.run G (.asg tg e) ρ μ=((ev G e).v ρ μ).bind fun d μ1=>jza tg ρ d μ1:=rfl
theorem jtI {i:Nat}{d:D}:jza (.nm i) ρ d μ=.ok (.nx (ρ.set i (some d))) μ:=rfl
theorem jyA {e:E}:_L3.run G (.ex e) ρ μ=((ev G e).v ρ μ).bind fun _ μ1=>.ok (.nx ρ) μ1:=rfl
theorem jjt {c:E}{a b:List S}:_L3.run G (.ite c a b) ρ μ=((ev G c).t ρ μ).bind fun k μ1=>if k then runs G a ρ μ1 else runs G b ρ μ1:=rfl
theorem jt {e:E}:_L3.run G (.ret e) ρ μ=((ev G e).v ρ μ).bind fun d μ1=>.ok (.rt d) μ1:=rfl
noncomputable def jy3 (ik:IK)(ds:List D)(tg:Tg)(body:S3->M->Out Fl)(fg:List Nat)(ρ:S3)(μ:M):Out Fl:=
 match itD ik ds μ with
 |some xs=>jc9 (jdT ik ds xs) tg body fg xs ρ μ
 |none=>.bad
theorem ja6 {ik:IK}{ds xs:List D}{tg:Tg}{body:S3->M->Out Fl}{fg:List Nat}(h:itD ik ds μ=some xs):jy3 ik ds tg body fg ρ μ=jc9 (jdT ik ds xs) tg body fg xs ρ μ:=by
 unfold jy3;rw[h]
theorem jvL {tg:Tg}{ik:IK}{es:List E}{body:List S}{fg:List Nat}:_L3.run G (.for_ tg ik es body fg) ρ μ=(evL G es ρ μ).bind fun ds μ1=>jy3 ik ds tg (runs G body) fg ρ μ1:=rfl
theorem jyB {d:D}:(ev G (.cst d)).v ρ μ=.ok d μ:=rfl
theorem jya {op:Operator}{m:Bool}{a b:E}:(ev G (.bin op m a b)).v ρ μ=((ev G a).v ρ μ).bind fun x μ1=>((ev G b).v ρ μ1).bind fun y μ2=>jiV op m x y μ2:=rfl
noncomputable def jAz (x:D)(μ:M):Out D:=
 match x with
 |.int i=>.ok (.int (-i)) μ
 |_=>.bad
theorem jx9 {a:E}:(ev G (.neg a)).v ρ μ=((ev G a).v ρ μ).bind jAz:=rfl
theorem jp7 {i:Int}:jAz (.int i) μ=.ok (.int (-i)) μ:=rfl
noncomputable def jAA (o:Option (Option D))(μ:M):Out D:=
 match o with
 |some (some d)=>.ok d μ
 |_=>.bad
theorem jwz {i:Nat}:(ev G (.var i)).v ρ μ=jAA ρ[i]? μ:=rfl
theorem jxu {d:D}:jAA (some (some d)) μ=.ok d μ:=rfl
noncomputable def jAX (x:D)(μ:M):Out D:=
 match x with
 |.bl c=>.ok (.bl (!c)) μ
 |_=>.bad
theorem jyF {a:E}:(ev G (.not_ a)).v ρ μ=((ev G a).v ρ μ).bind jAX:=rfl
theorem jye {op:CmpOp}{a b:E}:(ev G (.cmp op a b)).v ρ μ=((ev G a).v ρ μ).bind fun x μ1=>((ev G b).v ρ μ1).bind fun y μ2=>jdO op x y μ2:=rfl
theorem jyC {a:E}:(ev G (.isN a)).v ρ μ=((ev G a).v ρ μ).bind fun x μ1=>.ok (.bl (jig x)) μ1:=by
 show((ev G a).v ρ μ).bind _=_;congr 1
 funext x μ1
 cases x<;>rfl
theorem jtA {a:E}:(ev G (.notN a)).v ρ μ=((ev G a).v ρ μ).bind fun x μ1=>.ok (.bl (!jig x)) μ1:=by
 show((ev G a).v ρ μ).bind _=_;congr 1
 funext x μ1
 cases x<;>rfl
noncomputable def boD (k:Bool)(o:Out D)(x:D)(μ:M):Out D:=
 match x with
 |.bl c=>if c=k then o else .ok (.bl c) μ
 |_=>.bad
theorem jyp {a b:E}:(ev G (.and_ a b)).v ρ μ=((ev G a).v ρ μ).bind fun x μ1=>boD true ((ev G b).v ρ μ1) x μ1:=by
 show((ev G a).v ρ μ).bind _=_;congr 1
 funext x μ1
 cases x with
 |bl c=>cases c<;>rfl
 |_=>rfl
theorem jzA {a b:E}:(ev G (.or_ a b)).v ρ μ=((ev G a).v ρ μ).bind fun x μ1=>boD false ((ev G b).v ρ μ1) x μ1:=by
 show((ev G a).v ρ μ).bind _=_;congr 1
 funext x μ1
 cases x with
 |bl c=>cases c<;>rfl
 |_=>rfl
theorem jwh {c a b:E}:(ev G (.ife c a b)).v ρ μ=((ev G c).t ρ μ).bind fun k μ1=>if k then(ev G a).v ρ μ1 else(ev G b).v ρ μ1:=rfl
theorem jv7 {es:List E}:(ev G (.tup es)).v ρ μ=(evL G es ρ μ).bind fun ds μ1=>if ds.length<=sizeLine then .ok (.tup ds) μ1 else .bad:=rfl
theorem jxI {m:Bool}{es:List E}:(ev G (.lst m es)).v ρ μ=(evL G es ρ μ).bind fun ds μ1=>if ds.length<=sizeLine then mkL m ds μ1 else .bad:=rfl
theorem jzF {a b:E}:(ev G (.ix a b)).v ρ μ=((ev G a).v ρ μ).bind fun x μ1=>((ev G b).v ρ μ1).bind fun y μ2=>ixD x y μ2:=rfl
theorem jAg {m:Bool}{a:E}{lo hi:List E}:(ev G (.sl m a lo hi)).v ρ μ=((ev G a).v ρ μ).bind fun x μ1=>(jlo (evL G lo ρ μ1)).bind fun l μ2=>(jlo (evL G hi ρ μ2)).bind fun h μ3=>slD m x l h μ3:=rfl
theorem jxd {m:Bool}{a:E}{lo hi:List E}:(ev G (.stp m a lo hi)).v ρ μ=((ev G a).v ρ μ).bind fun x μ1=>(jlo (evL G lo ρ μ1)).bind fun l μ2=>(jlo (evL G hi ρ μ2)).bind fun h μ3=>jAr m x l h μ3:=rfl
theorem jtF {f:Nat}{md:Md}{es:List E}:(ev G (.call f md es)).v ρ μ=(evL G es ρ μ).bind fun ds μ1=>jfx G f md ds μ1:=rfl
theorem jzE {b:Bi}{m:Bool}{es:List E}:(ev G (.bi b m es)).v ρ μ=(evL G es ρ μ).bind fun ds μ1=>biD b m ds μ1:=rfl
theorem jzl {b:Mt}{o:E}{es:List E}:(ev G (.mt b o es)).v ρ μ=((ev G o).v ρ μ).bind fun x μ1=>if jpP b x μ1 then(evL G es ρ μ1).bind fun ds μ2=>mtD b x ds μ2 else .bad:=rfl
noncomputable def jsW (m:Bool)(ik:IK)(ds:List D)(tg:Tg)(cond:S3->M->Out Bool)(elt:S3->M->Out D)(ρ:S3)(μ:M):Out D:=
 match itD ik ds μ with
 |some xs=>if xs.length<=sizeLine then(jdU (jdT ik ds xs) tg cond elt ρ xs μ).bind fun ys μ2=>mkL m ys μ2 else .bad
 |none=>.bad
theorem jry {m:Bool}{ik:IK}{ds xs ys:List D}{tg:Tg}{cond:S3->M->Out Bool}{elt:S3->M->Out D}{μ2:M}(h:itD ik ds μ=some xs)(hl:xs.length<=sizeLine)(hc:jdU (jdT ik ds xs) tg cond elt ρ xs μ=.ok ys μ2):jsW m ik ds tg cond elt ρ μ=mkL m ys μ2:=by
 unfold jsW;simp only[h];rw[if_pos hl,hc,jbT]
theorem jn9 {m:Bool}{own:Nat}{tg:Tg}{ik:IK}{es ifs:List E}{elt:E}:(ev G (.comp m own tg ik es ifs elt)).v ρ μ=(evL G es ρ μ).bind fun ds μ1=>jsW m ik ds tg (evTs G ifs) (ev G elt).v (List.replicate own none++ρ) μ1:=rfl
theorem jra {o1 o2:CmpOp}{a b c:E}:(ev G (.chain o1 o2 a b c)).v ρ μ=((ev G a).v ρ μ).bind fun x μ1=>((ev G b).v ρ μ1).bind fun y μ2=>(jdO o1 x y μ2).bind fun z μ3=>boD true (((ev G c).v ρ μ3).bind fun u μ4=>jdO o2 y u μ4) z μ3:=by
 show((ev G a).v ρ μ).bind _=_;congr 1
 funext x μ1
 congr 1
 funext y μ2
 congr 1
 funext z μ3
 cases z with
 |bl c=>cases c<;>rfl
 |_=>rfl
theorem jz0:evL G [] ρ μ=.ok [] μ:=rfl
theorem jzo {e:E}{es:List E}:evL G (e::es) ρ μ=((ev G e).v ρ μ).bind fun d μ1=>(evL G es ρ μ1).bind fun ds μ2=>.ok (d::ds) μ2:=rfl
theorem jz8:evTs G [] ρ μ=.ok true μ:=rfl
theorem jAc {e:E}:evTs G [e] ρ μ=(ev G e).t ρ μ:=rfl
noncomputable def tru (μ:M)(d:D):Out Bool:=
 match jyY μ d with
 |some b=>.ok b μ
 |none=>.bad
theorem jvm {op:CmpOp}{a b:E}:(ev G (.cmp op a b)).t ρ μ=((ev G (.cmp op a b)).v ρ μ).bind fun d μ1=>tru μ1 d:=rfl
theorem joS {o1 o2:CmpOp}{a b c:E}:(ev G (.chain o1 o2 a b c)).t ρ μ=((ev G (.chain o1 o2 a b c)).v ρ μ).bind fun d μ1=>tru μ1 d:=rfl
theorem juq {i:Nat}:(ev G (.var i)).t ρ μ=((ev G (.var i)).v ρ μ).bind fun d μ1=>tru μ1 d:=rfl
theorem jrO {f:Nat}{md:Md}{es:List E}:(ev G (.call f md es)).t ρ μ=((ev G (.call f md es)).v ρ μ).bind fun d μ1=>tru μ1 d:=rfl
theorem jxK {b:Bi}{m:Bool}{es:List E}:(ev G (.bi b m es)).t ρ μ=((ev G (.bi b m es)).v ρ μ).bind fun d μ1=>tru μ1 d:=rfl
theorem jtR {a:E}:(ev G (.isN a)).t ρ μ=((ev G (.isN a)).v ρ μ).bind fun d μ1=>tru μ1 d:=rfl
theorem jrk {a:E}:(ev G (.notN a)).t ρ μ=((ev G (.notN a)).v ρ μ).bind fun d μ1=>tru μ1 d:=rfl
theorem jvE {a:E}:(ev G (.not_ a)).t ρ μ=((ev G a).t ρ μ).bind fun c μ1=>.ok (!c) μ1:=rfl
theorem jti {a b:E}:(ev G (.and_ a b)).t ρ μ=((ev G a).t ρ μ).bind fun c μ1=>if c then(ev G b).t ρ μ1 else .ok false μ1:=rfl
theorem jyE {a b:E}:(ev G (.or_ a b)).t ρ μ=((ev G a).t ρ μ).bind fun c μ1=>if c then .ok true μ1 else(ev G b).t ρ μ1:=rfl
end
theorem jjU:∀zs:List Str,jg5 (zs.map D.str)=some zs
 |[]=>rfl
 |z::zs=>by rw[j0k];unfold jg5;rw[jjU zs];rfl
section
variable {μ:M}
theorem jwQ {b:Bool}:tru μ (.bl b)=.ok b μ:=rfl
theorem jxz {b:Bool}:jAX (.bl b) μ=.ok (.bl (!b)) μ:=rfl
theorem jAa {k c:Bool}{o:Out D}:boD k o (.bl c) μ=if c=k then o else .ok (.bl c) μ:=rfl
theorem jxS:jlo (.ok [] μ)=.ok none μ:=rfl
theorem jwS {i:Int}:jlo (.ok [.int i] μ)=.ok (some i) μ:=rfl
theorem juE {m:Bool}{i j:Int}:jiV .Add m (.int i) (.int j) μ=.ok (.int (i+j)) μ:=nr rfl
theorem jtT {m:Bool}{i j:Int}:jiV .Sub m (.int i) (.int j) μ=.ok (.int (i - j)) μ:=if_pos trivial
theorem jiF {m:Bool}{i j:Int}(h : -18446744073709551616<i)(h2:i<18446744073709551616):jiV .Mult m (.int i) (.int j) μ=.ok (.int (i*j)) μ:=if_pos (.inl ⟨h,h2⟩)
theorem jfv {m:Bool}{i j:Int}(h : -18446744073709551616<j)(h2:j<18446744073709551616):jiV .Mult m (.int i) (.int j) μ=.ok (.int (i*j)) μ:=if_pos (.inr ⟨h,h2⟩)
theorem jls {m:Bool}{i j:Int}(h:0<j)(h2:j<18446744073709551616):jiV .FloorDiv m (.int i) (.int j) μ=.ok (.int (i / j)) μ:=if_pos ⟨h,h2⟩
theorem je1 {m:Bool}{i j:Int}(h:0<j):jiV .Mod m (.int i) (.int j) μ=.ok (.int (i % j)) μ:=if_pos h
theorem jtV {m:Bool}{i j:Int}(h:0<=j)(h1:j<=1000000)(h2:i.natAbs<18446744073709551616):jiV .Pow m (.int i) (.int j) μ=.ok (.int (i ^ j.toNat)) μ:=if_pos ⟨h,h1,h2⟩
theorem jpF {m:Bool}{j:Int}(h:0<=j)(h1:j<=1000000):jiV .Pow m (.int 10) (.int j) μ=.ok (.int (10 ^ j.toNat)) μ:=jtV h h1 (by decide)
theorem jme {m:Bool}{x y:Str}(h:x.length+y.length<=sizeLine):jiV .Add m (.str x) (.str y) μ=.ok (.str (x++y)) μ:=if_pos h
theorem jlg {m:Bool}{z:Str}{l h:Option Int}(hz:z.length<=sizeLine):slD m (.str z) l h μ=.ok (.str (Txt.slice z l h)) μ:=if_pos hz
theorem jpK {z:Str}{ys:List Str}(h:(ys.map (·.length)).sum+ys.length*z.length<=16777216):mtD .join (.str z) [.lst (ys.map D.str)] μ=.ok (.str (Txt.join z ys)) μ:=by
 have e:jf1 μ (.lst (ys.map D.str))=some (ys.map D.str):=nr rfl;simp only[mtD,jq5,e,jjU,h,if_true]
theorem jxP {i j:Int}:jdO .Lt (.int i) (.int j) μ=.ok (.bl (decide (i<j))) μ:=nr rfl
theorem jxW {i j:Int}:jdO .LtE (.int i) (.int j) μ=.ok (.bl (decide (i<=j))) μ:=nr rfl
theorem jxH {i j:Int}:jdO .Gt (.int i) (.int j) μ=.ok (.bl (decide (j<i))) μ:=nr rfl
theorem jwq {i j:Int}:jdO .GtE (.int i) (.int j) μ=.ok (.bl (decide (j<=i))) μ:=nr rfl
theorem jtb {i j:Int}:jdO .Eq (.int i) (.int j) μ=.ok (.bl (decide (i=j))) μ:=by
 show Out.ok (D.bl (decide (V.int i=V.int j))) μ=_;simp
theorem juS {i j:Str}:jdO .Eq (.str i) (.str j) μ=.ok (.bl (decide (i=j))) μ:=by
 show Out.ok (D.bl (decide (V.str i=V.str j))) μ=_;simp
theorem jtf {i j:Int}:jdO .NotEq (.int i) (.int j) μ=.ok (.bl (!decide (i=j))) μ:=by
 show Out.ok (D.bl (!decide (V.int i=V.int j))) μ=_;simp
theorem juv {i j:Str}:jdO .NotEq (.str i) (.str j) μ=.ok (.bl (!decide (i=j))) μ:=by
 show Out.ok (D.bl (!decide (V.str i=V.str j))) μ=_;simp
theorem jzc {ds:List D}:mkL false ds μ=.ok (.lst ds) μ:=rfl
theorem jzO {ds:List D}:mkL true ds μ=.ok (.cel μ.length) (μ++[some (.lst ds)]):=rfl
theorem jaI {ik:IK}{ds xs:List D}(h:itD ik ds μ=some xs):jdT ik ds xs μ=true:=jgX.mpr h
theorem jfw {c:Cl}:(μ++[some c])[μ.length]?=some (some c):=by simp
theorem jvM {g:FnE}{G:List FnE}{f:Nat}{md:Md}{ds:List D}:jfx (g::G) (f+1) md ds μ=jfx G f md ds μ:=rfl
theorem jtX {g:FnE}{G:List FnE}{md:Md}{ds:List D}:jfx (g::G) 0 md ds μ=jao md g.F ds μ:=rfl
theorem jcZ {F:Fn}{ds:List D}{d d':D}{ν:M}(h:F ds μ=.ok d (μ++ν))(hd:jmF (μ++ν) μ.length d=some d'):jao .frz F ds μ=.ok d' μ:=by
 unfold jao;simp only[h];rw[if_pos (by simp),hd]
theorem jaj {F:Fn}{ds:List D}{d:D}(h:F ds μ=.ok d μ)(hd:jmF μ μ.length d=some d):jao .frz F ds μ=.ok d μ:=by
 have:=jcZ (ν:=[]) (by rw[j0C];exact h) (by rw[j0C];exact hd);exact this
end
section
variable {μ:M}
theorem jn0 {z:Str}:jpP .join (.str z) μ=true:=rfl
theorem jmI {z:Str}:jpP .split (.str z) μ=true:=rfl
theorem jqN {xs:List D}:jpP .append (.cel μ.length) (μ++[some (.lst xs)])=true:=by simp[jpP]
theorem jrX {xs:List D}:jpP .extend (.cel μ.length) (μ++[some (.lst xs)])=true:=by simp[jpP]
theorem jgq {xs:List D}{d:D}(h:xs.length<sizeLine):mtD .append (.cel μ.length) [d] (μ++[some (.lst xs)])=.ok .non (μ++[some (.lst (xs++[d]))]):=by
 simp[mtD,jz,h]
end
theorem jbA {ok:M->Bool}{tg:Tg}{body:S3->M->Out Fl}{fg:List Nat}{ρ:S3}{μ:M}(h:ok μ=true):jc9 ok tg body fg [] ρ μ=.ok (.nx (forget fg ρ)) μ:=by
 unfold jc9;rw[if_pos h]
theorem ja0 {ok:M->Bool}{tg:Tg}{body:S3->M->Out Fl}{fg:List Nat}{ρ ρ1 ρ2:S3}{μ μ2:M}{d:D}{ds:List D}(h:ok μ=true)(ha:jkC tg d ρ=some ρ1)(hb:body ρ1 μ=.ok (.nx ρ2) μ2):jc9 ok tg body fg (d::ds) ρ μ=jc9 ok tg body fg ds (forget fg ρ2) μ2:=by
 rw[jc9,if_pos h,ha];simp only[hb]
theorem jqB {ok:M->Bool}{tg:Tg}{body:S3->M->Out Fl}{fg:List Nat}{ρ ρ1:S3}{μ μ2:M}{d r:D}{ds:List D}(h:ok μ=true)(ha:jkC tg d ρ=some ρ1)(hb:body ρ1 μ=.ok (.rt r) μ2):jc9 ok tg body fg (d::ds) ρ μ=.ok (.rt r) μ2:=by
 rw[jc9,if_pos h,ha];simp only[hb]
theorem jpT {ok:M->Bool}{tg:Tg}{cond:S3->M->Out Bool}{elt:S3->M->Out D}{ρ:S3}{μ:M}(h:ok μ=true):jdU ok tg cond elt ρ [] μ=.ok [] μ:=by
 unfold jdU;rw[if_pos h]
theorem jnv {ok:M->Bool}{tg:Tg}{cond:S3->M->Out Bool}{elt:S3->M->Out D}{ρ ρ1:S3}{μ:M}{d:D}{ds:List D}(h:ok μ=true)(ha:jkC tg d ρ=some ρ1):jdU ok tg cond elt ρ (d::ds) μ=(cond ρ1 μ).bind fun b μ1=>if b then(elt ρ1 μ1).bind fun y μ2=>(jdU ok tg cond elt ρ ds μ2).bind fun ys μ3=>.ok (y::ys) μ3 else jdU ok tg cond elt ρ ds μ1:=by
 rw[jdU,if_pos h,ha]
theorem jj8 {α:Type}{ok:M->Bool}{tg:Tg}{cond:S3->M->Out Bool}{elt:S3->M->Out D}{ρ:S3}{μ:M}(h:ok μ=true){e:α->D}{c:α->Bool}{f:α->D}:∀(xs:List α),(∀x∈xs,∃ρ1,jkC tg (e x) ρ=some ρ1/\cond ρ1 μ=.ok (c x) μ/\(c x=true->elt ρ1 μ=.ok (f x) μ)) ->
  jdU ok tg cond elt ρ (xs.map e) μ=.ok ((xs.filter c).map f) μ
 |[],_=>jpT h
 |x::xs,hx=>by
  obtain⟨ρ1,h1,h2,h3⟩:=hx x (by simp);have ih:=jj8 (e:=e) (c:=c) (f:=f) h xs fun y hy=>hx y (by simp[hy]);rw[j0k,jnv h h1,h2,jbT]
  cases hc:c x with
  |true=>rw[if_pos rfl,h3 hc,jbT,ih,jbT,j1y hc,j0k]
  |false=>rw[if_neg j0i,ih,j1z (by simp[hc])]
theorem jax {α:Type}{G:List FnE}{m:Bool}{own:Nat}{tg:Tg}{ik:IK}{es ifs:List E}{elt:E}{ρ:S3}{μ:M}{ds:List D}{xs:List α}{e:α->D}(c:α->Bool)(f:α->D)(he:evL G es ρ μ=.ok ds μ)(hi:itD ik ds μ=some (xs.map e))(hl:xs.length<=sizeLine)
  (h:∀x∈xs,∃ρ1,jkC tg (e x) (List.replicate own none++ρ)=some ρ1/\evTs G ifs ρ1 μ=.ok (c x) μ/\(c x=true->(ev G elt).v ρ1 μ=.ok (f x) μ)):(ev G (.comp m own tg ik es ifs elt)).v ρ μ=mkL m ((xs.filter c).map f) μ:=by
 rw[jn9,he,jbT,jry hi (by rw[j0f];exact hl) (jj8 (jaI hi) xs h)]
theorem jdb {n:Nat}{μ:M}(h:n<=1000000):itD .rng1 [.int (n:Int)] μ=some ((List.range n).map fun(k:Nat)=>D.int (k:Int)):=by
 unfold itD jl5;dsimp only;rw[if_pos ⟨by omega,by omega⟩,Int.toNat_natCast]
theorem jec {zs:List Str}{i:Nat}(h:i<zs.length){μ:M}:ixD (.lst (zs.map D.str)) (.int (i:Int)) μ=.ok (.str (zs.getD i "")) μ:=by
 have e:atI (zs.map D.str) (i:Int)=some (.str (zs.getD i "")):=jfY (by simp[h]);show(match atI (zs.map D.str) (i:Int)with|some d=>Out.ok d μ|none=>.bad)=_;rw[e]
theorem jhc {zs:List Int}{i:Nat}(h:i<zs.length){μ:M}:ixD (.lst (zs.map D.int)) (.int (i:Int)) μ=.ok (.int (zs.getD i 0)) μ:=by
 have e:atI (zs.map D.int) (i:Int)=some (.int (zs.getD i 0)):=jfY (by simp[h]);show(match atI (zs.map D.int) (i:Int)with|some d=>Out.ok d μ|none=>.bad)=_;rw[e]
theorem sz0:(0<=sizeLine)=True:=by rw[sizeLine_eq];simp
theorem sz1:(1<=sizeLine)=True:=by rw[sizeLine_eq];simp
theorem sz2:(2<=sizeLine)=True:=by rw[sizeLine_eq];simp
theorem sz3:(3<=sizeLine)=True:=by rw[sizeLine_eq];simp
theorem sz4:(4<=sizeLine)=True:=by rw[sizeLine_eq];simp
theorem sz5:(5<=sizeLine)=True:=by rw[sizeLine_eq];simp
theorem sz6:(6<=sizeLine)=True:=by rw[sizeLine_eq];simp
theorem sz7:(7<=sizeLine)=True:=by rw[sizeLine_eq];simp
theorem sz8:(8<=sizeLine)=True:=by rw[sizeLine_eq];simp
theorem sz9:(9<=sizeLine)=True:=by rw[sizeLine_eq];simp
theorem jBu:(10<=sizeLine)=True:=by rw[sizeLine_eq];simp
theorem jA7:(11<=sizeLine)=True:=by rw[sizeLine_eq];simp
theorem jBp:(12<=sizeLine)=True:=by rw[sizeLine_eq];simp
theorem jat {α:Type}{h:Nat->Option D}{e:α->D}(he:∀x,jbp h (e x)=some (e x)):∀xs:List α,frzGs h (xs.map e)=some (xs.map e)
 |[]=>by unfold frzGs;rfl
 |x::xs=>by rw[j0k];unfold frzGs;rw[he x,jat he xs]
theorem jaL {h:Nat->Option D}{i:Int}:jbp h (.int i)=some (.int i):=by unfold jbp;rfl
theorem jcF {h:Nat->Option D}{i:Str}:jbp h (.str i)=some (.str i):=by unfold jbp;rfl
theorem jeD {h:Nat->Option D}{i:Bool}:jbp h (.bl i)=some (.bl i):=by unfold jbp;rfl
theorem jcg {h:Nat->Option D}:jbp h .non=some .non:=by unfold jbp;rfl
theorem jaY {h:Nat->Option D}{ds es:List D}(k:frzGs h ds=some es):jbp h (.tup ds)=some (.tup es):=by unfold jbp;rw[k];rfl
theorem jeq {h:Nat->Option D}{ds es:List D}(k:frzGs h ds=some es):jbp h (.lst ds)=some (.lst es):=by unfold jbp;rw[k];rfl
theorem jag {h:Nat->Option D}{d e:D}{ds es:List D}(k1:jbp h d=some e)(k2:frzGs h ds=some es):frzGs h (d::ds)=some (e::es):=by unfold frzGs;rw[k1,k2]
theorem jbP {h:Nat->Option D}:frzGs h []=some []:=by unfold frzGs;rfl
section
variable {G:List FnE} {ρ:S3} {μ:M}
theorem jz2 {f:Nat}:(ev G (.gl f)).v ρ μ=glD (jgk G f) μ:=rfl
theorem jvg {f:Nat}{a d:E}:(ev G (.gget f a d)).v ρ μ=((ev G a).v ρ μ).bind fun x μ1=>((ev G d).v ρ μ1).bind fun y μ2=>jvN (jgk G f) x y μ2:=rfl
theorem jxw {neg:Bool}{f:Nat}{a:E}:(ev G (.gin neg f a)).v ρ μ=((ev G a).v ρ μ).bind fun x μ1=>jzb neg (jgk G f) x μ1:=rfl
theorem jtn {neg:Bool}{f:Nat}{a:E}:(ev G (.gin neg f a)).t ρ μ=((ev G (.gin neg f a)).v ρ μ).bind fun d μ1=>tru μ1 d:=rfl
theorem jxf {f:Nat}{a:E}:(ev G (.gix f a)).v ρ μ=((ev G a).v ρ μ).bind fun x μ1=>jAL (jgk G f) x μ1:=rfl
theorem jse {g:FnE}{f:Nat}:jgk (g::G) (f+1)=jgk G f:=rfl
theorem jsl {g:FnE}:jgk (g::G) 0=g.dat:=rfl
theorem jyt {d:D}:glD (some (.cst d)) μ=.ok d μ:=rfl
theorem jqb {kvs:List (Str×D)}{z:Str}{y:D}:jvN (some (.dct kvs)) (.str z) y μ=.ok ((jlj z kvs).getD y) μ:=rfl
theorem jva {kvs:List (Str×D)}{z:Str}:jzb false (some (.dct kvs)) (.str z) μ=.ok (.bl (jlj z kvs).isSome) μ:=rfl
theorem jpr {c d:Bool}:jdO .IsNot (.bl c) (.bl d) μ=.ok (.bl (c !=d)) μ:=nr rfl
theorem jwY {c d:Bool}:jdO .Is (.bl c) (.bl d) μ=.ok (.bl (c==d)) μ:=nr rfl
end
end _L3
namespace _L2
open PySem PySem.Spec PyProof.Rows
section
variable {M:Model} {A:Around} {E:Value->Shared->Prop} {s:Shared}
end
section
variable {P:Program} {w:World} {K:PySem.W.Frag} {mg:Str->Option Value} {base:Heap} {N:List Str} {qual:Str} {scope0:Scope} {f:Addr} {cd:Value} {A:Around} {outer:List Env} {s0:Shared} {H0:Hp} {E:XK}
end
end _L2
namespace _L3
open PySem PySem.Spec PyProof.Rows _L2
theorem Rep.same {K:PySem.W.Frag}{w:Wd}{μ:M}{H H':Hp}(R:Rep K w μ H)(s:jfK H H'):Rep K w μ H':=
 ⟨R.sub.trans s,fun k c e=>⟨(R.liv k c e).1,(R.liv k c e).2.mono (Ext.refl _ _) (by obtain⟨o,q⟩:=(R.liv k c e).2.some;rw[q];exact s _ _ q)⟩,R.inj⟩
theorem jgt {H:Hp}{p:Addr}{o:HO}(h:H p=none):jfK H (upd H p o):=fun b u e=>by
 rw[jap (jau e h)];exact e
noncomputable def noX {α:Type}(o:Out α):Out α:=
 match o with
 |.ok a μ=>.ok a μ
 |_=>.bad
theorem jod {α:Type}{a:α}{μ:M}:noX (.ok a μ)=.ok a μ:=rfl
def Aft (K:PySem.W.Frag)(EX:Str->Hp->Prop)(w:Wd)(n:Nat){α:Type}(o:Out α)(P:α->M->Prop):Prop:=
 match o with
 |.ok a μ=>P a μ
 |.exc (.str c) μ=>∀w' H',Ext w w' n μ.length->Rep K w' μ H'->EX c H'
 |_=>False
section
variable {K:PySem.W.Frag} {EX:Str->Hp->Prop} {w w1:Wd} {n n1:Nat} {α β:Type}
theorem Aft.bind {o:Out α}{k:α->M->Out β}{P:β->M->Prop}{P':α->M->Prop}(h:Aft K EX w n (o.bind k) P)(f:∀a μ1,o=.ok a μ1->Aft K EX w n (k a μ1) P->P' a μ1):Aft K EX w n o P':=by
 cases o with
 |ok a μ1=>exact f a μ1 rfl h
 |exc x μ1=>cases x<;>exact h
 |bad=>exact h
theorem Aft.ext {o:Out α}{P P':α->M->Prop}(x:Ext w w1 n n1)(h:Aft K EX w n o P)(f:∀a μ1,o=.ok a μ1->P a μ1->P' a μ1):Aft K EX w1 n1 o P':=by
 cases o with
 |ok a μ1=>exact f a μ1 rfl h
 |exc y μ1=>
  cases y with
  |str c=>exact fun w' H' x' R'=>h w' H' (x.trans x') R'
  |_=>exact h
 |bad=>exact h
theorem Aft.noX {o:Out α}{P:α->M->Prop}(h:Aft K EX w n (noX o) P):∃a μ1,o=.ok a μ1/\P a μ1:=by
 cases o with
 |ok a μ1=>exact⟨a,μ1,rfl,h⟩
 |exc x μ1=>exact h.elim
 |bad=>exact h.elim
theorem Aft.noXb {o:Out α}{k:α->M->Out β}{P:β->M->Prop}(h:Aft K EX w n ((_L3.noX o).bind k) P):∃a μ1,o=.ok a μ1/\Aft K EX w n (k a μ1) P:=by
 cases o with
 |ok a μ1=>exact⟨a,μ1,rfl,h⟩
 |exc x μ1=>exact h.elim
 |bad=>exact h.elim
end
noncomputable abbrev jhG (K:PySem.W.Frag) (w:Wd) (n:Nat) (D:Ends):Fl->M->Prop:=fun fl μ'=>∀w' H',Ext w w' n μ'.length->Rep K w' μ' H'->jzR K w' μ'.length H' D fl
def jAG (K:PySem.W.Frag)(EX:Str->Hp->Prop)(r:S3->M->Out D):TE:=fun σ H Q=>∃(w:Wd) (μ:M) (ρ:S3),Rep K w μ H/\jby K w μ.length ρ σ/\Aft K EX w μ.length (r ρ μ) fun d μ'=>jjA K w μ.length d μ' Q
def jlI (K:PySem.W.Frag)(EX:Str->Hp->Prop)(r:S3->M->Out Fl):TS:=fun D σ H=>∃(w:Wd) (μ:M) (ρ:S3),Rep K w μ H/\jby K w μ.length ρ σ/\Aft K EX w μ.length (r ρ μ) (jhG K w μ.length D)
def exM (mg:Str->Option Value)(E:XK)(c:Str)(H:Hp):Prop:=∃C,mg c=some (.ref C)/\E (.ref C) none H
noncomputable def spY (K:PySem.W.Frag)(mg:Str->Option Value)(np:Nat)(F:Fn):Sp:=fun vs H Q E=>vs.length=np/\∃(w:Wd) (μ:M) (ds:List D),Rep K w μ H/\DenL K w μ.length ds vs/\Aft K (exM mg E) w μ.length (F ds μ) fun d μ'=>jjA K w μ.length d μ' Q
inductive XE where
 |call (f:Nat) (md:Md) (es:List E)
inductive SY where
 |st (s:S)|asg (tg:Tg) (e:XE)|ex (e:XE)|ret (e:XE)|ite (c:E) (a b:List SY)|for_ (tg:Tg) (ik:IK) (es:List E) (body:List SY) (fg:List Nat)|raise (cls:Str) (e:E)
noncomputable def mkF (C:Addr)(F:Fn):Fn:=fun ds μ=>match F (.cel μ.length::ds) (μ++[some (.obj C [] [])])with
 |.ok .non μ'=>.ok (.cel μ.length) μ'
 |.exc x μ'=>.exc x μ'
 |_=>.bad
section
variable (G:List FnE)
noncomputable def evX:XE->S3->M->Out D
 |.call f md es,ρ,μ=>(noX (evL G es ρ μ)).bind fun ds μ1=>jfx G f md ds μ1
mutual
noncomputable def jjT:SY->S3->M->Out Fl
 |.st s,ρ,μ=>noX (run G s ρ μ)
 |.asg tg e,ρ,μ=>(evX G e ρ μ).bind fun d μ1=>match jkC tg d ρ with
  |some ρ1=>.ok (.nx ρ1) μ1
  |none=>.bad
 |.ex e,ρ,μ=>(evX G e ρ μ).bind fun _ μ1=>.ok (.nx ρ) μ1
 |.ret e,ρ,μ=>(evX G e ρ μ).bind fun d μ1=>.ok (.rt d) μ1
 |.ite c a b,ρ,μ=>(noX ((ev G c).t ρ μ)).bind fun k μ1=>if k then runYs a ρ μ1 else runYs b ρ μ1
 |.for_ tg ik es body fg,ρ,μ=>(noX (evL G es ρ μ)).bind fun ds μ1=>match itD ik ds μ1 with
  |some xs=>jc9 (jdT ik ds xs) tg (runYs body) fg xs ρ μ1
  |none=>.bad
 |.raise cls e,ρ,μ=>(noX ((ev G e).v ρ μ)).bind fun _ μ1=>.exc (.str cls) μ1
noncomputable def runYs:List SY->S3->M->Out Fl
 |[],ρ,μ=>.ok (.nx ρ) μ
 |s::ss,ρ,μ=>match jjT s ρ μ with
  |.ok (.nx ρ1) μ1=>runYs ss ρ1 μ1
  |r=>r
end
noncomputable def fnY (np nl:Nat)(body:List SY):Fn:=fun ds μ=>if ds.length=np then match runYs G body (ds.map some++List.replicate nl none) μ with
  |.ok (.rt d) μ1=>.ok d μ1
  |.ok (.nx _) μ1=>.ok .non μ1
  |.ok _ _=>.bad
  |.exc x μ1=>.exc x μ1
  |.bad=>.bad
 else .bad
end
noncomputable def jkK:Stmt->Option Expr
 |.Raise e c _=>match c with
  |none=>e
  |some _=>none
 |_=>none
theorem jm9 {s:Stmt}{e:Expr}(h:jkK s=some e):∃p,s=.Raise (some e) none p:=by
 unfold jkK at h;split at h
 ·split at h
  ·subst h;exact⟨_,rfl⟩
  ·cases h
 ·cases h
noncomputable def jgp (s:Stmt):Option (Str×Expr):=
 match jkK s with
 |some e=>match jhk e with
  |some (y,as)=>match as with
   |[a]=>some (y,a)
   |_=>none
  |none=>none
 |none=>none
theorem jk3 {y:Str}{a:Expr}{s:Stmt}(h:jgp s=some (y,a)):∃np cpos rpos,s=.Raise (some (.Call (.Name y np) [a] [] cpos)) none rpos:=by
 unfold jgp at h;split at h
 ·rename_i e he;split at h
  ·rename_i y as hc;split at h
   ·rename_i a;cases h;obtain⟨p,rfl⟩:=jm9 he;obtain⟨q,r,rfl⟩:=jd0 hc;exact⟨_,_,_,rfl⟩
   ·cases h
  ·cases h
 ·cases h
section
variable (G:List FnE) (j:Nat) (rx:List Nat) (cs:List Str)
noncomputable def jkr:XE->Stt->Expr->Bool
 |.call f md es,c,e=>rx.contains f&&chk G j (.call f md es) c e
mutual
noncomputable def jz6:SY->Stt->Stmt->Bool
 |.st s,c,st=>jvR G j s c st
 |.asg tg e,c,st=>match st with
  |.Assign [t] v _=>jkr G j rx e c v&&jcS c tg t&&!c.cmp&&tgV tg v&&notComp v
  |_=>false
 |.ex e,c,st=>match st with
  |.Expr v _=>jkr G j rx e c v&&notComp v
  |_=>false
 |.ret e,c,st=>match st with
  |.Return (some v) _=>jkr G j rx e c v
  |_=>false
 |.ite k a b,c,st=>match st with
  |.If x ss tt _=>chk G j k c x&&tst x&&chkYs a c ss&&chkYs b c tt
  |_=>false
 |.for_ tg ik es body _,c,st=>match st with
  |.For t it ss [] _=>jeG it&&(match jdN c ik t it with
   |some as=>chkL G j es c as
   |none=>false)&&jcS c tg t&&chkYs body c ss
  |_=>false
 |.raise cls e,c,st=>match jgp st with
  |some (y,a)=>y==cls&&jbj c.sc cls&&!(cls==("__debug__" : Str))&&cs.contains cls&&jak a&&chk G j e c a
  |none=>false
noncomputable def chkYs:List SY->Stt->List Stmt->Bool
 |[],_,[]=>true
 |s::ss,c,t::ts=>jz6 s c t&&chkYs ss c ts
 |_,_,_=>false
end
end
structure OkX (G:List FnE) (j:Nat) (rx:List Nat) (E:XK) (c:Stt) (X:Cx):Prop extends Ok G j c X where
 hP:jf9 (CX1 X.prog X.w) X E
 hx:∀i∈rx,∀g,G[i]?=some g->g.lv<=j->CalG (CX1 X.prog X.w) X.prog X.w X.K X.mg X.base g.lv g.name g.ps (spY X.K X.mg g.ps.length g.F)
 top:c.cmp=false->∃P w K mg base N qual scope f cd A outer s0 H0,X=jjC (CX1 P w) P w K mg base N qual scope f cd A outer s0 H0 E
structure OkY (G:List FnE) (j:Nat) (rx:List Nat) (cs:List Str) (E:XK) (c:Stt) (X:Cx):Prop extends OkX G j rx E c X,OkS G j c X where
 rs:∀cls∈cs,jbj c.sc cls=true->(cls==("__debug__" : Str))=false->∃C,X.mg cls=some (.ref C)/\∀(a:Expr) (te:TE),jak a=true->PE X a te->∀(np cpos rpos:Pos),PS X (.Raise (some (.Call (.Name cls np) [a] [] cpos)) none rpos) (fun _ σ H=>te σ H fun v H1=>[v].length<=sizeLine/\E (.ref C) none H1)
section
variable {K:PySem.W.Frag} {X:Cx} {G:List FnE} {j:Nat} {rx:List Nat} {cs:List Str} {E:XK} {c:Stt} {EX:Str->Hp->Prop}
theorem jk {mg:Str->Option Value}{md:Md}{F:Fn}{np:Nat}{w1:Wd}{μ1:M}{H1:Hp}{ds:List D}{vs:List V}{Q:VK}(hl:ds.length=np)(R1:Rep K w1 μ1 H1)(l1:DenL K w1 μ1.length ds vs)(a:Aft K (exM mg E) w1 μ1.length (jao md F ds μ1) fun d μ'=>jjA K w1 μ1.length d μ' Q):spY K mg np F vs H1 Q E:=by
 cases e:jao md F ds μ1 with
 |bad=>rw[e]at a;exact a.elim
 |ok d μ'=>
  rw[e]at a;obtain⟨h1,w,μ,ds',d',μ'',R,l,e',q⟩:=jmt (K:=K) (EX:=E0) hl R1 l1 e a;refine⟨h1,w,μ,ds',R,l,?_⟩;rw[e'];exact q
 |exc x μ'=>
  rw[e]at a
  cases x with
  |str cl=>
   refine⟨by rw[<- jad l1];exact hl,w1,μ1,ds,R1,l1,?_⟩;have hfz:∀{μ0:M} {x0:D},jmF μ0 μ1.length x0=some (.str cl)->x0=.str cl:=fun {μ0 x0} h=>by
    unfold jmF at h
    cases x0 with
    |str z=>unfold jbp at h;exact j0H h
    |cel k=>
     unfold jbp at h;unfold jkB at h;split at h
     ·cases h
     ·split at h
      ·cases h
      ·dsimp only at h;split at h<;>first|(cases h;done)|(obtain⟨_,_,z⟩:=jaH h;cases z)
    |non=>unfold jbp at h;cases h
    |bl _=>unfold jbp at h;cases h
    |int _=>unfold jbp at h;cases h
    |ty _=>unfold jbp at h;cases h
    |tup _=>unfold jbp at h;obtain⟨_,_,z⟩:=jaH h;cases z
    |lst _=>unfold jbp at h;obtain⟨_,_,z⟩:=jaH h;cases z
    |scr _=>unfold jbp at h;obtain⟨_,_,z⟩:=jaH h;cases z
    |dK _ _=>unfold jbp at h;obtain⟨_,_,z⟩:=jaH h;cases z
    |dT _ _=>unfold jbp at h;obtain⟨_,_,z⟩:=jaH h;cases z
    |dF _ _=>unfold jbp at h;obtain⟨_,_,z⟩:=jaH h;cases z
    |obj _ _ _=>unfold jbp at h;obtain⟨_,_,z⟩:=jaH h;cases z
   have fin:∀{μ0:M},F ds μ1=.exc (.str cl) μ0->μ0.take μ1.length=μ1->μ'=μ1->Aft K (exM mg E) w1 μ1.length (F ds μ1) fun d μ'=>jjA K w1 μ1.length d μ' Q:=fun {μ0} e0 ht hμ=>by
    rw[e0];intro w2 H2 x2 R2;subst hμ;obtain⟨w3,x3,R3,_⟩:=jnS (keep:=[]) (cs:=[]) R1 x2 R2 ht List.nodup_nil (fun k h=>by cases h) rfl;simp only[j0F,j0C]at x3 R3;exact a w3 H2 x3 R3
   cases md with
   |raw=>
    have e2:F ds μ1=.exc (.str cl) μ':=e;rw[e2];exact a
   |frz=>
    simp only[jao]at e;split at e
    ·split at e
     ·split at e<;>cases e
     ·cases e
    ·rename_i x0 μ0 e0;split at e
     ·rename_i ht;split at e
      ·rename_i x' hx';simp only[Out.exc.injEq]at e;obtain⟨rfl,rfl⟩:=e;have:=hfz hx';subst this;exact fin e0 ht rfl
      ·cases e
     ·cases e
    ·cases e
   |new=>
    simp only[jao]at e;split at e
    ·split at e
     ·split at e<;>cases e
     ·cases e
    ·rename_i x0 μ0 e0;split at e
     ·rename_i ht;split at e
      ·rename_i x' hx';simp only[Out.exc.injEq]at e;obtain⟨rfl,rfl⟩:=e;have:=hfz hx';subst this;exact fin e0 ht rfl
      ·cases e
     ·cases e
    ·cases e
  |_=>exact a.elim
theorem jxJ {mg:Str->Option Value}{C:Addr}{F:Fn}{np:Nat}{vs:List V}{H:Hp}{Q:VK}{x dx:Addr}(h:spY K mg np (mkF C F) vs H Q E)(hx:H x=none)(hdx:H dx=none)(ne:dx≠x) :
  spY K mg (np+1) F (.ref x::vs) (upd (upd H dx (.own x)) x (.ins C dx [])) (fun v H2=>v=.non/\Q (.ref x) H2) E:=by
 obtain⟨hl,w,μ,ds,R,l,a⟩:=h;have R0:Rep K w μ (upd H dx (.own x)):=R.same (jgt hdx);have hx':(upd H dx (.own x)) x=none:=by rw[jap (Ne.symm ne)];exact hx
 obtain⟨w',R',x1,hg⟩:=R0.cell hx' (.ins C dx []) (.obj C [] []) (fun w' x=>⟨dx,[],rfl,by rw[jaz];rfl,by unfold DenL;rfl⟩);have hlen:(μ++[some (Cl.obj C [] [])]).length=μ.length+1:=by simp
 refine⟨by simp[hl],w',μ++[some (.obj C [] [])],.cel μ.length::ds,R',?_,?_⟩
 ·rw[hlen];unfold DenL;exact⟨.ref x,vs,rfl,by unfold Den;exact⟨j0W _,by rw[hg]⟩,l.mono x1⟩
 ·rw[hlen];unfold mkF at a
  cases e:F (.cel μ.length::ds) (μ++[some (.obj C [] [])])with
  |bad=>rw[e]at a;exact a
  |exc y μ'=>
   rw[e]at a
   cases y with
   |str c=>exact fun w2 H2 x2 R2=>a w2 H2 (x1.trans x2) R2
   |_=>exact a
  |ok d μ'=>
   rw[e]at a
   cases d with
   |non=>
    intro w2 H2 v x2 R2 dv;refine⟨by unfold Den at dv;exact dv,a w2 H2 (.ref x) (x1.trans x2) R2 ?_⟩;unfold Den;exact⟨j0o (j0W _) x2.le,by rw[x2.g _ (j0W _),hg]⟩
   |_=>exact a.elim
theorem jt8:∀(x:XE) {c:Stt} {X:Cx} {e:Expr},OkX G j rx E c X->jkr G j rx x c e=true->PE X e (jAG X.K (exM X.mg E) (evX G x))
 |.call f md es,c,X,e,o,h=>by
  have h':(rx.contains f&&chk G j (.call f md es) c e)=true:=h;clear h;simp only[j0a]at h';obtain⟨hf,h⟩:=h';have hh:=jgl (P:=fun x _ y ys _=>(match G[f]? with
   |some g=>g.name==x&&jbj c.sc x&&es.length==g.ps.length&&decide (g.lv<=j)
   |none=>false)&&chkL G j es c (y::ys)&&jah (y::ys)) h
  clear h;obtain⟨x,q,y,ys,p,rfl,h⟩:=hh;simp only[j0a]at h;obtain⟨⟨h1,h2⟩,h3⟩:=h;split at h1
  ·rename_i g hg;simp only[j0a,beq_iff_eq,decide_eq_true_eq]at h1;obtain⟨⟨⟨a1,a2⟩,a3⟩,a4⟩:=h1;subst a1;have hA:=(sndL es o.toOk h2).1;refine imE (jr9 (o.hx f (by simpa using hf) g hg a4) o.room a4 (ja7 o.toOk a2) o.hP T3A.mono hA h3) fun σ H Q=>?_;rintro⟨w,μ,ρ,R,S,a⟩;obtain⟨ds,μ1,e1,a⟩:=a.noXb;unfold jfx at a;rw[hg]at a;refine⟨w,μ,ρ,ds,μ1,R,S,e1,fun w1 H1 vs x1 R1 d1=>?_⟩;show spY X.K X.mg g.ps.length g.F (vs++[]) H1 Q E;rw[j0C];exact jk ((ji4 e1).trans a3) R1 d1 (a.ext x1 fun d μ' _ q w2 H2 v x2 R2 d2=>q w2 H2 v (x1.trans x2) R2 d2)
  ·cases h1
theorem jo2 {tg:Tg}{x:XE}{g:TG}(hT:juN K tg g){D:Ends}{σ:_L2.St}{H:Hp}:jlI K EX (jjT G (.asg tg x)) D σ H->jvS (jAG K EX (evX G x)) g D σ H:=by
 rintro⟨w,μ,ρ,R,S,a⟩
 have a':Aft K EX w μ.length ((evX G x ρ μ).bind fun d μ1=>match jkC tg d ρ with
  |some ρ1=>.ok (.nx ρ1) μ1
  |none=>.bad) (jhG K w μ.length D):=a
 refine⟨w,μ,ρ,R,S,a'.bind fun d μ1 e1 a1 w1 H1 v x1 R1 d1=>?_⟩;split at a1
 ·rename_i ρ1 ha;exact hT w1 _ H1 ρ ρ1 σ d v D.nx R1 (S.mono x1) d1 ha fun σ' S'=>a1 w1 H1 x1 R1 σ' S'
 ·exact a1.elim
theorem T3S.x {r:S3->M->Out Fl}{D:Ends}{σ:_L2.St}{H:Hp}:jlI K EX (fun ρ μ=>noX (r ρ μ)) D σ H->T3S K r D σ H:=by
 rintro⟨w,μ,ρ,R,S,a⟩;obtain⟨fl,μ1,e1,q⟩:=a.noX;exact⟨w,μ,ρ,fl,μ1,R,S,e1,q⟩
theorem jrz (o:OkY G j rx cs E c X){tg:Tg}{x:XE}{t v:Expr}{pos:Pos}(he:jkr G j rx x c v=true)(ht:jcS c tg t=true)(hcm:c.cmp=false)(hx:tgV tg v=true)(hc:notComp v=true):PS X (.Assign [t] v pos) (jlI X.K (exM X.mg E) (jjT G (.asg tg x))):=by
 have k:=jt8 x o.toOkX he;obtain⟨hg,hst⟩:=jm8 o.toOk ht
 cases tg with
 |tp is=>
  simp only[tgV,j0a,j0O]at hx;have hst2:swappedStores [t] v X.env=pure none:=by
   cases t with
   |Tuple es k p=>exact jfP hx.2
   |_=>cases ht
  exact imS (jpU k hg (show swapsWith v (some t) pos.line X.env=pure false from jbg hx.1) hst2 (by rw[jfB hst];rfl)) fun D σ H q=>jo2 (jeC _) q
 |nm i=>
  have ht':jjL c i t=true:=ht;unfold jjL at ht';split at ht'
  ·rename_i y px;rw[hcm]at ht';have hok:jhT c.N c.sc i y=true:=ht';have hok':jhT X.N X.env.scope i y=true:=by rw[o.hN,o.sc];exact hok
   exact imS (jiE (by rw[o.hN];exact o.nd) hok' k hc (o.fn hcm y)) fun D σ H q=>jo2 (g:=jfd i) (jeC (.nm i)) q
  ·cases ht'
theorem jqm (o:OkY G j rx cs E c X){k:_L3.E}{a b:List SY}{x:Expr}{ss tt:List Stmt}{pos:Pos}(hk:chk G j k c x=true)(ht:tst x=true)(ha:PSs X ss (jlI X.K (exM X.mg E) (runYs G a)))(hb:PSs X tt (jlI X.K (exM X.mg E) (runYs G b))):PS X (.If x ss tt pos) (jlI X.K (exM X.mg E) (jjT G (.ite k a b))):=by
 refine imS (juM ((snd k o.toOk hk).t ht) ha hb) fun D σ H=>?_;rintro⟨w,μ,ρ,R,S,a⟩;obtain⟨b',μ1,a1,a⟩:=a.noXb;refine⟨w,μ,ρ,b',μ1,R,S,a1,fun w1 H1 x1 R1=>?_⟩;have sh:∀r:Out Fl,Aft X.K (exM X.mg E) w μ.length r (jhG X.K w μ.length D)->Aft X.K (exM X.mg E) w1 μ1.length r (jhG X.K w1 μ1.length D):=fun r h=>h.ext x1 fun fl μ' _ q w2 H2 x2 R2=>q w2 H2 (x1.trans x2) R2;dsimp only
 cases b' with
 |true=>
  rw[if_pos rfl]at a ⊢;exact⟨w1,μ1,ρ,R1,S.mono x1,sh _ a⟩
 |false=>
  rw[if_neg j0i]at a ⊢;exact⟨w1,μ1,ρ,R1,S.mono x1,sh _ a⟩
def jym (K:PySem.W.Frag)(EX:Str->Hp->Prop)(DD:Ends)(w1:Wd)(n1:Nat)(ok:M->Bool)(tg:Tg)(body:S3->M->Out Fl)(fg:List Nat)(xs:List D)(i:Nat)(σ:_L2.St)(H:Hp):Prop:=
 i<=xs.length/\∃(w2:Wd) (μ:M) (ρ':S3),Ext w1 w2 n1 μ.length/\Rep K w2 μ H/\jby K w2 μ.length ρ' σ/\Aft K EX w2 μ.length (jc9 ok tg body fg (xs.drop i) ρ' μ) (jhG K w2 μ.length DD)
theorem jtr {w:Wd}{n:Nat}{ok:M->Bool}{tg:Tg}{body:S3->M->Out Fl}{fg:List Nat}{xs:List D}{ρ:S3}{μ:M}{P:Fl->M->Prop}(a:Aft K EX w n (jc9 ok tg body fg xs ρ μ) P):ok μ=true:=by
 cases xs<;>(unfold jc9 at a;split at a<;>first|assumption|exact a.elim)
theorem jq0 {ok:M->Bool}{tg:Tg}{g:TG}{body:S3->M->Out Fl}{fg:List Nat}{ρ:S3}{σ:_L2.St}{J:It}{xs:List _L3.D}{w1:Wd}{μ1:M}{H1:Hp}{D:Ends}(hT:juN K tg g)(R1:Rep K w1 μ1 H1)(S1:jby K w1 μ1.length ρ σ)
  (hJ:jt7 K w1 μ1.length ok xs J) (a:Aft K EX w1 μ1.length (jc9 ok tg body fg xs ρ μ1) (jhG K w1 μ1.length D)):Lop J g (jlI K EX body) D σ H1:=by
 refine⟨fun i n σ' H=>n=xs.length - i/\jym K EX D w1 μ1.length ok tg body fg xs i σ' H,
  ⟨xs.length,by simp,j1r _,w1,μ1,ρ,Ext.refl _ _,R1,S1,a⟩,?_⟩
 rintro i n σ' H ⟨rfl,hi,w2,μ,ρ',x2,R2,S2,ef⟩;have hok:=jtr ef;obtain⟨hstop,hgo⟩:=hJ w2 μ H x2 R2 hok;by_cases hlt:i<xs.length
 ·obtain⟨d0,hd0,hdr⟩:=jgI hlt;obtain⟨g1,g2⟩:=hgo i d0 hd0;rw[hdr]at ef;unfold jc9 at ef;rw[if_pos hok]at ef;split at ef
  ·rename_i ρ1 has;refine .inr ⟨g1,jym K EX D w1 μ1.length ok tg body fg xs (i+1),
    fun σ'' H' r=>⟨xs.length - (i+1),by omega,rfl,r⟩,fun x H3 hyl=>?_⟩
   obtain⟨w3,x3,R3,d3⟩:=g2 x H3 hyl;refine hT w3 μ H3 _ ρ1 _ d0 x _ R3 (S2.mono x3) d3 has fun σ2 S3'=>?_;refine⟨w3,μ,ρ1,R3,S3',?_⟩;have sh:∀{w4:Wd} {μa:M} {r:Out Fl},Ext w3 w4 μ.length μa.length->Aft K EX w2 μ.length r (jhG K w2 μ.length D)->Aft K EX w4 μa.length r (jhG K w4 μa.length D):=fun x4 h=>h.ext (x3.trans x4) fun fl μ' _ q w5 H5 x5 R5=>q w5 H5 ((x3.trans x4).trans x5) R5;split at ef
   ·rename_i ρ2 μa eb;rw[eb];exact fun w4 H4 x4 R4 σ4 S4=>⟨hlt,w4,μa,_,(x2.trans x3).trans x4,R4,S4.forget fg,sh x4 ef⟩
   ·rename_i ρ2 μa eb;rw[eb];exact fun w4 H4 x4 R4 σ4 S4=>⟨hlt,w4,μa,_,(x2.trans x3).trans x4,R4,S4.forget fg,sh x4 ef⟩
   ·rename_i ρ2 μa eb;rw[eb];exact fun w4 H4 x4 R4 σ4 S4=>ef w4 H4 (x3.trans x4) R4 σ4 (S4.forget fg)
   ·rename_i d μa eb;rw[eb];exact fun w4 H4 x4 R4 v4 d4=>ef w4 H4 (x3.trans x4) R4 v4 d4
   ·rename_i y μa eb;rw[eb];exact Aft.ext (o:=(.exc y μa:Out Fl)) x3 ef fun _ _ z=>by cases z
   ·exact ef.elim
  ·exact ef.elim
 ·have ei:i=xs.length:=by omega
  subst ei;rw[List.drop_length]at ef;unfold jc9 at ef;rw[if_pos hok]at ef;exact .inl ⟨hstop,ef w2 H (Ext.refl _ _) R2 σ' (S2.forget fg)⟩
theorem jqP (o:OkY G j rx cs E c X){tg:Tg}{ik:IK}{es:List _L3.E}{body:List SY}{fg:List Nat}{t it:Expr}{as:List Expr}{ss:List Stmt}{pos:Pos}(hn:jeG it=true)(hi:jdN c ik t it=some as)(hes:chkL G j es c as=true)(ht:jcS c tg t=true)(hb:PSs X ss (jlI X.K (exM X.mg E) (runYs G body))):PS X (.For t it ss [] pos) (jlI X.K (exM X.mg E) (jjT G (.for_ tg ik es body fg))):=by
 have k:=sndL es o.toOk hes;refine imS (jsr o.pass o.calm (jrT o.toOk hi k.1 k.2.1 k.2.2) (jm8 o.toOk ht).1 hb (jfl hn)) fun D σ H=>?_;rintro⟨w,μ,ρ,R,S,a⟩;obtain⟨ds,μ1,a1,a⟩:=a.noXb;split at a
 ·rename_i xs hx;exact⟨w,μ,ρ,ds,μ1,xs,R,S,a1,hx,fun w1 H1 J x1 R1 hJ=>jq0 (jeC tg) R1 (S.mono x1) hJ (a.ext x1 fun fl μ' _ q w2 H2 x2 R2=>q w2 H2 (x1.trans x2) R2)⟩
 ·exact a.elim
theorem jp8 {s:SY}{ss:List SY}{st:Stmt}{sts:List Stmt}(h1:PS X st (jlI X.K EX (jjT G s)))(h2:PSs X sts (jlI X.K EX (runYs G ss))):PSs X (st::sts) (jlI X.K EX (runYs G (s::ss))):=by
 refine jvU (jgy h1 h2) fun D σ H=>?_;rintro⟨w,μ,ρ,R,S,a⟩;replace a:Aft X.K EX w μ.length (match jjT G s ρ μ with
  |.ok (.nx ρ1) μ1=>runYs G ss ρ1 μ1
  |r=>r) (jhG X.K w μ.length D):=a
 refine⟨w,μ,ρ,R,S,?_⟩
 cases e2:jjT G s ρ μ with
 |bad=>rw[e2]at a;exact a
 |exc x μ1=>
  rw[e2]at a;exact Aft.ext (o:=(.exc x μ1:Out Fl)) (Ext.refl _ _) a fun _ _ z=>by cases z
 |ok f1 μ1=>
  rw[e2]at a;intro w1 H1 x1 R1
  cases f1 with
  |nx ρ1=>
   intro σ1 S1;exact⟨w1,μ1,ρ1,R1,S1,Aft.ext x1 a fun fl μ' _ q w2 H2 x2 R2=>q w2 H2 (x1.trans x2) R2⟩
  |rt d=>exact a w1 H1 x1 R1
  |bk ρ1=>exact a w1 H1 x1 R1
  |ct ρ1=>exact a w1 H1 x1 R1
end
section
variable {G:List FnE} {j:Nat} {rx:List Nat} {cs:List Str} {EE:XK}
mutual
theorem jA1:∀(s:SY) {c:Stt} {X:Cx} {st:Stmt},OkY G j rx cs EE c X->jz6 G j rx cs s c st=true->PS X st (jlI X.K (exM X.mg EE) (jjT G s))
 |.st s,c,X,st,o,h=>imS (jAQ s o.toOkS h) fun D σ H q=>T3S.x q
 |.asg tg e,c,X,st,o,h=>by
  have hh:=jk9 (P:=fun t v _=>jkr G j rx e c v&&jcS c tg t&&!c.cmp&&tgV tg v&&notComp v) h;clear h;obtain⟨t,v,p,rfl,h⟩:=hh;simp only[j0a,j0O]at h;exact jrz o h.1.1.1.1 h.1.1.1.2 h.1.1.2 h.1.2 h.2
 |.ex e,c,X,st,o,h=>by
  have hh:=jsM (P:=fun v=>jkr G j rx e c v&&notComp v) h;clear h;obtain⟨v,p,rfl,h⟩:=hh;simp only[j0a]at h;refine imS (joi (jt8 e o.toOkX h.1) (jbg h.2)) fun D σ H=>?_;rintro⟨w,μ,ρ,R,S,a⟩;exact⟨w,μ,ρ,R,S,a.bind fun d μ1 e1 a1 w1 H1 v1 x1 R1 k1=>a1 w1 H1 x1 R1 σ (S.mono x1)⟩
 |.ret e,c,X,st,o,h=>by
  have hh:=jnQ (P:=fun v=>jkr G j rx e c v) h;clear h;obtain⟨v,p,rfl,h⟩:=hh;refine imS (joR (jt8 e o.toOkX h)) fun D σ H=>?_;rintro⟨w,μ,ρ,R,S,a⟩;exact⟨w,μ,ρ,R,S,a.bind fun d μ1 e1 a1 w1 H1 v1 x1 R1 k1=>a1 w1 H1 x1 R1 v1 k1⟩
 |.ite k a b,c,X,st,o,h=>by
  have hh:=jsu (P:=fun x ss tt=>chk G j k c x&&tst x&&chkYs G j rx cs a c ss&&chkYs G j rx cs b c tt) h;clear h;obtain⟨x,ss,tt,p,rfl,h⟩:=hh;simp only[j0a]at h;obtain⟨⟨⟨h1,h2⟩,h3⟩,h4⟩:=h;exact jqm o h1 h2 (sndYs a o h3) (sndYs b o h4)
 |.for_ tg ik es body fg,c,X,st,o,h=>by
  have hh:=jn1 (P:=fun t it ss=>jeG it&&(match jdN c ik t it with
   |some as=>chkL G j es c as
   |none=>false)&&jcS c tg t&&chkYs G j rx cs body c ss) h
  clear h;obtain⟨t,it,ss,p,rfl,h⟩:=hh;simp only[j0a]at h;obtain⟨⟨⟨h1,h2⟩,h3⟩,h4⟩:=h;split at h2
  ·rename_i as ha;exact jqP o h1 ha h2 h3 (sndYs body o h4)
  ·cases h2
 |.raise cls e,c,X,st,o,h=>by
  have h':(match jgp st with
   |some (y,a)=>y==cls&&jbj c.sc cls&&!(cls==("__debug__" : Str))&&cs.contains cls&&jak a&&chk G j e c a
   |none=>false)=true:=h
  clear h;split at h'
  ·rename_i y a ha;simp only[j0a,j0O,beq_iff_eq]at h';obtain⟨⟨⟨⟨⟨rfl,h2⟩,h3⟩,h4⟩,h5⟩,h6⟩:=h';obtain⟨np,cpos,rpos,rfl⟩:=jk3 ha;obtain⟨C,hm,hps⟩:=o.rs y (by simpa using h4) h2 h3;refine imS (hps a _ h5 (snd e o.toOk h6).v np cpos rpos) fun D σ H=>?_;rintro⟨w,μ,ρ,R,S,a⟩;obtain⟨d,μ1,e1,a⟩:=a.noXb;have a':∀w' H',Ext w w' μ.length μ1.length->Rep X.K w' μ1 H'->exM X.mg EE y H':=a;refine⟨w,μ,ρ,d,μ1,R,S,e1,fun w1 H1 v x1 R1 d1=>⟨by show 1<=sizeLine;decide,?_⟩⟩;obtain⟨C',hm',hE⟩:=a' w1 H1 x1 R1;rw[hm]at hm';cases hm';exact hE
  ·cases h'
theorem sndYs:∀(ss:List SY) {c:Stt} {X:Cx} {sts:List Stmt},OkY G j rx cs EE c X->chkYs G j rx cs ss c sts=true->PSs X sts (jlI X.K (exM X.mg EE) (runYs G ss))
 |[],c,X,sts,o,h=>by
  cases sts with
  |nil=>
   refine jvU jkO fun D σ H=>?_;rintro⟨w,μ,ρ,R,S,a⟩;have a':jhG X.K w μ.length D (.nx ρ) μ:=a;exact a' w H (Ext.refl _ _) R σ S
  |cons _ _=>
   have h':false=true:=h;cases h'
 |s::ss,c,X,sts,o,h=>by
  cases sts with
  |nil=>
   have h':false=true:=h;cases h'
  |cons t ts=>
   have h':(jz6 G j rx cs s c t&&chkYs G j rx cs ss c ts)=true:=h;clear h;simp only[j0a]at h';exact jp8 (jA1 s o h'.1) (sndYs ss o h'.2)
end
end
section
variable {P:Program} {w:World} {K:PySem.W.Frag} {mg:Str->Option Value} {base:Heap}
def jyV (P:Program)(w:World)(K:PySem.W.Frag)(mg:Str->Option Value)(base:Heap)(j:Nat)(G:List FnE)(rx:List Nat):Prop:=
 ∀i∈rx,∀g,G[i]?=some g->g.lv<=j->CalG (CX1 P w) P w K mg base g.lv g.name g.ps (spY K mg g.ps.length g.F)
theorem jgh {j:Nat}{G:List FnE}:jyV P w K mg base j G []:=fun i h=>by cases h
theorem jes {j i:Nat}{G:List FnE}{rx:List Nat}{g:FnE}(hg:G[i]?=some g)(h:CalG (CX1 P w) P w K mg base g.lv g.name g.ps (spY K mg g.ps.length g.F))(t:jyV P w K mg base j G rx):jyV P w K mg base j G (i::rx):=fun i' hi g' e hl=>by
 rcases j0d.mp hi with rfl|hi
 ·rw[hg]at e;cases e;exact h
 ·exact t i' hi g' e hl
def jmx (K:PySem.W.Frag)(mg:Str->Option Value)(cs:List Str):Prop:=∀x∈cs,∃C,mg x=some (.ref C)/\ExcC K C
theorem jev:jmx K mg []:=fun x h=>by cases h
theorem jk4 {x:Str}{C:Addr}{cs:List Str}(hm:mg x=some (.ref C))(hC:ExcC K C)(t:jmx K mg cs):jmx K mg (x::cs):=fun y h=>by
 rcases j0d.mp h with rfl|h
 ·exact⟨C,hm,hC⟩
 ·exact t y h
theorem jlD {x qual:Str}{st:Stmt}{f:Addr}{fd:FuncData}{N ps:List Str}{j:Nat}{G:List FnE}{rx:List Nat}{cs:List Str}{body:List SY}(F:Fun K x qual st f fd)(Sc:FnScope N ps (ja st))(T:Tab P w K mg base j G)(TX:jyV P w K mg base j G rx)(hc:jmx K mg cs)
  (h:chkYs G j rx cs body ⟨N,ja st,false⟩ (jae st)=true):FnOk P w K mg base (CX1 P w) (j+1) f fd ps (spY K mg ps.length (fnY G ps.length (N.length - ps.length) body)):=by
 obtain⟨oc,od,kV,doc,pm,an,cdv,ct,osl,rfl,lk,hcd⟩:=F.ex;refine jwi lk hcd Sc (fun vs H Q E h=>h.1) fun A outer s H vs Q E hr hsp=>?_
 let X:Cx:=jjC (CX1 P w) P w K mg base N qual (ja st) f cdv A outer s H E
 have ok:OkY G j rx cs E ⟨N,ja st,false⟩ X:=⟨⟨⟨rfl,Sc.nd,rfl,rfl,hr,T.hm,T.hf,T.hd,fun _ _=>rfl⟩,jwZ,TX,fun _=>⟨_,_,_,_,_,_,_,_,_,_,_,_,_,_,rfl⟩⟩,PassesOwn.leaving,Sc.kind,fun cls hcl hg hdb=>by
  obtain⟨C,hm,hC⟩:=hc cls hcl;have hgl:Gl X cls:=(jay (X:=X) hg).1;exact⟨C,hm,fun a te hst hp np cpos rpos=>jrA hC hgl hm (pac hp jdQ hst) hdb (jaB hst)⟩⟩
 refine⟨_,sndYs body ok h,?_⟩;obtain⟨hl,w0,μ,ds,R,hD,a⟩:=hsp;have hS:jby K w0 μ.length (ds.map some++List.replicate (N.length - ps.length) none) (_L2.start N vs):=by
  unfold _L2.start;rw[hl];exact jby.start hD _
 have hn:ds.length=ps.length:=by rw[jad hD];exact hl
 refine⟨w0,μ,_,R,hS,?_⟩;unfold fnY at a;rw[if_pos hn]at a
 cases e:runYs G body (ds.map some++List.replicate (N.length - ps.length) none) μ with
 |bad=>rw[e]at a;exact a
 |exc y μ1=>
  rw[e]at a;exact Aft.ext (o:=(.exc y μ1:Out D)) (P:=fun d μ'=>jjA K w0 μ.length d μ' Q) (P':=fun _ _=>True) (Ext.refl _ _) a (fun _ _ z=>by cases z) |> fun h=>by
   cases y with
   |str c=>exact h
   |_=>exact h
 |ok fl μ1=>
  rw[e]at a
  cases fl with
  |rt d=>exact fun w1 H1 x1 R1 v dv=>a w1 H1 v x1 R1 dv
  |nx ρ1=>exact fun w1 H1 x1 R1 σ' S'=>a w1 H1 .non x1 R1 (by unfold Den;rfl)
  |bk ρ1=>exact a.elim
  |ct ρ1=>exact a.elim
theorem toC {k np:Nat}{x:Str}{ps:List Str}{F:Fn}(h:CalG (CX1 P w) P w K mg base k x ps (spY K mg np F)):CalG CX0 P w K mg base k x ps (jlC K np F):=
 h.calm.imp fun vs H Q E=>by
  rintro⟨h1,w0,μ,ds,d,μ',R,l,e,q⟩;exact⟨h1,w0,μ,ds,R,l,by rw[e];exact q⟩
theorem jA9 {C f:Addr}{fd:FuncData}{k np:Nat}{x s0:Str}{ps:List Str}{F:Fn}(M:Mk K C f)(h:FnOk P w K mg base (CX1 P w) k f fd (s0::ps) (spY K mg (np+1) F))(hm:mg x=some (.ref C))(hb:jeR K fd (s0::ps) []):CalG (CX1 P w) P w K mg base (k+1) x ps (spY K mg np (mkF C F)):=
 ⟨.inr ⟨C,f,fd,_,k,_,rfl,M,h,hm,hb,fun vs H Q E z x dx h1 h2 h3=>jxJ z h1 h2 h3⟩⟩
theorem jzD {C f:Addr}{fd:FuncData}{k np:Nat}{x s0:Str}{ps:List Str}{F:Fn}(M:Mk K C f)(h:FnOk P w K mg base CX0 k f fd (s0::ps) (jlC K (np+1) F))(hm:mg x=some (.ref C))(hb:jeR K fd (s0::ps) []):CalG CX0 P w K mg base (k+1) x ps (jlC K np (mkF C F)):=by
 refine⟨.inr ⟨C,f,fd,_,k,_,rfl,M,h,hm,hb,fun vs H Q E z x dx hx hdx ne=>?_⟩⟩;obtain⟨hl,w0,μ,ds,d,μ',R,l,e,q⟩:=z;have hx':(upd H dx (.own x)) x=none:=by rw[jap (Ne.symm ne)];exact hx
 obtain⟨w',R',x1,hg⟩:=(R.same (jgt hdx):Rep K w0 μ (upd H dx (.own x))).cell hx' (.ins C dx []) (.obj C [] []) (fun w' x=>⟨dx,[],rfl,by rw[jaz];rfl,by unfold DenL;rfl⟩);have hlen:(μ++[some (Cl.obj C [] [])]).length=μ.length+1:=by simp
 unfold mkF at e;split at e
 ·rename_i μ1 e1;cases e;refine⟨by simp[hl],w',μ++[some (.obj C [] [])],.cel μ.length::ds,.non,μ',R',?_,e1,fun w2 H2 v x2 R2 dv=>?_⟩
  ·rw[hlen];unfold DenL;exact⟨.ref x,vs,rfl,by unfold Den;exact⟨j0W _,by rw[hg]⟩,l.mono x1⟩
  ·rw[hlen]at x2;refine⟨by unfold Den at dv;exact dv,q w2 H2 (.ref x) (x1.trans x2) R2 ?_⟩;unfold Den;exact⟨j0o (j0W _) x2.le,by rw[x2.g _ (j0W _),hg]⟩
 ·cases e
 ·cases e
theorem jeA {f:Addr}{fd:FuncData}{CX:CXT}{k:Nat}{x:Str}{ps:List Str}{sp:Sp}(h:FnOk P w K mg base CX k f fd ps sp)(hm:mg x=some (.ref f))(hk:PySem.W.keepIn K (.ref f)=true)(hb:jeR K fd ps []):CalG CX P w K mg base k x ps sp:=⟨.inl ⟨f,fd,h,hm,hk,hb⟩⟩
end
section
variable {α β:Type}
theorem jlu {x:D}{μ:M}{f:α->M->Out β}:(Out.exc x μ:Out α).bind f=.exc x μ:=rfl
theorem jvD:noX (Out.bad:Out α)=.bad:=rfl
end
theorem jlX {x:D}{μ:M}{k:S3->M->Out Fl}:jo (.exc x μ) k=.exc x μ:=rfl
theorem jlU {x:D}{μ:M}:jeY (.exc x μ)=.exc x μ:=rfl
section
variable {G:List FnE} {ρ:S3} {μ:M}
theorem jxc {np nl:Nat}{b:List SY}{ds:List D}:fnY G np nl b ds μ=if ds.length=np then jeY (runYs G b (ds.map some++List.replicate nl none) μ)else .bad:=rfl
theorem jo4:runYs G [] ρ μ=.ok (.nx ρ) μ:=rfl
theorem jnt {s:SY}{ss:List SY}:runYs G (s::ss) ρ μ=jo (jjT G s ρ μ) (runYs G ss):=rfl
theorem jt1 {s:S}:jjT G (.st s) ρ μ=noX (_L3.run G s ρ μ):=rfl
theorem jrV {tg:Tg}{e:XE}:jjT G (.asg tg e) ρ μ=(evX G e ρ μ).bind fun d μ1=>jza tg ρ d μ1:=rfl
theorem jtm {e:XE}:jjT G (.ex e) ρ μ=(evX G e ρ μ).bind fun _ μ1=>.ok (.nx ρ) μ1:=rfl
theorem jrP {e:XE}:jjT G (.ret e) ρ μ=(evX G e ρ μ).bind fun d μ1=>.ok (.rt d) μ1:=rfl
theorem jp9 {c:E}{a b:List SY}:jjT G (.ite c a b) ρ μ=(noX ((ev G c).t ρ μ)).bind fun k μ1=>if k then runYs G a ρ μ1 else runYs G b ρ μ1:=rfl
theorem jr {tg:Tg}{ik:IK}{es:List E}{body:List SY}{fg:List Nat}:jjT G (.for_ tg ik es body fg) ρ μ=(noX (evL G es ρ μ)).bind fun ds μ1=>jy3 ik ds tg (runYs G body) fg ρ μ1:=rfl
theorem jnj {cls:Str}{e:E}:jjT G (.raise cls e) ρ μ=(noX ((ev G e).v ρ μ)).bind fun _ μ1=>.exc (.str cls) μ1:=rfl
theorem jrN {f:Nat}{md:Md}{es:List E}:evX G (.call f md es) ρ μ=(noX (evL G es ρ μ)).bind fun ds μ1=>jfx G f md ds μ1:=rfl
theorem jta {i j:Nat}{a b:E}:_L3.run G (.par i j a b) ρ μ=((ev G a).v ρ μ).bind fun x μ1=>((ev G b).v ρ μ1).bind fun y μ2=>.ok (.nx ((ρ.set i (some x)).set j (some y))) μ2:=rfl
noncomputable def jBe (is:List Nat)(ρ:S3)(d:D)(μ:M):Out Fl:=
 match(jf1 μ d).bind fun ds=>jog is ds ρ with
 |some ρ1=>.ok (.nx ρ1) μ
 |none=>.bad
theorem jvw {is:List Nat}{e:E}:_L3.run G (.unp is e) ρ μ=((ev G e).v ρ μ).bind fun d μ1=>jBe is ρ d μ1:=rfl
noncomputable def jyU (o:Option Dat)(f:Str)(ρ:S3)(d x:D)(μ:M):Out Fl:=
 match jAm o f d x μ with
 |some μ1=>.ok (.nx ρ) μ1
 |none=>.bad
theorem jqx {o e:E}{i:Nat}{f:Str}:_L3.run G (.setF o i f e) ρ μ=((ev G e).v ρ μ).bind fun d μ1=>((ev G o).v ρ μ1).bind fun x μ2=>jyU (jgk G i) f ρ d x μ2:=rfl
theorem jxp {a:E}{i:Nat}{f:Str}:(ev G (.fld a i f)).v ρ μ=((ev G a).v ρ μ).bind fun x μ1=>jh0 (jgk G i) f x μ1:=rfl
theorem jyc {o:E}:(ev G (.clr o)).v ρ μ=((ev G o).v ρ μ).bind fun x μ1=>jxY x μ1:=nr rfl
theorem jtk {o a:E}:(ev G (.dget o a)).v ρ μ=((ev G o).v ρ μ).bind fun x μ1=>((ev G a).v ρ μ1).bind fun y μ2=>jpo x y μ2:=nr rfl
theorem jv3 {a:E}{i:Nat}:(ev G (.isC a i)).v ρ μ=((ev G a).v ρ μ).bind fun x μ1=>ju7 (jgk G i) x μ1:=nr rfl
theorem jvk {a:E}{i:Nat}:(ev G (.isC a i)).t ρ μ=((ev G (.isC a i)).v ρ μ).bind fun d μ1=>tru μ1 d:=rfl
theorem jtS {C:Addr}{k:Nat}{fs0 fs:List Str}{ds:List D}:ju7 (some (.cls C k fs0)) (.obj C fs ds) μ=.ok (.bl true) μ:=by
 unfold ju7;simp
theorem jiK {C:Addr}{k:Nat}{fs0 fs:List Str}{f:Str}{ds:List D}{d:D}(h:jnA f fs ds=some d):jh0 (some (.cls C k fs0)) f (.obj C fs ds) μ=.ok d μ:=by
 unfold jh0 jy9;simp only[if_true];rw[h]
theorem jxG {C:Addr}{F:Fn}{ds:List D}{μ':M}(h:F (.cel μ.length::ds) (μ++[some (.obj C [] [])])=.ok .non μ'):mkF C F ds μ=.ok (.cel μ.length) μ':=by
 unfold mkF;rw[h]
theorem jwg {C:Addr}{F:Fn}{ds:List D}{x:D}{μ':M}(h:F (.cel μ.length::ds) (μ++[some (.obj C [] [])])=.exc x μ'):mkF C F ds μ=.exc x μ':=by
 unfold mkF;rw[h]
theorem joq {F:Fn}{ds:List D}{c:Str}{ν:M}(h:F ds μ=.exc (.str c) (μ++ν)):jao .frz F ds μ=.exc (.str c) μ:=by
 unfold jao;simp only[h,List.take_left,if_true];rfl
theorem jrs {F:Fn}{ds:List D}{c:Str}(h:F ds μ=.exc (.str c) μ):jao .frz F ds μ=.exc (.str c) μ:=joq (ν:=[]) (by rw[j0C];exact h)
theorem jrb {ok:M->Bool}{tg:Tg}{body:S3->M->Out Fl}{fg:List Nat}{x:D}{xs:List D}{ρ1:S3}{y:D}{μ2:M}(ho:ok μ=true)(ha:jkC tg x ρ=some ρ1)(hb:body ρ1 μ=.exc y μ2):jc9 ok tg body fg (x::xs) ρ μ=.exc y μ2:=by
 unfold jc9;rw[if_pos ho,ha];dsimp only;rw[hb]
theorem jrK {C:Addr}{k kc:Nat}{fs0 fs fs':List Str}{f:Str}{ds ds':List D}{d:D}(hk:μ[kc]?=some (some (.obj C fs ds)))(hl:fs.length<1000)(h1:jhE f fs=fs')(h2:je6 f d fs ds=ds'):jyU (some (.cls C k fs0)) f ρ d (.cel kc) μ=.ok (.nx ρ) (μ.set kc (some (.obj C fs' ds'))):=by
 unfold jyU jAm jy6;simp only[hk];rw[if_pos ⟨trivial,hl⟩,h1,h2]
end
noncomputable def jua (G:List FnE)(np f:Nat)(md:Md)(es:List E)(c1:Str):Fn:=fun ds μ=>if ds.length=np then
  match(noX (evL G es (ds.map some++[some .non,none]) μ)).bind fun as μ1=>jfx G f md as μ1 with
  |.exc (.str c) μ'=>if c=c1 then .ok (.bl true) μ' else .bad
  |_=>.bad
 else .bad
noncomputable def ji9:List Stmt->List Expr
 |[_,.Try [.Expr (.Call _ as _ _) _] _ _ _ _,_,_,_]=>as
 |_=>[]
noncomputable def nmE:Expr->Option Str
 |.Name x _=>some x
 |_=>none
theorem jwf {e:Expr}{x:Str}(h:nmE e=some x):∃p,e=.Name x p:=by
 unfold nmE at h;split at h
 ·cases h;exact⟨_,rfl⟩
 ·cases h
noncomputable def jlk (mg:Str->Option Value)(sc:Scope):List Expr->List Addr->Prop
 |[],as=>as=[]
 |e::es,as=>∃x a r,as=a::r/\nmE e=some x/\mg x=some (.ref a)/\jbj sc x=true/\jlk mg sc es r
theorem jsB {X:Cx}{es:List Expr}:∀{as:List Addr},jlk X.mg X.env.scope es as->PA X es (fun _ H Q=>Q (as.map V.ref) H):=by
 induction es with
 |nil=>
  intro as h;cases(show as=[]from h);exact fun _ _ _ _ H Q I h=>Calls.spliced_nil ⟨[],H,I,.nil,h⟩
 |cons e es ih=>
  rintro as ⟨x,a,r,rfl,h1,h2,h3,h4⟩;obtain⟨p,rfl⟩:=jwf h1;exact imA (jcz (joJ (pos:=p) (jay h3).1 h2 (show jaN (.ref a) (.ref a)from rfl) (jay h3).2.1) (ih h4)) fun σ H Q q=>q
structure RefOk2 (K:PySem.W.Frag) (C T:Addr) (ts us:List Addr):Prop where
 c:ExcC K C
 a:ExcA K C
 it:PySem.W.kitCls K (.ref C) (.ref C)=some true
 ex:PySem.W.exmOne K (.ref C) (.ref T)=some true
 k1:PySem.W.kitOne K (.ref C) (.ref C)=some true
 k2:PySem.W.kitOne K (.ref C) (.type "ValueError")=some true
 k3:PySem.W.kitAny K (.ref C) (ts.map Value.ref)=some false
 k4:PySem.W.kitAny K (.ref C) (us.map Value.ref)=some false
 len:ts.length<=100/\us.length<=100
section
variable {P:Program} {w:World} {K:PySem.W.Frag} {mg:Str->Option Value} {base:Heap}
theorem jgH:∀as:List Addr,(as.map V.ref).mapM jvQ=some (as.map Value.ref)
 |[]=>rfl
 |a::as=>by
  rw[j0k,List.mapM_cons,jgH as];rfl
theorem jtc {X:Cx}{a C T:Addr}{oe:Obj}{ca c1:Str}{i:Nat}{cs1 cs2:List Expr}{as bs:List Addr}{kt1 kt2 kb1 kb2:Nat}{a1 a2 a3 a4 a5 b1 b2 b3 b4 b5 b6 q1 q2 q3 d1 d2 d3 d4 q4 q5 q6 e1 e2 e3 e4 e5 e6:Pos}(R:RefOk2 X.K C T as bs)(hc:oe.cls=.ref C)
  (hv:jkI X.N X.env.scope i ca=true) (hi:jbj X.env.scope "isinstance" =true) (hiN:X.mg "isinstance" =none) (h1:jbj X.env.scope c1=true) (m1:X.mg c1=some (.ref C))
  (hve:jbj X.env.scope "ValueError" =true) (mve:X.mg "ValueError" =none) (hcs:jlk X.mg X.env.scope cs1 as) (hcs2:jlk X.mg X.env.scope cs2 bs) :
  PSs (X.pind a oe) [.If (.BoolOp .Or [.UnaryOp .Not (.Call (.Name "isinstance" a1) [.Name ca a2,.Name c1 a3] [] a4) a5,.UnaryOp .Not (.Call (.Name "isinstance" b1) [.Name ca b2,.Name "ValueError" b3] [] b4) b5] b6) [.Return (some (.Constant (.bool false) kb1 q1)) q2] [] q3,
   .If (.Call (.Name "isinstance" d1) [.Name ca d2,.Tuple cs1 kt1 d3] [] d4) [.Return (some (.Constant (.bool false) kb2 q4)) q5] [] q6,
   .Return (some (.UnaryOp .Not (.Call (.Name "isinstance" e1) [.Name ca e2,.Tuple cs2 kt2 e3] [] e4) e5)) e6]
   (fun D σ H=>σ[i]?=some (some (.ref a))/\∀H2,jfK H H2->D.rt (.bl true) H2):=by
 have hmem:(a,oe)∈(X.pind a oe).pn:=.head _;have is1:=jrq (X:=X.pind a oe) hmem hc R.c R.a R.it;have is2:=joD (X:=X.pind a oe) hmem hc R.c R.a R.it;have bi:bootBuiltins "isinstance" =some (.builtin "isinstance"):=jbY;have bv:bootBuiltins "ValueError" =some (.type "ValueError"):=PyProof.Rows.Boot.«ValueError»;have E1:QE (X.pind a oe) (.Call (.Name "isinstance" a1) [.Name ca a2,.Name c1 a3] [] a4) _:=⟨jbm is1 hi hiN bi (jcz (pvk i hv) (jcz (jip (X:=X.pind a oe) h1 m1 (show jaN (.ref C) (.ref C)from rfl)) jdQ))⟩;have E2:QE (X.pind a oe) (.Call (.Name "isinstance" b1) [.Name ca b2,.Name "ValueError" b3] [] b4) _:=⟨jbm is1 hi hiN bi (jcz (pvk i hv) (jcz (jms hve mve bv (show jaN (.ty "ValueError") (.type "ValueError")from rfl)) jdQ))⟩;have E3:QE (X.pind a oe) (.Call (.Name "isinstance" d1) [.Name ca d2,.Tuple cs1 kt1 d3] [] d4) _:=⟨jbm is2 hi hiN bi (jcz (pvk i hv) (jcz (jmy (jsB (X:=X.pind a oe) hcs)) jdQ))⟩;have E4:QE (X.pind a oe) (.Call (.Name "isinstance" e1) [.Name ca e2,.Tuple cs2 kt2 e3] [] e4) _:=⟨jbm is2 hi hiN bi (jcz (pvk i hv) (jcz (jmy (jsB (X:=X.pind a oe) hcs2)) jdQ))⟩;have S1:=jxb (pos:=q3) (jBw (ju (pos:=b6) (jnM (pos:=a5) (jml E1)) (jsC (jnM (pos:=b5) (jml E2))))) (jkM (jpS (pos:=q2) (juD (X:=X.pind a oe) (b:=false) (j:=kb1) (pos:=q1)))) (jor (X:=X.pind a oe));have S2:=jxb (pos:=q6) (jml E3) (jkM (jpS (pos:=q5) (juD (X:=X.pind a oe) (b:=false) (j:=kb2) (pos:=q4)))) (jor (X:=X.pind a oe));have S3:=jpS (pos:=e6) (jst (pos:=e5) E4);refine jvU (jmu S1 (jmu S2 (jkM S3))).h fun D σ H=>?_;rintro⟨h2,q⟩;refine⟨_,h2,.ref C,.ref C,true,rfl,rfl,R.k1,true,rfl,?_⟩;show(if(!true)=true then _ else _);rw[if_neg (by decide)];refine⟨_,h2,.ty "ValueError",.type "ValueError",true,rfl,rfl,R.k2,true,rfl,?_⟩;show(if(!true)=true then _ else _);rw[if_neg (by decide)];refine⟨_,h2,?_,fun p3 hp3=>?_⟩
 ·have:=R.len.1;rw[j0f,sizeLine_eq];omega
 refine⟨p3,as.map V.ref,as.map Value.ref,false,rfl,SqT.of jaz,jgH as,R.k3,false,rfl,?_⟩;show(if false=true then _ else _);rw[if_neg (by decide)];refine⟨_,h2,?_,fun p4 hp4=>?_⟩
 ·have:=R.len.2;rw[j0f,sizeLine_eq];omega
 exact⟨p4,bs.map V.ref,bs.map Value.ref,false,rfl,SqT.of jaz,jgH bs,R.k4,false,rfl,q _ ((jgt hp3).trans (jgt hp4))⟩
theorem jlp {x qual:Str}{st:Stmt}{f:Addr}{fd:FuncData}{ps:List Str}{ca er cP c1:Str}{cs1 cs2:List Expr}{as bs:List Addr}{C T:Addr}{G:List FnE}{j fi kt1 kt2 kb1 kb2 k0:Nat}{g:FnE}{md:Md}{es:List E}{y:Expr}{ys:List Expr}
  {p1 p2 p3 p4 p6 p7 p8 p9 p10 p11 p12 p13 a1 a2 a3 a4 a5 b1 b2 b3 b4 b5 b6 q1 q2 q3 d1 d2 d3 d4 q4 q5 q6 e1 e2 e3 e4 e5 e6:Pos}
  (F:Fun K x qual st f fd) (Sc:FnScope (ps++[ca,er]) ps (ja st)) (T0:Tab P w K mg base j G) (hgi:G[fi]?=some g) (cg:CalG (CX1 P w) P w K mg base g.lv g.name g.ps (spY K mg g.ps.length g.F)) (hlv:g.lv<=j) (R:RefOk2 K C T as bs)
  (hb:jae st=[.Assign [.Name ca p1] (.Constant .none k0 p2) p3,
   .Try [.Expr (.Call (.Name g.name p4) (y::ys) [] p6) p7] [.ExceptHandler (some (.Name cP p8)) (some er) [.Assign [.Name ca p9] (.Name er p10) p11] p12] [] [] p13,
   .If (.BoolOp .Or [.UnaryOp .Not (.Call (.Name "isinstance" a1) [.Name ca a2,.Name c1 a3] [] a4) a5,.UnaryOp .Not (.Call (.Name "isinstance" b1) [.Name ca b2,.Name "ValueError" b3] [] b4) b5] b6) [.Return (some (.Constant (.bool false) kb1 q1)) q2] [] q3,
   .If (.Call (.Name "isinstance" d1) [.Name ca d2,.Tuple cs1 kt1 d3] [] d4) [.Return (some (.Constant (.bool false) kb2 q4)) q5] [] q6,
   .Return (some (.UnaryOp .Not (.Call (.Name "isinstance" e1) [.Name ca e2,.Tuple cs2 kt2 e3] [] e4) e5)) e6])
  (hch:chkL G j es ⟨ps++[ca,er],ja st,false⟩ (ji9 (jae st))=true) (hst:jah (ji9 (jae st))=true) (hes:es.length=g.ps.length)
  (hf:jhT (ps++[ca,er]) (ja st) ps.length ca=true) (hv:jkI (ps++[ca,er]) (ja st) ps.length ca=true) (he:jkI (ps++[ca,er]) (ja st) (ps.length+1) er=true) (hel:(ja st).names.lookup er=some .local)
  (hg:jbj (ja st) g.name=true) (hP:jbj (ja st) cP=true) (mP:mg cP=some (.ref T)) (hi:jbj (ja st) "isinstance" =true) (hiN:mg "isinstance" =none) (h1:jbj (ja st) c1=true) (m1:mg c1=some (.ref C))
  (hve:jbj (ja st) "ValueError" =true) (mve:mg "ValueError" =none) (hcs:jlk mg (ja st) cs1 as) (hcs2:jlk mg (ja st) cs2 bs) :
  FnOk P w K mg base CX0 (j+1) f fd ps (jlC K ps.length (jua G ps.length fi md es c1)):=by
 have hta:ji9 (jae st)=y::ys:=by rw[hb];rfl
 rw[hta]at hch hst;refine F.ok Sc (fun vs H Q E h=>h.1) (fun cdv A outer s H vs Q E hr hsp=>?_);rw[hb];have nd:(ps++[ca,er]).Nodup:=Sc.nd
 let X:Cx:=(jjC CX0 P w K mg base (ps++[ca,er]) qual (ja st) f cdv A outer s H E).nox
 have ok:Ok G j ⟨ps++[ca,er],ja st,false⟩ X.nox:=⟨rfl,nd,rfl,rfl,hr,T0.hm,T0.hf,T0.hd,fun _ _=>rfl⟩;have S1:PS X (.Assign [.Name ca p1] (.Constant .none k0 p2) p3) _:=jiE nd hf jsE;have hN:(ps++[ca,er])[ps.length+1]?=some er:=by rw[j06 (by omega)];simp
 have SS:=jp3 (X:=X) (i:=ps.length+1) (n:=er) (x:=cP) (np:=p8) (hpos:=p12) (pos:=p13) (epos:=p7) (p:=p4) (cpos:=p6) (PC:=fun C'=>C'=C) (b₀:=.Assign [.Name ca p9] (.Name er p10) p11) (suite:=[])
  (rest:=[.If (.BoolOp .Or [.UnaryOp .Not (.Call (.Name "isinstance" a1) [.Name ca a2,.Name c1 a3] [] a4) a5,.UnaryOp .Not (.Call (.Name "isinstance" b1) [.Name ca b2,.Name "ValueError" b3] [] b4) b5] b6) [.Return (some (.Constant (.bool false) kb1 q1)) q2] [] q3,
   .If (.Call (.Name "isinstance" d1) [.Name ca d2,.Tuple cs1 kt1 d3] [] d4) [.Return (some (.Constant (.bool false) kb2 q4)) q5] [] q6,
   .Return (some (.UnaryOp .Not (.Call (.Name "isinstance" e1) [.Name ca e2,.Tuple cs2 kt2 e3] [] e4) e5)) e6])
  (ts:=fun _ a=>fun D σ H=>σ[ps.length+1]?=some (some (.ref a))/\D.nx (σ.set ps.length (some (.ref a))) H) (tr:=fun _ a=>fun D σ H=>σ[ps.length]?=some (some (.ref a))/\∀H2,jfK H H2->D.rt (.bl true) H2)
  cg (hr.mono hlv) hg T3A.mono (sndL es ok hch).1 hst rfl rfl nd hN hel hP mP
  (fun C' a oe hC hc=>jvU (jpd (jiE (X:=X.hand a oe) nd hf (pvk (X:=X.hand a oe) (ps.length+1) he))) fun D σ H=>by
   rintro⟨h1,h2⟩;exact⟨_,h1,h2⟩)
  (fun C' a oe hC hc=>by subst hC;exact jtc (X:=X) R hc hv hi hiN h1 m1 hve mve hcs hcs2)
 refine⟨_,jgy S1 SS,?_⟩;obtain⟨hl,w0,μ,ds,d,μ',R0,hD,e,q⟩:=hsp;have hS:jby K w0 μ.length (ds.map some++[some .non,none]) ((_L2.start (ps++[ca,er]) vs).set ps.length (some .non)):=by
  have hS0:jby K w0 μ.length (ds.map some++List.replicate 2 none) (_L2.start (ps++[ca,er]) vs):=by
   unfold _L2.start;rw[show(ps++[ca,er]).length - vs.length=2 by rw[j0v,hl];simp];exact jby.start hD _
  have:=jby.set (d:=.non) (v:=.non) (by unfold Den;rfl) ps.length hS0;have el:ds.length=ps.length:=by rw[jad hD];exact hl
  have e0:(ds.map some++List.replicate 2 none:S3).set ps.length (some D.non)=ds.map some++[some .non,none]:=by
   rw[<- el];simp[List.set_append,List.replicate]
  rw[e0]at this;exact this
 have sl:(_L2.start (ps++[ca,er]) vs).length=ps.length+2:=by unfold _L2.start;simp;omega
 unfold jua at e;split at e
 ·split at e
  ·rename_i c μ1 e1;split at e
   ·rename_i hc;subst hc;cases e;have e2:∃as μ1,evL G es (ds.map some++[some .non,none]) μ=.ok as μ1/\jfx G fi md as μ1=.exc (.str c) μ':=by
     cases z:evL G es (ds.map some++[some .non,none]) μ with
     |ok as μ1=>rw[z]at e1;exact⟨as,μ1,rfl,e1⟩
     |exc y μ1=>rw[z]at e1;cases e1
     |bad=>rw[z]at e1;cases e1
    obtain⟨ds1,μ1,e3,e4⟩:=e2;refine⟨w0,μ,_,ds1,μ1,R0,hS,e3,fun w1 H1 vs1 x1 R1 k1=>?_⟩;unfold jfx at e4;rw[hgi]at e4;refine jk ((ji4 e3).trans hes) R1 k1 (md:=md) ?_;have e5:jao md g.F ds1 μ1=.exc (.str c) μ':=e4;rw[e5];intro w2 H2 x2 R2;refine⟨C,m1,C,rfl,rfl,R.ex,fun a=>⟨?_,?_,fun H3 sm=>q w2 H3 (.bl true) (x1.trans x2) (R2.same sm) (by unfold Den;rfl)⟩⟩
    ·rw[j1o (by rw[List.length_set,sl];omega)]
    ·rw[j1t (by omega),j1o (by simp[sl])]
   ·cases e
  ·cases e
 ·cases e
end
noncomputable def jAe (sc:Scope):List Expr->List Str->Bool
 |[],cs=>cs.isEmpty
 |e::es,cs=>(nmE e).any (fun x=>cs.head?==some x&&jbj sc x)&&jAe sc es cs.tail
theorem jou {mg:Str->Option Value}{sc:Scope}{es:List Expr}:∀{cs:List Str} {as:List Addr},jAe sc es cs=true->cs.map mg=as.map (fun a=>some (.ref a))->jlk mg sc es as:=by
 induction es with
 |nil=>
  intro cs as h hm;cases List.isEmpty_iff.mp (show cs.isEmpty=true from h);exact List.map_eq_nil_iff.mp hm.symm
 |cons e es ih=>
  intro cs as h hm;have h':((nmE e).any (fun x=>cs.head?==some x&&jbj sc x)&&jAe sc es cs.tail)=true:=h;simp only[j0a,Option.any_eq_true,beq_iff_eq]at h';obtain⟨⟨x,e1,e2,e3⟩,h2⟩:=h'
  cases cs with
  |nil=>cases e2
  |cons c cs=>
   cases e2
   cases as with
   |nil=>cases hm
   |cons a as=>
    rw[j0k,j0k]at hm;injection hm with m1 m2;exact⟨x,a,as,rfl,e1,m1,e3,ih h2 m2⟩
theorem excC_of {K:PySem.W.Frag} {C:Addr} (h:PySem.W.excIn K C jwm "ValueError.__new__" =true):ExcC K C:=by
 unfold PySem.W.excIn at h
 cases lk:K.lookup C with
 |none=>rw[lk]at h;cases h
 |some o=>
  rw[lk]at h;split at h
  ·rename_i dd cd sl ho;cases ho;split at h
   ·rename_i C' bm k0 k1 k2 k3 nw k5 hm hs;simp only[j0a,beq_iff_eq,j0O]at h;have e1:C'=C:=h.1.1.1.1.1;have e2:nw = "ValueError.__new__":=h.1.1.1.1.2;have e3:cd.hasDel=false:=h.1.1.1.2;subst e1 e2;cases cd;cases sl;dsimp only at hm hs e3;subst hm hs e3;exact⟨bm,_,_,_,_,_,_,_,_,_,_,k0,k1,k2,k3,k5,lk,h.1.1.2,h.1.2,h.2⟩
   ·cases h
  ·cases h
theorem jpO {n:Nat}(h:n<100000):n<=sizeLine:=by rw[sizeLine_eq];omega
noncomputable def jaC (z:Str):Bool:=decide (1<=z.length)&&(decide (z.length<=8)&&z.cps.toList.all fun c=>decide (97<=c)&&decide (c<=122))
noncomputable def sTx (c:List Nat):Str:=⟨c.toArray⟩
theorem jet (c:List Nat):(sTx c).length=c.length:=by simp[sTx,Str.length]
theorem jnZ (a b:List Nat):sTx a++sTx b=sTx (a++b):=Str.ext' (by rw[Str.cps_append];simp[sTx])
theorem jtw {a b:List Nat}(h:sTx a=sTx b):a=b:=by
 have:=congrArg (fun s:Str=>s.cps.toList) h;simpa[sTx]using this
def Ltr (c:List Nat):Prop:=∀x∈c,97<=x/\x<=122
theorem jqr {c:List Nat}(h1:1<=c.length)(h2:c.length<=8)(h:Ltr c):jaC (sTx c)=true:=by
 unfold jaC;rw[jet,decide_eq_true h1,decide_eq_true h2,j02,j02,j01];intro x hx;have hx':x∈c:=by simpa[sTx]using hx
 have:=h x hx';simp[this.1,this.2]
theorem jjZ (t:List Nat){a b:Nat}(hab:a<=b)(hb:b<=t.length)(lo:Option Int)(hlo:Builtin.Str.strSliceIndices lo (some (b:Int)) 1 t.length=Builtin.Str.strSliceIndices (some (a:Int)) (some (b:Int)) 1 t.length):Txt.slice (sTx t) lo (some (b:Int))=sTx ((t.drop a).take (b - a)):=by
 have hl:(sTx t).length=t.length:=jet t;have e1:=PySem.StrLaws.strSliceIndices_plain hab (len:=t.length) hb;have e2:=PySem.StrLaws.sliced_plain (sTx t) hab (by rw[hl];exact hb);rw[hl]at e2;unfold Txt.slice;rw[hl,hlo,e2];have e3:(Builtin.Str.strSliceIndices (some (a:Int)) (some (b:Int)) 1 t.length).length=b - a:=by rw[e1];simp
 rw[e3];have e4:(sTx t).cps.toList=t:=by simp[sTx]
 rw[e4];split
 ·rename_i h;have hba:b - a=t.length:=by simpa using h
  have ha:a=0:=by omega
  subst ha;rw[List.drop_zero,j07 (by omega)]
 ·rfl
theorem jof (t:List Nat){a b:Int}(h0:0<=a)(hab:a<=b)(hb:b<=t.length):Txt.slice (sTx t) (some a) (some b)=sTx ((t.drop a.toNat).take (b.toNat - a.toNat)):=by
 obtain⟨x,rfl⟩:∃x:Nat,a=x:=⟨a.toNat,by omega⟩;obtain⟨y,rfl⟩:∃y:Nat,b=y:=⟨b.toNat,by omega⟩;exact jjZ t (by omega) (by omega) _ rfl
theorem jly (t:List Nat){b:Int}(h0:0<=b)(hb:b<=t.length):Txt.slice (sTx t) none (some b)=sTx (t.take b.toNat):=by
 obtain⟨y,rfl⟩:∃y:Nat,b=y:=⟨b.toNat,by omega⟩;have:=jjZ t (a:=0) (b:=y) (by omega) (by omega) none (by
  have e:max (0:Int) (min 0 (t.length:Int))=0:=by omega
  simp[Builtin.Str.strSliceIndices,e])
 rw[this,List.drop_zero];rfl
theorem jqk (cs:List Nat):Txt.join (Str.ofString "") (cs.map fun c=>sTx [c])=sTx cs:=by
 have e:∀l:List Str,Txt.join (Str.ofString "") l=Str.join (Str.ofString "") l:=fun l=>by simpa using join_plain_closes (Str.ofString "") l
 rw[e]
 induction cs with
 |nil=>rfl
 |cons c r ih=>
  cases r with
  |nil=>rfl
  |cons d r=>
   show sTx [c]++Str.ofString "" ++ Str.join (Str.ofString "") ((d::r).map fun c=>sTx [c])=_;rw[ih];refine Str.ext' ?_;rw[Str.cps_append,Str.cps_append];have e0:(Str.ofString "").cps = #[]:=by decide +kernel
   rw[e0];simp[sTx]
theorem jdI {α:Type}{f:Nat->α}{n:Nat}(h:∀i j,i<n->j<n->f i=f j->i=j):((List.range n).map f).Nodup:=by
 rw[List.Nodup,j1c];refine List.Pairwise.imp_of_mem (R:=fun a b=>a<b) (fun {a b} ha hb hab e=>?_) List.pairwise_lt_range;have:=h a b (by simpa using ha) (by simpa using hb) e;omega
theorem jo0:(Str.ofString "abcdefghijklmnopqrstuvwxyz").length=26:=by decide +kernel
theorem jm2:∀n:Nat,n<26->(Str.ofString "abcdefghijklmnopqrstuvwxyz").cps.toList[n]?=some (97+n):=by decide +kernel
theorem jys {i:Int}(h0:0<=i)(h1:i<26)(μ:M):ixD (.str (Str.ofString "abcdefghijklmnopqrstuvwxyz")) (.int i) μ=.ok (.str (sTx [97+i.toNat])) μ:=by
 obtain⟨n,rfl⟩:∃n:Nat,i=n:=⟨i.toNat,by omega⟩;have e:atI (Str.ofString "abcdefghijklmnopqrstuvwxyz").cps.toList (n:Int)=some (97+n):=jfY (jm2 n (by omega));unfold ixD;simp only[if_pos (show(Str.ofString "abcdefghijklmnopqrstuvwxyz").length<=sizeLine by rw[jo0];exact jpO (by decide)),e];rfl
theorem jac {n:Nat}(h:n<=1000):n<=sizeLine:=jpO (by omega)
theorem jk8 {xs ys:List D}{μ:M}(h:xs.length+ys.length<=sizeLine):jiV .Add false (.lst xs) (.lst ys) μ=.ok (.lst (xs++ys)) μ:=by
 show @ite _ (xs.length+ys.length<=sizeLine) (Classical.propDecidable _) (mkL false (xs++ys) μ) .bad=_;rw[if_pos h];rfl
theorem jow {zs:List Str}(z:Str)(h:zs.Nodup):zs.length<=(zs.filter fun y=>!decide (y=z)).length+1:=by
 induction zs with
 |nil=>simp
 |cons y ys ih=>
  have hy:y∉ys/\ys.Nodup:=by simpa using h
  by_cases e:y=z
  ·subst e;have:ys.filter (fun x=>!decide (x=y))=ys:=j0r.mpr fun x hx=>by
    have:x≠y:=fun q=>hy.1 (q▸hx);simp[this]
   rw[j1z (by simp),this];simp
  ·rw[j1y (by simp[e])];have:=ih hy.2;simp only[j0q];omega
theorem jiw {G:List FnE}:∀(a b:List S) (ρ:S3) (μ:M),runs G (a++b) ρ μ=jo (runs G a ρ μ) (runs G b)
 |[],b,ρ,μ=>by rw[j1f,jl8,jfZ]
 |s::a,b,ρ,μ=>by
  rw[List.cons_append,jcR,jcR]
  cases _L3.run G s ρ μ with
  |ok fl μ1=>
   cases fl with
   |nx ρ1=>rw[jfZ,jfZ];exact jiw a b ρ1 μ1
   |rt d=>rfl
   |bk ρ1=>rfl
   |ct ρ1=>rfl
  |exc x μ1=>rfl
  |bad=>rfl
end _L3
namespace _K18
open PySem PySem.Spec PyProof.Rows _L2 _L3
local macro_rules | `(tactic|symm)=>`(tactic|try simp only[ju3,jxc,jo4,jnt,jt1,jrV,jtm,jrP,jp9,jr,jnj,jrN,jta,jvw,jqx,jxp,jyc,jtk,jv3,jvk,jlu,jod,jvD,jlX,jlU,sz0,sz1,sz2,sz3,sz4,sz5,sz6,sz7,sz8,sz9,jBu,jA7,jBp,Nat.zero_add,j0q,List.length_nil,Nat.reduceAdd,if_true,if_false,j0p,j0k,j0F,List.replicate,List.cons_append,j1f,jl8,jcR,juy,jyA,jjt,jt,jvL,jtI,jwz,jyB,jya,jx9,jyF,jye,jyC,jtA,jyp,jzA,jwh,jv7,jxI,jzF,jAg,jxd,jtF,jzE,jzl,jn9,jra,jz0,jzo,jz8,jAc,jvm,joS,juq,jrO,jxK,jtR,jrk,jvE,jti,jyE,jbT,jqH,jfZ,juh,jvG,jps,jn0,jmI,jqN,jrX,jwQ,jxz,jAa,jxS,jwS,juE,jtT,je1,jls,jpF,jiF,Int.reduceLT,Int.reduceLE,Int.reduceNeg,Int.reduceToNat,Int.reducePow,Nat.reduceLT,jxP,jxW,jxH,jwq,jtb,juS,jtf,juv,jzc,jzO,jp7,jxu,j04,List.getElem?_cons_succ,List.set_cons_zero,List.set_cons_succ,jvM,jtX,jz2,jvg,jxw,jtn,jxf,jse,jsl,jyt,jqb,jva,jwY,jpr,jig,Bool.not_true,Bool.not_false])
local macro_rules|`(tactic|rwa[$r,*])=>`(tactic|(rw[$r,*];symm))
local macro_rules|`(tactic|ac_rfl)=>`(tactic|decide +kernel)
local macro_rules|`(tactic|walk_at"s")=>`(tactic|exact⟨rfl,rfl,rfl,by decide +kernel,rfl,by decide +kernel,by decide +kernel⟩)
noncomputable def top (i:Nat):Stmt:=PySem.Challenge.pw_pointpurse_k18_books.main.body.getD i (.Pass ⟨0,0,0,0⟩)
noncomputable def jbD:FnE:=⟨"LONGEST_NAME",[],1000000,fun _ _=>.bad,some (.cst (.int 8))⟩
theorem jhF:jbD.dat=some (.cst (.int 8)):=rfl
noncomputable abbrev jck:Stmt:=top 1
abbrev jgZ:List Str:=["value","least"]
theorem jjI:FnScope jgZ ["value","least"] (ja jck):=by walk_at"s"
def je5:List S:=
  [.ret (.and_ (.bi (.isT "int") false [(.var 0)]) (.and_ (.not_ (.bi (.isT "bool") false [(.var 0)])) (.cmp .GtE (.var 0) (.var 1))))]
noncomputable abbrev jgC:List FnE:=[]
noncomputable def jeQ:Fn:=fnOf jgC 2 0 je5
noncomputable def jaM:FnE:=⟨"is_number",["value","least"],1,jeQ,none⟩
theorem jkW:chkSs jgC 0 je5 ⟨jgZ,ja jck,false⟩ (jae jck)=true:=by ac_rfl
noncomputable abbrev jem:Stmt:=top 2
abbrev jkf:List Str:=["value"]
theorem jmD:FnScope jkf ["value"] (ja jem):=by walk_at"s"
def jhj:List S:=
  [.ret (.bi (.isT2 "list" "tuple") false [(.var 0)])]
noncomputable abbrev jjN:List FnE:=[]
noncomputable def jg8:Fn:=fnOf jjN 1 0 jhj
noncomputable def jg6:FnE:=⟨"is_list",["value"],1,jg8,none⟩
theorem jpv:chkSs jjN 0 jhj ⟨jkf,ja jem,false⟩ (jae jem)=true:=by ac_rfl
noncomputable abbrev jbv:Stmt:=top 3
abbrev jfI:List Str:=["value","many"]
theorem jhC:FnScope jfI ["value","many"] (ja jbv):=by walk_at"s"
def jc6:List S:=
  [.ret (.and_ (.bi (.isT "tuple") false [(.var 0)]) (.cmp .Eq (.bi .len false [(.var 0)]) (.var 1)))]
noncomputable abbrev je9:List FnE:=[]
noncomputable def jdp:Fn:=fnOf je9 2 0 jc6
noncomputable def jb0:FnE:=⟨"is_tuple_of",["value","many"],1,jdp,none⟩
theorem jjv:chkSs je9 0 jc6 ⟨jfI,ja jbv,false⟩ (jae jbv)=true:=by ac_rfl
noncomputable abbrev jbO:Stmt:=top 4
abbrev jgb:List Str:=["values"]
theorem jjk:FnScope jgb ["values"] (ja jbO):=by walk_at"s"
def jct:List S:=
  [.ret (.cmp .Eq (.bi .lenSet false [(.var 0)]) (.bi .len false [(.var 0)]))]
noncomputable abbrev jf7:List FnE:=[]
noncomputable def jbN:Fn:=fnOf jf7 1 0 jct
noncomputable def jaZ:FnE:=⟨"are_unlike",["values"],1,jbN,none⟩
theorem jkv:chkSs jf7 0 jct ⟨jgb,ja jbO,false⟩ (jae jbO)=true:=by ac_rfl
noncomputable abbrev jbK:Stmt:=top 5
abbrev jf6:List Str:=["numbers","place"]
theorem jjm:FnScope jf6 ["numbers"] (ja jbK):=by walk_at"s"
def jeI:List S:=
  [.ite (.cmp .LtE (.ix (.var 0) (.var 1)) (.ix (.var 0) (.bin .Sub false (.var 1) (.cst (.int 1)))))
   [.ret (.cst (.bl false))]
   []]
def jd6:List S:=
  [.for_ (.nm 1) .rng2 [(.cst (.int 1)),(.bi .len false [(.var 0)])] jeI [1],
  .ret (.cst (.bl true))]
noncomputable abbrev jf8:List FnE:=[]
noncomputable def jeo:Fn:=fnOf jf8 1 1 jd6
noncomputable def jd2:FnE:=⟨"are_rising",["numbers"],1,jeo,none⟩
theorem jkd:chkSs jf8 0 jd6 ⟨jf6,ja jbK,false⟩ (jae jbK)=true:=by ac_rfl
noncomputable abbrev jen:Stmt:=top 20
abbrev jkl:List Str:=["text"]
theorem jmT:FnScope jkl ["text"] (ja jen):=by walk_at"s"
def jeX:E:=(.comp false 1 (.nm 0) .str [(.var 0)] [] (.chain .LtE .LtE (.cst (.str "a")) (.var 0) (.cst (.str "z"))))
def jht:List S:=
  [.ite (.or_ (.not_ (.bi (.isT "str") false [(.var 0)])) (.not_ (.chain .LtE .LtE (.cst (.int 1)) (.bi .len false [(.var 0)]) (.gl 0))))
   [.ret (.cst (.bl false))]
   [],
  .ret (.bi .all false [jeX])]
noncomputable abbrev jg1:List FnE:=[jbD]
noncomputable def jg9:Fn:=fnOf jg1 1 0 jht
noncomputable def jcV:FnE:=⟨"is_name",["text"],1,jg9,none⟩
theorem jpV:chkSs jg1 0 jht ⟨jkl,ja jen,false⟩ (jae jen)=true:=by ac_rfl
noncomputable abbrev ja1:Stmt:=top 21
abbrev jel:List Str:=["holds","words"]
theorem jgd:FnScope jel ["holds","words"] (ja ja1):=by walk_at"s"
def jb5:List S:=
  [.ite (.not_ (.var 0))
   [.never]
   []]
noncomputable abbrev jeu:List FnE:=[]
noncomputable def jc:Fn:=fnOf jeu 2 0 jb5
noncomputable def jar:FnE:=⟨"demand_houses",["holds","words"],1,jc,none⟩
theorem jg2:chkSs jeu 0 jb5 ⟨jel,ja ja1,false⟩ (jae ja1)=true:=by ac_rfl
noncomputable abbrev jaF:Stmt:=top 23
abbrev jch:List Str:=["value","least"]
theorem jeB:FnScope jch ["value","least"] (ja jaF):=by walk_at"s"
def jbd:List S:=
  [.ret (.or_ (.isN (.var 0)) (.call 0 .frz [(.var 0),(.var 1)]))]
noncomputable abbrev jco:List FnE:=[jaM]
noncomputable def jbe:Fn:=fnOf jco 2 0 jbd
noncomputable def jbf:FnE:=⟨"is_number_or_none",["value","least"],2,jbe,none⟩
theorem jeO:chkSs jco 1 jbd ⟨jch,ja jaF,false⟩ (jae jaF)=true:=by ac_rfl
noncomputable abbrev jbI:Stmt:=top 24
abbrev jga:List Str:=["value","many","words"]
theorem jjg:FnScope jga ["value","many","words"] (ja jbI):=by walk_at"s"
def jcC:E:=(.comp false 1 (.nm 0) .seq [(.var 0)] [] (.call 2 .frz [(.var 0),(.var 2)]))
def jdW:List S:=
  [.ex (.call 0 .frz [(.call 1 .frz [(.var 0)]),(.var 2)]),
  .ex (.call 0 .frz [(.bi .all false [jcC]),(.var 2)])]
noncomputable abbrev jei:List FnE:=[jar,jg6,jb0]
noncomputable def jej:Fn:=fnOf jei 3 0 jdW
noncomputable def jbH:FnE:=⟨"check_list",["value","many","words"],2,jej,none⟩
theorem jke:chkSs jei 1 jdW ⟨jga,ja jbI,false⟩ (jae jbI)=true:=by ac_rfl
noncomputable abbrev jbk:Stmt:=top 25
abbrev jfq:List Str:=["share"]
theorem jhy:FnScope jfq ["share"] (ja jbk):=by walk_at"s"
def jc8:List S:=
  [.ex (.call 0 .frz [(.call 1 .frz [(.var 0),(.cst (.int 2))]),(.cst (.str "the share is no pair"))]),
  .ex (.call 0 .frz [(.call 2 .frz [(.ix (.var 0) (.cst (.int 0))),(.cst (.int 0))]),(.cst (.str "the share's top is no number, or too low"))]),
  .ex (.call 0 .frz [(.call 2 .frz [(.ix (.var 0) (.cst (.int 1))),(.cst (.int 1))]),(.cst (.str "the share's bottom is no number, or too low"))])]
noncomputable abbrev jfF:List FnE:=[jar,jb0,jaM]
noncomputable def jc5:Fn:=fnOf jfF 1 0 jc8
noncomputable def jdi:FnE:=⟨"check_share",["share"],2,jc5,none⟩
theorem jiM:chkSs jfF 1 jc8 ⟨jfq,ja jbk,false⟩ (jae jbk)=true:=by ac_rfl
noncomputable abbrev jbl:Stmt:=top 26
abbrev jfr:List Str:=["kinds","kind","factor"]
theorem jhB:FnScope jfr ["kinds"] (ja jbl):=by walk_at"s"
def jd7:List S:=
  [.ex (.call 1 .frz [(.call 2 .frz [(.var 1)]),(.cst (.str "a kind is no name"))]),
  .ex (.call 1 .frz [(.call 3 .frz [(.var 2),(.cst (.int 0))]),(.cst (.str "a kind's factor is no number, or too low"))])]
def jcl:E:=(.comp false 2 (.tp [0,1]) .seq [(.var 0)] [] (.var 0))
def jdq:List S:=
  [.ex (.call 0 .frz [(.var 0),(.cst (.int 2)),(.cst (.str "kinds is no list of pairs"))]),
  .for_ (.tp [1,2]) .seq [(.var 0)] jd7 [1,2],
  .ex (.call 1 .frz [(.call 4 .frz [jcl]),(.cst (.str "a kind is told twice"))])]
noncomputable abbrev jdo:List FnE:=[jbH,jar,jcV,jaM,jaZ]
noncomputable def jc4:Fn:=fnOf jdo 1 2 jdq
noncomputable def jdr:FnE:=⟨"check_kinds",["kinds"],3,jc4,none⟩
theorem ji8:chkSs jdo 2 jdq ⟨jfr,ja jbl,false⟩ (jae jbl)=true:=by ac_rfl
noncomputable abbrev jb:Stmt:=top 27
abbrev jeK:List Str:=["pairs","lowest","words"]
theorem jhv:FnScope jeK ["pairs","lowest","words"] (ja jb):=by walk_at"s"
def jbS:E:=(.comp false 1 (.nm 0) .seq [(.var 0)] [] (.call 2 .frz [(.ix (.var 0) (.cst (.int 0))),(.var 2)]))
def jbR:E:=(.comp false 1 (.nm 0) .seq [(.var 0)] [] (.ix (.var 0) (.cst (.int 0))))
def jcw:List S:=
  [.ex (.call 0 .frz [(.var 0),(.cst (.int 2)),(.var 2)]),
  .ex (.call 1 .frz [(.bi .all false [jbS]),(.var 2)]),
  .ex (.call 1 .frz [(.call 3 .frz [jbR]),(.var 2)])]
noncomputable abbrev jbE:List FnE:=[jbH,jar,jaM,jd2]
noncomputable def jcG:Fn:=fnOf jbE 3 0 jcw
noncomputable def jbz:FnE:=⟨"check_leasts",["pairs","lowest","words"],3,jcG,none⟩
theorem jhK:chkSs jbE 2 jcw ⟨jeK,ja jb,false⟩ (jae jb)=true:=by ac_rfl
noncomputable abbrev jbo:Stmt:=top 28
abbrev jfc:List Str:=["steps","least","extra"]
theorem jhW:FnScope jfc ["steps"] (ja jbo):=by walk_at"s"
def jep:List S:=
  [.ex (.call 1 .frz [(.call 2 .frz [(.var 2),(.cst (.int 0))]),(.cst (.str "a step's extra is no number, or too low"))])]
def jdD:List S:=
  [.ex (.call 0 .frz [(.var 0),(.cst (.int 0)),(.cst (.str "the leasts of the steps are too low or don't rise"))]),
  .for_ (.tp [1,2]) .seq [(.var 0)] jep [1,2]]
noncomputable abbrev jf:List FnE:=[jbz,jar,jaM]
noncomputable def jdJ:Fn:=fnOf jf 1 2 jdD
noncomputable def jcY:FnE:=⟨"check_steps",["steps"],4,jdJ,none⟩
theorem ji6:chkSs jf 3 jdD ⟨jfc,ja jbo,false⟩ (jae jbo)=true:=by ac_rfl
noncomputable abbrev ja2:Stmt:=top 29
abbrev jdV:List Str:=["doubles","first","last","factor"]
theorem jge:FnScope jdV ["doubles"] (ja ja2):=by walk_at"s"
def jcO:List S:=
  [.ex (.call 1 .frz [(.and_ (.call 2 .frz [(.var 1),(.cst (.int 0))]) (.call 2 .frz [(.var 2),(.cst (.int 0))])),(.cst (.str "a double's day is no day"))]),
  .ex (.call 1 .frz [(.cmp .LtE (.var 1) (.var 2)),(.cst (.str "a double's first day is behind its last one"))]),
  .ex (.call 1 .frz [(.call 2 .frz [(.var 3),(.cst (.int 1))]),(.cst (.str "a double's factor is no number, or too low"))])]
def jcn:List S:=
  [.ex (.call 0 .frz [(.var 0),(.cst (.int 3)),(.cst (.str "doubles is no list of triples"))]),
  .for_ (.tp [1,2,3]) .seq [(.var 0)] jcO [1,2,3]]
noncomputable abbrev jd5:List FnE:=[jbH,jar,jaM]
noncomputable def jb2:Fn:=fnOf jd5 1 3 jcn
noncomputable def jci:FnE:=⟨"check_doubles",["doubles"],3,jb2,none⟩
theorem jgY:chkSs jd5 2 jcn ⟨jdV,ja ja2,false⟩ (jae ja2)=true:=by ac_rfl
noncomputable abbrev jbw:Stmt:=top 30
abbrev jfC:List Str:=["ranks","least","title"]
theorem jhP:FnScope jfC ["ranks"] (ja jbw):=by walk_at"s"
def jd9:List S:=
  [.ex (.call 1 .frz [(.call 2 .frz [(.var 2)]),(.cst (.str "a rank's title is no name"))])]
def jdF:List S:=
  [.ex (.call 0 .frz [(.var 0),(.cst (.int 1)),(.cst (.str "the leasts of the ranks are too low or don't rise"))]),
  .for_ (.tp [1,2]) .seq [(.var 0)] jd9 [1,2]]
noncomputable abbrev jfA:List FnE:=[jbz,jar,jcV]
noncomputable def jdw:Fn:=fnOf jfA 1 2 jdF
noncomputable def jc0:FnE:=⟨"check_ranks",["ranks"],4,jdw,none⟩
theorem jir:chkSs jfA 3 jdF ⟨jfC,ja jbw,false⟩ (jae jbw)=true:=by ac_rfl
noncomputable abbrev jaK:Stmt:=jnK (top 31) 0
abbrev jeL:List Str:=["self","name","share","kinds","steps","doubles","cap","age","rest","ranks","span","grace"]
theorem jhm:FnScope jeL ["self","name","share","kinds","steps","doubles","cap","age","rest","ranks","span","grace"] (ja jaK):=by walk_at"s"
def jcA:List S:=
  [.ex (.call 0 .frz [(.call 1 .frz [(.var 1)]),(.cst (.str "the house's name is no name"))]),
  .ex (.call 2 .frz [(.var 2)]),
  .ex (.call 3 .frz [(.var 3)]),
  .ex (.call 4 .frz [(.var 4)]),
  .ex (.call 5 .frz [(.var 5)]),
  .ex (.call 0 .frz [(.call 6 .frz [(.var 6),(.cst (.int 0))]),(.cst (.str "the cap is no number, or too low"))]),
  .ex (.call 0 .frz [(.call 6 .frz [(.var 7),(.cst (.int 1))]),(.cst (.str "the age is no number, or too low"))]),
  .ex (.call 0 .frz [(.call 6 .frz [(.var 8),(.cst (.int 1))]),(.cst (.str "the rest is no number, or too low"))]),
  .ex (.call 7 .frz [(.var 9)]),
  .ex (.call 0 .frz [(.call 8 .frz [(.var 10),(.cst (.int 1))]),(.cst (.str "the span is no number, or too low"))]),
  .ex (.call 0 .frz [(.call 8 .frz [(.var 11),(.cst (.int 0))]),(.cst (.str "the grace is no number, or too low"))]),
  .setF (.var 0) 9 "name" (.var 1),
  .setF (.var 0) 9 "share" (.var 2),
  .setF (.var 0) 9 "kinds" (.bi .tuple false [(.var 3)]),
  .setF (.var 0) 9 "steps" (.bi .tuple false [(.var 4)]),
  .setF (.var 0) 9 "doubles" (.bi .tuple false [(.var 5)]),
  .setF (.var 0) 9 "cap" (.var 6),
  .setF (.var 0) 9 "age" (.var 7),
  .setF (.var 0) 9 "rest" (.var 8),
  .setF (.var 0) 9 "ranks" (.bi .tuple false [(.var 9)]),
  .setF (.var 0) 9 "span" (.var 10),
  .setF (.var 0) 9 "grace" (.var 11)]
noncomputable def jiI:FnE:=⟨"House",[],1000000,fun _ _=>.bad,some (.cls 268 1000000 ["name","share","kinds","steps","doubles","cap","age","rest","ranks","span","grace"])⟩
noncomputable abbrev jcv:List FnE:=[jar,jcV,jdi,jdr,jcY,jci,jbf,jc0,jaM,jiI]
noncomputable def ja8:Fn:=fnOf jcv 12 0 jcA
theorem jhR:chkSs jcv 4 jcA ⟨jeL,ja jaK,false⟩ (jae jaK)=true:=by ac_rfl
noncomputable def jaA:FnE:=⟨"House",["name","share","kinds","steps","doubles","cap","age","rest","ranks","span","grace"],6,mkF 268 ja8,some (.cls 268 5 ["name","share","kinds","steps","doubles","cap","age","rest","ranks","span","grace"])⟩
noncomputable abbrev jba:Stmt:=top 33
abbrev jeF:List Str:=["holds","words"]
theorem jgP:FnScope jeF ["holds","words"] (ja jba):=by walk_at"s"
def jcD:List SY:=
  [.ite (.not_ (.var 0))
   [.raise "BadBook" (.var 1)]
   []]
noncomputable abbrev jeE:List FnE:=[]
noncomputable def jcx:Fn:=fnY jeE 2 0 jcD
theorem jhS:chkYs jeE 0 [] ["BadBook"] jcD ⟨jeF,ja jba,false⟩ (jae jba)=true:=by ac_rfl
noncomputable def jbb:FnE:=⟨"demand_books",["holds","words"],1,jcx,none⟩
noncomputable abbrev ja9:Stmt:=top 35
abbrev jeH:List Str:=["purses","names","purse","name"]
theorem jhr:FnScope jeH ["purses","names"] (ja ja9):=by walk_at"s"
def jdM:List SY:=
  [.ex (.call 0 .frz [(.call 1 .frz [(.var 2)]),(.cst (.str "a purse is no name"))]),
  .ex (.call 0 .frz [(.cmp .In (.var 3) (.var 1)),(.cst (.str "a purse is of a house that is not there"))])]
def jbQ:E:=(.comp false 2 (.tp [0,1]) .seq [(.var 0)] [] (.var 0))
def jcy:List SY:=
  [.for_ (.tp [2,3]) .seq [(.var 0)] jdM [2,3],
  .ex (.call 0 .frz [(.call 2 .frz [jbQ]),(.cst (.str "a purse is told twice"))])]
noncomputable abbrev jcL:List FnE:=[jbb,jcV,jaZ]
noncomputable def jcH:Fn:=fnY jcL 2 2 jcy
theorem jhH:chkYs jcL 1 [0] [] jcy ⟨jeH,ja ja9,false⟩ (jae ja9)=true:=by ac_rfl
noncomputable def jcJ:FnE:=⟨"check_purses",["purses","names"],2,jcH,none⟩
noncomputable abbrev jbr:Stmt:=top 36
abbrev jff:List Str:=["rates","names","start","goal","top","bottom"]
theorem jhA:FnScope jff ["rates","names"] (ja jbr):=by walk_at"s"
def jdZ:List SY:=
  [.ex (.call 0 .frz [(.and_ (.cmp .In (.var 2) (.var 1)) (.cmp .In (.var 3) (.var 1))),(.cst (.str "a rate is of a house that is not there"))]),
  .ex (.call 0 .frz [(.cmp .NotEq (.var 2) (.var 3)),(.cst (.str "a rate goes from a house to itself"))]),
  .ex (.call 0 .frz [(.call 1 .frz [(.var 4),(.cst (.int 0))]),(.cst (.str "a rate's top is too low"))]),
  .ex (.call 0 .frz [(.call 1 .frz [(.var 5),(.cst (.int 1))]),(.cst (.str "a rate's bottom is too low"))])]
def jb3:E:=(.comp false 1 (.nm 0) .seq [(.var 0)] [] (.tup [(.ix (.var 0) (.cst (.int 0))),(.ix (.var 0) (.cst (.int 1)))]))
def jda:List SY:=
  [.for_ (.tp [2,3,4,5]) .seq [(.var 0)] jdZ [2,3,4,5],
  .ex (.call 0 .frz [(.call 2 .frz [jb3]),(.cst (.str "two rates go from one house to the same other one"))])]
noncomputable abbrev jdu:List FnE:=[jbb,jaM,jaZ]
noncomputable def jdd:Fn:=fnY jdu 2 4 jda
theorem ji1:chkYs jdu 1 [0] [] jda ⟨jff,ja jbr,false⟩ (jae jbr)=true:=by ac_rfl
noncomputable def jds:FnE:=⟨"check_rates",["rates","names"],2,jdd,none⟩
noncomputable abbrev jaQ:Stmt:=jnK (top 37) 0
abbrev jfe:List Str:=["self","houses","purses","rates","names"]
theorem jhN:FnScope jfe ["self","houses","purses","rates"] (ja jaQ):=by walk_at"s"
def jcc:E:=(.comp false 1 (.nm 0) .seq [(.var 1)] [] (.fld (.var 0) 0 "name"))
def jdt:List SY:=
  [.st (.asg (.nm 4) jcc),
  .ex (.call 1 .frz [(.cmp .Gt (.bi .len false [(.var 4)]) (.cst (.int 0))),(.cst (.str "there is no house"))]),
  .ex (.call 1 .frz [(.call 2 .frz [(.var 4)]),(.cst (.str "two houses have one name"))]),
  .ex (.call 3 .frz [(.var 2),(.var 4)]),
  .ex (.call 4 .frz [(.var 3),(.var 4)]),
  .st (.setF (.var 0) 5 "houses" (.bi .tuple false [(.var 1)])),
  .st (.setF (.var 0) 5 "purses" (.bi .tuple false [(.var 2)])),
  .st (.setF (.var 0) 5 "rates" (.bi .tuple false [(.var 3)]))]
noncomputable def jiC:FnE:=⟨"Book",[],1000000,fun _ _=>.bad,some (.cls 304 1000000 ["houses","purses","rates"])⟩
noncomputable abbrev jbV:List FnE:=[jaA,jbb,jaZ,jcJ,jds,jiC]
noncomputable def jaV:Fn:=fnY jbV 4 1 jdt
theorem ji7:chkYs jbV 6 [1,3,4] [] jdt ⟨jfe,ja jaQ,false⟩ (jae jaQ)=true:=by ac_rfl
noncomputable def jbn:FnE:=⟨"Book",["houses","purses","rates"],8,mkF 304 jaV,some (.cls 304 7 ["houses","purses","rates"])⟩
noncomputable abbrev jcP:Stmt:=top 38
abbrev jij:List Str:=["book","purse","name"]
theorem jkZ:FnScope jij ["book","purse"] (ja jcP):=by walk_at"s"
def jea:E:=(.comp false 1 (.nm 0) .seq [(.fld (.var 0) 0 "houses")] [(.cmp .Eq (.fld (.var 0) 1 "name") (.var 3))] (.var 0))
def jfT:List S:=
  [.asg (.nm 2) (.ix (.bi .dict false [(.fld (.var 0) 0 "purses")]) (.var 1)),
  .ret (.ix jea (.cst (.int 0)))]
noncomputable abbrev jf0:List FnE:=[jbn,jaA]
noncomputable def jfN:Fn:=fnOf jf0 2 1 jfT
noncomputable def jew:FnE:=⟨"house_of",["book","purse"],9,jfN,none⟩
theorem jmP:chkSs jf0 8 jfT ⟨jij,ja jcP,false⟩ (jae jcP)=true:=by ac_rfl
noncomputable abbrev je:Stmt:=top 39
abbrev jki:List Str:=["book","purse","other","start","goal","rate"]
theorem jnm:FnScope jki ["book","purse","other"] (ja je):=by walk_at"s"
def jgN:List S:=
  [.ite (.and_ (.cmp .Eq (.ix (.var 5) (.cst (.int 0))) (.var 3)) (.cmp .Eq (.ix (.var 5) (.cst (.int 1))) (.var 4)))
   [.ret (.tup [(.ix (.var 5) (.cst (.int 2))),(.ix (.var 5) (.cst (.int 3)))])]
   []]
def jgM:List S:=
  [.asg (.nm 3) (.fld (.call 0 .frz [(.var 0),(.var 1)]) 1 "name"),
  .asg (.nm 4) (.fld (.call 0 .frz [(.var 0),(.var 2)]) 1 "name"),
  .for_ (.nm 5) .seq [(.fld (.var 0) 2 "rates")] jgN [5],
  .ret (.cst .non)]
noncomputable abbrev jj3:List FnE:=[jew,jaA,jbn]
noncomputable def jg3:Fn:=fnOf jj3 3 3 jgM
noncomputable def jhp:FnE:=⟨"rate_of",["book","purse","other"],10,jg3,none⟩
theorem jot:chkSs jj3 9 jgM ⟨jki,ja je,false⟩ (jae je)=true:=by ac_rfl
noncomputable abbrev jfb:Stmt:=top 41
abbrev jlH:List Str:=["_law_script","_law_k"]
theorem jpG:FnScope jlH ["_law_script","_law_k"] (ja jfb):=by walk_at"s"
def jiU:List S:=
  [.ite (.cmp .Lt (.var 1) (.bi .len false [(.var 0)]))
   [.ret (.ix (.var 0) (.var 1))]
   [],
  .ret (.cst (.int 0))]
noncomputable abbrev jlR:List FnE:=[]
noncomputable def jiQ:Fn:=fnOf jlR 2 0 jiU
noncomputable def jbB:FnE:=⟨"_law_at",["_law_script","_law_k"],1,jiQ,none⟩
theorem jp1:chkSs jlR 0 jiU ⟨jlH,ja jfb,false⟩ (jae jfb)=true:=by ac_rfl
noncomputable abbrev jeh:Stmt:=top 42
abbrev jj4:List Str:=["_law_cell","_law_k","_law_factor","_law_number_here"]
theorem jmW:FnScope jj4 ["_law_cell","_law_k"] (ja jeh):=by walk_at"s"
def jgz:List S:=
  [.asg (.nm 2) (.ix (.lst false [(.cst (.int 48271)),(.cst (.int 69621)),(.cst (.int 16807)),(.cst (.int 40692)),(.cst (.int 30269)),(.cst (.int 62089)),(.cst (.int 45991))]) (.bin .Mod false (.var 1) (.cst (.int 7)))),
  .asg (.nm 3) (.bin .Mod false (.bin .Mult false (.bin .Add false (.bin .Add false (.bin .Mod false (.var 0) (.cst (.int 2147483647))) (.bin .Mult false (.bin .Mult false (.cst (.int 97)) (.var 1)) (.var 1))) (.cst (.int 11))) (.var 2)) (.cst (.int 2147483629))),
  .ret (.bin .Mod false (.bin .Mult false (.var 3) (.var 3)) (.cst (.int 1999999973)))]
noncomputable abbrev jj9:List FnE:=[]
noncomputable def jhu:Fn:=fnOf jj9 2 2 jgz
noncomputable def jcT:FnE:=⟨"_law_mix",["_law_cell","_law_k"],1,jhu,none⟩
theorem jo3:chkSs jj9 0 jgz ⟨jj4,ja jeh,false⟩ (jae jeh)=true:=by ac_rfl
noncomputable abbrev jbG:Stmt:=top 43
abbrev jf5:List Str:=["_law_script","_law_cell","_law_k","_law_number_here","_law_j"]
theorem jjr:FnScope jf5 ["_law_script","_law_cell","_law_k"] (ja jbG):=by walk_at"s"
def jcI:List S:=
  [.asg (.nm 3) (.bin .Add false (.bin .Mult false (.bin .Mod false (.var 3) (.cst (.int 2147483647))) (.cst (.int 1999999973))) (.call 1 .frz [(.var 1),(.bin .Add false (.var 2) (.bin .Mult false (.cst (.int 5)) (.var 4)))])),
  .asg (.nm 3) (.bin .Add false (.bin .Mult false (.var 3) (.cst (.int 1999999973))) (.call 1 .frz [(.var 1),(.bin .Add false (.bin .Add false (.var 2) (.bin .Mult false (.cst (.int 5)) (.var 4))) (.cst (.int 2)))]))]
def jcq:List S:=
  [.asg (.nm 3) (.bin .Mod false (.var 1) (.bin .Pow false (.cst (.int 10)) (.cst (.int 30)))),
  .ite (.cmp .Eq (.bin .Mod false (.call 0 .frz [(.var 0),(.cst (.int 0))]) (.cst (.int 2))) (.cst (.int 1)))
   [.for_ (.nm 4) .rng1 [(.cst (.int 3))] jcI [4]]
   [],
  .ret (.var 3)]
noncomputable abbrev jef:List FnE:=[jbB,jcT]
noncomputable def jbM:Fn:=fnOf jef 3 2 jcq
noncomputable def jcs:FnE:=⟨"_law_number",["_law_script","_law_cell","_law_k"],2,jbM,none⟩
theorem jkt:chkSs jef 1 jcq ⟨jf5,ja jbG,false⟩ (jae jbG)=true:=by ac_rfl
noncomputable abbrev jbJ:Stmt:=top 44
abbrev jg:List Str:=["_law_number_here","_law_sizes","_law_digits_here","_law_size"]
theorem jiT:FnScope jg ["_law_number_here","_law_sizes"] (ja jbJ):=by walk_at"s"
def jcK:List S:=
  [.ex (.mt .append (.var 2) [(.bin .Mod false (.var 0) (.var 3))]),
  .asg (.nm 0) (.bin .FloorDiv false (.var 0) (.var 3))]
def jed:List S:=
  [.asg (.nm 2) (.lst true []),
  .for_ (.nm 3) .seq [(.var 1)] jcK [3],
  .ret (.var 2)]
noncomputable abbrev jdX:List FnE:=[]
noncomputable def jd3:Fn:=fnOf jdX 2 2 jed
noncomputable def jbi:FnE:=⟨"_law_digits",["_law_number_here","_law_sizes"],1,jd3,none⟩
theorem jj0:chkSs jdX 0 jed ⟨jg,ja jbJ,false⟩ (jae jbJ)=true:=by ac_rfl
noncomputable abbrev jb7:Stmt:=top 45
abbrev jgE:List Str:=["_law_cell","_law_many","_law_letters","_law_number_here","_law_stem","_law_turn","_law_size","_law_at_here","_law_signs"]
theorem jjH:FnScope jgE ["_law_cell","_law_many"] (ja jb7):=by walk_at"s"
def jde:E:=(.comp false 1 (.nm 0) .rng1 [(.cst (.int 8))] [] (.ix (.var 3) (.bin .Mod false (.bin .Add false (.bin .FloorDiv false (.var 4) (.bin .Add false (.var 0) (.cst (.int 1)))) (.bin .Mult false (.var 0) (.var 0))) (.cst (.int 26)))))
def jfi:E:=(.comp false 1 (.nm 0) .rng1 [(.var 1)] [] (.sl false (.var 5) [] [(.bin .Add false (.var 0) (.cst (.int 1)))]))
def jfo:E:=(.comp false 1 (.nm 0) .rng1 [(.var 1)] [] (.ix (.var 3) (.bin .Mod false (.bin .Add false (.bin .FloorDiv false (.var 4) (.cst (.int 7))) (.bin .Mult false (.var 0) (.var 6))) (.cst (.int 26)))))
def jfa:E:=(.comp false 1 (.nm 0) .seq [(.var 8)] [] (.bin .Add false (.bin .Add false (.sl false (.var 5) [] [(.var 8)]) (.var 0)) (.sl false (.var 5) [(.var 8)] [(.var 7)])))
def jdm:List S:=
  [.asg (.nm 2) (.cst (.str "abcdefghijklmnopqrstuvwxyz")),
  .asg (.nm 3) (.call 0 .frz [(.var 0),(.cst (.int 0))]),
  .asg (.nm 4) (.mt .join (.cst (.str "")) [jde]),
  .ite (.and_ (.cmp .Eq (.bin .Mod false (.var 3) (.cst (.int 3))) (.cst (.int 0))) (.cmp .Lt (.var 1) (.cst (.int 9))))
   [.ret jfi]
   [],
  .asg (.nm 5) (.ix (.lst false [(.cst (.int 1)),(.cst (.int 3)),(.cst (.int 5)),(.cst (.int 7)),(.cst (.int 9)),(.cst (.int 11))]) (.bin .Mod false (.bin .FloorDiv false (.var 3) (.cst (.int 3))) (.cst (.int 6)))),
  .asg (.nm 6) (.bin .Mod false (.bin .FloorDiv false (.var 3) (.cst (.int 18))) (.cst (.int 8))),
  .asg (.nm 7) (.bin .Mod false (.bin .FloorDiv false (.var 3) (.cst (.int 144))) (.bin .Add false (.var 6) (.cst (.int 1)))),
  .asg (.nm 8) jfo,
  .ret jfa]
noncomputable abbrev jdl:List FnE:=[jcT]
noncomputable def jcd:Fn:=fnOf jdl 2 7 jdm
noncomputable def ja3:FnE:=⟨"_law_names",["_law_cell","_law_many"],2,jcd,none⟩
theorem jlf:chkSs jdl 1 jdm ⟨jgE,ja jb7,false⟩ (jae jb7)=true:=by ac_rfl
noncomputable abbrev jce:Stmt:=top 46
abbrev jhe:List Str:=["_law_script","_law_k","_law_name","_law_kinds","_law_sizes","_law_d","_law_share","_law_some","_law_steps","_law_doubles","_law_cap","_law_age","_law_rest","_law_titles","_law_leasts","_law_ranks"]
theorem jjP:FnScope jhe ["_law_script","_law_k","_law_name","_law_kinds"] (ja jce):=by walk_at"s"
def jdj:E:=(.comp false 1 (.nm 0) .rng1 [(.bi .len false [(.var 14)])] [] (.tup [(.ix (.var 15) (.var 0)),(.ix (.var 14) (.var 0))]))
def jeT:List S:=
  [.asg (.nm 4) (.lst false [(.cst (.int 6)),(.cst (.int 5)),(.cst (.int 3)),(.cst (.int 4)),(.cst (.int 4)),(.cst (.int 3)),(.cst (.int 30)),(.cst (.int 30)),(.cst (.int 9)),(.cst (.int 9)),(.cst (.int 3)),(.cst (.int 30)),(.cst (.int 8)),(.cst (.int 3)),(.cst (.int 30)),(.cst (.int 8)),(.cst (.int 3)),(.cst (.int 4)),(.cst (.int 60)),(.cst (.int 40)),(.cst (.int 3)),(.cst (.int 20)),(.cst (.int 3)),(.cst (.int 4)),(.cst (.int 25)),(.cst (.int 25)),(.cst (.int 25)),(.cst (.int 15)),(.cst (.int 4))]),
  .asg (.nm 5) (.call 0 .frz [(.call 1 .frz [(.var 0),(.call 2 .frz [(.var 0),(.bin .Add false (.cst (.int 1)) (.var 1))]),(.bin .Mult false (.cst (.int 3)) (.var 1))]),(.var 4)]),
  .asg (.nm 6) (.tup [(.ix (.lst false [(.cst (.int 1)),(.cst (.int 2)),(.cst (.int 3)),(.cst (.int 1)),(.cst (.int 2)),(.cst (.int 0))]) (.ix (.var 5) (.cst (.int 0)))),(.ix (.lst false [(.cst (.int 1)),(.cst (.int 1)),(.cst (.int 2)),(.cst (.int 3)),(.cst (.int 10))]) (.ix (.var 5) (.cst (.int 1))))]),
  .asg (.nm 7) (.sl false (.lst false [(.tup [(.ix (.var 3) (.cst (.int 0))),(.ix (.var 5) (.cst (.int 3)))]),(.tup [(.ix (.var 3) (.cst (.int 1))),(.ix (.var 5) (.cst (.int 4)))])]) [] [(.ix (.var 5) (.cst (.int 2)))]),
  .asg (.nm 8) (.sl false (.lst false [(.tup [(.bin .Add false (.cst (.int 1)) (.ix (.var 5) (.cst (.int 6)))),(.ix (.var 5) (.cst (.int 8)))]),(.tup [(.bin .Add false (.bin .Add false (.cst (.int 2)) (.ix (.var 5) (.cst (.int 6)))) (.ix (.var 5) (.cst (.int 7)))),(.ix (.var 5) (.cst (.int 9)))])]) [] [(.ix (.var 5) (.cst (.int 5)))]),
  .asg (.nm 9) (.sl false (.lst false [(.tup [(.ix (.var 5) (.cst (.int 11))),(.bin .Add false (.ix (.var 5) (.cst (.int 11))) (.ix (.var 5) (.cst (.int 12)))),(.bin .Add false (.cst (.int 1)) (.ix (.var 5) (.cst (.int 13))))]),(.tup [(.ix (.var 5) (.cst (.int 14))),(.bin .Add false (.ix (.var 5) (.cst (.int 14))) (.ix (.var 5) (.cst (.int 15)))),(.bin .Add false (.cst (.int 1)) (.ix (.var 5) (.cst (.int 16))))])]) [] [(.ix (.var 5) (.cst (.int 10)))]),
  .asg (.nm 10) (.ix (.lst false [(.cst .non),(.cst .non),(.ix (.var 5) (.cst (.int 18))),(.bin .FloorDiv false (.ix (.var 5) (.cst (.int 18))) (.cst (.int 4)))]) (.ix (.var 5) (.cst (.int 17)))),
  .asg (.nm 11) (.ix (.lst false [(.cst .non),(.bin .Add false (.cst (.int 1)) (.ix (.var 5) (.cst (.int 19)))),(.bin .Add false (.cst (.int 1)) (.ix (.var 5) (.cst (.int 19))))]) (.ix (.var 5) (.cst (.int 20)))),
  .asg (.nm 12) (.ix (.lst false [(.cst .non),(.cst .non),(.bin .Add false (.cst (.int 1)) (.ix (.var 5) (.cst (.int 21))))]) (.ix (.var 5) (.cst (.int 22)))),
  .asg (.nm 13) (.call 3 .frz [(.call 2 .frz [(.var 0),(.bin .Add false (.cst (.int 1)) (.var 1))]),(.cst (.int 3))]),
  .asg (.nm 14) (.sl false (.lst false [(.bin .Add false (.cst (.int 1)) (.ix (.var 5) (.cst (.int 24)))),(.bin .Add false (.bin .Add false (.cst (.int 2)) (.ix (.var 5) (.cst (.int 24)))) (.ix (.var 5) (.cst (.int 25)))),(.bin .Add false (.bin .Add false (.bin .Add false (.cst (.int 3)) (.ix (.var 5) (.cst (.int 24)))) (.ix (.var 5) (.cst (.int 25)))) (.ix (.var 5) (.cst (.int 26))))]) [] [(.ix (.var 5) (.cst (.int 23)))]),
  .asg (.nm 15) jdj,
  .ret (.tup [(.var 2),(.var 6),(.var 7),(.var 8),(.var 9),(.var 10),(.var 11),(.var 12),(.var 15),(.bin .Add false (.cst (.int 1)) (.ix (.var 5) (.cst (.int 27)))),(.ix (.var 5) (.cst (.int 28)))])]
noncomputable abbrev je2:List FnE:=[jbi,jcs,jbB,ja3]
noncomputable def jeZ:Fn:=fnOf je2 4 12 jeT
noncomputable def jdG:FnE:=⟨"_law_house",["_law_script","_law_k","_law_name","_law_kinds"],3,jeZ,none⟩
theorem jld:chkSs je2 2 jeT ⟨jhe,ja jce,false⟩ (jae jce)=true:=by ac_rfl
noncomputable abbrev jbu:Stmt:=top 47
abbrev jfy:List Str:=["_law_script","_law_names_here","_law_purses","_law_kinds","_law_d","_law_houses","_law_homes","_law_pairs","_law_rates","_law_spots","_law_k"]
theorem jhU:FnScope jfy ["_law_script"] (ja jbu):=by walk_at"s"
def jcb:E:=(.comp false 1 (.nm 0) .rng1 [(.bin .Add false (.cst (.int 2)) (.ix (.var 4) (.cst (.int 0))))] [] (.call 4 .frz [(.var 1),(.var 0),(.ix (.var 2) (.var 0)),(.var 4)]))
def jb8:E:=(.comp false 1 (.nm 0) .rng1 [(.bi .len false [(.var 6)])] [] (.tup [(.ix (.var 3) (.var 0)),(.ix (.var 2) (.ix (.var 7) (.var 0)))]))
def jbs:List S:=
  [.ite (.or_ (.cmp .Gt (.ix (.var 4) (.bin .Add false (.cst (.int 1)) (.bin .Mult false (.cst (.int 3)) (.var 10)))) (.cst (.int 0))) (.cmp .Eq (.ix (.var 4) (.cst (.int 0))) (.cst (.int 0))))
   [.ex (.mt .append (.var 8) [(.tup [(.ix (.var 1) (.ix (.ix (.var 9) (.var 10)) (.cst (.int 0)))),(.ix (.var 1) (.ix (.ix (.var 9) (.var 10)) (.cst (.int 1)))),(.ix (.var 4) (.bin .Add false (.cst (.int 2)) (.bin .Mult false (.cst (.int 3)) (.var 10)))),(.bin .Add false (.cst (.int 1)) (.ix (.var 4) (.bin .Add false (.cst (.int 3)) (.bin .Mult false (.cst (.int 3)) (.var 10)))))])])]
   []]
def jdE:List S:=
  [.asg (.nm 1) (.call 0 .frz [(.call 1 .frz [(.var 0),(.cst (.int 3))]),(.cst (.int 3))]),
  .asg (.nm 2) (.call 0 .frz [(.call 1 .frz [(.var 0),(.cst (.int 4))]),(.cst (.int 6))]),
  .asg (.nm 3) (.call 0 .frz [(.call 1 .frz [(.var 0),(.cst (.int 5))]),(.cst (.int 3))]),
  .asg (.nm 4) (.call 2 .frz [(.call 3 .frz [(.var 0),(.call 1 .frz [(.var 0),(.cst (.int 4))]),(.cst (.int 8))]),(.bin .Add false (.lst false [(.cst (.int 2))]) (.bin .Mult false (.lst false [(.cst (.int 4)),(.cst (.int 5)),(.cst (.int 7))]) (.cst (.int 6))))]),
  .asg (.nm 5) jcb,
  .asg (.nm 6) (.ix (.lst false [(.lst false [(.cst (.int 0)),(.cst (.int 0)),(.cst (.int 1)),(.cst (.int 1))]),(.lst false [(.cst (.int 0)),(.cst (.int 0)),(.cst (.int 0)),(.cst (.int 1)),(.cst (.int 1)),(.cst (.int 2))])]) (.ix (.var 4) (.cst (.int 0)))),
  .asg (.nm 7) jb8,
  .asg (.nm 8) (.lst true []),
  .asg (.nm 9) (.lst false [(.tup [(.cst (.int 0)),(.cst (.int 1))]),(.tup [(.cst (.int 1)),(.cst (.int 0))]),(.tup [(.cst (.int 0)),(.cst (.int 2))]),(.tup [(.cst (.int 2)),(.cst (.int 0))]),(.tup [(.cst (.int 1)),(.cst (.int 2))]),(.tup [(.cst (.int 2)),(.cst (.int 1))])]),
  .for_ (.nm 10) .rng1 [(.ix (.lst false [(.cst (.int 2)),(.cst (.int 6))]) (.ix (.var 4) (.cst (.int 0))))] jbs [10],
  .ret (.tup [(.var 5),(.var 7),(.var 8),(.var 3)])]
noncomputable abbrev ja5:List FnE:=[ja3,jbB,jbi,jcs,jdG]
noncomputable def jdf:Fn:=fnOf ja5 1 10 jdE
noncomputable def jdc:FnE:=⟨"_law_setting",["_law_script"],4,jdf,none⟩
theorem jji:chkSs ja5 3 jdE ⟨jfy,ja jbu,false⟩ (jae jbu)=true:=by ac_rfl
noncomputable abbrev jcN:Stmt:=top 48
abbrev jie:List Str:=["_law_houses","_law_made_here","_law_one"]
theorem jkQ:FnScope jie ["_law_houses"] (ja jcN):=by walk_at"s"
def jer:List S:=
  [.ex (.mt .append (.var 1) [(.call 0 .frz [(.ix (.var 2) (.cst (.int 0))),(.ix (.var 2) (.cst (.int 1))),(.ix (.var 2) (.cst (.int 2))),(.ix (.var 2) (.cst (.int 3))),(.ix (.var 2) (.cst (.int 4))),(.ix (.var 2) (.cst (.int 5))),(.ix (.var 2) (.cst (.int 6))),(.ix (.var 2) (.cst (.int 7))),(.ix (.var 2) (.cst (.int 8))),(.ix (.var 2) (.cst (.int 9))),(.ix (.var 2) (.cst (.int 10)))])])]
def jfO:List S:=
  [.asg (.nm 1) (.lst true []),
  .for_ (.nm 2) .seq [(.var 0)] jer [2],
  .ret (.var 1)]
noncomputable abbrev jfQ:List FnE:=[jaA]
noncomputable def jcM:Fn:=fnOf jfQ 1 2 jfO
noncomputable def jcQ:FnE:=⟨"_law_made",["_law_houses"],7,jcM,none⟩
theorem jn:chkSs jfQ 6 jfO ⟨jie,ja jcN,false⟩ (jae jcN)=true:=by ac_rfl
noncomputable abbrev jb1:Stmt:=top 49
abbrev jgT:List Str:=["_law_houses","_law_made_here","_law_one","_law_first"]
theorem jkh:FnScope jgT ["_law_houses"] (ja jb1):=by walk_at"s"
def jcW:List S:=
  [.asg (.nm 3) (.tup [(.fld (.var 2) 0 "name"),(.fld (.var 2) 0 "share"),(.fld (.var 2) 0 "kinds"),(.fld (.var 2) 0 "steps"),(.fld (.var 2) 0 "doubles")]),
  .ex (.mt .append (.var 1) [(.call 0 .frz [(.ix (.var 3) (.cst (.int 0))),(.ix (.var 3) (.cst (.int 1))),(.ix (.var 3) (.cst (.int 2))),(.ix (.var 3) (.cst (.int 3))),(.ix (.var 3) (.cst (.int 4))),(.fld (.var 2) 0 "cap"),(.fld (.var 2) 0 "age"),(.fld (.var 2) 0 "rest"),(.fld (.var 2) 0 "ranks"),(.fld (.var 2) 0 "span"),(.fld (.var 2) 0 "grace")])])]
def jeW:List S:=
  [.asg (.nm 1) (.lst true []),
  .for_ (.nm 2) .seq [(.var 0)] jcW [2,3],
  .ret (.bi .tuple false [(.var 1)])]
noncomputable abbrev jeS:List FnE:=[jaA]
noncomputable def jeV:Fn:=fnOf jeS 1 3 jeW
noncomputable def jeU:FnE:=⟨"_law_again",["_law_houses"],7,jeV,none⟩
theorem jln:chkSs jeS 6 jeW ⟨jgT,ja jb1,false⟩ (jae jb1)=true:=by ac_rfl
noncomputable abbrev jbt:Stmt:=top 50
abbrev jfD:List Str:=["_law_names_here"]
theorem jhz:FnScope jfD ["_law_names_here"] (ja jbt):=by walk_at"s"
def jb4:E:=(.comp false 1 (.nm 0) .seq [(.lst false [(.cst (.str "qa")),(.cst (.str "qb")),(.cst (.str "qc")),(.cst (.str "qd"))])] [(.cmp .NotIn (.var 0) (.var 1))] (.var 0))
def jdL:List S:=
  [.ret (.ix jb4 (.cst (.int 0)))]
noncomputable abbrev jdx:List FnE:=[]
noncomputable def jc3:Fn:=fnOf jdx 1 0 jdL
noncomputable def jbZ:FnE:=⟨"_law_strange",["_law_names_here"],1,jc3,none⟩
theorem jiG:chkSs jdx 0 jdL ⟨jfD,ja jbt,false⟩ (jae jbt)=true:=by ac_rfl
noncomputable abbrev jcm:Stmt:=top 51
abbrev jg7:List Str:=["_law_houses","_law_pairs","_law_rates","_law_m","_law_names_here","_law_strange_here","_law_n","_law_at_here","_law_spot","_law_way","_law_odd","_law_rate","_law_low"]
theorem jkn:FnScope jg7 ["_law_houses","_law_pairs","_law_rates","_law_m"] (ja jcm):=by walk_at"s"
def jbX:E:=(.comp false 1 (.nm 0) .seq [(.var 0)] [] (.ix (.var 0) (.cst (.int 0))))
def jai:List S:=
  [.asg (.nm 4) jbX,
  .asg (.nm 5) (.call 0 .frz [(.var 4)]),
  .asg (.nm 6) (.bin .FloorDiv false (.var 3) (.cst (.int 10))),
  .asg (.nm 7) (.bin .Mod false (.var 6) (.bi .len false [(.var 1)])),
  .asg (.nm 8) (.bin .Mod false (.bin .FloorDiv false (.var 6) (.cst (.int 4))) (.bin .Add false (.bi .len false [(.var 2)]) (.cst (.int 1)))),
  .asg (.nm 9) (.bin .Mod false (.var 3) (.cst (.int 10))),
  .ite (.cmp .Eq (.var 9) (.cst (.int 0)))
   [.ret (.tup [(.lst false []),(.lst false []),(.lst false [])])]
   [],
  .ite (.cmp .Eq (.var 9) (.cst (.int 1)))
   [.ret (.tup [(.bin .Add false (.var 0) (.lst false [(.ix (.var 0) (.bin .Mod false (.var 6) (.cst (.int 2))))])),(.var 1),(.var 2)])]
   [],
  .ite (.cmp .Eq (.var 9) (.cst (.int 2)))
   [.asg (.nm 10) (.ix (.lst false [(.cst (.str "")),(.cst (.str "A")),(.cst (.str "ab1")),(.cst (.str "abcdefghi")),(.cst (.str "a b")),(.cst (.str "-"))]) (.bin .Mod false (.bin .FloorDiv false (.var 6) (.cst (.int 4))) (.cst (.int 6)))),
   .ret (.tup [(.var 0),(.bin .Add false (.bin .Add false (.sl false (.var 1) [] [(.var 7)]) (.lst false [(.tup [(.var 10),(.ix (.var 4) (.cst (.int 0)))])])) (.sl false (.var 1) [(.var 7)] [])),(.var 2)])]
   [],
  .ite (.cmp .Eq (.var 9) (.cst (.int 3)))
   [.ret (.tup [(.var 0),(.bin .Add false (.var 1) (.lst false [(.tup [(.ix (.ix (.var 1) (.var 7)) (.cst (.int 0))),(.ix (.var 4) (.bin .Mod false (.bin .FloorDiv false (.var 6) (.cst (.int 4))) (.cst (.int 2))))])])),(.var 2)])]
   [],
  .ite (.cmp .Eq (.var 9) (.cst (.int 4)))
   [.ret (.tup [(.var 0),(.bin .Add false (.bin .Add false (.sl false (.var 1) [] [(.var 7)]) (.lst false [(.tup [(.ix (.ix (.var 1) (.var 7)) (.cst (.int 0))),(.var 5)])])) (.sl false (.var 1) [(.bin .Add false (.var 7) (.cst (.int 1)))] [])),(.var 2)])]
   [],
  .ite (.cmp .Eq (.var 9) (.cst (.int 5)))
   [.ret (.tup [(.var 0),(.var 1),(.bin .Add false (.bin .Add false (.sl false (.var 2) [] [(.var 8)]) (.lst false [(.tup [(.var 5),(.ix (.var 4) (.bin .Mod false (.bin .FloorDiv false (.var 6) (.cst (.int 12))) (.cst (.int 2)))),(.cst (.int 1)),(.cst (.int 1))])])) (.sl false (.var 2) [(.var 8)] []))])]
   [],
  .ite (.cmp .Eq (.var 9) (.cst (.int 6)))
   [.ret (.tup [(.var 0),(.var 1),(.bin .Add false (.bin .Add false (.sl false (.var 2) [] [(.var 8)]) (.lst false [(.tup [(.ix (.var 4) (.bin .Mod false (.bin .FloorDiv false (.var 6) (.cst (.int 12))) (.cst (.int 2)))),(.var 5),(.cst (.int 1)),(.cst (.int 1))])])) (.sl false (.var 2) [(.var 8)] []))])]
   [],
  .ite (.cmp .Eq (.var 9) (.cst (.int 7)))
   [.ret (.tup [(.var 0),(.var 1),(.bin .Add false (.bin .Add false (.sl false (.var 2) [] [(.var 8)]) (.lst false [(.tup [(.ix (.var 4) (.bin .Mod false (.bin .FloorDiv false (.var 6) (.cst (.int 12))) (.cst (.int 2)))),(.ix (.var 4) (.bin .Mod false (.bin .FloorDiv false (.var 6) (.cst (.int 12))) (.cst (.int 2)))),(.cst (.int 1)),(.cst (.int 1))])])) (.sl false (.var 2) [(.var 8)] []))])]
   [],
  .ite (.cmp .Eq (.var 9) (.cst (.int 8)))
   [.asg (.nm 11) (.ix (.var 2) (.bin .Mod false (.var 6) (.bi .len false [(.var 2)]))),
   .asg (.nm 12) (.bin .Mod false (.bin .FloorDiv false (.var 6) (.cst (.int 24))) (.bin .Pow false (.cst (.int 10)) (.cst (.int 6)))),
   .ret (.tup [(.var 0),(.var 1),(.lst false [(.bin .Add false (.sl false (.var 11) [] [(.cst (.int 2))]) (.ix (.lst false [(.tup [(.bin .Sub false (.neg (.cst (.int 1))) (.var 12)),(.cst (.int 1))]),(.tup [(.cst (.int 1)),(.neg (.var 12))])]) (.bin .Mod false (.bin .FloorDiv false (.var 6) (.cst (.int 12))) (.cst (.int 2)))))])])]
   [],
  .ret (.tup [(.var 0),(.var 1),(.bin .Add false (.var 2) (.lst false [(.ix (.var 2) (.bin .Mod false (.var 6) (.bi .len false [(.var 2)])))]))])]
noncomputable abbrev jab:List FnE:=[jbZ]
noncomputable def jgR:Fn:=fnOf jab 4 9 jai
noncomputable def jc1:FnE:=⟨"_law_wrong",["_law_houses","_law_pairs","_law_rates","_law_m"],2,jgR,none⟩
theorem jk0:chkSs jab 1 jai ⟨jg7,ja jcm,false⟩ (jae jcm)=true:=by ac_rfl
noncomputable abbrev ja4:Stmt:=top 52
abbrev jft:List Str:=["_law_houses","_law_pairs","_law_rates","_law_caught","error"]
theorem jhD:FnScope jft ["_law_houses","_law_pairs","_law_rates"] (ja ja4):=by walk_at"s"
noncomputable def jbq:List E:=[(.call 1 .frz [(.var 0)]),(.bi .list false [(.var 1)]),(.bi .list false [(.var 2)])]
noncomputable abbrev jaS:List FnE:=[jbn,jcQ]
noncomputable def jdz:Fn:=jua jaS 3 0 .frz jbq "BadBook"
theorem jiY:chkL jaS 8 jbq ⟨jft,ja ja4,false⟩ (ji9 (jae ja4))=true:=by ac_rfl
noncomputable def jdv:FnE:=⟨"_law_refused",["_law_houses","_law_pairs","_law_rates"],9,jdz,none⟩
noncomputable abbrev jcj:Stmt:=top 53
abbrev jgO:List Str:=["_law_book","_law_houses","_law_pairs","_law_rates","_law_told","_law_purse","_law_house_here","_law_found","_law_other","_law_there"]
theorem jj6:FnScope jgO ["_law_book","_law_houses","_law_pairs","_law_rates"] (ja jcj):=by walk_at"s"
def jdH:E:=(.comp false 1 (.nm 0) .seq [(.fld (.var 0) 0 "houses")] [] (.fld (.var 0) 1 "name"))
def jdK:E:=(.comp false 1 (.nm 0) .seq [(.var 1)] [] (.ix (.var 0) (.cst (.int 0))))
def jdk:E:=(.comp false 1 (.nm 0) .seq [(.var 3)] [] (.tup [(.sl false (.var 0) [] [(.cst (.int 2))]),(.sl false (.var 0) [(.cst (.int 2))] [])]))
def jfj:List S:=
  [.ite (.cmp .NotEq (.call 3 .frz [(.var 0),(.var 5),(.var 8)]) (.dget (.var 4) (.tup [(.var 6),(.var 9)])))
   [.ret (.cst (.bl false))]
   []]
def jbW:List S:=
  [.asg (.nm 7) (.call 2 .frz [(.var 0),(.var 5)]),
  .ite (.or_ (.not_ (.isC (.var 7) 1)) (.cmp .NotEq (.fld (.var 7) 1 "name") (.var 6)))
   [.ret (.cst (.bl false))]
   [],
  .for_ (.tp [8,9]) .seq [(.var 2)] jfj [8,9]]
def jeM:List S:=
  [.ite (.or_ (.not_ (.bi (.isT "tuple") false [(.fld (.var 0) 0 "houses")])) (.or_ (.not_ (.bi (.isT "tuple") false [(.fld (.var 0) 0 "purses")])) (.not_ (.bi (.isT "tuple") false [(.fld (.var 0) 0 "rates")]))))
   [.ret (.cst (.bl false))]
   [],
  .ite (.cmp .NotEq jdH jdK)
   [.ret (.cst (.bl false))]
   [],
  .ite (.or_ (.cmp .NotEq (.fld (.var 0) 0 "purses") (.bi .tuple false [(.var 2)])) (.cmp .NotEq (.fld (.var 0) 0 "rates") (.bi .tuple false [(.var 3)])))
   [.ret (.cst (.bl false))]
   [],
  .asg (.nm 4) (.bi .dict false [jdk]),
  .for_ (.tp [5,6]) .seq [(.var 2)] jbW [5,6,7,8,9],
  .ret (.cst (.bl true))]
noncomputable abbrev jbc:List FnE:=[jbn,jaA,jew,jhp]
noncomputable def je3:Fn:=fnOf jbc 4 6 jeM
noncomputable def je0:FnE:=⟨"_law_holds",["_law_book","_law_houses","_law_pairs","_law_rates"],11,je3,none⟩
theorem jkN:chkSs jbc 10 jeM ⟨jgO,ja jcj,false⟩ (jae jcj)=true:=by ac_rfl
noncomputable abbrev jkg:Stmt:=top 54
abbrev jyM:List Str:=["_law_script","_law_houses","_law_pairs","_law_rates","_law_kinds","_law_made_here","_law_handed","_law_book","_law_k","_law_cell","_law_wrong_here"]
theorem jwP:FnScope jyM ["_law_script"] (ja jkg):=by walk_at"s"
def ji2:List S:=
  [.asg (.nm 10) (.call 5 .frz [(.var 1),(.var 2),(.var 3),(.call 6 .frz [(.var 9),(.var 8)])]),
  .ite (.not_ (.call 7 .frz [(.ix (.var 10) (.cst (.int 0))),(.ix (.var 10) (.cst (.int 1))),(.ix (.var 10) (.cst (.int 2)))]))
   [.ret (.cst (.bl false))]
   []]
def jhO:List S:=
  [.asg (.tp [1,2,3,4]) (.call 0 .frz [(.var 0)]),
  .ite (.cmp .Eq (.var 3) (.lst false []))
   [.asg (.nm 3) (.lst false [(.tup [(.ix (.ix (.var 1) (.cst (.int 0))) (.cst (.int 0))),(.ix (.ix (.var 1) (.cst (.int 1))) (.cst (.int 0))),(.cst (.int 1)),(.cst (.int 2))])])]
   [],
  .asg (.nm 5) (.call 1 .new [(.var 1)]),
  .asg (.nm 6) (.lst false [(.bi .list true [(.var 2)]),(.bi .list true [(.var 3)])]),
  .asg (.nm 7) (.call 2 .frz [(.var 5),(.ix (.var 6) (.cst (.int 0))),(.ix (.var 6) (.cst (.int 1)))]),
  .ex (.clr (.var 5)),
  .ex (.mt .append (.ix (.var 6) (.cst (.int 0))) [(.tup [(.cst (.str "x")),(.cst (.str "y"))])]),
  .ex (.clr (.ix (.var 6) (.cst (.int 1)))),
  .ite (.not_ (.call 3 .frz [(.var 7),(.var 1),(.var 2),(.var 3)]))
   [.ret (.cst (.bl false))]
   [],
  .ite (.not_ (.call 3 .frz [(.call 2 .frz [(.call 4 .frz [(.fld (.var 7) 2 "houses")]),(.fld (.var 7) 2 "purses"),(.fld (.var 7) 2 "rates")]),(.var 1),(.var 2),(.var 3)]))
   [.ret (.cst (.bl false))]
   [],
  .for_ (.tp [8,9]) .enm [(.bin .Add false (.lst false [(.cst (.int 3))]) (.sl false (.var 0) [(.cst (.int 6))] [(.cst (.int 30))]))] ji2 [8,9,10],
  .ret (.call 3 .frz [(.call 2 .frz [(.call 1 .frz [(.var 1)]),(.bi .list true [(.var 2)]),(.bi .list true [(.var 3)])]),(.var 1),(.var 2),(.var 3)])]
noncomputable abbrev jjn:List FnE:=[jdc,jcQ,jbn,je0,jeU,jc1,jcT,jdv]
noncomputable def jzT:Fn:=fnOf jjn 1 10 jhO
theorem jAh:chkSs jjn 11 jhO ⟨jyM,ja jkg,false⟩ (jae jkg)=true:=by ac_rfl
noncomputable def je8 (ns:List Int):D:=.scr (ns.map D.int)
theorem jrH (ns:List Int)(k:Nat)(μ:M):jao .frz jbB.F [je8 ns,.int (k:Int)] μ=.ok (.int (ns.getD k 0)) μ:=by
 refine jaj (F:=jiQ) ?_ jaL;unfold jiQ jiU;symm;have hl:biD .len false [je8 ns] μ=.ok (.int ns.length) μ:=by
  show Out.ok (D.int ((ns.map D.int).length:Int)) μ=_;rw[j0f]
 rwa[hl];by_cases h:k<ns.length
 ·have e:atI (ns.map D.int) (k:Int)=some (.int (ns.getD k 0)):=jfY (by simp[h]);have hx:ixD (je8 ns) (.int (k:Int)) μ=.ok (.int (ns.getD k 0)) μ:=by
   show(match atI (ns.map D.int) (k:Int)with|some d=>Out.ok d μ|none=>.bad)=_;rw[e]
  rw[hx];simp only[show((k:Int)<(ns.length:Int))from by omega,decide_true,if_true];symm
 ·have:ns.getD k 0=0:=by simp[h]
  rw[this];simp only[show ¬ ((k:Int)<(ns.length:Int))from by omega,decide_false,if_false,j0p];symm
theorem jos {xs:List Int}{i:Int}(h0:0<=i)(h1:i<xs.length):∃n∈xs,∀μ:M,ixD (.lst (xs.map D.int)) (.int i) μ=.ok (.int n) μ:=by
 obtain⟨k,rfl⟩:=j1i h0;have hk:k<xs.length:=by omega
 refine⟨xs.getD k 0,?_,fun μ=>jhc hk⟩;rw[j0B,j0D hk];exact List.getElem_mem hk
theorem jnC (c:Int)(k:Int)(h0:0<=k)(h1:k<=1000):∃m:Int,0<=m/\m<1999999973/\∀μ:M,jao .frz jcT.F [.int c,.int k] μ=.ok (.int m) μ:=by
 obtain⟨n,hn,hx⟩:=jos (xs:=[48271,69621,16807,40692,30269,62089,45991]) (i:=k % 7) (by omega) (by show k % 7<7;omega);have hn:0<=n/\n<=69621:=by
  simp only[j0d,j0J,or_false]at hn;rcases hn with rfl|rfl|rfl|rfl|rfl|rfl|rfl<;>exact⟨by decide,by decide⟩
 refine⟨((c % 2147483647+97*k*k+11)*n % 2147483629)*((c % 2147483647+97*k*k+11)*n % 2147483629) % 1999999973,by omega,by omega,fun μ=>jaj (F:=jhu) ?_ jaL⟩;simp only[j0k,j0F]at hx;unfold jhu jgz;symm;rwa[hx];rwa[jfv (i:=97*k) (by omega) (by omega)];rwa[jfv (j:=n) (by omega) (by omega)];rwa[jiF (by omega) (by omega)]
noncomputable def lt (i:Int):Nat:=97+(i % 26).toNat
theorem jxL (i:Int):97<=lt i/\lt i<=122:=by unfold lt;omega
theorem jyd (i:Int)(μ:M):ixD (.str "abcdefghijklmnopqrstuvwxyz") (.int (i % 26)) μ=.ok (.str (sTx [lt i])) μ:=jys (by omega) (by omega) μ
noncomputable abbrev nmS (c n m:Int) (o4 o5 o6 o7 o8:Option D):S3:=[some (.int c),some (.int n),some (.str "abcdefghijklmnopqrstuvwxyz"),some (.int m),o4,o5,o6,o7,o8]
noncomputable def jsN (m:Int):List Nat:=(List.range 8).map fun(k:Nat)=>lt (m / ((k:Int)+1)+(k:Int)*(k:Int))
theorem jrL (m:Int):(jsN m).length=8:=by simp[jsN]
theorem jqv (m:Int):Ltr (jsN m):=fun x hx=>by
 obtain⟨k,_,rfl⟩:=j0x.mp hx;exact jxL _
theorem jmJ (c n m:Int)(μ:M):(ev jdl jde).v (nmS c n m none none none none none) μ=.ok (.lst (((jsN m).map fun c=>sTx [c]).map D.str)) μ:=by
 unfold jde;have h:=jax (G:=jdl) (m:=false) (own:=1) (tg:=.nm 0) (ik:=.rng1) (es:=[.cst (.int 8)]) (ifs:=[]) (elt:=(.ix (.var 3) (.bin .Mod false (.bin .Add false (.bin .FloorDiv false (.var 4) (.bin .Add false (.var 0) (.cst (.int 1)))) (.bin .Mult false (.var 0) (.var 0))) (.cst (.int 26))))) (ρ:=nmS c n m none none none none none) (μ:=μ) (ds:=[.int 8]) (xs:=List.range 8) (e:=fun(k:Nat)=>D.int (k:Int)) (fun _=>true) (fun(k:Nat)=>D.str (sTx [lt (m / ((k:Int)+1)+(k:Int)*(k:Int))])) (by symm) (jdb (n:=8) (by decide)) (jac (by decide)) fun k hk=>⟨_,rfl,by symm,fun _=>by
  have hk':k<8:=by simpa using hk
  symm;rwa[jls (by omega) (by omega)];rwa[jiF (by omega) (by omega)];exact jyd _ μ⟩
 rw[h,j0r.mpr fun _ _=>rfl];unfold jsN;rw[j0E,j0E];rfl
theorem jgF (t:List Nat)(a:Nat):(t.take a).length<=a:=by rw[j0y];exact Nat.min_le_left _ _
theorem juf (t:List Nat)(x:Nat){a b:Nat}(h:a<=b)(hb:b<=7):(t.take a++x::(t.drop a).take (b - a)).length<=8:=by
 have h1:=jgF t a;have h2:=jgF (t.drop a) (b - a);rw[j0v,j0q];omega
theorem jxU {u v:Int}(h0:0<=u)(h1:u<v+1)(h2:v<8):u.toNat<=v.toNat/\v.toNat<=7:=by omega
theorem jrM {a t i j:Int}(ht:t∈([1,3,5,7,9,11]:List Int))(hi:0<=i/\i<=8)(hj:0<=j/\j<=8)(h:lt (a+i*t)=lt (a+j*t)):i=j:=by
 unfold lt at h;simp only[j0d,j0J,or_false]at ht;rcases ht with rfl|rfl|rfl|rfl|rfl|rfl<;>omega
theorem jgo (c:Int)(n:Nat)(hn:n<=8):∃zs:List Str,(zs.length=n/\zs.Nodup/\∀z∈zs,jaC z=true)/\∀μ:M,jao .frz ja3.F [.int c,.int (n:Int)] μ=.ok (.lst (zs.map D.str)) μ:=by
 obtain⟨m,hm0,hm1,hm⟩:=jnC c 0 (by decide) (by decide);have tail:=fun μ=>jmJ c n m μ;have htl:=jrL m;have hlt:=jqv m;have hjoin:∀μ,mtD .join (.str "") [.lst (((jsN m).map fun c=>sTx [c]).map D.str)] μ=.ok (.str (sTx (jsN m))) μ:=fun μ=>by
  rw[jpK,<- jqk]
  ·rw[jl7 (fun y hy=>by obtain⟨x,_,rfl⟩:=j0x.mp hy;exact jet _)];have e0:(Str.ofString "").length=0:=by ac_rfl
   simp[htl,e0]
 generalize jsN m=t at *;have hsz:(sTx t).length<=sizeLine:=jac (by rw[jet];omega);have key:∃cs:List (List Nat),(cs.length=n/\cs.Nodup/\∀c∈cs,1<=c.length/\c.length<=8/\Ltr c)/\∀μ,jcd [.int c,.int (n:Int)] μ=.ok (.lst ((cs.map sTx).map D.str)) μ:=by
  by_cases c0:m % 3=0
  ·refine⟨(List.range n).map fun k=>t.take (k+1),⟨by simp,jdI fun i j hi hj e=>?_,fun c hc=>?_⟩,fun μ=>?_⟩
   ·have:=congrArg List.length e;rw[j0y,j0y]at this;omega
   ·obtain⟨k,hk,rfl⟩:=j0x.mp hc;have hk':k<n:=by simpa using hk
    exact⟨by rw[j0y];omega,by rw[j0y];omega,fun x hx=>hlt x (j0P hx)⟩
   ·unfold jcd jdm;symm;rwa[hm];rwa[tail];rwa[hjoin];simp only[c0,decide_true,if_true];symm;simp only[show((n:Int)<9)from by omega,decide_true,if_true];unfold jfi;rw[jax (ds:=[.int (n:Int)]) (xs:=List.range n) (e:=fun(k:Nat)=>D.int (k:Int)) (fun _=>true) (fun k=>D.str (sTx (t.take (k+1)))) (by symm) (jdb (by omega)) (jac (by simp;omega)) fun k hk=>⟨_,rfl,by symm,fun _=>by
     have hk':k<n:=by simpa using hk
     symm;rw[jlg hsz,jly t (by omega) (by omega),show((k:Int)+1).toNat=k+1 from by omega]⟩]
    rwa[j0r.mpr fun _ _=>rfl];simp[j0E]
  ·obtain⟨tn,htn,etn⟩:=jos (xs:=[1,3,5,7,9,11]) (i:=m / 3 % 6) (j03 _ (by decide)) (by have:=j1g (m / 3) (show(0:Int)<6 by decide);simpa using this);have hv0:0<=m / 18 % 8:=j03 _ (by decide);have hv1:m / 18 % 8<8:=j1g _ (by decide);have hu0:0<=m / 144 % (m / 18 % 8+1):=j03 _ (Int.ne_of_gt (Int.lt_add_one_of_le hv0));have hu1:m / 144 % (m / 18 % 8+1)<m / 18 % 8+1:=j1g _ (Int.lt_add_one_of_le hv0);have huv:=jxU hu0 hu1 hv1;have htb : -18446744073709551616<tn/\tn<18446744073709551616:=by
    simp only[j0d,j0J,or_false]at htn;rcases htn with rfl|rfl|rfl|rfl|rfl|rfl<;>exact⟨by decide,by decide⟩
   refine⟨(List.range n).map fun(k:Nat)=>t.take (m / 144 % (m / 18 % 8+1)).toNat++lt (m / 7+(k:Int)*tn)::(t.drop (m / 144 % (m / 18 % 8+1)).toNat).take ((m / 18 % 8).toNat - (m / 144 % (m / 18 % 8+1)).toNat),⟨by simp,jdI fun i j hi hj e=>?_,fun c hc=>?_⟩,fun μ=>?_⟩
   ·have e1:=(List.cons.inj (List.append_cancel_left e)).1;have:=jrM htn (i:=(i:Int)) (j:=(j:Int)) (by omega) (by omega) e1;omega
   ·obtain⟨k,hk,rfl⟩:=j0x.mp hc;refine⟨by rw[j0v,j0q];exact Nat.le_add_left_of_le (Nat.le_add_left 1 _),juf t _ huv.1 huv.2,fun x hx=>?_⟩;rcases j1d.mp hx with z|z
    ·exact hlt x (j0P z)
    ·rcases j0d.mp z with z|z
     ·rw[z];exact jxL _
     ·exact hlt x (List.mem_of_mem_drop (j0P z))
   ·unfold jcd jdm;symm;rwa[hm];rwa[tail];rwa[hjoin];simp only[decide_eq_false c0,if_false,j0p];symm;simp only[j0k,j0F]at etn;rwa[etn];rwa[je1 (Int.lt_add_one_of_le hv0)];generalize m / 144 % (m / 18 % 8+1)=u at *;generalize m / 18 % 8=v at *;unfold jfo;rw[jax (ds:=[.int (n:Int)]) (xs:=List.range n) (e:=fun(k:Nat)=>D.int (k:Int)) (fun _=>true) (fun(k:Nat)=>D.str (sTx [lt (m / 7+(k:Int)*tn)])) (by symm) (jdb (by omega)) (jac (by simp;omega)) fun k hk=>⟨_,rfl,by symm,fun _=>by
     symm;rwa[jfv htb.1 htb.2];rw[jyd]⟩]
    rwa[j0r.mpr fun _ _=>rfl];unfold jfa;rw[jax (ds:=[.lst ((List.range n).map fun(k:Nat)=>D.str (sTx [lt (m / 7+(k:Int)*tn)]))]) (xs:=List.range n) (e:=fun(k:Nat)=>D.str (sTx [lt (m / 7+(k:Int)*tn)])) (fun _=>true) (fun(k:Nat)=>D.str (sTx (t.take u.toNat++lt (m / 7+(k:Int)*tn)::(t.drop u.toNat).take (v.toNat - u.toNat)))) (by symm) rfl (jac (by simp;omega)) fun k hk=>⟨_,rfl,by symm,fun _=>by
     symm;rwa[jlg hsz,jly t hu0 (by omega)];rwa[jme (jac (by rw[jet,jet];have:=jgF t u.toNat;have:=huv.1;have:=huv.2;simp only[j0L];omega)),jnZ];rwa[jlg hsz,jof t hu0 (Int.lt_add_one_iff.mp hu1) (by omega)];rw[jme (jac (by
      rw[jet,jet,j0v];have:=jgF t u.toNat;have:=jgF (t.drop u.toNat) (v.toNat - u.toNat);have:=huv.1;have:=huv.2;simp only[j0L];omega)),jnZ]
     simp⟩]
    rwa[j0r.mpr fun _ _=>rfl];simp[j0E]
 obtain⟨cs,⟨h1,h2,h3⟩,h4⟩:=key;refine⟨cs.map sTx,⟨by rw[j0f];exact h1,?_,fun z hz=>?_⟩,fun μ=>jaj (F:=jcd) (h4 μ) (jeq (jat (fun _=>jcF) _))⟩
 ·exact j1c.mpr (h2.imp fun hne e=>hne (jtw e))
 ·obtain⟨c,hc,rfl⟩:=j0x.mp hz;exact jqr (h3 c hc).1 (h3 c hc).2.1 (h3 c hc).2.2
theorem jkz (ns:List Int)(c:Int)(k:Int)(h0:0<=k)(h1:k<=900):∃n:Int,0<=n/\∀μ:M,jao .frz jcs.F [je8 ns,.int c,.int k] μ=.ok (.int n) μ:=by
 have mm:∀j:Int,0<=j->j<=1000->∃m:Int,0<=m/\∀μ,jao .frz jcT.F [.int c,.int j] μ=.ok (.int m) μ:=fun j a b=>let⟨m,x,_,y⟩:=jnC c j a b;⟨m,x,y⟩;have loop:∀(xs:List Nat) (ok:M->Bool) (hok:∀ν,ok ν=true) (n:Int),0<=n->(∀x∈xs,x<3)->∃n':Int,0<=n'/\∀(o:Option D) (μ:M),∃o',jc9 ok (.nm 4) (runs jef jcI) [4] (xs.map fun(x:Nat)=>D.int (x:Int)) [some (je8 ns),some (.int c),some (.int k),some (.int n),none] μ=.ok (.nx [some (je8 ns),some (.int c),some (.int k),some (.int n'),o']) μ:=by
  intro xs
  induction xs with
  |nil=>exact fun ok hok n hn _=>⟨n,hn,fun o μ=>⟨none,by rw[j0F,jbA (hok _)];rfl⟩⟩
  |cons x xs ih=>
   intro ok hok n hn hx;have hx3:=hx x j0u;obtain⟨m1,a1,b1⟩:=mm (k+5*(x:Int)) (by omega) (by omega);obtain⟨m2,a2,b2⟩:=mm (k+5*(x:Int)+2) (by omega) (by omega);have q0:0<=n % 2147483647:=j03 _ (by decide);have p1:0<=n % 2147483647*1999999973+m1:=by omega
   have p2:0<=(n % 2147483647*1999999973+m1)*1999999973+m2:=by omega
   obtain⟨n',hn',hr⟩:=ih ok hok _ p2 fun y hy=>hx y (j0s _ hy);refine⟨n',hn',fun o μ=>?_⟩;obtain⟨o',ho⟩:=hr none μ;refine⟨o',?_⟩;rw[j0k,ja0 (ρ1:=[some (je8 ns),some (.int c),some (.int k),some (.int n),some (.int (x:Int))]) (ρ2:=[some (je8 ns),some (.int c),some (.int k),some (.int ((n % 2147483647*1999999973+m1)*1999999973+m2)),some (.int (x:Int))]) (μ2:=μ) (hok _) rfl ?_]
   ·exact ho
   ·unfold jcI;symm;rwa[jfv (by decide) (by decide)];rwa[b1];rwa[jfv (by decide) (by decide)];rwa[b2]
 have h0':0<=c % 1000000000000000000000000000000:=j03 _ (by decide);by_cases hc:ns.getD 0 0 % 2=1
 ·obtain⟨n',hn',hr⟩:=loop (List.range 3) (jdT .rng1 [.int 3] ((List.range 3).map fun(x:Nat)=>D.int (x:Int))) (fun ν=>jaI (jdb (n:=3) (by decide))) _ h0' (by simp);refine⟨n',hn',fun μ=>jaj (F:=jbM) ?_ jaL⟩;obtain⟨o',ho⟩:=hr none μ;unfold jbM jcq;symm;rwa[show(D.int 0:D)=.int ((0:Nat):Int)from rfl,jrH ns 0 μ];simp only[hc,decide_true,if_true];symm;rwa[ja6 (ds:=[.int 3]) (jdb (n:=3) (by decide)),ho]
 ·refine⟨_,h0',fun μ=>jaj (F:=jbM) ?_ jaL⟩;unfold jbM jcq;symm;rwa[show(D.int 0:D)=.int ((0:Nat):Int)from rfl,jrH ns 0 μ];simp only[decide_eq_false hc,if_false,j0p];symm
theorem jjb {μ:M}{ds:List D}(h:∀k,frzGs k ds=some ds):jmF (μ++[some (.lst ds)]) μ.length (.cel μ.length)=some (.lst ds):=by
 unfold jmF;unfold jbp;unfold jkB;rw[if_neg (by omega),if_neg (by simp)];dsimp only;rw[jfw];dsimp only;rw[h];rfl
def Dgs (ss ds:List Int):Prop:=ds.length=ss.length/\∀(i:Nat) (d s:Int),ds[i]?=some d->ss[i]?=some s->0<=d/\d<s
theorem jpu (n:Int)(ss:List Int)(h:∀s∈ss,0<s/\s<1000000)(hl:ss.length<=100):∃ds:List Int,Dgs ss ds/\∀μ:M,jao .frz jbi.F [.int n,.lst (ss.map D.int)] μ=.ok (.lst (ds.map D.int)) μ:=by
 have loop:∀(ok:M->Bool) (S0:List Int) (xs:List Int) (n:Int),(∀s∈xs,0<s/\s<1000000)->(∀ν,ok ν=true)->∃ds:List Int,Dgs xs ds/\∀(acc:List Int) (μ:M),acc.length+xs.length<=1000->∃n',jc9 ok (.nm 3) (runs jdX jcK) [3] (xs.map D.int) [some (.int n),some (.lst (S0.map D.int)),some (.cel μ.length),none] (μ++[some (.lst (acc.map D.int))])=.ok (.nx [some (.int n'),some (.lst (S0.map D.int)),some (.cel μ.length),none]) (μ++[some (.lst ((acc++ds).map D.int))]):=by
  intro ok S0 xs
  induction xs with
  |nil=>exact fun n _ hok=>⟨[],⟨rfl,fun i d s e=>by simp at e⟩,fun acc μ _=>⟨n,by rw[j0F,jbA (hok _),j0C];rfl⟩⟩
  |cons x xs ih=>
   intro n hx hok;have hx0:=hx x j0u;obtain⟨ds,⟨d1,d2⟩,hr⟩:=ih (n / x) (fun s hs=>hx s (j0s _ hs)) hok;refine⟨n % x::ds,⟨by simp[d1],fun i d s e1 e2=>?_⟩,fun acc μ hl=>?_⟩
   ·cases i with
    |zero=>
     cases e1;cases e2;exact⟨j03 _ (by omega),j1g _ hx0.1⟩
    |succ i=>exact d2 i d s (by simpa using e1) (by simpa using e2)
   ·rw[j0q]at hl;obtain⟨n',ho⟩:=hr (acc++[n % x]) μ (by rw[j0v,j0L];omega);refine⟨n',?_⟩;rw[j1b,List.singleton_append]at ho;rw[j0k,ja0 (ρ1:=[some (.int n),some (.lst (S0.map D.int)),some (.cel μ.length),some (.int x)]) (ρ2:=[some (.int (n / x)),some (.lst (S0.map D.int)),some (.cel μ.length),some (.int x)]) (μ2:=μ++[some (.lst ((acc++[n % x]).map D.int))]) (hok _) rfl ?_]
    ·exact ho
    ·unfold jcK;symm;rwa[je1 hx0.1];rwa[jgq (jac (by simp;omega))];rwa[jls hx0.1 (by omega)];rw[j1n];rfl
 obtain⟨ds,hd,hr⟩:=loop (jdT .seq [.lst (ss.map D.int)] (ss.map D.int)) ss ss n h fun ν=>jaI rfl;refine⟨ds,hd,fun μ=>?_⟩;obtain⟨n',ho⟩:=hr [] μ (by simp;omega);refine jcZ (F:=jd3) ?_ (jjb fun k=>jat (fun _=>jaL) _);unfold jd3 jed;symm;rw[ja6 (xs:=ss.map D.int) rfl];simp only[j0F,j1f]at ho;rwa[ho]
theorem jiZ {ds:List D}{μ:M}:biD (.isT "tuple") false [.tup ds] μ=.ok (.bl true) μ:=nr rfl
theorem jt2 {z:Str}{μ:M}:biD (.isT "str") false [.str z] μ=.ok (.bl true) μ:=nr rfl
theorem juF {i:Int}{μ:M}:biD (.isT "int") false [.int i] μ=.ok (.bl true) μ:=nr rfl
theorem jq {i:Int}{μ:M}:biD (.isT "bool") false [.int i] μ=.ok (.bl false) μ:=nr rfl
theorem juH {ds:List D}{μ:M}:biD .len false [.tup ds] μ=.ok (.int ds.length) μ:=nr rfl
theorem len_str {z:Str}{μ:M}(h:z.length<=sizeLine):biD .len false [.str z] μ=.ok (.int z.length) μ:=if_pos h
theorem jk7 {bs:List Bool}{μ:M}:biD .all false [.lst (bs.map D.bl)] μ=.ok (.bl (bs.all id)) μ:=nr (by
 have:jtN (bs.map D.bl)=some bs:=by
  induction bs with
  |nil=>rfl
  |cons b bs ih=>rw[j0k];unfold jtN;rw[ih];rfl
 simp only[biD,jy0,jf1,this])
theorem le_str {x y:Str}{μ:M}:jdO .LtE (.str x) (.str y) μ=.ok (.bl (!decide (y.cps.toList<x.cps.toList))) μ:=nr rfl
theorem jpM (c:Nat):(!decide ([c]<(Str.ofString "a").cps.toList))=decide (97<=c)/\(!decide ((Str.ofString "z").cps.toList<[c]))=decide (c<=122):=by
 have ea:(Str.ofString "a").cps.toList=[97]:=by ac_rfl
 have ez:(Str.ofString "z").cps.toList=[122]:=by ac_rfl
 rw[ea,ez];have e1:([c]<[97])↔c<97:=by simp[List.cons_lt_cons_iff]
 have e2:([122]<[c])↔122<c:=by simp[List.cons_lt_cons_iff]
 constructor
 ·rw[j0T];simp[e1]
 ·rw[j0T];simp[e2]
theorem jez (z:Str)(h:z.length<=1000)(μ:M):jao .frz jcV.F [.str z] μ=.ok (.bl (jaC z)) μ:=by
 refine jaj (F:=jg9) ?_ jeD;have hq:(ev jg1 jeX).v [some (.str z)] μ=.ok (.lst ((z.cps.toList.map fun c=>decide (97<=c)&&decide (c<=122)).map D.bl)) μ:=by
  unfold jeX;rw[jax (ds:=[.str z]) (xs:=z.cps.toList) (e:=fun c=>D.str ⟨#[c]⟩) (fun _=>true) (fun c=>D.bl (decide (97<=c)&&decide (c<=122))) (by symm) rfl (by
   have:z.cps.toList.length=z.length:=by simp[Str.length]
   rw[this];exact jac h) fun c hc=>⟨_,rfl,by symm,fun _=>by
   symm;rwa[le_str];rw[(jpM c).1];by_cases e:97<=c
   ·simp only[decide_eq_true e,if_true];rw[le_str,(jpM c).2,j02]
   ·simp only[decide_eq_false e,if_false,j0p,Bool.false_and]⟩]
  rw[j0r.mpr fun _ _=>rfl,j0E];rfl
 unfold jg9 jht;symm;rwa[jt2];rwa[len_str (jac h),jhF];by_cases h1:1<=z.length
 ·simp only[show((1:Int)<=(z.length:Int))from by omega,decide_true,if_true];symm;by_cases h2:z.length<=8
  ·simp only[show((z.length:Int)<=8)from by omega,decide_true,if_true];symm;rwa[hq];rwa[jk7];unfold jaC;rw[decide_eq_true h1,decide_eq_true h2,j02,j02,List.all_map];rfl
  ·simp only[show ¬ ((z.length:Int)<=8)from by omega,decide_false,if_false,j0p];symm;unfold jaC;rw[decide_eq_false h2,Bool.false_and,Bool.and_false]
 ·simp only[show ¬ ((1:Int)<=(z.length:Int))from by omega,decide_false,if_false,j0p];symm;unfold jaC;rw[decide_eq_false h1,Bool.false_and]
theorem jas (i l:Int)(μ:M):jao .frz jaM.F [.int i,.int l] μ=.ok (.bl (decide (l<=i))) μ:=by
 refine jaj (F:=jeQ) ?_ jeD;unfold jeQ je5;symm;rwa[juF];rwa[jq]
noncomputable def sqD (b:Bool)(ds:List D):D:=if b then .tup ds else .lst ds
theorem jky {b:Bool}{ds:List D}{μ:M}:itD .seq [sqD b ds] μ=some ds:=by cases b<;>rfl
theorem jt5 {b:Bool}{ds:List D}{μ:M}:biD (.isT2 "list" "tuple") false [sqD b ds] μ=.ok (.bl true) μ:=nr (by cases b<;>rfl)
theorem jq4 {b:Bool}{ds:List D}{μ:M}:biD .tuple false [sqD b ds] μ=.ok (.tup ds) μ:=nr (by cases b<;>rfl)
theorem jc7 {α:Type}{ok:M->Bool}{tg:Tg}{body:S3->M->Out Fl}{fg:List Nat}{μ:M}{ρ:S3}(f:α->D)(ρb:α->S3)(ho:ok μ=true)(hf:forget fg ρ=ρ):∀xs:List α,(∀x∈xs,jkC tg (f x) ρ=some (ρb x))->(∀x∈xs,body (ρb x) μ=.ok (.nx (ρb x)) μ)->(∀x∈xs,forget fg (ρb x)=ρ) ->
  jc9 ok tg body fg (xs.map f) ρ μ=.ok (.nx ρ) μ
 |[],_,_,_=>by
  rw[j0F,jbA ho,hf]
 |x::xs,h1,h2,h3=>by
  rw[j0k,ja0 (ρ1:=ρb x) (ρ2:=ρb x) (μ2:=μ) ho (h1 x (by simp)) (h2 x (by simp)),h3 x (by simp),jc7 f ρb ho hf xs (fun y hy=>h1 y (by simp[hy])) (fun y hy=>h2 y (by simp[hy])) (fun y hy=>h3 y (by simp[hy]))]
theorem jcE (w:Str)(μ:M):jao .frz jar.F [.bl true,.str w] μ=.ok .non μ:=by
 refine jaj (F:=jc) ?_ jcg;unfold jc jb5;symm
theorem jsf (ds:List D)(n:Nat)(h:ds.length=n)(μ:M):jao .frz jb0.F [.tup ds,.int (n:Int)] μ=.ok (.bl true) μ:=by
 refine jaj (F:=jdp) ?_ jeD;unfold jdp jc6;symm;rwa[jiZ];rwa[juH];simp[h]
theorem jmB (b:Bool)(ds:List D)(μ:M):jao .frz jg6.F [sqD b ds] μ=.ok (.bl true) μ:=by
 refine jaj (F:=jg8) ?_ jeD;unfold jg8 jhj;symm;rwa[jt5]
theorem jyL (ds:List D):((ds.map fun _=>true).all id)=true:=by simp
theorem jdh {b:Bool}{ds:List D}{n:Nat}(hl:ds.length<=1000)(h:∀d∈ds,∃es,d=.tup es/\es.length=n)(w:Str)(μ:M):jao .frz jbH.F [sqD b ds,.int (n:Int),.str w] μ=.ok .non μ:=by
 refine jaj (F:=jej) ?_ jcg;have hq:(ev jei jcC).v [some (sqD b ds),some (.int (n:Int)),some (.str w)] μ=.ok (.lst ((ds.map fun _=>true).map D.bl)) μ:=by
  unfold jcC;rw[jax (ds:=[sqD b ds]) (xs:=ds) (e:=fun d=>d) (fun _=>true) (fun _=>D.bl true) (by symm) (by rw[List.map_id'];exact jky) (jac (by simpa using hl)) fun d hd=>⟨_,rfl,by symm,fun _=>by
   obtain⟨es,rfl,he⟩:=h d hd;symm;rw[jsf es n he]⟩]
  rwa[j0r.mpr fun _ _=>rfl];simp[j0E]
 unfold jej jdW;symm;rwa[jmB];rwa[jcE];rwa[hq];rwa[jk7,jyL];rwa[jcE]
theorem jhx (t b:Int)(ht:0<=t)(hb:1<=b)(μ:M):jao .frz jdi.F [.tup [.int t,.int b]] μ=.ok .non μ:=by
 refine jaj (F:=jc5) ?_ jcg;have i0:ixD (.tup [.int t,.int b]) (.int 0) μ=.ok (.int t) μ:=nr rfl;have i1:ixD (.tup [.int t,.int b]) (.int 1) μ=.ok (.int b) μ:=nr rfl;have h1:=jsf [.int t,.int b] 2 rfl μ;unfold jc5 jc8;symm;rwa[show(.int 2:D)=.int ((2:Nat):Int)from rfl,h1];rwa[jcE];rwa[i0];rwa[jas,decide_eq_true ht];rwa[jcE];rwa[i1];rwa[jas,decide_eq_true hb];rwa[jcE]
def jrS (ns:List Int):Prop:=∀k,k+1<ns.length->ns.getD k 0<ns.getD (k+1) 0
theorem jcB {ds:List D}{μ:M}:biD .len false [.lst ds] μ=.ok (.int ds.length) μ:=nr rfl
theorem jiL (ns:List Int)(hl:ns.length<=1000)(hr:jrS ns)(μ:M):jao .frz jd2.F [.lst (ns.map D.int)] μ=.ok (.bl true) μ:=by
 refine jaj (F:=jeo) ?_ jeD;have hi:∀μ:M,itD .rng2 [.int 1,.int (ns.length:Int)] μ=some ((List.range (ns.length - 1)).map fun(k:Nat)=>D.int (1+(k:Int))):=fun μ=>by
  unfold itD jlP;dsimp only;rw[if_pos (by omega),show((ns.length:Int) - 1).toNat=ns.length - 1 from by omega]
 unfold jeo jd6;symm;rwa[jcB];rw[j0f,ja6 (hi _)];rw[jc7 (fun(k:Nat)=>D.int (1+(k:Int))) (fun k=>[some (.lst (ns.map D.int)),some (.int (1+(k:Int)))]) (jaI (hi _)) rfl _ (fun x _=>rfl) (fun k hk=>?_) (fun x _=>rfl)]
 ·symm
 ·have hk':k+1<ns.length:=by have:=j0Z.mp hk;omega
  have h:=hr k hk';unfold jeI;symm;rwa[show(1+(k:Int))=((k+1:Nat):Int)from by omega,jhc hk'];rwa[show((k+1:Nat):Int) - 1=((k:Nat):Int)from by omega,jhc (by omega)];rwa[decide_eq_false (by omega)]
theorem jh5:∀zs:List Str,jg5 (zs.map D.str)=some zs
 |[]=>rfl
 |z::zs=>by
  show(jg5 (zs.map D.str)).map (z :: ·)=_;rw[jh5 zs];rfl
theorem jox {α:Type}[DecidableEq α](zs:List α):decide (((ddS zs).length:Int)=(zs.length:Int))=decide zs.Nodup:=by
 rw[j0T,decide_eq_true_eq,decide_eq_true_eq];refine⟨fun e=>?_,fun h=>by rw[jnN h]⟩;have key:∀(xs σ:List α),σ.Nodup->(xs.foldl jjz σ).length=σ.length+xs.length->(σ++xs).Nodup:=by
  intro xs
  induction xs with
  |nil=>exact fun σ h _=>by simpa using h
  |cons x xs ih=>
   intro σ h e;rw[List.foldl_cons]at e;by_cases hx:x∈σ
   ·have:jjz σ x=σ:=by unfold jjz;rw[if_pos hx]
    rw[this]at e;have:=jkS xs σ;simp at e;omega
   ·have ha:jjz σ x=σ++[x]:=by unfold jjz;rw[if_neg hx]
    rw[ha]at e;have:=ih (σ++[x]) (List.nodup_append.mpr ⟨h,by simp,fun a haσ b hb z=>hx (by
     have:b=x:=by simpa using hb
     rw[<- this,<- z];exact haσ)⟩) (by simp at e ⊢;omega)
    simpa using this
 have:=key zs [] List.nodup_nil (by show(ddS zs).length=_;simp;omega);simpa using this
theorem jdB (zs:List Str)(hl:zs.length<=1000)(μ:M):jao .frz jaZ.F [.lst (zs.map D.str)] μ=.ok (.bl (decide zs.Nodup)) μ:=by
 refine jaj (F:=jbN) ?_ jeD;have h1:biD .lenSet false [.lst (zs.map D.str)] μ=.ok (.int (ddS zs).length) μ:=nr (by
  simp only[biD,jfS,jfJ,jf1,jh5,hl,if_true])
 unfold jbN jct;symm;rwa[h1];rwa[jcB];rw[j0f,jox]
noncomputable def kD (p:Str×Int):D:=.tup [.str p.1,.int p.2]
noncomputable def sD (p:Int×Int):D:=.tup [.int p.1,.int p.2]
noncomputable def rD (p:Int×Str):D:=.tup [.int p.1,.str p.2]
noncomputable def bD (p:Int×Int×Int):D:=.tup [.int p.1,.int p.2.1,.int p.2.2]
noncomputable def lD (p:Int×D):D:=.tup [.int p.1,p.2]
theorem jgu {z:Str}(h:jaC z=true):z.length<=1000:=by
 unfold jaC at h;simp only[j0a,decide_eq_true_eq]at h;omega
structure KinOk (xs:List (Str×Int)):Prop where
 l:xs.length<=1000
 n:∀p∈xs,jaC p.1=true
 f:∀p∈xs,0<=p.2
 u:(xs.map (·.1)).Nodup
theorem jhJ {b:Bool}(xs:List (Str×Int))(h:KinOk xs)(μ:M):jao .frz jdr.F [sqD b (xs.map kD)] μ=.ok .non μ:=by
 refine jaj (F:=jc4) ?_ jcg;have hq:(ev jdo jcl).v [some (sqD b (xs.map kD)),none,none] μ=.ok (.lst ((xs.map (·.1)).map D.str)) μ:=by
  unfold jcl;rw[jax (ds:=[sqD b (xs.map kD)]) (xs:=xs) (e:=kD) (fun _=>true) (fun p=>D.str p.1) (by symm) jky (jac (by simpa using h.l)) fun d hd=>⟨_,rfl,by symm,fun _=>by symm⟩];rwa[j0r.mpr fun _ _=>rfl];simp[j0E]
 have hc:=jdh (b:=b) (ds:=xs.map kD) (n:=2) (by simpa using h.l) (fun d hd=>by obtain⟨p,_,rfl⟩:=j0x.mp hd;exact⟨_,rfl,rfl⟩) "kinds is no list of pairs" μ;have hi:∀μ:M,itD .seq [sqD b (xs.map kD)] μ=some (xs.map kD):=fun μ=>jky;unfold jc4 jdq;symm;rwa[show(.int 2:D)=.int ((2:Nat):Int)from rfl,hc];rw[ja6 (hi _),jc7 kD (fun p=>[some (sqD b (xs.map kD)),some (.str p.1),some (.int p.2)]) (jaI (hi _)) rfl _ (fun x _=>rfl) (fun p hp=>?_) (fun x _=>rfl)]
 ·symm;rwa[hq];rwa[jdB _ (by simpa using h.l),decide_eq_true h.u];rwa[jcE]
 ·unfold jd7;symm;rwa[jez _ (jgu (h.n p hp)),h.n p hp];rwa[jcE];rwa[jas,decide_eq_true (h.f p hp)];rwa[jcE]
structure LeOk (lo:Int) (ns:List Int):Prop where
 l:ns.length<=1000
 n:∀x∈ns,lo<=x
 r:jrS ns
theorem jeb {b:Bool}(xs:List (Int×D))(lo:Int)(h:LeOk lo (xs.map (·.1)))(w:Str)(μ:M):jao .frz jbz.F [sqD b (xs.map lD),.int lo,.str w] μ=.ok .non μ:=by
 refine jaj (F:=jcG) ?_ jcg;have hl:xs.length<=1000:=by have:=h.l;(rw[j0f]at this;assumption)
 have hq0:(ev jbE jbS).v [some (sqD b (xs.map lD)),some (.int lo),some (.str w)] μ=.ok (.lst ((xs.map fun p=>true).map D.bl)) μ:=by
  unfold jbS;rw[jax (ds:=[sqD b (xs.map lD)]) (xs:=xs) (e:=lD) (fun _=>true) (fun p=>D.bl true) (by symm) jky (jac (by simpa using hl)) fun p hp=>⟨_,rfl,by symm,fun _=>by
   have i0:ixD (lD p) (.int 0) μ=.ok (.int p.1) μ:=nr rfl;symm;rwa[i0];rw[jas,decide_eq_true (h.n _ (j0x.mpr ⟨p,hp,rfl⟩))]⟩]
  rwa[j0r.mpr fun _ _=>rfl];simp[j0E]
 have hq1:(ev jbE jbR).v [some (sqD b (xs.map lD)),some (.int lo),some (.str w)] μ=.ok (.lst ((xs.map (·.1)).map D.int)) μ:=by
  unfold jbR;rw[jax (ds:=[sqD b (xs.map lD)]) (xs:=xs) (e:=lD) (fun _=>true) (fun p=>D.int p.1) (by symm) jky (jac (by simpa using hl)) fun p hp=>⟨_,rfl,by symm,fun _=>by
   have i0:ixD (lD p) (.int 0) μ=.ok (.int p.1) μ:=nr rfl;symm;rw[i0]⟩]
  rwa[j0r.mpr fun _ _=>rfl];simp[j0E]
 have hc:=jdh (b:=b) (ds:=xs.map lD) (n:=2) (by simpa using hl) (fun d hd=>by obtain⟨p,_,rfl⟩:=j0x.mp hd;exact⟨_,rfl,rfl⟩) w μ;unfold jcG jcw;symm;rwa[show(.int 2:D)=.int ((2:Nat):Int)from rfl,hc];rwa[hq0];rwa[jk7,show((xs.map fun _=>true).all id)=true from by simp];rwa[jcE];rwa[hq1];rwa[jiL _ h.l h.r];rwa[jcE]
theorem jhw {b:Bool}(xs:List (Int×Int))(h:LeOk 0 (xs.map (·.1)))(h2:∀p∈xs,0<=p.2)(μ:M):jao .frz jcY.F [sqD b (xs.map sD)] μ=.ok .non μ:=by
 refine jaj (F:=jdJ) ?_ jcg;have hc:=jeb (b:=b) (xs.map fun p=>(p.1,D.int p.2)) 0 (by rw[j0E];exact h) "the leasts of the steps are too low or don't rise" μ;rw[j0E,show(lD ∘ fun(p:Int×Int)=>(p.1,D.int p.2))=sD from rfl]at hc;have hi:∀μ:M,itD .seq [sqD b (xs.map sD)] μ=some (xs.map sD):=fun μ=>jky;unfold jdJ jdD;symm;rwa[hc];rw[ja6 (hi _),jc7 sD (fun p=>[some (sqD b (xs.map sD)),some (.int p.1),some (.int p.2)]) (jaI (hi _)) rfl _ (fun x _=>rfl) (fun p hp=>?_) (fun x _=>rfl)]
 ·symm
 ·unfold jep;symm;rwa[jas,decide_eq_true (h2 p hp)];rwa[jcE]
theorem jhL {b:Bool}(xs:List (Int×Str))(h:LeOk 1 (xs.map (·.1)))(h2:∀p∈xs,jaC p.2=true)(μ:M):jao .frz jc0.F [sqD b (xs.map rD)] μ=.ok .non μ:=by
 refine jaj (F:=jdw) ?_ jcg;have hc:=jeb (b:=b) (xs.map fun p=>(p.1,D.str p.2)) 1 (by rw[j0E];exact h) "the leasts of the ranks are too low or don't rise" μ;rw[j0E,show(lD ∘ fun(p:Int×Str)=>(p.1,D.str p.2))=rD from rfl]at hc;have hi:∀μ:M,itD .seq [sqD b (xs.map rD)] μ=some (xs.map rD):=fun μ=>jky;unfold jdw jdF;symm;rwa[hc];rw[ja6 (hi _),jc7 rD (fun p=>[some (sqD b (xs.map rD)),some (.int p.1),some (.str p.2)]) (jaI (hi _)) rfl _ (fun x _=>rfl) (fun p hp=>?_) (fun x _=>rfl)]
 ·symm
 ·unfold jd9;symm;rwa[jez _ (jgu (h2 p hp)),h2 p hp];rwa[jcE]
def jzy (p:Int×Int×Int):Prop:=0<=p.1/\p.1<=p.2.1/\1<=p.2.2
theorem jgc {b:Bool}(xs:List (Int×Int×Int))(hl:xs.length<=1000)(h:∀p∈xs,jzy p)(μ:M):jao .frz jci.F [sqD b (xs.map bD)] μ=.ok .non μ:=by
 refine jaj (F:=jb2) ?_ jcg;have hc:=jdh (b:=b) (ds:=xs.map bD) (n:=3) (by simpa using hl) (fun d hd=>by obtain⟨p,_,rfl⟩:=j0x.mp hd;exact⟨_,rfl,rfl⟩) "doubles is no list of triples" μ;have hi:∀μ:M,itD .seq [sqD b (xs.map bD)] μ=some (xs.map bD):=fun μ=>jky;unfold jb2 jcn;symm;rwa[show(.int 3:D)=.int ((3:Nat):Int)from rfl,hc];rw[ja6 (hi _),jc7 bD (fun p=>[some (sqD b (xs.map bD)),some (.int p.1),some (.int p.2.1),some (.int p.2.2)]) (jaI (hi _)) rfl _ (fun x _=>rfl) (fun p hp=>?_) (fun x _=>rfl)]
 ·symm
 ·obtain⟨p1,p2,p3⟩:=h p hp;unfold jcO;symm;rwa[jas,decide_eq_true p1];rwa[jas,decide_eq_true (Int.le_trans p1 p2)];rwa[jcE];rwa[decide_eq_true p2,jcE];rwa[jas,decide_eq_true p3];rwa[jcE]
noncomputable def jiz:Option Int->D
 |none=>.non
 |some i=>.int i
def jy4 (l:Int)(o:Option Int):Prop:=∀i,o=some i->l<=i
theorem jhf (o:Option Int)(l:Int)(h:jy4 l o)(μ:M):jao .frz jbf.F [jiz o,.int l] μ=.ok (.bl true) μ:=by
 refine jaj (F:=jbe) ?_ jeD;unfold jbe jbd
 cases o with
 |none=>
  unfold jiz;symm;rfl
 |some i=>
  unfold jiz;symm;rwa[jas,decide_eq_true (h i rfl)]
structure HRow where
 name:Str
 t:Int
 b:Int
 kinds:List (Str×Int)
 steps:List (Int×Int)
 doubles:List (Int×Int×Int)
 cap:Option Int
 age:Option Int
 rest:Option Int
 ranks:List (Int×Str)
 span:Int
 grace:Int
structure HRow.Ok (x:HRow):Prop where
 n:jaC x.name=true
 t:0<=x.t
 b:1<=x.b
 k:KinOk x.kinds
 s:LeOk 0 (x.steps.map (·.1))
 s2:∀p∈x.steps,0<=p.2
 dl:x.doubles.length<=1000
 d:∀p∈x.doubles,jzy p
 c:jy4 0 x.cap
 a:jy4 1 x.age
 e:jy4 1 x.rest
 r:LeOk 1 (x.ranks.map (·.1))
 r2:∀p∈x.ranks,jaC p.2=true
 sp:1<=x.span
 gr:0<=x.grace
abbrev hFs:List Str:=["name","share","kinds","steps","doubles","cap","age","rest","ranks","span","grace"]
noncomputable def HRow.args (v:Bool)(r:HRow):List D:=[.str r.name,.tup [.int r.t,.int r.b],sqD v (r.kinds.map kD),sqD v (r.steps.map sD),sqD v (r.doubles.map bD),jiz r.cap,jiz r.age,jiz r.rest,sqD v (r.ranks.map rD),.int r.span,.int r.grace]
noncomputable def HRow.obj (r:HRow):D:=.obj 268 hFs (r.args true)
theorem jx:jgk jcv 9=some (.cls 268 1000000 hFs):=rfl
theorem jvi {μ:M}{c c':Option Cl}:(μ++[c]).set μ.length c'=μ++[c']:=by simp
theorem jvu {μ:M}{c:Option Cl}:(μ++[c])[μ.length]?=some c:=by simp
theorem jxM {ρ:S3}{μ:M}{C:Addr}{fs0 fs:List Str}{ds:List D}{f:Str}{d:D}(hl:fs.length<1000)(h1:jhE f fs=fs++[f])(h2:je6 f d fs ds=ds++[d]):jyU (some (.cls C 1000000 fs0)) f ρ d (.cel μ.length) (μ++[some (.obj C fs ds)])=.ok (.nx ρ) (μ++[some (.obj C (fs++[f]) (ds++[d]))]):=by
 rw[jrK jvu hl h1 h2,jvi]
theorem js5 (v:Bool)(r:HRow)(h:r.Ok)(μ:M):ja8 (.cel μ.length::r.args v) (μ++[some (.obj 268 [] [])])=.ok .non (μ++[some (.obj 268 hFs (r.args true))]):=by
 have dg:=jx;simp only[jse,jsl]at dg;unfold ja8 jcA HRow.args;symm;rwa[jez _ (jgu h.n),h.n];rwa[jcE];rwa[jhx _ _ h.t h.b];rwa[jhJ _ h.k];rwa[jhw _ h.s h.s2];rwa[jgc _ h.dl h.d];rwa[jhf _ _ h.c];rwa[jcE];rwa[jhf _ _ h.a];rwa[jcE];rwa[jhf _ _ h.e];rwa[jcE];rwa[jhL _ h.r h.r2];rwa[jas,decide_eq_true h.sp];rwa[jcE];rwa[jas,decide_eq_true h.gr];rwa[jcE];simp only[dg];rw[jxM (fs:=[]) (ds:=[]) (by decide) rfl rfl]
 iterate 10
  symm;simp only[dg,jq4,jbT,j1f,List.cons_append];rw[jxM (by decide) (by ac_rfl) rfl]
 symm;rfl
theorem jlq {h:Nat->Option D}(o:Option Int):jbp h (jiz o)=some (jiz o):=by
 cases o
 ·exact jcg
 ·exact jaL
theorem jyO {h:Nat->Option D}(p:Str×Int):jbp h (kD p)=some (kD p):=jaY (jag jcF (jag jaL jbP))
theorem jw1 {h:Nat->Option D}(p:Int×Int):jbp h (sD p)=some (sD p):=jaY (jag jaL (jag jaL jbP))
theorem jyr {h:Nat->Option D}(p:Int×Int×Int):jbp h (bD p)=some (bD p):=jaY (jag jaL (jag jaL (jag jaL jbP)))
theorem jwk {h:Nat->Option D}(p:Int×Str):jbp h (rD p)=some (rD p):=jaY (jag jaL (jag jcF jbP))
theorem jma {h:Nat->Option D}{v:Bool}{ds:List D}(k:frzGs h ds=some ds):jbp h (sqD v ds)=some (sqD v ds):=by
 cases v
 ·exact jeq k
 ·exact jaY k
theorem jgi {h:Nat->Option D}(v:Bool)(r:HRow):frzGs h (r.args v)=some (r.args v):=by
 unfold HRow.args;exact jag jcF (jag (jaY (jag jaL (jag jaL jbP))) (jag (jma (jat jyO _)) (jag (jma (jat jw1 _)) (jag (jma (jat jyr _)) (jag (jlq _) (jag (jlq _) (jag (jlq _) (jag (jma (jat jwk _)) (jag jaL (jag jaL jbP))))))))))
theorem jgJ {h:Nat->Option D}(r:HRow):jbp h r.obj=some r.obj:=by
 unfold HRow.obj jbp;rw[jgi];rfl
theorem jlY {μ:M}{C:Addr}{fs:List Str}{ds:List D}(h:∀k,frzGs k ds=some ds):jmF (μ++[some (.obj C fs ds)]) μ.length (.cel μ.length)=some (.obj C fs ds):=by
 unfold jmF;unfold jbp;unfold jkB;rw[if_neg (by omega),if_neg (by simp)];dsimp only;rw[jfw];dsimp only;rw[h];rfl
theorem jsg (v:Bool)(r:HRow)(h:r.Ok)(μ:M):jao .frz jaA.F (r.args v) μ=.ok r.obj μ:=
 jcZ (F:=mkF 268 ja8) (ν:=[some (.obj 268 hFs (r.args true))]) (d:=.cel μ.length) (jxG (F:=ja8) (js5 v r h μ)) (jlY fun _=>jgi true r)
theorem jqD {ds:List D}(k:Nat):_L3.cutD ds (some (k:Int)) none=ds.drop k:=by
 unfold _L3.cutD;rw[HT.sIx_none,HT.sIx_nat];rcases Nat.le_total k ds.length with h|h
 ·rw[Nat.min_eq_left h];exact j07 (by simp)
 ·rw[Nat.min_eq_right h,List.drop_of_length_le (j0l _),List.drop_of_length_le h,List.take_nil]
theorem jwa {ds:List D}(k:Nat):_L3.cutD ds none (some (k:Int))=ds.take k:=by
 unfold _L3.cutD;rw[HT.sIx_none,HT.sIx_nat];simp only[Nat.sub_zero,List.drop_zero];rcases Nat.le_total k ds.length with h|h
 ·rw[Nat.min_eq_left h]
 ·rw[Nat.min_eq_right h,j07 (j0l _),j07 h]
theorem jdg {α:Type}(f:α->D)(xs:List α){i:Int}(h:0<=i)(μ:M):slD false (.lst (xs.map f)) none (some i) μ=.ok (.lst ((xs.take i.toNat).map f)) μ:=by
 obtain⟨k,rfl⟩:=j1i h;show mkL false (_L3.cutD (xs.map f) none (some (k:Int))) μ=_;rw[jwa,<- List.map_take];rfl
theorem jfL {α:Type}(f:α->D){xs:List α}{i:Int}(h0:0<=i)(h1:i<xs.length):∃x∈xs,∀μ:M,ixD (.lst (xs.map f)) (.int i) μ=.ok (f x) μ:=by
 obtain⟨k,rfl⟩:=j1i h0;have hk:k<xs.length:=by omega
 refine⟨xs[k],List.getElem_mem hk,fun μ=>?_⟩;have e:atI (xs.map f) (k:Int)=some (f xs[k]):=by
  exact jfY (by simp[hk])
 show(match atI (xs.map f) (k:Int)with|some d=>Out.ok d μ|none=>.bad)=_;rw[e]
theorem jAV (n:Int)(ss:List Int)(h:∀s∈ss,0<s/\s<1000000)(hl:ss.length<=100):∃(L:D) (g:Int->Int),(∀μ:M,jao .frz jbi.F [.int n,.lst (ss.map D.int)] μ=.ok L μ)/\(∀i:Int,0<=i->i<ss.length->∀μ:M,ixD L (.int i) μ=.ok (.int (g i)) μ)/\∀i s:Int,ss[i.toNat]?=some s->0<=g i/\g i<s:=by
 obtain⟨ds,⟨d1,d2⟩,hd⟩:=jpu n ss h hl;refine⟨_,fun i=>ds.getD i.toNat 0,hd,fun i h0 h1 μ=>?_,fun i s hs=>?_⟩
 ·obtain⟨k,rfl⟩:=j1i h0;exact jhc (by omega)
 ·have hi:i.toNat<ds.length:=by rw[d1];exact(j0e.mp hs).1
  have e:ds.getD i.toNat 0=ds[i.toNat]:=by simp[hi]
  show 0<=ds.getD i.toNat 0/\ds.getD i.toNat 0<s;rw[e];exact d2 _ _ s (j0D hi) hs
theorem jx6:jiz none=.non:=nr rfl
theorem jxV {i:Int}:jiz (some i)=.int i:=nr rfl
theorem jAb {α:Type}{xs:List α}(h:xs.length=3):∃a b c,xs=[a,b,c]:=by
 obtain⟨a,xs,rfl⟩:=j0b (l:=xs) (by omega);obtain⟨b,xs,rfl⟩:=j0b (l:=xs) (by simp at h;omega);obtain⟨c,xs,rfl⟩:=j0b (l:=xs) (by simp at h;omega)
 cases xs with
 |nil=>exact⟨a,b,c,rfl⟩
 |cons d xs=>simp at h
theorem jnh {xs:List Int}(h:jrS xs)(n:Nat):jrS (xs.take n):=fun k hk=>by
 rw[j0y]at hk;have:=h k (by omega)
 (rw[j0B,j0B,List.getElem?_take_of_lt (by omega),List.getElem?_take_of_lt (by omega),<- j0B,<- j0B];assumption)
theorem jol {lo:Int}{xs:List Int}(h:LeOk lo xs)(n:Nat):LeOk lo (xs.take n):=⟨by have:=h.l;rw[j0y];omega,fun x hx=>h.n x (j0P hx),jnh h.r n⟩
theorem jyK {lo a b:Int}(h:lo<=a)(h2:a<b):LeOk lo [a,b]:=⟨by simp,fun x hx=>by
 simp only[j0d,j0J,or_false]at hx;omega,fun k hk=>by
 obtain rfl:k=0:=by simp at hk;omega
 exact h2⟩
theorem jqo {lo a b c:Int}(h:lo<=a)(h2:a<b)(h3:b<c):LeOk lo [a,b,c]:=⟨by simp,fun x hx=>by
 simp only[j0d,j0J,or_false]at hx;omega,fun k hk=>by
 have:k=0∨k=1:=by simp at hk;omega
 rcases this with rfl|rfl
 ·exact h2
 ·exact h3⟩
theorem jjd {zs:List Str}{k:Nat}(h:k<zs.length):zs.getD k ""∈zs:=by
 rw[j0B,j0D h];exact List.getElem_mem h
theorem jmS {α:Type}(d:α)(xs:List α):(List.range xs.length).map (fun j=>xs.getD j d)=xs:=by
 refine List.ext_getElem (by simp) fun i h1 h2=>?_;simp[h2]
theorem jy7 {α:Type}{P:α->Prop}{a b:α}(ha:P a)(hb:P b):∀x∈[a,b],P x:=fun x hx=>by
 simp only[j0d,j0J,or_false]at hx;rcases hx with rfl|rfl
 ·exact ha
 ·exact hb
theorem jje (ns:List Int)(k:Nat)(hk:k<=2)(nm:Str)(hn:jaC nm=true)(kd:List Str)(hkl:kd.length=3)(hku:kd.Nodup)(hkn:∀z∈kd,jaC z=true):∃r:HRow,(r.Ok/\r.name=nm)/\∀μ:M,jao .frz jdG.F [je8 ns,.int (k:Int),.str nm,.lst (kd.map D.str)] μ=.ok (.tup (r.args false)) μ:=by
 obtain⟨k0,k1,k2,rfl⟩:=jAb hkl;obtain⟨n,n0,hnum⟩:=jkz ns (ns.getD (1+k) 0) (3*(k:Int)) (by omega) (by omega);have hat:∀μ:M,jao .frz jbB.F [je8 ns,.int (1+(k:Int))] μ=.ok (.int (ns.getD (1+k) 0)) μ:=fun μ=>by
  have:=jrH ns (1+k) μ
  (rw[show((1+k:Nat):Int)=1+(k:Int)from by omega]at this;assumption)
 obtain⟨L,g,hL,hX,hB⟩:=jAV n [6,5,3,4,4,3,30,30,9,9,3,30,8,3,30,8,3,4,60,40,3,20,3,4,25,25,25,15,4] (by decide) (by decide);obtain⟨ts,⟨t1,t2,t3⟩,ht⟩:=jgo (ns.getD (1+k) 0) 3 (by decide);replace ht:∀μ:M,jao .frz ja3.F [.int (ns.getD (1+k) 0),.int 3] μ=.ok (.lst (ts.map D.str)) μ:=ht;replace hX:∀i:Int,0<=i->i<29->∀μ:M,ixD L (.int i) μ=.ok (.int (g i)) μ:=hX;have b:=fun i s h=>hB i s h;obtain⟨t,ht0,htx⟩:=jfL D.int (xs:=[1,2,3,1,2,0]) (i:=g 0) (b 0 6 rfl).1 (b 0 6 rfl).2;obtain⟨bo,hbo,hbx⟩:=jfL D.int (xs:=[1,1,2,3,10]) (i:=g 1) (b 1 5 rfl).1 (b 1 5 rfl).2;obtain⟨cap,hcap,hcx⟩:=jfL jiz (xs:=[none,none,some (g 18),some (g 18 / 4)]) (i:=g 17) (b 17 4 rfl).1 (b 17 4 rfl).2;obtain⟨age,hage,hax⟩:=jfL jiz (xs:=[none,some (1+g 19),some (1+g 19)]) (i:=g 20) (b 20 3 rfl).1 (b 20 3 rfl).2;obtain⟨rest,hrest,hrx⟩:=jfL jiz (xs:=[none,none,some (1+g 21)]) (i:=g 22) (b 22 3 rfl).1 (b 22 3 rfl).2;have s1:=fun μ=>jdg kD [(k0,g 3),(k1,g 4)] (b 2 3 rfl).1 μ;have s2:=fun μ=>jdg sD [(1+g 6,g 8),(2+g 6+g 7,g 9)] (b 5 3 rfl).1 μ;have s3:=fun μ=>jdg bD [(g 11,g 11+g 12,1+g 13),(g 14,g 14+g 15,1+g 16)] (b 10 3 rfl).1 μ;have s4:=fun μ=>jdg D.int [1+g 24,2+g 24+g 25,3+g 24+g 25+g 26] (b 23 4 rfl).1 μ;simp only[j0k,j0F,jx6,jxV]at htx hbx hcx hax hrx;simp only[j0k,j0F,kD,sD,bD]at s1 s2 s3 s4;generalize hls:[1+g 24,2+g 24+g 25,3+g 24+g 25+g 26].take (g 23).toNat=ls at s4;have hlok:LeOk 1 ls:=by
  have:=b 24 25 rfl;have:=b 25 25 rfl;have:=b 26 25 rfl;rw[<- hls];exact jol (jqo (by omega) (by omega) (by omega)) _
 have hll:ls.length<=3:=by rw[<- hls,j0y];exact Nat.min_le_right _ _
 have kx0:∀μ:M,ixD (.lst [.str k0,.str k1,.str k2]) (.int 0) μ=.ok (.str k0) μ:=fun μ=>nr rfl;have kx1:∀μ:M,ixD (.lst [.str k0,.str k1,.str k2]) (.int 1) μ=.ok (.str k1) μ:=fun μ=>nr rfl;refine⟨⟨nm,t,bo,[(k0,g 3),(k1,g 4)].take (g 2).toNat,[(1+g 6,g 8),(2+g 6+g 7,g 9)].take (g 5).toNat,[(g 11,g 11+g 12,1+g 13),(g 14,g 14+g 15,1+g 16)].take (g 10).toNat,cap,age,rest,(List.range ls.length).map fun j=>(ls.getD j 0,ts.getD j ""),1+g 27,g 28⟩,⟨⟨hn,?_,?_,?_,?_,?_,?_,?_,?_,?_,?_,?_,?_,?_,?_⟩,rfl⟩,fun μ=>?_⟩
 ·simp only[j0d,j0J,or_false]at ht0;show 0<=t;omega
 ·simp only[j0d,j0J,or_false]at hbo;show 1<=bo;omega
 ·refine⟨by rw[j0y];exact j0I (Nat.min_le_right _ _) (by simp),fun p hp=>jy7 (P:=fun p=>jaC p.1=true) (hkn k0 (by simp)) (hkn k1 (by simp)) p (j0P hp),fun p hp=>jy7 (P:=fun p=>0<=p.2) (b 3 4 rfl).1 (b 4 4 rfl).1 p (j0P hp),?_⟩;rw[List.map_take];refine(List.take_sublist _ _).nodup ?_;have:k0≠k1:=fun e=>by subst e;simp at hku
  simpa using this
 ·have:=b 6 30 rfl;have:=b 7 30 rfl;show LeOk 0 (([(1+g 6,g 8),(2+g 6+g 7,g 9)].take (g 5).toNat).map (·.1));rw[List.map_take];exact jol (jyK (lo:=0) (a:=1+g 6) (b:=2+g 6+g 7) (by omega) (by omega)) _
 ·exact fun p hp=>jy7 (P:=fun p=>0<=p.2) (b 8 9 rfl).1 (b 9 9 rfl).1 p (j0P hp)
 ·show(([(g 11,g 11+g 12,1+g 13),(g 14,g 14+g 15,1+g 16)]:List (Int×Int×Int)).take (g 10).toNat).length<=1000;rw[j0y];exact j0I (Nat.min_le_right _ _) (by simp)
 ·have:=b 11 30 rfl;have:=b 12 8 rfl;have:=b 13 3 rfl;have:=b 14 30 rfl;have:=b 15 8 rfl;have:=b 16 3 rfl;exact fun p hp=>jy7 (P:=jzy) ⟨by dsimp only;omega,by dsimp only;omega,by dsimp only;omega⟩ ⟨by dsimp only;omega,by dsimp only;omega,by dsimp only;omega⟩ p (j0P hp)
 ·intro i e;have:=b 18 60 rfl;simp only at e;subst e;simp at hcap;omega
 ·intro i e;have:=b 19 40 rfl;simp only at e;subst e;simp at hage;omega
 ·intro i e;have:=b 21 20 rfl;simp only at e;subst e;simp at hrest;omega
 ·show LeOk 1 (((List.range ls.length).map fun j=>(ls.getD j 0,ts.getD j "")).map (·.1));rw[j0E,show((fun x:Int×Str=>x.1) ∘ fun j=>(ls.getD j 0,ts.getD j ""))=fun j=>ls.getD j 0 from rfl,jmS];exact hlok
 ·intro p hp;obtain⟨j,hj,rfl⟩:=j0x.mp hp;exact t3 _ (jjd (by have:=j0Z.mp hj;omega))
 ·show 1<=1+g 27;have:=b 27 15 rfl;omega
 ·exact(b 28 4 rfl).1
 ·have hq:∀o0 o1 o2 o3 o4 o5 o6 o7 o8 o9 o10 o11 o12:Option D,(ev je2 jdj).v [o0,o1,o2,o3,o4,o5,o6,o7,o8,o9,o10,o11,o12,some (.lst (ts.map D.str)),some (.lst (ls.map D.int)),none] μ=.ok (.lst (((List.range ls.length).map fun j=>(ls.getD j 0,ts.getD j "")).map rD)) μ:=fun o0 o1 o2 o3 o4 o5 o6 o7 o8 o9 o10 o11 o12=>by
   unfold jdj;rw[jax (ds:=[.int (ls.length:Int)]) (xs:=List.range ls.length) (e:=fun(j:Nat)=>D.int (j:Int)) (fun _=>true) (fun j=>rD (ls.getD j 0,ts.getD j "")) (by
    symm;rw[jcB,j0f];symm) (jdb (by omega)) (jac (by simp;omega)) fun j hj=>⟨_,rfl,by symm,fun _=>by
    have hj':j<ls.length:=by simpa using hj
    symm;rwa[jhc hj'];rwa[jec (by omega)];rfl⟩]
   rwa[j0r.mpr fun _ _=>rfl];simp[j0E]
  refine jaj (F:=jeZ) ?_ (jaY (jgi false _));unfold jeZ jeT;symm;rwa[if_pos (jac (by decide))];rwa[hat];rwa[hnum];rwa[show([.int 6,.int 5,.int 3,.int 4,.int 4,.int 3,.int 30,.int 30,.int 9,.int 9,.int 3,.int 30,.int 8,.int 3,.int 30,.int 8,.int 3,.int 4,.int 60,.int 40,.int 3,.int 20,.int 3,.int 4,.int 25,.int 25,.int 25,.int 15,.int 4]:List D)=List.map D.int [6,5,3,4,4,3,30,30,9,9,3,30,8,3,30,8,3,4,60,40,3,20,3,4,25,25,25,15,4]from rfl,hL]
  repeat(simp(disch:=decide) only [hX,htx,hbx,hcx,hax,hrx,s1,s2,s3,s4,kx0,kx1];symm)
  rwa[hat];rwa[ht]
  repeat(simp(disch:=decide) only [hX,htx,hbx,hcx,hax,hrx,s1,s2,s3,s4,kx0,kx1];symm)
  rwa[hq]
  repeat(simp(disch:=decide) only [hX];symm)
  rfl
noncomputable def pD (p:Str×Str):D:=.tup [.str p.1,.str p.2]
noncomputable abbrev Rt:=Str×Str×Int×Int
noncomputable def tD (r:Rt):D:=.tup [.str r.1,.str r.2.1,.int r.2.2.1,.int r.2.2.2]
structure RtOk (zs:List Str) (r:Rt):Prop where
 a:r.1∈zs
 b:r.2.1∈zs
 n:r.1≠r.2.1
 t:0<=r.2.2.1
 l:1<=r.2.2.2
structure Good (zs:List Str) (ps:List (Str×Str)) (rs:List Rt):Prop where
 z0:0<zs.length
 zu:zs.Nodup
 pn:∀p∈ps,jaC p.1=true/\p.2∈zs
 pu:(ps.map (·.1)).Nodup
 rn:∀r∈rs,RtOk zs r
 ru:(rs.map fun r=>(r.1,r.2.1)).Nodup
noncomputable def jaP (r:HRow):D:=.tup (r.args false)
structure Sett (hs:List HRow) (ps:List (Str×Str)) (rs:List Rt):Prop where
 h2:2<=hs.length
 h3:hs.length<=3
 ok:∀h∈hs,h.Ok
 p0:0<ps.length
 p6:ps.length<=6
 r6:rs.length<=6
 good:Good (hs.map (·.name)) ps rs
theorem jgw {zs:List Str} (h:zs.Nodup) {i j:Nat} (hi:i<zs.length) (hj:j<zs.length) (e:zs.getD i "" =zs.getD j ""):i=j:=by
 rw[j0B,j0D hi,j0B,j0D hj]at e;exact(List.getElem_inj h).mp e
theorem jvh {α:Type}(f:α->D)(d:α){xs:List α}{i:Nat}(h:i<xs.length){μ:M}:ixD (.lst (xs.map f)) (.int (i:Int)) μ=.ok (f (xs.getD i d)) μ:=by
 have e:atI (xs.map f) (i:Int)=some (f (xs.getD i d)):=by
  exact jfY (by simp[h])
 show(match atI (xs.map f) (i:Int)with|some d=>Out.ok d μ|none=>.bad)=_;rw[e]
noncomputable def jin (k:Nat):Nat×Nat:=[(0,1),(1,0),(0,2),(2,0),(1,2),(2,1)].getD k (0,1)
theorem jfR:∀k,k<6->(jin k).1<3/\(jin k).2<3/\(jin k).1≠(jin k).2:=by decide
theorem jq8:∀k,k<2->(jin k).1<2/\(jin k).2<2:=by decide
theorem jqR:∀i,i<6->∀j,j<6->(jin i).1=(jin j).1->(jin i).2=(jin j).2->i=j:=by decide
noncomputable def jfE:D:=.lst [.tup [.int 0,.int 1],.tup [.int 1,.int 0],.tup [.int 0,.int 2],.tup [.int 2,.int 0],.tup [.int 1,.int 2],.tup [.int 2,.int 1]]
theorem jus {k:Nat}(h:k<6){μ:M}:ixD jfE (.int (k:Int)) μ=.ok (.tup [.int ((jin k).1:Int),.int ((jin k).2:Int)]) μ:=by
 rcases(show k=0∨k=1∨k=2∨k=3∨k=4∨k=5 by omega)with rfl|rfl|rfl|rfl|rfl|rfl<;>exact nr rfl
theorem jn7 {h:Nat->Option D}(p:Str×Str):jbp h (pD p)=some (pD p):=jaY (jag jcF (jag jcF jbP))
theorem joM {h:Nat->Option D}(p:Rt):jbp h (tD p)=some (tD p):=jaY (jag jcF (jag jcF (jag jaL (jag jaL jbP))))
theorem joL {h:Nat->Option D}(r:HRow):jbp h (jaP r)=some (jaP r):=jaY (jgi false r)
theorem jnw (ns:List Int):∃(hs:List HRow) (ps:List (Str×Str)) (rs:List Rt) (kd:D),Sett hs ps rs/\∀μ:M,jao .frz jdc.F [je8 ns] μ=.ok (.tup [.lst (hs.map jaP),.lst (ps.map pD),.lst (rs.map tD),kd]) μ:=by
 have hat:∀(k:Nat) (μ:M),jao .frz jbB.F [je8 ns,.int (k:Int)] μ=.ok (.int (ns.getD k 0)) μ:=fun k μ=>jrH ns k μ;have hat3:∀μ:M,jao .frz jbB.F [je8 ns,.int 3] μ=.ok (.int (ns.getD 3 0)) μ:=hat 3;have hat4:∀μ:M,jao .frz jbB.F [je8 ns,.int 4] μ=.ok (.int (ns.getD 4 0)) μ:=hat 4;have hat5:∀μ:M,jao .frz jbB.F [je8 ns,.int 5] μ=.ok (.int (ns.getD 5 0)) μ:=hat 5;obtain⟨nh,⟨nl,nu,nn⟩,hnh⟩:=jgo (ns.getD 3 0) 3 (by decide);replace hnh:∀μ:M,jao .frz ja3.F [.int (ns.getD 3 0),.int 3] μ=.ok (.lst (nh.map D.str)) μ:=hnh;obtain⟨pu,⟨pl,pu1,pn⟩,hpu⟩:=jgo (ns.getD 4 0) 6 (by decide);replace hpu:∀μ:M,jao .frz ja3.F [.int (ns.getD 4 0),.int 6] μ=.ok (.lst (pu.map D.str)) μ:=hpu;obtain⟨kd,⟨kl,ku,kn⟩,hkd⟩:=jgo (ns.getD 5 0) 3 (by decide);replace hkd:∀μ:M,jao .frz ja3.F [.int (ns.getD 5 0),.int 3] μ=.ok (.lst (kd.map D.str)) μ:=hkd;obtain⟨n,n0,hnum⟩:=jkz ns (ns.getD 4 0) 8 (by decide) (by decide);obtain⟨L,g,hL,hX,hB⟩:=jAV n [2,4,5,7,4,5,7,4,5,7,4,5,7,4,5,7,4,5,7] (by decide) (by decide);replace hX:∀i:Int,0<=i->i<19->∀μ:M,ixD L (.int i) μ=.ok (.int (g i)) μ:=hX;have hb:∀k:Nat,k<6->0<=g (2+3*(k:Int))/\0<=g (3+3*(k:Int)):=fun k hk=>by
  rcases(show k=0∨k=1∨k=2∨k=3∨k=4∨k=5 by omega)with rfl|rfl|rfl|rfl|rfl|rfl
  ·exact⟨(hB 2 5 rfl).1,(hB 3 7 rfl).1⟩
  ·exact⟨(hB 5 5 rfl).1,(hB 6 7 rfl).1⟩
  ·exact⟨(hB 8 5 rfl).1,(hB 9 7 rfl).1⟩
  ·exact⟨(hB 11 5 rfl).1,(hB 12 7 rfl).1⟩
  ·exact⟨(hB 14 5 rfl).1,(hB 15 7 rfl).1⟩
  ·exact⟨(hB 17 5 rfl).1,(hB 18 7 rfl).1⟩
 have nmz:∀k,k<=2->jaC (nh.getD k "")=true:=fun k hk=>nn _ (jjd (by omega));obtain⟨r0,⟨ok0,e0⟩,h0⟩:=jje ns 0 (by decide) (nh.getD 0 "") (nmz 0 (by decide)) kd kl ku kn;obtain⟨r1,⟨ok1,e1⟩,h1⟩:=jje ns 1 (by decide) (nh.getD 1 "") (nmz 1 (by decide)) kd kl ku kn;obtain⟨r2,⟨ok2,e2⟩,h2⟩:=jje ns 2 (by decide) (nh.getD 2 "") (nmz 2 (by decide)) kd kl ku kn;obtain⟨row,hrow⟩:∃row:Nat->HRow,∀k,k<3->((row k).Ok/\(row k).name=nh.getD k "")/\∀μ:M,jao .frz jdG.F [je8 ns,.int (k:Int),.str (nh.getD k ""),.lst (kd.map D.str)] μ=.ok (jaP (row k)) μ:=by
  refine⟨fun k=>[r0,r1,r2].getD k r0,fun k hk=>?_⟩;rcases(show k=0∨k=1∨k=2 by omega)with rfl|rfl|rfl
  ·exact⟨⟨ok0,e0⟩,h0⟩
  ·exact⟨⟨ok1,e1⟩,h1⟩
  ·exact⟨⟨ok2,e2⟩,h2⟩
 obtain⟨hm,R,nH,hmx,hRx,hnH,hm0,hm6,hmn,nH2,nH3,R6,spn⟩:∃(hm:List Nat) (R nH:Nat),(∀μ:M,ixD (.lst [.lst [.int 0,.int 0,.int 1,.int 1],.lst [.int 0,.int 0,.int 0,.int 1,.int 1,.int 2]]) (.int (g 0)) μ=.ok (.lst (hm.map fun(i:Nat)=>D.int (i:Int))) μ)/\(∀μ:M,ixD (.lst [.int 2,.int 6]) (.int (g 0)) μ=.ok (.int (R:Int)) μ)/\2+g 0=(nH:Int)/\0<hm.length/\hm.length<=6/\(∀i∈hm,i<nH)/\2<=nH/\nH<=3/\R<=6/\∀k,k<R->(jin k).1<nH/\(jin k).2<nH:=by
  have:=hB 0 2 rfl;rcases(show g 0=0∨g 0=1 by replace this:0<=g 0/\g 0<2:=this;omega)with e|e
  ·rw[e];exact⟨[0,0,1,1],2,2,fun μ=>nr rfl,fun μ=>nr rfl,rfl,by decide,by decide,by decide,by decide,by decide,by decide,jq8⟩
  ·rw[e];exact⟨[0,0,0,1,1,2],6,3,fun μ=>nr rfl,fun μ=>nr rfl,rfl,by decide,by decide,by decide,by decide,by decide,by decide,fun k hk=>⟨(jfR k hk).1,(jfR k hk).2.1⟩⟩
 have names:((List.range nH).map row).map (·.name)=nh.take nH:=by
  rw[j0E];refine List.ext_getElem (by simp;omega) fun i a1 a2=>?_;have hi:i<nH:=by simpa using a1
  rw[List.getElem_map,List.getElem_range,List.getElem_take];show(row i).name=_;rw[(hrow i (by omega)).1.2,j0B,j0D (by omega)];rfl
 have inN:∀i,i<nH->nh.getD i ""∈nh.take nH:=fun i hi=>by
  rw[j0B,j0D (by omega)];exact List.mem_take_iff_getElem.mpr ⟨i,by omega,rfl⟩
 let c:Nat->Bool:=fun k=>decide (0<g (1+3*(k:Int)))||decide (g 0=0)
 let f:Nat->Rt:=fun k=>(nh.getD (jin k).1 "",nh.getD (jin k).2 "",g (2+3*(k:Int)),1+g (3+3*(k:Int)))
 let pf:Nat->Str×Str:=fun j=>(pu.getD j "",nh.getD (hm.getD j 0) "")
 have hmd:∀j,j<hm.length->hm.getD j 0<nH:=fun j hj=>by
  rw[j0B,j0D hj];exact hmn _ (List.getElem_mem hj)
 refine⟨(List.range nH).map row,(List.range hm.length).map pf,((List.range R).filter c).map f,.lst (kd.map D.str),⟨by simpa using nH2,by simpa using nH3,fun h hh=>?_,by simpa using hm0,by simpa using hm6,?_,?_⟩,fun μ=>?_⟩
 ·obtain⟨k,hk,rfl⟩:=j0x.mp hh;exact(hrow k (by have:=j0Z.mp hk;omega)).1.1
 ·rw[j0f];refine j0I (List.length_filter_le _ _) ?_;simpa using R6
 ·rw[names];refine⟨by rw[j0y];omega,(List.take_sublist _ _).nodup nu,fun p hp=>?_,?_,fun r hr=>?_,?_⟩
  ·obtain⟨j,hj,rfl⟩:=j0x.mp hp;have hj':=j0Z.mp hj;exact⟨pn _ (jjd (by omega)),inN _ (hmd j hj')⟩
  ·rw[j0E];exact jdI fun i j hi hj e=>jgw pu1 (by omega) (by omega) e
  ·obtain⟨k,hk,rfl⟩:=j0x.mp hr;have hk':=j0Z.mp (List.mem_filter.mp hk).1;have s1:=jfR k (by omega);have s2:=spn k hk';have s3:=hb k (by omega);exact⟨inN _ s2.1,inN _ s2.2,fun e=>s1.2.2 (jgw nu (by omega) (by omega) e),s3.1,by show 1<=1+g (3+3*(k:Int));omega⟩
  ·rw[j0E];refine(List.Sublist.map _ List.filter_sublist).nodup ?_;refine jdI fun i j hi hj e=>?_;have a1:=jfR i (by omega);have a2:=jfR j (by omega);have e':=Prod.mk.inj (show(nh.getD (jin i).1 "",nh.getD (jin i).2 "")=(nh.getD (jin j).1 "",nh.getD (jin j).2 "")from e);exact jqR i (by omega) j (by omega) (jgw nu (by omega) (by omega) e'.1) (jgw nu (by omega) (by omega) e'.2)
 ·have q0:∀(o5 o6 o7 o8 o9 o10:Option D) (μ:M),(ev ja5 jcb).v [some (je8 ns),some (.lst (nh.map D.str)),some (.lst (pu.map D.str)),some (.lst (kd.map D.str)),some L,o5,o6,o7,o8,o9,o10] μ=.ok (.lst (((List.range nH).map row).map jaP)) μ:=fun o5 o6 o7 o8 o9 o10 μ=>by
   unfold jcb;rw[jax (ds:=[.int (nH:Int)]) (xs:=List.range nH) (e:=fun(j:Nat)=>D.int (j:Int)) (fun _=>true) (fun j=>jaP (row j)) (by
    symm;rwa[hX 0 (by decide) (by decide)];rw[hnH]) (jdb (by omega)) (jac (by simp;omega)) fun j hj=>⟨_,rfl,by symm,fun _=>by
    have hj':j<nH:=by simpa using hj
    symm;rwa[jec (by omega)];rw[(hrow j (by omega)).2]⟩]
   rwa[j0r.mpr fun _ _=>rfl];simp[j0E]
  have q1:∀(o5 o7 o8 o9 o10:Option D) (μ:M),(ev ja5 jb8).v [some (je8 ns),some (.lst (nh.map D.str)),some (.lst (pu.map D.str)),some (.lst (kd.map D.str)),some L,o5,some (.lst (hm.map fun(i:Nat)=>D.int (i:Int))),o7,o8,o9,o10] μ=.ok (.lst (((List.range hm.length).map pf).map pD)) μ:=fun o5 o7 o8 o9 o10 μ=>by
   unfold jb8;rw[jax (ds:=[.int (hm.length:Int)]) (xs:=List.range hm.length) (e:=fun(j:Nat)=>D.int (j:Int)) (fun _=>true) (fun j=>pD (pf j)) (by
    symm;rw[jcB,j0f];symm) (jdb (by omega)) (jac (by simp;omega)) fun j hj=>⟨_,rfl,by symm,fun _=>by
    have hj':j<hm.length:=by simpa using hj
    have:=hmd j hj';symm;rwa[jec (by omega)];rwa[jvh (fun(i:Nat)=>D.int (i:Int)) 0 hj'];rwa[jec (by omega)];rfl⟩]
   rwa[j0r.mpr fun _ _=>rfl];simp[j0E]
  have loop:∀(a5 a6 a7:D) (ok:M->Bool) (hok:∀ν,ok ν=true) (xs:List Nat) (acc:List Rt),acc.length+xs.length<=100->(∀x∈xs,x<6)->jc9 ok (.nm 10) (runs ja5 jbs) [10] (xs.map fun(x:Nat)=>D.int (x:Int)) [some (je8 ns),some (.lst (nh.map D.str)),some (.lst (pu.map D.str)),some (.lst (kd.map D.str)),some L,some a5,some a6,some a7,some (.cel μ.length),some jfE,none] (μ++[some (.lst (acc.map tD))])=.ok (.nx [some (je8 ns),some (.lst (nh.map D.str)),some (.lst (pu.map D.str)),some (.lst (kd.map D.str)),some L,some a5,some a6,some a7,some (.cel μ.length),some jfE,none]) (μ++[some (.lst ((acc++(xs.filter c).map f).map tD))]):=by
   intro a5 a6 a7 ok hok xs
   induction xs with
   |nil=>exact fun acc _ _=>by rw[j0F,jbA (hok _),List.filter_nil,j0F,j0C];rfl
   |cons x xs ih=>
    intro acc hl hx;have hx6:=hx x j0u;have sx:=jfR x hx6;rw[j0q]at hl;have cond:∀ν:M,(ev ja5 (.or_ (.cmp .Gt (.ix (.var 4) (.bin .Add false (.cst (.int 1)) (.bin .Mult false (.cst (.int 3)) (.var 10)))) (.cst (.int 0))) (.cmp .Eq (.ix (.var 4) (.cst (.int 0))) (.cst (.int 0))))).t [some (je8 ns),some (.lst (nh.map D.str)),some (.lst (pu.map D.str)),some (.lst (kd.map D.str)),some L,some a5,some a6,some a7,some (.cel μ.length),some jfE,some (.int (x:Int))] ν=.ok (c x) ν:=fun ν=>by
     symm;rwa[hX _ (by omega) (by omega)];show _=Out.ok (decide (0<g (1+3*(x:Int)))||decide (g 0=0)) ν;by_cases hc:0<g (1+3*(x:Int))
     ·rwa[decide_eq_true hc];rfl
     ·rwa[decide_eq_false hc];rwa[hX 0 (by decide) (by decide)];rw[Bool.false_or]
    rw[j0k]
    cases hcx:c x with
    |false=>
     rw[ja0 (ρ1:=[some (je8 ns),some (.lst (nh.map D.str)),some (.lst (pu.map D.str)),some (.lst (kd.map D.str)),some L,some a5,some a6,some a7,some (.cel μ.length),some jfE,some (.int (x:Int))]) (ρ2:=[some (je8 ns),some (.lst (nh.map D.str)),some (.lst (pu.map D.str)),some (.lst (kd.map D.str)),some L,some a5,some a6,some a7,some (.cel μ.length),some jfE,some (.int (x:Int))]) (μ2:=μ++[some (.lst (acc.map tD))]) (hok _) rfl ?_]
     ·rw[j1z (by simp[hcx])];exact ih acc (by omega) fun y hy=>hx y (j0s _ hy)
     ·unfold jbs;rwa[jcR,jjt,cond,hcx]
    |true=>
     rw[ja0 (ρ1:=[some (je8 ns),some (.lst (nh.map D.str)),some (.lst (pu.map D.str)),some (.lst (kd.map D.str)),some L,some a5,some a6,some a7,some (.cel μ.length),some jfE,some (.int (x:Int))]) (ρ2:=[some (je8 ns),some (.lst (nh.map D.str)),some (.lst (pu.map D.str)),some (.lst (kd.map D.str)),some L,some a5,some a6,some a7,some (.cel μ.length),some jfE,some (.int (x:Int))]) (μ2:=μ++[some (.lst ((acc++[f x]).map tD))]) (hok _) rfl ?_]
     ·rw[j1y hcx,j0k];have:=ih (acc++[f x]) (by rw[j0v,j0L];omega) fun y hy=>hx y (j0s _ hy);rw[j1b,List.singleton_append]at this;exact this
     ·unfold jbs;rw[jcR,jjt,cond,hcx];have t0:∀(a b:D) (ν:M),ixD (.tup [a,b]) (.int 0) ν=.ok a ν:=fun a b ν=>nr rfl;have t1:∀(a b:D) (ν:M),ixD (.tup [a,b]) (.int 1) ν=.ok b ν:=fun a b ν=>nr rfl;symm;simp only[jus hx6];symm;rwa[t0];rwa[jec (by omega)];rwa[t1];rwa[jec (by omega)];rwa[hX _ (by omega) (by omega)];rwa[hX _ (by omega) (by omega)];rwa[jgq (jac (by simp;omega))];rw[j1n];rfl
  have hi:∀ν:M,itD .rng1 [.int (R:Int)] ν=some ((List.range R).map fun(x:Nat)=>D.int (x:Int)):=fun ν=>jdb (by omega);have mul6:∀ν:M,jiV .Mult false (.lst [.int 4,.int 5,.int 7]) (.int 6) ν=.ok (.lst (List.map D.int [4,5,7,4,5,7,4,5,7,4,5,7,4,5,7,4,5,7])) ν:=fun ν=>by
   show(if(0:Int)<=6/\(6:Int)<1000/\([.int 4,.int 5,.int 7]:List D)≠[]/\([.int 4,.int 5,.int 7]:List D).length<=1000 then Out.ok (D.lst (List.replicate (6:Int).toNat [.int 4,.int 5,.int 7]).flatten) ν else .bad)=_;rw[if_pos ⟨by decide,by decide,by simp,by simp⟩];rfl
  have hL':∀ν:M,jao .frz jbi.F [.int n,.lst [.int 2,.int 4,.int 5,.int 7,.int 4,.int 5,.int 7,.int 4,.int 5,.int 7,.int 4,.int 5,.int 7,.int 4,.int 5,.int 7,.int 4,.int 5,.int 7]] ν=.ok L ν:=hL;have lp:=loop (.lst (((List.range nH).map row).map jaP)) (.lst (hm.map fun(i:Nat)=>D.int (i:Int))) (.lst (((List.range hm.length).map pf).map pD)) (jdT .rng1 [.int (R:Int)] ((List.range R).map fun(x:Nat)=>D.int (x:Int))) (fun ν=>jaI (hi ν)) (List.range R) [] (by simp;omega) (fun x hx=>by have:=j0Z.mp hx;omega);refine jcZ (F:=jdf) (d:=.tup [.lst (((List.range nH).map row).map jaP),.lst (((List.range hm.length).map pf).map pD),.cel μ.length,.lst (kd.map D.str)]) (ν:=[some (.lst ((((List.range R).filter c).map f).map tD))]) ?_ (jaY (jag (jeq (jat joL _)) (jag (jeq (jat jn7 _)) (jag (jjb fun _=>jat joM _) (jag (jeq (jat (fun _=>jcF) _)) jbP)))));unfold jdf jdE;symm;rwa[hat3];rwa[hnh];rwa[hat4];rwa[hpu];rwa[hat5];rwa[hkd];rwa[hat4];rwa[hnum];rwa[mul6];rwa[jk8 (jac (by simp))];rwa[hL'];rwa[q0];rwa[hX 0 (by decide) (by decide)];rwa[hmx];rwa[q1];rwa[hX 0 (by decide) (by decide)];rwa[hRx];rw[ja6 (hi _)];simp only[j0F,j1f]at lp;rwa[show(.lst [.tup [.int 0,.int 1],.tup [.int 1,.int 0],.tup [.int 0,.int 2],.tup [.int 2,.int 0],.tup [.int 1,.int 2],.tup [.int 2,.int 1]]:D)=jfE from rfl,lp]
theorem ri {r:HRow}{μ:M}:ixD (jaP r) (.int 0) μ=.ok (.str r.name) μ/\ixD (jaP r) (.int 1) μ=.ok (.tup [.int r.t,.int r.b]) μ/\ixD (jaP r) (.int 2) μ=.ok (sqD false (r.kinds.map kD)) μ/\ixD (jaP r) (.int 3) μ=.ok (sqD false (r.steps.map sD)) μ/\ixD (jaP r) (.int 4) μ=.ok (sqD false (r.doubles.map bD)) μ/\ixD (jaP r) (.int 5) μ=.ok (jiz r.cap) μ/\ixD (jaP r) (.int 6) μ=.ok (jiz r.age) μ/\ixD (jaP r) (.int 7) μ=.ok (jiz r.rest) μ/\ixD (jaP r) (.int 8) μ=.ok (sqD false (r.ranks.map rD)) μ/\ixD (jaP r) (.int 9) μ=.ok (.int r.span) μ/\ixD (jaP r) (.int 10) μ=.ok (.int r.grace) μ:=⟨nr rfl,nr rfl,nr rfl,nr rfl,nr rfl,nr rfl,nr rfl,nr rfl,nr rfl,nr rfl,nr rfl⟩
theorem jjJ {ok:M->Bool}(hok:∀ν,ok ν=true)(H:D)(μ:M):∀(xs acc:List HRow),acc.length+xs.length<=100->(∀x∈xs,x.Ok)->jc9 ok (.nm 2) (runs jfQ jer) [2] (xs.map jaP) [some H,some (.cel μ.length),none] (μ++[some (.lst (acc.map HRow.obj))])=.ok (.nx [some H,some (.cel μ.length),none]) (μ++[some (.lst ((acc++xs).map HRow.obj))])
 |[],acc,_,_=>by
  rw[j0F,jbA (hok _),j0C];rfl
 |x::xs,acc,hl,hx=>by
  rw[j0q]at hl;rw[j0k,ja0 (ρ1:=[some H,some (.cel μ.length),some (jaP x)]) (ρ2:=[some H,some (.cel μ.length),some (jaP x)]) (μ2:=μ++[some (.lst ((acc++[x]).map HRow.obj))]) (hok _) rfl ?_]
  ·have:=jjJ hok H μ xs (acc++[x]) (by rw[j0v,j0L];omega) fun y hy=>hx y (j0s _ hy);rw[j1b,List.singleton_append]at this;exact this
  ·have hn:=fun ν=>jsg false x (hx x j0u) ν;unfold HRow.args at hn;unfold jer;symm
   repeat(simp only[ri];symm)
   rwa[hn];rwa[jgq (jac (by simp;omega))];rw[j1n];rfl
theorem jlx (hs:List HRow)(hl:hs.length<=50)(h:∀x∈hs,x.Ok)(μ:M):jcM [.lst (hs.map jaP)] μ=.ok (.cel μ.length) (μ++[some (.lst (hs.map HRow.obj))]):=by
 have lp:=jjJ (ok:=jdT .seq [.lst (hs.map jaP)] (hs.map jaP)) (fun ν=>jaI rfl) (.lst (hs.map jaP)) μ hs [] (by simp;omega) h;simp only[j0F,j1f]at lp;unfold jcM jfO;symm;rwa[ja6 (xs:=hs.map jaP) rfl,lp]
theorem jpA (hs:List HRow)(hl:hs.length<=50)(h:∀x∈hs,x.Ok)(μ:M):jao .frz jcQ.F [.lst (hs.map jaP)] μ=.ok (.lst (hs.map HRow.obj)) μ:=
 jcZ (F:=jcM) (jlx hs hl h μ) (jjb fun _=>jat jgJ _)
theorem jqK (hs:List HRow)(hl:hs.length<=50)(h:∀x∈hs,x.Ok)(μ:M):jao .new jcQ.F [.lst (hs.map jaP)] μ=.ok (.cel μ.length) (μ++[some (.lst (hs.map HRow.obj))]):=by
 have key:=jlx hs hl h μ;have e:jyS (μ++[some (.lst (hs.map HRow.obj))]) μ.length (.cel μ.length)=some (.cel μ.length,[hs.map HRow.obj]):=by
  unfold jyS jqE;rw[if_pos ⟨by simp,by simp⟩];dsimp only;unfold jjM jjM;rw[jfw];dsimp only;rw[jat jgJ];simp[job]
 show(match jcM [.lst (hs.map jaP)] μ with|.ok d μ'=>_|.exc x μ'=>_|.bad=>_)=_;rw[key];dsimp only;rw[List.take_left,if_pos rfl,e];rfl
theorem dH:jaA.dat=some (.cls 268 5 hFs):=rfl
theorem jis {f g:Str}{fs:List Str}{d:D}{ds:List D}(h:f≠g):jnA f (g::fs) (d::ds)=jnA f fs ds:=if_neg h
theorem jhq {f:Str}{fs:List Str}{d:D}{ds:List D}:jnA f (f::fs) (d::ds)=some d:=if_pos rfl
theorem fh {r:HRow}{f:Str}{d:D}{μ:M}(h:jnA f hFs (r.args true)=some d):jh0 jaA.dat f r.obj μ=.ok d μ:=by
 rw[dH];exact jiK h
theorem jeN {r:HRow}{μ:M}:jh0 jaA.dat "name" r.obj μ=.ok (.str r.name) μ:=fh jhq
theorem fhs {r:HRow}{μ:M}:jh0 jaA.dat "name" r.obj μ=.ok (.str r.name) μ/\jh0 jaA.dat "share" r.obj μ=.ok (.tup [.int r.t,.int r.b]) μ/\jh0 jaA.dat "kinds" r.obj μ=.ok (sqD true (r.kinds.map kD)) μ/\jh0 jaA.dat "steps" r.obj μ=.ok (sqD true (r.steps.map sD)) μ/\jh0 jaA.dat "doubles" r.obj μ=.ok (sqD true (r.doubles.map bD)) μ/\jh0 jaA.dat "cap" r.obj μ=.ok (jiz r.cap) μ/\jh0 jaA.dat "age" r.obj μ=.ok (jiz r.age) μ/\jh0 jaA.dat "rest" r.obj μ=.ok (jiz r.rest) μ/\jh0 jaA.dat "ranks" r.obj μ=.ok (sqD true (r.ranks.map rD)) μ/\jh0 jaA.dat "span" r.obj μ=.ok (.int r.span) μ/\jh0 jaA.dat "grace" r.obj μ=.ok (.int r.grace) μ:=by
 have n:∀f g:String,(Str.ofString f==Str.ofString g)=false->Str.ofString f≠Str.ofString g:=fun f g h e=>by rw[e]at h;simp at h
 refine⟨jeN,fh ?_,fh ?_,fh ?_,fh ?_,fh ?_,fh ?_,fh ?_,fh ?_,fh ?_,fh ?_⟩<;>unfold HRow.args<;>(repeat(rw[jis (n _ _ (by ac_rfl))]))<;>exact jhq
theorem jh3 {ok:M->Bool}(hok:∀ν,ok ν=true)(H:D)(μ:M):∀(xs acc:List HRow),acc.length+xs.length<=100->(∀x∈xs,x.Ok)->jc9 ok (.nm 2) (runs jeS jcW) [2,3] (xs.map HRow.obj) [some H,some (.cel μ.length),none,none] (μ++[some (.lst (acc.map HRow.obj))])=.ok (.nx [some H,some (.cel μ.length),none,none]) (μ++[some (.lst ((acc++xs).map HRow.obj))])
 |[],acc,_,_=>by
  rw[j0F,jbA (hok _),j0C];rfl
 |x::xs,acc,hl,hx=>by
  rw[j0q]at hl;rw[j0k,ja0 (ρ1:=[some H,some (.cel μ.length),some x.obj,none]) (ρ2:=[some H,some (.cel μ.length),some x.obj,some (.tup [.str x.name,.tup [.int x.t,.int x.b],sqD true (x.kinds.map kD),sqD true (x.steps.map sD),sqD true (x.doubles.map bD)])]) (μ2:=μ++[some (.lst ((acc++[x]).map HRow.obj))]) (hok _) rfl ?_]
  ·have:=jh3 hok H μ xs (acc++[x]) (by rw[j0v,j0L];omega) fun y hy=>hx y (j0s _ hy);rw[j1b,List.singleton_append]at this;exact this
  ·have hn:=fun ν=>jsg true x (hx x j0u) ν;have i5:∀(a b c d e:D) (ν:M),ixD (.tup [a,b,c,d,e]) (.int 0) ν=.ok a ν/\ixD (.tup [a,b,c,d,e]) (.int 1) ν=.ok b ν/\ixD (.tup [a,b,c,d,e]) (.int 2) ν=.ok c ν/\ixD (.tup [a,b,c,d,e]) (.int 3) ν=.ok d ν/\ixD (.tup [a,b,c,d,e]) (.int 4) ν=.ok e ν:=fun _ _ _ _ _ _=>⟨nr rfl,nr rfl,nr rfl,nr rfl,nr rfl⟩;unfold HRow.args at hn;unfold jcW;symm
   repeat(simp only[fhs];symm)
   repeat(simp only[i5];symm)
   repeat(simp only[fhs];symm)
   rwa[hn];rwa[jgq (jac (by simp;omega))];rw[j1n];rfl
theorem jne {μ:M}{ds:List D}:biD .tuple false [.cel μ.length] (μ++[some (.lst ds)])=.ok (.tup ds) (μ++[some (.lst ds)]):=by
 show jg0 [.cel μ.length] _=_;unfold jg0 jfJ jf1;dsimp only;rw[jfw]
theorem jqQ (hs:List HRow)(hl:hs.length<=50)(h:∀x∈hs,x.Ok)(μ:M):jao .frz jeU.F [.tup (hs.map HRow.obj)] μ=.ok (.tup (hs.map HRow.obj)) μ:=by
 have lp:=jh3 (ok:=jdT .seq [.tup (hs.map HRow.obj)] (hs.map HRow.obj)) (fun ν=>jaI rfl) (.tup (hs.map HRow.obj)) μ hs [] (by simp;omega) h;simp only[j0F,j1f]at lp;refine jcZ (F:=jeV) (ν:=[some (.lst (hs.map HRow.obj))]) ?_ (jaY (jat jgJ _));unfold jeV jeW;symm;rwa[ja6 (xs:=hs.map HRow.obj) rfl,lp];rwa[jne]
noncomputable def js0 (b:Bool)(μ:M):Out D:=if b then .ok .non μ else .exc (.str "BadBook") μ
noncomputable def jsH (b:Bool)(ρ:S3)(μ:M):Out Fl:=if b then .ok (.nx ρ) μ else .exc (.str "BadBook") μ
theorem jdS {b:Bool}{ρ:S3}{μ:M}:((js0 b μ).bind fun _ μ1=>.ok (.nx ρ) μ1)=jsH b ρ μ:=by cases b<;>rfl
theorem jcu {b:Bool}{ρ:S3}{μ:M}{k:S3->M->Out Fl}:jo (jsH b ρ μ) k=if b then k ρ μ else .exc (.str "BadBook") μ:=by cases b<;>rfl
theorem jh7 {a b:Bool}{ρ:S3}{μ:M}:(if a then jsH b ρ μ else .exc (.str "BadBook") μ)=jsH (a&&b) ρ μ:=by cases a<;>rfl
theorem jlL {b:Bool}{ρ:S3}{μ:M}:(if b then(.ok (.nx ρ) μ:Out Fl)else .exc (.str "BadBook") μ)=jsH b ρ μ:=rfl
theorem jl1 {b:Bool}{ρ:S3}{μ:M}:jeY (jsH b ρ μ)=js0 b μ:=by cases b<;>rfl
theorem jiS {F:Fn}{ds:List D}{b:Bool}{μ:M}(h:F ds μ=js0 b μ):jao .frz F ds μ=js0 b μ:=by
 cases b with
 |true=>exact jaj (F:=F) (by rw[h];rfl) jcg
 |false=>exact jrs (by rw[h];rfl)
theorem jhQ (b:Bool)(w:Str)(μ:M):jao .frz jbb.F [.bl b,.str w] μ=js0 b μ:=by
 refine jiS (F:=jcx) ?_;unfold jcx jcD;symm;cases b
 ·simp only[Bool.not_false,if_true,jod,jbT,jlu,jlX,jlU];rfl
 ·simp only[Bool.not_true,if_false,j0p,jod,jbT,jfZ,jps];rfl
theorem jiW {α:Type}{ok:M->Bool}{tg:Tg}{body:S3->M->Out Fl}{fg:List Nat}{μ:M}{ρ:S3}(f:α->D)(p:α->Bool)(ρb:α->S3)(ho:ok μ=true)(hf:forget fg ρ=ρ):∀xs:List α,(∀x∈xs,jkC tg (f x) ρ=some (ρb x))->(∀x∈xs,body (ρb x) μ=jsH (p x) (ρb x) μ)->(∀x∈xs,forget fg (ρb x)=ρ) ->
  jc9 ok tg body fg (xs.map f) ρ μ=jsH (xs.all p) ρ μ
 |[],_,_,_=>by
  rw[j0F,jbA ho,hf];rfl
 |x::xs,h1,h2,h3=>by
  rw[j0k]
  cases hp:p x with
  |false=>
   rw[jrb ho (h1 x (by simp)) (y:=.str "BadBook") (μ2:=μ) (by rw[h2 x (by simp),hp];rfl),j0Y,hp];rfl
  |true=>
   rw[ja0 (ρ1:=ρb x) (ρ2:=ρb x) (μ2:=μ) ho (h1 x (by simp)) (by rw[h2 x (by simp),hp];rfl),h3 x (by simp),jiW f p ρb ho hf xs (fun y hy=>h1 y (by simp[hy])) (fun y hy=>h2 y (by simp[hy])) (fun y hy=>h3 y (by simp[hy])),j0Y,hp,j02]
theorem jhs (x:Str):∀zs:List Str,jvT (.str x) (zs.map D.str)=some (decide (x∈zs))
 |[]=>rfl
 |z::zs=>by
  rw[j0k];unfold jvT;rw[jhs x zs];show some (eqV (.str z) (.str x)||decide (x∈zs))=_;congr 1;have:eqV (.str z) (.str x)=decide (x=z):=by
   show(z==x)=_;by_cases e:x=z
   ·subst e;simp
   ·simp[e,Ne.symm e]
  rw[this];simp
theorem jnW (x:Str)(zs:List Str)(μ:M):jdO .In (.str x) (.lst (zs.map D.str)) μ=.ok (.bl (decide (x∈zs))) μ:=nr (by
 unfold jdO jny;have:inD μ (.str x) (.lst (zs.map D.str))=some (decide (x∈zs)):=jhs x zs;simp only[this])
theorem jpH (x:Str)(zs:List Str)(μ:M):jdO .NotIn (.str x) (.lst (zs.map D.str)) μ=.ok (.bl (!decide (x∈zs))) μ:=nr (by
 unfold jdO jny;have:inD μ (.str x) (.lst (zs.map D.str))=some (decide (x∈zs)):=jhs x zs;simp only[this];rfl)
noncomputable def kyT (p:Str×Str):List Key:=[.inr p.1,.inr p.2]
theorem jph {p q:Str×Str}(h:kyT p=kyT q):p=q:=by
 simp only[kyT,List.cons.injEq,Sum.inr.injEq,and_true]at h;exact Prod.ext h.1 h.2
theorem jkE:∀ks:List (Str×Str),jsp (ks.map pD)=some (ks.map kyT)
 |[]=>rfl
 |k::ks=>by
  show(match ksD [.str k.1,.str k.2],jsp (ks.map pD)with|some k,some ks=>some (k::ks)|_,_=>none)=_;rw[show ksD [.str k.1,.str k.2]=some (kyT k)from rfl,jkE ks];rfl
theorem joQ (ks:List (Str×Str)):decide (ks.map kyT).Nodup=decide ks.Nodup:=by
 rw[j0T,decide_eq_true_eq,decide_eq_true_eq];exact⟨fun h=>(j1c.mp h).imp fun a e=>a (by rw[e]),fun h=>j1c.mpr (h.imp fun a e=>a (jph e))⟩
theorem jqO (ks:List (Str×Str))(hl:ks.length<=18)(μ:M):jao .frz jaZ.F [.lst (ks.map pD)] μ=.ok (.bl (decide ks.Nodup)) μ:=by
 refine jaj (F:=jbN) ?_ jeD;have h1:biD .lenSet false [.lst (ks.map pD)] μ=.ok (.int (ddS (ks.map kyT)).length) μ:=by
  cases ks with
  |nil=>exact nr rfl
  |cons k ks=>
   have h0:jg5 ((k::ks).map pD)=none:=rfl;show jfS [.lst ((k::ks).map pD)] μ=_;unfold jfS jfJ jf1;dsimp only;rw[h0,jkE];dsimp only;rw[if_pos (by rw[j0f];exact hl)]
 unfold jbN jct;symm;rwa[h1];rwa[jcB];have:=jox (ks.map kyT);rw[joQ,j0f]at this;rw[j0f,this]
theorem jrv {G:List FnE}(x:Out Fl):jo x (runYs G [])=jo x (fun ρ μ=>.ok (.nx ρ) μ):=rfl
noncomputable def jyQ (zs:List Str)(ps:List (Str×Str)):Bool:=ps.all (fun p=>jaC p.1&&decide (p.2∈zs))&&decide (ps.map (·.1)).Nodup
theorem jgA {P:D}{μ:M}(ps:List (Str×Str))(zs:List Str)(hP:jfJ μ P=some (ps.map pD))(hl:ps.length<=1000)(hn:∀p∈ps,p.1.length<=1000):jao .frz jcJ.F [P,.lst (zs.map D.str)] μ=js0 (jyQ zs ps) μ:=by
 refine jiS (F:=jcH) ?_;have hi:itD .seq [P] μ=some (ps.map pD):=hP;have hq:(ev jcL jbQ).v [some P,some (.lst (zs.map D.str)),none,none] μ=.ok (.lst ((ps.map (·.1)).map D.str)) μ:=by
  unfold jbQ;rw[jax (ds:=[P]) (xs:=ps) (e:=pD) (fun _=>true) (fun p=>D.str p.1) (by symm) hi (jac (by simpa using hl)) fun d hd=>⟨_,rfl,by symm,fun _=>by symm⟩];rwa[j0r.mpr fun _ _=>rfl];simp[j0E]
 unfold jcH jcy;symm;rw[ja6 hi,jiW pD (fun p=>jaC p.1&&decide (p.2∈zs)) (fun p=>[some P,some (.lst (zs.map D.str)),some (.str p.1),some (.str p.2)]) (jaI hi) rfl _ (fun x _=>rfl) (fun p hp=>?_) (fun x _=>rfl)]
 ·rwa[jcu];rwa[hq];rwa[jdB _ (by simpa using hl)];rw[jhQ,jdS,jrv,jcu,jlL,jh7,jl1];rfl
 ·unfold jdM;symm;rwa[jez _ (hn p hp)];rwa[jhQ,jdS,jcu];rwa[jnW];rw[jhQ,jdS,jrv,jcu,jlL,jh7]
noncomputable def rtB (zs:List Str)(r:Rt):Bool:=(decide (r.1∈zs)&&decide (r.2.1∈zs))&&((!decide (r.1=r.2.1))&&(decide (0<=r.2.2.1)&&decide (1<=r.2.2.2)))
noncomputable def jic (r:Rt):Str×Str:=(r.1,r.2.1)
noncomputable def jyP (zs:List Str)(rs:List Rt):Bool:=rs.all (rtB zs)&&decide (rs.map jic).Nodup
theorem ti {r:Rt}{μ:M}:ixD (tD r) (.int 0) μ=.ok (.str r.1) μ/\ixD (tD r) (.int 1) μ=.ok (.str r.2.1) μ/\ixD (tD r) (.int 2) μ=.ok (.int r.2.2.1) μ/\ixD (tD r) (.int 3) μ=.ok (.int r.2.2.2) μ:=⟨nr rfl,nr rfl,nr rfl,nr rfl⟩
theorem jhI {R:D}{μ:M}(rs:List Rt)(zs:List Str)(hR:jfJ μ R=some (rs.map tD))(hl:rs.length<=18):jao .frz jds.F [R,.lst (zs.map D.str)] μ=js0 (jyP zs rs) μ:=by
 refine jiS (F:=jdd) ?_;have hi:itD .seq [R] μ=some (rs.map tD):=hR;have hq:(ev jdu jb3).v [some R,some (.lst (zs.map D.str)),none,none,none,none] μ=.ok (.lst ((rs.map jic).map pD)) μ:=by
  unfold jb3;rw[jax (ds:=[R]) (xs:=rs) (e:=tD) (fun _=>true) (fun r=>pD (jic r)) (by symm) hi (jac (by omega)) fun d hd=>⟨_,rfl,by symm,fun _=>by
   symm
   repeat(simp only[ti];symm)
   rfl⟩]
  rwa[j0r.mpr fun _ _=>rfl];simp[j0E]
 unfold jdd jda;symm;rw[ja6 hi,jiW tD (rtB zs) (fun r=>[some R,some (.lst (zs.map D.str)),some (.str r.1),some (.str r.2.1),some (.int r.2.2.1),some (.int r.2.2.2)]) (jaI hi) rfl _ (fun x _=>rfl) (fun r hr=>?_) (fun x _=>rfl)]
 ·rwa[jcu];rwa[hq];rwa[jqO _ (by simpa using hl)];rw[jhQ,jdS,jrv,jcu,jlL,jh7,jl1];rfl
 ·unfold jdZ;symm;rwa[jnW];have e:(if decide (r.1∈zs)=true then jdO .In (.str r.2.1) (.lst (zs.map D.str)) μ else .ok (.bl (decide (r.1∈zs))) μ)=.ok (.bl (decide (r.1∈zs)&&decide (r.2.1∈zs))) μ:=by
   rw[jnW];cases decide (r.1∈zs)<;>rfl
  rwa[e];rwa[jhQ,jdS,jcu];rwa[jhQ,jdS,jcu];rwa[jas];rwa[jhQ,jdS,jcu];rwa[jas];rw[jhQ,jdS,jrv,jcu,jlL,jh7,jh7,jh7];rfl
noncomputable def jkb (zs:List Str)(ps:List (Str×Str))(rs:List Rt):Bool:=decide ((0:Int)<(zs.length:Int))&&(decide zs.Nodup&&(jyQ zs ps&&jyP zs rs))
theorem jmj {zs:List Str}{ps:List (Str×Str)}{rs:List Rt}:jkb zs ps rs=true↔Good zs ps rs:=by
 unfold jkb jyQ jyP rtB;simp only[j0a,decide_eq_true_eq,j01,j0O,decide_eq_false_iff_not];constructor
 ·rintro⟨h1,h2,⟨h3,h4⟩,h5,h6⟩;exact⟨by omega,h2,h3,h4,fun r hr=>⟨(h5 r hr).1.1,(h5 r hr).1.2,(h5 r hr).2.1,(h5 r hr).2.2.1,(h5 r hr).2.2.2⟩,h6⟩
 ·intro h;have:=h.z0;exact⟨by omega,h.zu,⟨h.pn,h.pu⟩,fun r hr=>⟨⟨(h.rn r hr).a,(h.rn r hr).b⟩,(h.rn r hr).n,(h.rn r hr).t,(h.rn r hr).l⟩,h.ru⟩
abbrev bFs:List Str:=["houses","purses","rates"]
noncomputable def jcX (hs:List HRow)(ps:List (Str×Str))(rs:List Rt):D:=.obj 304 bFs [.tup (hs.map HRow.obj),.tup (ps.map pD),.tup (rs.map tD)]
theorem jo6:jiC.dat=some (.cls 304 1000000 bFs):=rfl
def jv0 (μ:M)(d:D)(xs:List D):Prop:=∀ν,jfJ (μ++ν) d=some xs
theorem ji3 {d:D}{xs:List D}{μ:M}(h:jfJ μ d=some xs):biD .tuple false [d] μ=.ok (.tup xs) μ:=by
 show jg0 [d] μ=_;unfold jg0;simp only[h]
structure Fits (hs:List HRow) (ps:List (Str×Str)) (rs:List Rt):Prop where
 h:hs.length<=18
 p:ps.length<=18
 r:rs.length<=18
 n:∀p∈ps,p.1.length<=1000
theorem jr3 {H P R:D}{μ:M}{hs:List HRow}{ps:List (Str×Str)}{rs:List Rt}(sH:jv0 μ H (hs.map HRow.obj))(sP:jv0 μ P (ps.map pD))(sR:jv0 μ R (rs.map tD))(f:Fits hs ps rs):jaV [.cel μ.length,H,P,R] (μ++[some (.obj 304 [] [])])=if jkb (hs.map (·.name)) ps rs then .ok .non (μ++[some (.obj 304 bFs [.tup (hs.map HRow.obj),.tup (ps.map pD),.tup (rs.map tD)])])else .exc (.str "BadBook") (μ++[some (.obj 304 [] [])]):=by
 have hq:∀ν:M,(ev jbV jcc).v [some (.cel μ.length),some H,some P,some R,none] (μ++ν)=.ok (.lst ((hs.map (·.name)).map D.str)) (μ++ν):=fun ν=>by
  unfold jcc;have hi:itD .seq [H] (μ++ν)=some (hs.map HRow.obj):=sH ν;rw[jax (ds:=[H]) (xs:=hs) (e:=HRow.obj) (fun _=>true) (fun h=>D.str h.name) (by symm) hi (jac (by have:=f.h;omega)) fun d hd=>⟨_,rfl,by symm,fun _=>by
   symm;exact jeN⟩]
  rwa[j0r.mpr fun _ _=>rfl];simp[j0E]
 have hz:(hs.map (·.name)).length<=1000:=by have:=f.h;rw[j0f];omega
 have fin:∀ρ:S3,ρ=[some (.cel μ.length),some H,some P,some R,some (.lst ((hs.map (·.name)).map D.str))]->jeY (runYs jbV [.st (.setF (.var 0) 5 "houses" (.bi .tuple false [(.var 1)])),.st (.setF (.var 0) 5 "purses" (.bi .tuple false [(.var 2)])),.st (.setF (.var 0) 5 "rates" (.bi .tuple false [(.var 3)]))] ρ (μ++[some (.obj 304 [] [])]))=.ok .non (μ++[some (.obj 304 bFs [.tup (hs.map HRow.obj),.tup (ps.map pD),.tup (rs.map tD)])]):=by
  rintro ρ rfl;symm;rwa[ji3 (sH _)];rwa[jo6,jxM (fs:=[]) (ds:=[]) (by decide) rfl rfl];rwa[ji3 (sP _)];rwa[jo6,jxM (by decide) (by ac_rfl) rfl];rwa[ji3 (sR _)];rwa[jo6,jxM (by decide) (by ac_rfl) rfl]
 unfold jaV jdt jkb;symm;rwa[hq];rwa[jcB];rw[jhQ,jdS,jcu,j0f];cases h1:decide ((0:Int)<((hs.map (·.name)).length:Int))
 ·rfl
 simp only[if_true,j02];symm;rwa[jdB _ hz];rw[jhQ,jdS,jcu];cases h2:decide (hs.map (·.name)).Nodup
 ·rfl
 simp only[if_true,j02];symm;rw[jgA ps _ (sP _) (by have:=f.p;omega) f.n,jdS,jcu];cases h3:jyQ (hs.map (·.name)) ps
 ·rfl
 simp only[if_true,j02];symm;rw[jhI rs _ (sR _) f.r,jdS,jcu];cases h4:jyP (hs.map (·.name)) rs
 ·rfl
 simp only[if_true];exact fin _ rfl
theorem ji5 {H P R:D}{μ:M}{hs:List HRow}{ps:List (Str×Str)}{rs:List Rt}(sH:jv0 μ H (hs.map HRow.obj))(sP:jv0 μ P (ps.map pD))(sR:jv0 μ R (rs.map tD))(f:Fits hs ps rs):jao .frz jbn.F [H,P,R] μ=if jkb (hs.map (·.name)) ps rs then .ok (jcX hs ps rs) μ else .exc (.str "BadBook") μ:=by
 have e:=jr3 sH sP sR f
 cases hk:jkb (hs.map (·.name)) ps rs with
 |false=>
  rw[hk]at e;exact joq (F:=mkF 304 jaV) (ν:=[some (.obj 304 [] [])]) (jwg (F:=jaV) e)
 |true=>
  rw[hk]at e;exact jcZ (F:=mkF 304 jaV) (ν:=[some (.obj 304 bFs [.tup (hs.map HRow.obj),.tup (ps.map pD),.tup (rs.map tD)])]) (d:=.cel μ.length) (jxG (F:=jaV) e) (jlY fun _=>jag (jaY (jat jgJ _)) (jag (jaY (jat jn7 _)) (jag (jaY (jat joM _)) jbP)))
theorem dB:jbn.dat=some (.cls 304 7 bFs):=rfl
theorem fb1 {hs:List HRow}{ps:List (Str×Str)}{rs:List Rt}{μ:M}:jh0 jbn.dat "houses" (jcX hs ps rs) μ=.ok (.tup (hs.map HRow.obj)) μ:=by
 rw[dB];exact jiK jhq
theorem fb2 {hs:List HRow}{ps:List (Str×Str)}{rs:List Rt}{μ:M}:jh0 jbn.dat "purses" (jcX hs ps rs) μ=.ok (.tup (ps.map pD)) μ:=by
 rw[dB];exact jiK (by rw[jis (by ac_rfl)];exact jhq)
theorem fb3 {hs:List HRow}{ps:List (Str×Str)}{rs:List Rt}{μ:M}:jh0 jbn.dat "rates" (jcX hs ps rs) μ=.ok (.tup (rs.map tD)) μ:=by
 rw[dB];exact jiK (by rw[jis (by ac_rfl),jis (by ac_rfl)];exact jhq)
section
variable {α κ:Type} [DecidableEq κ]
theorem jgS (q:κ)(k:α->κ)(v:α->D):∀xs:List α,jjx q (xs.map k) (xs.map v)=(xs.find? fun x=>decide (k x=q)).map v
 |[]=>rfl
 |x::xs=>by
  rw[j0k,j0k,j0V];show(if k x=q then some (v x)else jjx q (xs.map k) (xs.map v))=_;by_cases h:k x=q
  ·rw[if_pos h,decide_eq_true h];rfl
  ·rw[if_neg h,decide_eq_false h];exact jgS q k v xs
theorem jfM (k:α->κ):∀{xs:List α},(xs.map k).Nodup->∀x∈xs,(xs.filter fun y=>decide (k y=k x))=[x]
 |[],_,x,hx=>by cases hx
 |y::ys,h,x,hx=>by
  rw[j0k,j1e]at h;rcases j0d.mp hx with rfl|hx
  ·rw[j1y (by simp)];congr 1;exact List.filter_eq_nil_iff.mpr fun z hz e=>h.1 (by rw[<- of_decide_eq_true e];exact j0x.mpr ⟨z,hz,rfl⟩)
  ·have:k y≠k x:=fun e=>h.1 (by rw[e];exact j0x.mpr ⟨x,hx,rfl⟩);rw[j1z (by simpa using this)];exact jfM k h.2 x hx
theorem jr5 (k:α->κ){xs:List α}(h:(xs.map k).Nodup){x:α}(hx:x∈xs):xs.find? (fun y=>decide (k y=k x))=some x:=by
 rw[<- List.head?_filter,jfM k h x hx];rfl
end
theorem jkJ {α:Type}(a b:α->D):∀xs:List α,jvW (xs.map fun x=>.tup [a x,b x])=some (xs.map a,xs.map b)
 |[]=>rfl
 |x::xs=>by
  show(jvW (xs.map fun x=>.tup [a x,b x])).map _=_;rw[jkJ a b xs];rfl
theorem jsP {α:Type}(a:α->Str):∀xs:List α,ksD (xs.map fun x=>.str (a x))=some (xs.map fun x=>.inr (a x))
 |[]=>rfl
 |x::xs=>by
  show(match some (Sum.inr (a x):Key),ksD (xs.map fun x=>.str (a x))with|some k,some ks=>some (k::ks)|_,_=>none)=_;rw[jsP a xs];rfl
theorem jns {ps:List (Str×Str)}(hl:ps.length<=1000)(hu:(ps.map (·.1)).Nodup)(μ:M):biD .dict false [.tup (ps.map pD)] μ=.ok (.dK (ps.map fun p=>.inr p.1) (ps.map fun p=>.str p.2)) μ:=by
 show jl [.tup (ps.map pD)] μ=_;unfold jl jzf;dsimp only;rw[show ps.map pD=ps.map (fun p=>.tup [.str p.1,.str p.2])from rfl,jkJ (fun p:Str×Str=>.str p.1) (fun p=>.str p.2)];dsimp only;rw[jsP];dsimp only;rw[if_pos ⟨by simpa using hl,j1c.mpr ((j1c.mp hu).imp fun a e=>a (Sum.inr.inj e))⟩]
theorem jzn {k:Str}{ks:List Key}{vs:List D}{d:D}{μ:M}(h:jjx (.inr k) ks vs=some d):ixD (.dK ks vs) (.str k) μ=.ok d μ:=by
 show jvP (.dK ks vs) (.inr k) μ=_;unfold jvP jlc;dsimp only;rw[h]
theorem jeP {hs:List HRow}{ps:List (Str×Str)}{rs:List Rt}(g:Good (hs.map (·.name)) ps rs)(ft:Fits hs ps rs){h:HRow}(hh:h∈hs){p:Str}(hp:(p,h.name)∈ps)(μ:M):jao .frz jew.F [jcX hs ps rs,.str p] μ=.ok h.obj μ:=by
 refine jaj (F:=jfN) ?_ (jgJ h);have e1:jjx (.inr p) (ps.map fun p=>(.inr p.1:Key)) (ps.map fun p=>.str p.2)=some (.str h.name):=by
  rw[jgS,show(fun x:Str×Str=>decide ((.inr x.1:Key)=.inr p))=fun x=>decide (x.1=(p,h.name).1)from funext fun x=>by simp,jr5 (·.1) g.pu hp];rfl
 have hq:(ev jf0 jea).v [some (jcX hs ps rs),some (.str p),some (.str h.name)] μ=.ok (.lst [h.obj]) μ:=by
  unfold jea;rw[jax (ds:=[.tup (hs.map HRow.obj)]) (xs:=hs) (e:=HRow.obj) (fun x=>decide (x.name=h.name)) HRow.obj (by
   symm;rw[fb1];symm) rfl (jac (by have:=ft.h;omega)) fun x hx=>⟨_,rfl,by
   symm;rw[jeN];symm,fun _=>by symm⟩]
  rwa[jfM (·.name) g.zu h hh]
 unfold jfN jfT;symm;rwa[fb2];rwa[jns (by have:=ft.p;omega) g.pu];rwa[jzn e1];rwa[hq];rwa[show ixD (.lst [h.obj]) (.int 0) μ=.ok h.obj μ from nr rfl]
theorem jhZ {α:Type}{ok:M->Bool}{tg:Tg}{body:S3->M->Out Fl}{fg:List Nat}{μ:M}{ρ:S3}(f:α->D)(p:α->Bool)(r:α->D)(ρb:α->S3)(ho:ok μ=true)(hf:forget fg ρ=ρ):∀xs:List α,(∀x∈xs,jkC tg (f x) ρ=some (ρb x))->(∀x∈xs,body (ρb x) μ=if p x then .ok (.rt (r x)) μ else .ok (.nx (ρb x)) μ)->(∀x∈xs,forget fg (ρb x)=ρ) ->
  jc9 ok tg body fg (xs.map f) ρ μ=match xs.find? p with|some x=>.ok (.rt (r x)) μ|none=>.ok (.nx ρ) μ
 |[],_,_,_=>by
  rw[j0F,jbA ho,hf];rfl
 |x::xs,h1,h2,h3=>by
  rw[j0k,j0V]
  cases hp:p x with
  |true=>rw[jqB ho (h1 x (by simp)) (r:=r x) (μ2:=μ) (by rw[h2 x (by simp),hp];rfl)]
  |false=>rw[ja0 (ρ1:=ρb x) (ρ2:=ρb x) (μ2:=μ) ho (h1 x (by simp)) (by rw[h2 x (by simp),hp];rfl),h3 x (by simp),jhZ f p r ρb ho hf xs (fun y hy=>h1 y (by simp[hy])) (fun y hy=>h2 y (by simp[hy])) (fun y hy=>h3 y (by simp[hy]))]
noncomputable def rtV (r:Rt):D:=.tup [.int r.2.2.1,.int r.2.2.2]
noncomputable def jhV (rs:List Rt)(a b:Str):D:=((rs.find? fun r=>decide (r.1=a)&&decide (r.2.1=b)).map rtV).getD .non
theorem jqX {h:Nat->Option D}(rs:List Rt)(a b:Str):jbp h (jhV rs a b)=some (jhV rs a b):=by
 unfold jhV
 cases rs.find? fun r=>decide (r.1=a)&&decide (r.2.1=b)with
 |none=>exact jcg
 |some r=>exact jaY (jag jaL (jag jaL jbP))
theorem jnk {hs:List HRow}{ps:List (Str×Str)}{rs:List Rt}(g:Good (hs.map (·.name)) ps rs)(ft:Fits hs ps rs){h k:HRow}(hh:h∈hs)(hk:k∈hs){p q:Str}(hp:(p,h.name)∈ps)(hq:(q,k.name)∈ps)(μ:M):jao .frz jhp.F [jcX hs ps rs,.str p,.str q] μ=.ok (jhV rs h.name k.name) μ:=by
 refine jaj (F:=jg3) ?_ (jqX rs h.name k.name);have hi:∀μ:M,itD .seq [.tup (rs.map tD)] μ=some (rs.map tD):=fun μ=>rfl;unfold jg3 jgM;symm;rwa[jeP g ft hh hp];rwa[jeN];rwa[jeP g ft hk hq];rwa[jeN];rwa[fb3];rw[ja6 (hi _),jhZ tD (fun r=>decide (r.1=h.name)&&decide (r.2.1=k.name)) rtV (fun r=>[some (jcX hs ps rs),some (.str p),some (.str q),some (.str h.name),some (.str k.name),some (tD r)]) (jaI (hi _)) rfl _ (fun x _=>rfl) (fun r hr=>?_) (fun x _=>rfl)]
 ·unfold jhV
  cases rs.find? fun r=>decide (r.1=h.name)&&decide (r.2.1=k.name)with
  |none=>
   dsimp only;symm;rfl
  |some r=>rfl
 ·unfold jgN;symm;rwa[ti.1];cases decide (r.1=h.name)
  ·simp only[if_false,j0p,Bool.false_and];symm
  ·simp only[if_true,j02];symm;rwa[ti.2.1];cases decide (r.2.1=k.name)
   ·simp only[if_false,j0p];symm
   ·simp only[if_true];symm
    repeat(simp only[ti];symm)
    rfl
theorem jmO {rs:List Rt}(h0:rs≠[])(hl:rs.length<=1000)(hu:(rs.map jic).Nodup)(μ:M):biD .dict false [.lst (rs.map fun r=>.tup [pD (jic r),rtV r])] μ=.ok (.dT (rs.map fun r=>kyT (jic r)) (rs.map rtV)) μ:=by
 have hk:ksD (rs.map fun r=>pD (jic r))=none:=by
  cases rs with
  |nil=>exact absurd rfl h0
  |cons r rs=>rfl
 have ht:jsp (rs.map fun r=>pD (jic r))=some (rs.map fun r=>kyT (jic r)):=by
  have:=jkE (rs.map jic)
  (rw[j0E,j0E]at this;assumption)
 show jl [.lst (rs.map fun r=>.tup [pD (jic r),rtV r])] μ=_;unfold jl jzf;dsimp only;rw[jkJ (fun r=>pD (jic r)) rtV];dsimp only;rw[hk,ht];dsimp only;rw[if_pos ⟨by simpa using hl,j1c.mpr ((j1c.mp hu).imp fun a e=>a (jph e))⟩]
theorem jm4 {rs:List Rt}{a b:Str}{μ:M}:jpo (.dT (rs.map fun r=>kyT (jic r)) (rs.map rtV)) (.tup [.str a,.str b]) μ=.ok (jhV rs a b) μ:=by
 show Out.ok ((jjx ([.inr a,.inr b]:List Key) (rs.map fun r=>kyT (jic r)) (rs.map rtV)).getD .non) μ=_;rw[jgS,show(fun r:Rt=>decide (kyT (jic r)=[.inr a,.inr b]))=fun r=>decide (r.1=a)&&decide (r.2.1=b)from funext fun r=>by simp[kyT,jic]];rfl
theorem jgn {μ:M}{n:Nat}{d:D}{v:V}(h:jjl d=some v)(hv:jfG v=true):eqD μ (n+1) d d=some true:=by
 unfold eqD;simp only[h,jlO hv]
theorem jjo {f:D->D->Option Bool}:∀{ds:List D},(∀d∈ds,f d d=some true)->jkD f ds ds=some true
 |[],_=>rfl
 |d::ds,h=>by
  unfold jkD;rw[h d (by simp),jjo fun e he=>h e (by simp[he])];rfl
theorem jk6 {f:D->D->Option Bool}{μ:M}{ds:List D}(h:∀d∈ds,f d d=some true):eqN f μ (.tup ds) (.tup ds)=some true:=by
 show(jkD f ds ds).map (· && ds.length==ds.length)=_;rw[jjo h];simp
theorem jpI {μ:M}{n:Nat}{ds:List D}(h:∀d∈ds,eqD μ n d d=some true):eqD μ (n+1) (.tup ds) (.tup ds)=some true:=jk6 (μ:=μ) h
theorem jkV {μ:M}{d:D}(e:jk2 μ d d=some true):jdO .NotEq d d μ=.ok (.bl false) μ:=by
 unfold jdO;simp only[jny,e];rfl
theorem jto (rs:List Rt)(a b:Str)(μ:M):jdO .NotEq (jhV rs a b) (jhV rs a b) μ=.ok (.bl false) μ:=by
 refine jkV ?_;unfold jhV
 cases rs.find? fun r=>decide (r.1=a)&&decide (r.2.1=b)with
 |none=>rfl
 |some r=>
  show eqN (eqD μ 8) μ (rtV r) (rtV r)=_;refine jk6 fun d hd=>?_;simp only[j0d,j0J,or_false]at hd;rcases hd with rfl|rfl<;>exact jgn rfl rfl
theorem js2 (zs:List Str)(μ:M):jdO .NotEq (.lst (zs.map D.str)) (.lst (zs.map D.str)) μ=.ok (.bl false) μ:=by
 refine jkV ?_;show(if(zs.map D.str).length=(zs.map D.str).length then jkD (eqD μ 8) (zs.map D.str) (zs.map D.str)else some false)=_;rw[if_pos rfl];refine jjo fun d hd=>?_;obtain⟨z,_,rfl⟩:=j0x.mp hd;exact jgn rfl rfl
theorem jpL {α:Type}{f:α->D}(h:∀x μ,eqD μ 8 (f x) (f x)=some true)(xs:List α)(μ:M):jdO .NotEq (.tup (xs.map f)) (.tup (xs.map f)) μ=.ok (.bl false) μ:=by
 refine jkV ?_;show eqN (eqD μ 8) μ (.tup _) (.tup _)=_;refine jk6 fun d hd=>?_;obtain⟨z,_,rfl⟩:=j0x.mp hd;exact h z μ
theorem jzJ (p:Str×Str)(μ:M):eqD μ 8 (pD p) (pD p)=some true:=by
 refine jpI fun d hd=>?_;simp only[j0d,j0J,or_false]at hd;rcases hd with rfl|rfl<;>exact jgn rfl rfl
theorem jAd (p:Rt)(μ:M):eqD μ 8 (tD p) (tD p)=some true:=by
 refine jpI fun d hd=>?_;simp only[j0d,j0J,or_false]at hd;rcases hd with rfl|rfl|rfl|rfl<;>exact jgn rfl rfl
theorem jku {ds:List D}{μ:M}:biD .tuple false [.lst ds] μ=.ok (.tup ds) μ:=nr rfl
theorem jrW {hs:List HRow}{ps:List (Str×Str)}{rs:List Rt}(g:Good (hs.map (·.name)) ps rs)(ft:Fits hs ps rs)(h0:rs≠[])(μ:M):jao .frz je0.F [jcX hs ps rs,.lst (hs.map jaP),.lst (ps.map pD),.lst (rs.map tD)] μ=.ok (.bl true) μ:=by
 refine jaj (F:=je3) ?_ jeD;have at_:∀p∈ps,∃h∈hs,h.name=p.2:=fun p hp=>j0x.mp (g.pn p hp).2;have q0:∀o5 o6 o7 o8 o9 o10:Option D,(ev jbc jdH).v [some (jcX hs ps rs),some (.lst (hs.map jaP)),some (.lst (ps.map pD)),some (.lst (rs.map tD)),o5,o6,o7,o8,o9,o10] μ=.ok (.lst ((hs.map (·.name)).map D.str)) μ:=fun _ _ _ _ _ _=>by
  unfold jdH;rw[jax (ds:=[.tup (hs.map HRow.obj)]) (xs:=hs) (e:=HRow.obj) (fun _=>true) (fun h=>D.str h.name) (by
   symm;rw[fb1];symm) rfl (jac (by have:=ft.h;omega)) fun d hd=>⟨_,rfl,by symm,fun _=>by
   symm;exact jeN⟩]
  rwa[j0r.mpr fun _ _=>rfl];simp[j0E]
 have q1:∀o5 o6 o7 o8 o9 o10:Option D,(ev jbc jdK).v [some (jcX hs ps rs),some (.lst (hs.map jaP)),some (.lst (ps.map pD)),some (.lst (rs.map tD)),o5,o6,o7,o8,o9,o10] μ=.ok (.lst ((hs.map (·.name)).map D.str)) μ:=fun _ _ _ _ _ _=>by
  unfold jdK;rw[jax (ds:=[.lst (hs.map jaP)]) (xs:=hs) (e:=jaP) (fun _=>true) (fun h=>D.str h.name) (by symm) rfl (jac (by have:=ft.h;omega)) fun d hd=>⟨_,rfl,by symm,fun _=>by
   symm;exact ri.1⟩]
  rwa[j0r.mpr fun _ _=>rfl];simp[j0E]
 have q2:∀o5 o6 o7 o8 o9 o10:Option D,(ev jbc jdk).v [some (jcX hs ps rs),some (.lst (hs.map jaP)),some (.lst (ps.map pD)),some (.lst (rs.map tD)),o5,o6,o7,o8,o9,o10] μ=.ok (.lst (rs.map fun r=>.tup [pD (jic r),rtV r])) μ:=fun _ _ _ _ _ _=>by
  unfold jdk;rw[jax (ds:=[.lst (rs.map tD)]) (xs:=rs) (e:=tD) (fun _=>true) (fun r=>.tup [pD (jic r),rtV r]) (by symm) rfl (jac (by have:=ft.r;omega)) fun r hr=>⟨_,rfl,by symm,fun _=>by
   symm;rwa[show slD false (tD r) none (some 2) μ=.ok (pD (jic r)) μ from nr rfl];rw[show slD false (tD r) (some 2) none μ=.ok (rtV r) μ from nr rfl];symm⟩]
  rwa[j0r.mpr fun _ _=>rfl]
 have hi:∀μ:M,itD .seq [.lst (ps.map pD)] μ=some (ps.map pD):=fun μ=>rfl;unfold je3 jeM;symm;rwa[fb1];rwa[jiZ];rwa[fb2];rwa[jiZ];rwa[fb3];rwa[jiZ];rwa[q0];rwa[q1];rwa[js2];rwa[fb2];rwa[jku];rwa[jpL jzJ];rwa[fb3];rwa[jku];rwa[jpL jAd];rwa[q2];rwa[jmO h0 (by have:=ft.r;omega) g.ru];generalize hT:D.dT (rs.map fun r=>kyT (jic r)) (rs.map rtV)=T;have hT':∀(a b:Str) (μ:M),jpo T (.tup [.str a,.str b]) μ=.ok (jhV rs a b) μ:=fun a b μ=>by rw[<- hT];exact jm4
 have outer:jc9 (jdT .seq [.lst (ps.map pD)] (ps.map pD)) (.tp [5,6]) (runs jbc jbW) [5,6,7,8,9] (ps.map pD) [some (jcX hs ps rs),some (.lst (hs.map jaP)),some (.lst (ps.map pD)),some (.lst (rs.map tD)),some T,none,none,none,none,none] μ=.ok (.nx [some (jcX hs ps rs),some (.lst (hs.map jaP)),some (.lst (ps.map pD)),some (.lst (rs.map tD)),some T,none,none,none,none,none]) μ:=by
  have gen:∀xs:List (Str×Str),(∀x∈xs,x∈ps)->jc9 (jdT .seq [.lst (ps.map pD)] (ps.map pD)) (.tp [5,6]) (runs jbc jbW) [5,6,7,8,9] (xs.map pD) [some (jcX hs ps rs),some (.lst (hs.map jaP)),some (.lst (ps.map pD)),some (.lst (rs.map tD)),some T,none,none,none,none,none] μ=.ok (.nx [some (jcX hs ps rs),some (.lst (hs.map jaP)),some (.lst (ps.map pD)),some (.lst (rs.map tD)),some T,none,none,none,none,none]) μ:=by
   intro xs
   induction xs with
   |nil=>exact fun _=>by rw[j0F,jbA (jaI (hi _))];rfl
   |cons x xs ih=>
    intro hx;obtain⟨h,hh,hn⟩:=at_ x (hx x j0u);have hp:(x.1,h.name)∈ps:=by rw[hn];exact hx x j0u
    rw[j0k,ja0 (ρ1:=[some (jcX hs ps rs),some (.lst (hs.map jaP)),some (.lst (ps.map pD)),some (.lst (rs.map tD)),some T,some (.str x.1),some (.str x.2),none,none,none]) (ρ2:=[some (jcX hs ps rs),some (.lst (hs.map jaP)),some (.lst (ps.map pD)),some (.lst (rs.map tD)),some T,some (.str x.1),some (.str x.2),some h.obj,none,none]) (μ2:=μ) (jaI (hi _)) rfl ?_]
    ·exact ih fun y hy=>hx y (j0s _ hy)
    ·unfold jbW;symm;rwa[jeP g ft hh hp];rwa[show ju7 jaA.dat h.obj μ=.ok (.bl true) μ from jtS];rwa[jeN];rwa[hn,decide_eq_true rfl];rw[ja6 (hi _),jc7 pD (fun p=>[some (jcX hs ps rs),some (.lst (hs.map jaP)),some (.lst (ps.map pD)),some (.lst (rs.map tD)),some T,some (.str x.1),some (.str x.2),some h.obj,some (.str p.1),some (.str p.2)]) (jaI (hi _)) rfl _ (fun x _=>rfl) (fun p hp'=>?_) (fun x _=>rfl)]
     ·symm
     ·obtain⟨k,hk,hkn⟩:=at_ p hp';have hq:(p.1,k.name)∈ps:=by rw[hkn];exact hp'
      unfold jfj;symm;rwa[jnk g ft hh hk hp hq,hn,hkn];rwa[hT'];rwa[jto]
  exact gen ps fun _ h=>h
 rwa[ja6 (hi _),outer]
theorem jm3 (zs:List Str)(hl:zs.length<=3):∃s:Str,s∉zs/\∀μ:M,jao .frz jbZ.F [.lst (zs.map D.str)] μ=.ok (.str s) μ:=by
 have key:∀(zs L:List Str),L.Nodup->L.length<=(L.filter fun x=>!decide (x∈zs)).length+zs.length:=by
  intro zs
  induction zs with
  |nil=>exact fun L _=>by rw[j0r.mpr fun x _=>by simp];simp
  |cons z zs ih=>
   intro L hL;have h1:=jow z hL;have h2:=ih _ (List.filter_sublist.nodup hL:(L.filter fun y=>!decide (y=z)).Nodup);rw[List.filter_filter,show(fun a:Str=>(!decide (a∈zs))&&(!decide (a=z)))=fun a=>!decide (a∈z::zs)from funext fun a=>by simp[Bool.and_comm]]at h2;rw[j0q];omega
 have h:=key zs ["qa","qb","qc","qd"] (by ac_rfl)
 cases hf:(["qa","qb","qc","qd"]:List Str).filter fun x=>!decide (x∈zs)with
 |nil=>
  rw[hf]at h;simp at h;omega
 |cons s r=>
  have hs:s∈(["qa","qb","qc","qd"]:List Str).filter fun x=>!decide (x∈zs):=by rw[hf];exact j0u
  refine⟨s,by simpa using(List.mem_filter.mp hs).2,fun μ=>jaj (F:=jc3) ?_ jcF⟩;have hq:(ev jdx jb4).v [some (.lst (zs.map D.str))] μ=.ok (.lst ((s::r).map D.str)) μ:=by
   unfold jb4;rw[jax (ds:=[.lst ((["qa","qb","qc","qd"]:List Str).map D.str)]) (xs:=(["qa","qb","qc","qd"]:List Str)) (e:=D.str) (fun x=>!decide (x∈zs)) D.str (by symm) rfl (jac (by simp)) fun x hx=>⟨_,rfl,by
    symm;rw[jpH];symm,fun _=>by symm⟩]
   rwa[hf]
  unfold jc3 jdL;symm;rwa[hq];rwa[show ixD (.lst (D.str s::r.map D.str)) (.int 0) μ=.ok (.str s) μ from jec (zs:=s::r) (i:=0) (by simp)]
theorem jhb {α:Type}(f:α->D)(xs:List α){i:Int}(h:0<=i)(μ:M):slD false (.lst (xs.map f)) (some i) none μ=.ok (.lst ((xs.drop i.toNat).map f)) μ:=by
 obtain⟨k,rfl⟩:=j1i h;show mkL false (_L3.cutD (xs.map f) (some (k:Int)) none) μ=_;rw[jqD,<- List.map_drop];rfl
theorem jdA {α:Type}(f:α->D)(xs ys:List α)(h:xs.length+ys.length<=1000)(μ:M):jiV .Add false (.lst (xs.map f)) (.lst (ys.map f)) μ=.ok (.lst ((xs++ys).map f)) μ:=by
 rw[jk8 (jac (by simpa using h)),j1n]
theorem jmE {hs:List HRow}{ps:List (Str×Str)}{rs:List Rt}(ok:∀h∈hs,h.Ok)(f:Fits hs ps rs)(b:¬ Good (hs.map (·.name)) ps rs)(μ:M):jao .frz jdv.F [.lst (hs.map jaP),.lst (ps.map pD),.lst (rs.map tD)] μ=.ok (.bl true) μ:=by
 refine jaj (F:=jdz) ?_ jeD;have hg:jkb (hs.map (·.name)) ps rs=false:=by
  cases h:jkb (hs.map (·.name)) ps rs with
  |false=>rfl
  |true=>exact absurd (jmj.mp h) b
 have hb:=ji5 (H:=.lst (hs.map HRow.obj)) (P:=.lst (ps.map pD)) (R:=.lst (rs.map tD)) (μ:=μ) (fun _=>rfl) (fun _=>rfl) (fun _=>rfl) f;rw[hg]at hb;have hc:((noX (evL jaS jbq [some (.lst (hs.map jaP)),some (.lst (ps.map pD)),some (.lst (rs.map tD)),some .non,none] μ)).bind fun as μ1=>jfx jaS 0 .frz as μ1)=.exc (.str "BadBook") μ:=by
  unfold jbq;symm;rwa[jpA hs (by have:=f.h;omega) ok];rwa[show ∀ds:List D,biD .list false [.lst ds] μ=.ok (.lst ds) μ from fun _=>nr rfl];rwa[show ∀ds:List D,biD .list false [.lst ds] μ=.ok (.lst ds) μ from fun _=>nr rfl];exact hb
 show(if [D.lst (hs.map jaP),.lst (ps.map pD),.lst (rs.map tD)].length=3 then match((noX (evL jaS jbq [some (.lst (hs.map jaP)),some (.lst (ps.map pD)),some (.lst (rs.map tD)),some .non,none] μ)).bind fun as μ1=>jfx jaS 0 .frz as μ1)with|.exc (.str c) μ'=>if c = "BadBook" then Out.ok (D.bl true) μ' else Out.bad|_=>Out.bad else Out.bad)=_;rw[if_pos (by simp),hc];exact if_pos rfl
noncomputable def wS (hs:List HRow)(ps:List (Str×Str))(rs:List Rt)(m:Int)(s:Str)(n a p w:Int):S3:=[some (.lst (hs.map jaP)),some (.lst (ps.map pD)),some (.lst (rs.map tD)),some (.int m),some (.lst ((hs.map (·.name)).map D.str)),some (.str s),some (.int n),some (.int a),some (.int p),some (.int w),none,none,none]
section
variable {hs:List HRow} {ps:List (Str×Str)} {rs:List Rt} {m n a p w:Int} {s:Str}
theorem jbC (S:Sett hs ps rs)(hs':∀μ:M,jao .frz jbZ.F [.lst ((hs.map (·.name)).map D.str)] μ=.ok (.str s) μ){d:D}{μ:M}(hd:jmF μ μ.length d=some d)(h:jeY (runs jab (jai.drop 6) (wS hs ps rs m s (m / 10) (m / 10 % (ps.length:Int)) (m / 10 / 4 % ((rs.length:Int)+1)) (m % 10)) μ)=.ok d μ):jao .frz jc1.F [.lst (hs.map jaP),.lst (ps.map pD),.lst (rs.map tD),.int m] μ=.ok d μ:=by
 refine jaj (F:=jgR) ?_ hd;have hp:=S.p0;have hq:(ev jab jbX).v [some (.lst (hs.map jaP)),some (.lst (ps.map pD)),some (.lst (rs.map tD)),some (.int m),none,none,none,none,none,none,none,none,none] μ=.ok (.lst ((hs.map (·.name)).map D.str)) μ:=by
  unfold jbX;rw[jax (ds:=[.lst (hs.map jaP)]) (xs:=hs) (e:=jaP) (fun _=>true) (fun h=>D.str h.name) (by symm) rfl (jac (by have:=S.h3;omega)) fun d hd=>⟨_,rfl,by symm,fun _=>by
   symm;exact ri.1⟩]
  rwa[j0r.mpr fun _ _=>rfl];simp[j0E]
 show jeY (runs jab jai [some (.lst (hs.map jaP)),some (.lst (ps.map pD)),some (.lst (rs.map tD)),some (.int m),none,none,none,none,none,none,none,none,none] μ)=_;rw[<- h];congr 1;rw[show ∀ρ,runs jab jai ρ μ=jo (runs jab (jai.take 6) ρ μ) (runs jab (jai.drop 6))from fun ρ=>by rw[<- jiw,List.take_append_drop]];generalize runs jab (jai.drop 6)=K;rwa[show jai.take 6=[.asg (.nm 4) jbX,.asg (.nm 5) (.call 0 .frz [(.var 4)]),.asg (.nm 6) (.bin .FloorDiv false (.var 3) (.cst (.int 10))),.asg (.nm 7) (.bin .Mod false (.var 6) (.bi .len false [(.var 1)])),.asg (.nm 8) (.bin .Mod false (.bin .FloorDiv false (.var 6) (.cst (.int 4))) (.bin .Add false (.bi .len false [(.var 2)]) (.cst (.int 1)))),.asg (.nm 9) (.bin .Mod false (.var 3) (.cst (.int 10)))]from rfl];rwa[hq];rwa[hs'];rwa[jcB,j0f];rwa[je1 (by omega)];rwa[jcB,j0f];rwa[je1 (by omega)];rfl
theorem jaq {j:Int}{b:List S}{ss:List S}{μ:M}(h:w≠j):runs jab (.ite (.cmp .Eq (.var 9) (.cst (.int j))) b []::ss) (wS hs ps rs m s n a p w) μ=runs jab ss (wS hs ps rs m s n a p w) μ:=by
 unfold wS;symm;rwa[decide_eq_false h]
theorem jdn {j:Int}{b:List S}{ss:List S}{d:D}{μ:M}(h:w=j)(hb:runs jab b (wS hs ps rs m s n a p w) μ=.ok (.rt d) μ):jeY (runs jab (.ite (.cmp .Eq (.var 9) (.cst (.int j))) b []::ss) (wS hs ps rs m s n a p w) μ)=.ok d μ:=by
 rw[jcR,jjt];have:(ev jab (.cmp .Eq (.var 9) (.cst (.int j)))).t (wS hs ps rs m s n a p w) μ=.ok true μ:=by
  unfold wS;symm;rw[decide_eq_true h]
 rw[this,jbT,if_pos rfl,hb];rfl
theorem jpX {hs:List HRow}{ps:List (Str×Str)}{rs:List Rt}{μ:M}:jmF μ μ.length (.tup [.lst (hs.map jaP),.lst (ps.map pD),.lst (rs.map tD)])=some (.tup [.lst (hs.map jaP),.lst (ps.map pD),.lst (rs.map tD)]):=jaY (jag (jeq (jat joL _)) (jag (jeq (jat jn7 _)) (jag (jeq (jat joM _)) jbP)))
end
def jnx (hs:List HRow)(ps:List (Str×Str))(rs:List Rt):Prop:=(∀h∈hs,h.Ok)/\Fits hs ps rs/\¬ Good (hs.map (·.name)) ps rs
theorem jc2 {α:Type}{xs:List α}{x:α}(h:x∈xs):¬ (xs++[x]).Nodup:=fun z=>(List.nodup_append.mp z).2.2 x h x (by simp) rfl
theorem jfk {α:Type}(xs:List α)(i:Nat):(xs.take i).length<=xs.length:=by rw[j0y];exact Nat.min_le_right _ _
theorem jh4 {α:Type}(xs:List α)(i:Nat):(xs.drop i).length<=xs.length:=by rw[List.length_drop];omega
section
variable {hs:List HRow} {ps:List (Str×Str)} {rs:List Rt} {m n a p w:Int} {s:Str}
theorem jaJ (S:Sett hs ps rs):Fits hs ps rs:=⟨by have:=S.h3;omega,by have:=S.p6;omega,by have:=S.r6;omega,fun q hq=>jgu (S.good.pn q hq).1⟩
theorem jmd (S:Sett hs ps rs){q:Str×Str}(hq:q.1.length<=1000)(i j:Nat)(hg:¬ (jaC q.1=true/\q.2∈hs.map (·.name))):jnx hs (ps.take i++[q]++ps.drop j) rs:=by
 refine⟨S.ok,⟨(jaJ S).h,?_,(jaJ S).r,fun x hx=>?_⟩,fun g=>hg (g.pn q (by simp))⟩
 ·have:=S.p6;have:=jfk ps i;have:=jh4 ps j;simp only[j0v,j0L];omega
 ·simp only[j1d,j1A]at hx;rcases hx with(h|h)|h
  ·exact(jaJ S).n x (j0P h)
  ·rw[h];exact hq
  ·exact(jaJ S).n x (List.mem_of_mem_drop h)
theorem jlm (S:Sett hs ps rs){q:Rt}(i j:Nat)(hg:¬ RtOk (hs.map (·.name)) q):jnx hs ps (rs.take i++[q]++rs.drop j):=by
 refine⟨S.ok,⟨(jaJ S).h,(jaJ S).p,?_,(jaJ S).n⟩,fun g=>hg (g.rn q (by simp))⟩;have:=S.r6;have:=jfk rs i;have:=jh4 rs j;simp only[j0v,j0L];omega
theorem jB (S:Sett hs ps rs):∃hs',jnx hs' ps rs/\∀μ:M,w=1->jeY (runs jab (jai.drop 6) (wS hs ps rs m s n a p w) μ)=.ok (.tup [.lst (hs'.map jaP),.lst (ps.map pD),.lst (rs.map tD)]) μ:=by
 have h2:=S.h2;obtain⟨x,hx,ex⟩:=jfL jaP (xs:=hs) (i:=n % 2) (by omega) (by omega);refine⟨hs++[x],⟨fun h hh=>?_,⟨by have:=S.h3;simp;omega,(jaJ S).p,(jaJ S).r,(jaJ S).n⟩,fun g=>?_⟩,fun μ hw=>?_⟩
 ·rcases j1d.mp hh with z|z
  ·exact S.ok h z
  ·rw[j1A.mp z];exact S.ok x hx
 ·have:=g.zu;rw[j1n]at this;exact jc2 (j0x.mpr ⟨x,hx,rfl⟩) this
 ·show jeY (runs jab (.ite _ _ []::.ite _ _ []::_) _ μ)=_;rw[jaq (by omega)];refine jdn hw ?_;unfold wS;symm;rwa[ex];rwa[show([jaP x]:List D)=[x].map jaP from rfl,jdA _ _ _ (by have:=S.h3;simp;omega)]
theorem jBq (S:Sett hs ps rs)(ha:0<=a):∃ps',jnx hs ps' rs/\∀μ:M,w=2->jeY (runs jab (jai.drop 6) (wS hs ps rs m s n a p w) μ)=.ok (.tup [.lst (hs.map jaP),.lst (ps'.map pD),.lst (rs.map tD)]) μ:=by
 have h2:=S.h2;have hl:=S.p6;obtain⟨z,hz⟩:∃z:Str,z=List.getD (hs.map (·.name)) 0 (Str.ofString ""):=⟨_,rfl⟩;obtain⟨o,ho,eo⟩:=jfL D.str (xs:=(["","A","ab1","abcdefghi","a b","-"]:List Str)) (i:=n / 4 % 6) (by omega) (by show n / 4 % 6<6;omega);have hb:jaC o=false/\o.length<=9:=by
  have:∀y∈(["","A","ab1","abcdefghi","a b","-"]:List Str),jaC y=false/\y.length<=9:=by ac_rfl
  exact this o ho
 refine⟨ps.take a.toNat++[(o,z)]++ps.drop a.toNat,jmd S (by show o.length<=1000;omega) _ _ (fun g=>by rw[hb.1]at g;exact absurd g.1 (by decide)),fun μ hw=>?_⟩;show jeY (runs jab (.ite _ _ []::.ite _ _ []::.ite _ _ []::_) _ μ)=_;rw[jaq (by omega),jaq (by omega)];refine jdn hw ?_;simp only[j0k,j0F]at eo;unfold wS;symm;rwa[eo];rwa[jdg _ _ ha];rwa[show(.int 0:D)=.int ((0:Nat):Int)from rfl,jec (by rw[j0f];omega),<- hz];rwa[show([.tup [.str o,.str z]]:List D)=[(o,z)].map pD from rfl,jdA _ _ _ (by have:=jfk ps a.toNat;simp;omega)];rwa[jhb _ _ ha];rwa[jdA _ _ _ (by have:=jfk ps a.toNat;have:=jh4 ps a.toNat;simp;omega)]
theorem jBf (S:Sett hs ps rs)(ha:0<=a)(ha2:a<ps.length):∃ps',jnx hs ps' rs/\∀μ:M,w=3->jeY (runs jab (jai.drop 6) (wS hs ps rs m s n a p w) μ)=.ok (.tup [.lst (hs.map jaP),.lst (ps'.map pD),.lst (rs.map tD)]) μ:=by
 have h2:=S.h2;have hl:=S.p6;obtain⟨x,hx,ex⟩:=jfL pD ha ha2;obtain⟨z,hz,ez⟩:=jfL D.str (xs:=hs.map (·.name)) (i:=n / 4 % 2) (by omega) (by rw[j0f];omega);refine⟨ps++[(x.1,z)],⟨S.ok,⟨(jaJ S).h,by simp;omega,(jaJ S).r,fun q hq=>?_⟩,fun g=>?_⟩,fun μ hw=>?_⟩
 ·rcases j1d.mp hq with y|y
  ·exact(jaJ S).n q y
  ·rw[j1A.mp y];exact(jaJ S).n x hx
 ·have:=g.pu;rw[j1n]at this;exact jc2 (j0x.mpr ⟨x,hx,rfl⟩) this
 ·show jeY (runs jab (.ite _ _ []::.ite _ _ []::.ite _ _ []::.ite _ _ []::_) _ μ)=_;rw[jaq (by omega),jaq (by omega),jaq (by omega)];refine jdn hw ?_;unfold wS;symm;rwa[ex];rwa[show ixD (pD x) (.int 0) μ=.ok (.str x.1) μ from nr rfl];rwa[ez];rwa[show([.tup [.str x.1,.str z]]:List D)=[(x.1,z)].map pD from rfl,jdA _ _ _ (by simp;omega)]
theorem jBv (S:Sett hs ps rs)(hs4:s∉hs.map (·.name))(ha:0<=a)(ha2:a<ps.length):∃ps',jnx hs ps' rs/\∀μ:M,w=4->jeY (runs jab (jai.drop 6) (wS hs ps rs m s n a p w) μ)=.ok (.tup [.lst (hs.map jaP),.lst (ps'.map pD),.lst (rs.map tD)]) μ:=by
 have hl:=S.p6;obtain⟨x,hx,ex⟩:=jfL pD ha ha2;refine⟨ps.take a.toNat++[(x.1,s)]++ps.drop (a+1).toNat,jmd S (q:=(x.1,s)) ((jaJ S).n x hx) _ _ (fun g=>hs4 g.2),fun μ hw=>?_⟩;show jeY (runs jab (.ite _ _ []::.ite _ _ []::.ite _ _ []::.ite _ _ []::.ite _ _ []::_) _ μ)=_;rw[jaq (by omega),jaq (by omega),jaq (by omega),jaq (by omega)];refine jdn hw ?_;unfold wS;symm;rwa[jdg _ _ ha];rwa[ex];rwa[show ixD (pD x) (.int 0) μ=.ok (.str x.1) μ from nr rfl];rwa[show([.tup [.str x.1,.str s]]:List D)=[(x.1,s)].map pD from rfl,jdA _ _ _ (by have:=jfk ps a.toNat;simp;omega)];rwa[jhb _ _ (by omega)];rwa[jdA _ _ _ (by have:=jfk ps a.toNat;have:=jh4 ps (a+1).toNat;simp;omega)]
theorem joN (S:Sett hs ps rs)(hs4:s∉hs.map (·.name))(hp:0<=p):∃rs5 rs6 rs7,(jnx hs ps rs5/\jnx hs ps rs6/\jnx hs ps rs7)/\∀μ:M,(w=5->jeY (runs jab (jai.drop 6) (wS hs ps rs m s n a p w) μ)=.ok (.tup [.lst (hs.map jaP),.lst (ps.map pD),.lst (rs5.map tD)]) μ)/\(w=6->jeY (runs jab (jai.drop 6) (wS hs ps rs m s n a p w) μ)=.ok (.tup [.lst (hs.map jaP),.lst (ps.map pD),.lst (rs6.map tD)]) μ)/\(w=7->jeY (runs jab (jai.drop 6) (wS hs ps rs m s n a p w) μ)=.ok (.tup [.lst (hs.map jaP),.lst (ps.map pD),.lst (rs7.map tD)]) μ):=by
 have h2:=S.h2;have hl:=S.r6;obtain⟨z,hz,ez⟩:=jfL D.str (xs:=hs.map (·.name)) (i:=n / 12 % 2) (by omega) (by rw[j0f];omega);have mid:∀(q:Rt) (μ:M),jiV .Add false (.lst ((rs.take p.toNat).map tD)) (.lst [tD q]) μ=.ok (.lst ((rs.take p.toNat++[q]).map tD)) μ:=fun q μ=>by
  rw[show([tD q]:List D)=[q].map tD from rfl,jdA _ _ _ (by have:=jfk rs p.toNat;simp;omega)]
 have last:∀(q:Rt) (μ:M),jiV .Add false (.lst ((rs.take p.toNat++[q]).map tD)) (.lst ((rs.drop p.toNat).map tD)) μ=.ok (.lst ((rs.take p.toNat++[q]++rs.drop p.toNat).map tD)) μ:=fun q μ=>by rw[jdA _ _ _ (by have:=jfk rs p.toNat;have:=jh4 rs p.toNat;simp;omega)]
 refine⟨rs.take p.toNat++[(s,z,1,1)]++rs.drop p.toNat,rs.take p.toNat++[(z,s,1,1)]++rs.drop p.toNat,rs.take p.toNat++[(z,z,1,1)]++rs.drop p.toNat,⟨jlm S _ _ fun g=>hs4 g.a,jlm S _ _ fun g=>hs4 g.b,jlm S _ _ fun g=>g.n rfl⟩,fun μ=>⟨fun hw=>?_,fun hw=>?_,fun hw=>?_⟩⟩
 ·show jeY (runs jab (.ite _ _ []::.ite _ _ []::.ite _ _ []::.ite _ _ []::.ite _ _ []::.ite _ _ []::_) _ μ)=_;rw[jaq (by omega),jaq (by omega),jaq (by omega),jaq (by omega),jaq (by omega)];refine jdn hw ?_;unfold wS;symm;rwa[jdg _ _ hp];rwa[ez];rwa[show(.tup [.str s,.str z,.int 1,.int 1]:D)=tD (s,z,1,1)from rfl,mid];rwa[jhb _ _ hp];rwa[last]
 ·show jeY (runs jab (.ite _ _ []::.ite _ _ []::.ite _ _ []::.ite _ _ []::.ite _ _ []::.ite _ _ []::.ite _ _ []::_) _ μ)=_;rw[jaq (by omega),jaq (by omega),jaq (by omega),jaq (by omega),jaq (by omega),jaq (by omega)];refine jdn hw ?_;unfold wS;symm;rwa[jdg _ _ hp];rwa[ez];rwa[show(.tup [.str z,.str s,.int 1,.int 1]:D)=tD (z,s,1,1)from rfl,mid];rwa[jhb _ _ hp];rwa[last]
 ·show jeY (runs jab (.ite _ _ []::.ite _ _ []::.ite _ _ []::.ite _ _ []::.ite _ _ []::.ite _ _ []::.ite _ _ []::.ite _ _ []::_) _ μ)=_;rw[jaq (by omega),jaq (by omega),jaq (by omega),jaq (by omega),jaq (by omega),jaq (by omega),jaq (by omega)];refine jdn hw ?_;unfold wS;symm;rwa[jdg _ _ hp];rwa[ez];rwa[ez];rwa[show(.tup [.str z,.str z,.int 1,.int 1]:D)=tD (z,z,1,1)from rfl,mid];rwa[jhb _ _ hp];rwa[last]
theorem jxx (S:Sett hs ps rs)(h0:rs≠[]):∃rs8 rs9,(jnx hs ps rs8/\jnx hs ps rs9)/\∀μ:M,(w=8->jeY (runs jab (jai.drop 6) (wS hs ps rs m s n a p w) μ)=.ok (.tup [.lst (hs.map jaP),.lst (ps.map pD),.lst (rs8.map tD)]) μ)/\(w=9->jeY (runs jab (jai.drop 6) (wS hs ps rs m s n a p w) μ)=.ok (.tup [.lst (hs.map jaP),.lst (ps.map pD),.lst (rs9.map tD)]) μ):=by
 have hl:=S.r6;have hr:0<rs.length:=List.length_pos_iff.mpr h0;obtain⟨x,hx,ex⟩:=jfL tD (xs:=rs) (i:=n % (rs.length:Int)) (j03 _ (by omega)) (j1g _ (by omega));obtain⟨q,hq,eq⟩:=jfL sD (xs:=[(-1 - n / 24 % 1000000,1),(1,-(n / 24 % 1000000))]) (i:=n / 12 % 2) (by omega) (by show n / 12 % 2<2;omega);simp only[j0k,j0F]at eq;have hq':q.1<0∨q.2<1:=by
  simp only[j0d,j0J,or_false]at hq;rcases hq with rfl|rfl
  ·left;show -1 - n / 24 % 1000000<0;omega
  ·right;show -(n / 24 % 1000000)<1;omega
 refine⟨[(x.1,x.2.1,q.1,q.2)],rs++[x],⟨⟨S.ok,⟨(jaJ S).h,(jaJ S).p,by simp,(jaJ S).n⟩,fun g=>?_⟩,⟨S.ok,⟨(jaJ S).h,(jaJ S).p,by simp;omega,(jaJ S).n⟩,fun g=>?_⟩⟩,fun μ=>⟨fun hw=>?_,fun hw=>?_⟩⟩
 ·have:=g.rn _ j0u;have h1:0<=q.1:=this.t;have h2:1<=q.2:=this.l;omega
 ·have:=g.ru;rw[j1n]at this;exact jc2 (j0x.mpr ⟨x,hx,rfl⟩) this
 ·show jeY (runs jab (.ite _ _ []::.ite _ _ []::.ite _ _ []::.ite _ _ []::.ite _ _ []::.ite _ _ []::.ite _ _ []::.ite _ _ []::.ite _ _ []::_) _ μ)=_;rw[jaq (by omega),jaq (by omega),jaq (by omega),jaq (by omega),jaq (by omega),jaq (by omega),jaq (by omega),jaq (by omega)];refine jdn hw ?_;unfold wS;symm;rwa[jcB,j0f];rwa[je1 (by omega)];rwa[ex];rwa[show slD false (tD x) none (some 2) μ=.ok (.tup [.str x.1,.str x.2.1]) μ from nr rfl];simp only[sD]at eq;rwa[eq];rwa[show jiV .Add false (.tup [.str x.1,.str x.2.1]) (.tup [.int q.1,.int q.2]) μ=.ok (tD (x.1,x.2.1,q.1,q.2)) μ from if_pos (jac (by simp))]
 ·show jeY (runs jab (.ite _ _ []::.ite _ _ []::.ite _ _ []::.ite _ _ []::.ite _ _ []::.ite _ _ []::.ite _ _ []::.ite _ _ []::.ite _ _ []::_) _ μ)=_;rw[jaq (by omega),jaq (by omega),jaq (by omega),jaq (by omega),jaq (by omega),jaq (by omega),jaq (by omega),jaq (by omega),jaq (by omega)];unfold wS;symm;rwa[jcB,j0f];rwa[je1 (by omega)];rwa[ex];rwa[show([tD x]:List D)=[x].map tD from rfl,jdA _ _ _ (by simp;omega)]
theorem jqj (S:Sett hs ps rs)(h0:rs≠[])(m:Int):∃hs' ps' rs',jnx hs' ps' rs'/\∀μ:M,jao .frz jc1.F [.lst (hs.map jaP),.lst (ps.map pD),.lst (rs.map tD),.int m] μ=.ok (.tup [.lst (hs'.map jaP),.lst (ps'.map pD),.lst (rs'.map tD)]) μ:=by
 obtain⟨s,hs4,es⟩:=jm3 (hs.map (·.name)) (by rw[j0f];exact S.h3);have hp0:=S.p0;have ha:=j03 (m / 10) (b:=(ps.length:Int)) (by omega);have ha2:=j1g (m / 10) (b:=(ps.length:Int)) (by omega);have hp:=j03 (m / 10 / 4) (b:=(rs.length:Int)+1) (by omega);rcases(show m % 10=0∨m % 10=1∨m % 10=2∨m % 10=3∨m % 10=4∨m % 10=5∨m % 10=6∨m % 10=7∨m % 10=8∨m % 10=9 by omega)with h|h|h|h|h|h|h|h|h|h
 ·refine⟨[],[],[],⟨(fun _ z=>by cases z),⟨by simp,by simp,by simp,fun _ z=>by cases z⟩,fun g=>absurd g.z0 (by simp)⟩,fun μ=>jbC S es jpX ?_⟩;show jeY (runs jab (.ite _ _ []::_) _ μ)=_;refine jdn h ?_;unfold wS;symm
 ·obtain⟨x,hb,e⟩:=jB S;exact⟨_,_,_,hb,fun μ=>jbC S es jpX (e μ h)⟩
 ·obtain⟨x,hb,e⟩:=jBq S ha;exact⟨_,_,_,hb,fun μ=>jbC S es jpX (e μ h)⟩
 ·obtain⟨x,hb,e⟩:=jBf S ha ha2;exact⟨_,_,_,hb,fun μ=>jbC S es jpX (e μ h)⟩
 ·obtain⟨x,hb,e⟩:=jBv S hs4 ha ha2;exact⟨_,_,_,hb,fun μ=>jbC S es jpX (e μ h)⟩
 ·obtain⟨x,y,z,hb,e⟩:=joN S hs4 hp;exact⟨_,_,_,hb.1,fun μ=>jbC S es jpX ((e μ).1 h)⟩
 ·obtain⟨x,y,z,hb,e⟩:=joN S hs4 hp;exact⟨_,_,_,hb.2.1,fun μ=>jbC S es jpX ((e μ).2.1 h)⟩
 ·obtain⟨x,y,z,hb,e⟩:=joN S hs4 hp;exact⟨_,_,_,hb.2.2,fun μ=>jbC S es jpX ((e μ).2.2 h)⟩
 ·obtain⟨x,y,hb,e⟩:=jxx S h0;exact⟨_,_,_,hb.1,fun μ=>jbC S es jpX ((e μ).1 h)⟩
 ·obtain⟨x,y,hb,e⟩:=jxx S h0;exact⟨_,_,_,hb.2,fun μ=>jbC S es jpX ((e μ).2 h)⟩
end
theorem jAM {a b c d:D}{ρ:S3}{μ:M}:jza (.tp [1,2,3,4]) ρ (.tup [a,b,c,d]) μ=.ok (.nx ((((ρ.set 1 (some a)).set 2 (some b)).set 3 (some c)).set 4 (some d))) μ:=nr rfl
theorem jsv (rs:List Rt)(μ:M):jdO .Eq (.lst (rs.map tD)) (.lst []) μ=.ok (.bl rs.isEmpty) μ:=by
 cases rs with
 |nil=>exact nr rfl
 |cons r rs=>exact nr rfl
theorem jqu {hs:List HRow}{ps:List (Str×Str)}{rs:List Rt}(S:Sett hs ps rs)(h0 h1:HRow)(t:List HRow)(e:hs=h0::h1::t):Sett hs ps [(h0.name,h1.name,1,2)]:=by
 have hz:=S.good.zu;rw[e]at hz;refine⟨S.h2,S.h3,S.ok,S.p0,S.p6,by simp,S.good.z0,S.good.zu,S.good.pn,S.good.pu,fun r hr=>?_,by simp⟩;rw[j1A.mp hr,e];refine⟨by simp,by simp,fun z=>?_,show(0:Int)<=1 by decide,show(1:Int)<=2 by decide⟩;simp only[j0k,j1e,j0d]at hz;exact hz.1 (.inl z)
theorem jp4 {k:Nat}{x:D}{xs:List D}:jkA k (x::xs)=.tup [.int (k:Int),x]::jkA (k+1) xs:=rfl
theorem jlS {hs:List HRow}{ps:List (Str×Str)}{rs:List Rt}(S:Sett hs ps rs)(h0:rs≠[]){ok:M->Bool}(hok:∀ν,ok ν=true)(a0 a4 a5 a6 a7:Option D)(μ:M):∀(xs:List Int) (k:Nat),k+xs.length<=900->jc9 ok (.tp [8,9]) (runs jjn ji2) [8,9,10] (jkA k (xs.map D.int)) [a0,some (.lst (hs.map jaP)),some (.lst (ps.map pD)),some (.lst (rs.map tD)),a4,a5,a6,a7,none,none,none] μ=.ok (.nx [a0,some (.lst (hs.map jaP)),some (.lst (ps.map pD)),some (.lst (rs.map tD)),a4,a5,a6,a7,none,none,none]) μ
 |[],k,_=>by
  show jc9 ok _ _ _ [] _ μ=_;rw[jbA (hok _)];rfl
 |x::xs,k,hl=>by
  rw[j0q]at hl;obtain⟨m,m0,m1,hm⟩:=jnC x (k:Int) (by omega) (by omega);obtain⟨hs',ps',rs',⟨b1,b2,b3⟩,e⟩:=jqj S h0 m;rw[j0k,jp4,ja0 (ρ1:=[a0,some (.lst (hs.map jaP)),some (.lst (ps.map pD)),some (.lst (rs.map tD)),a4,a5,a6,a7,some (.int (k:Int)),some (.int x),none]) (ρ2:=[a0,some (.lst (hs.map jaP)),some (.lst (ps.map pD)),some (.lst (rs.map tD)),a4,a5,a6,a7,some (.int (k:Int)),some (.int x),some (.tup [.lst (hs'.map jaP),.lst (ps'.map pD),.lst (rs'.map tD)])]) (μ2:=μ) (hok _) rfl ?_]
  ·exact jlS S h0 hok a0 a4 a5 a6 a7 μ xs (k+1) (by omega)
  ·have i3:∀(a b c:D) (ν:M),ixD (.tup [a,b,c]) (.int 0) ν=.ok a ν/\ixD (.tup [a,b,c]) (.int 1) ν=.ok b ν/\ixD (.tup [a,b,c]) (.int 2) ν=.ok c ν:=fun _ _ _ _=>⟨nr rfl,nr rfl,nr rfl⟩;unfold ji2;symm;rwa[hm];rwa[e]
   repeat(simp only[i3];symm)
   rwa[jmE b1 b2 b3]
theorem jqS {hs:List HRow}{ps:List (Str×Str)}{rs:List Rt}(S:Sett hs ps rs)(h0:rs≠[])(ns:List Int)(hn:ns.length<=63)(kd:D):∃μ,jeY (runs jjn (jhO.drop 2) [some (je8 ns),some (.lst (hs.map jaP)),some (.lst (ps.map pD)),some (.lst (rs.map tD)),some kd,none,none,none,none,none,none] [])=.ok (.bl true) μ:=by
 have ft:=jaJ S;have hg:=jmj.mpr S.good;have h50:hs.length<=50:=by have:=S.h3;omega
 let M1:M:=[some (.lst (hs.map HRow.obj))]
 let M3:M:=[some (.lst (hs.map HRow.obj)),some (.lst (ps.map pD)),some (.lst (rs.map tD))]
 let M6:M:=[some (.lst []),some (.lst (ps.map pD++[.tup [.str "x",.str "y"]])),some (.lst [])]
 have mk:=jqK hs h50 S.ok [];have l1:biD .list true [.lst (ps.map pD)] M1=.ok (.cel 1) [some (.lst (hs.map HRow.obj)),some (.lst (ps.map pD))]:=rfl;have l2:biD .list true [.lst (rs.map tD)] [some (.lst (hs.map HRow.obj)),some (.lst (ps.map pD))]=.ok (.cel 2) M3:=rfl;have b1:=ji5 (H:=.cel 0) (P:=.cel 1) (R:=.cel 2) (μ:=M3) (fun _=>rfl) (fun _=>rfl) (fun _=>rfl) ft;have b2:=ji5 (H:=.tup (hs.map HRow.obj)) (P:=.tup (ps.map pD)) (R:=.tup (rs.map tD)) (μ:=M6) (fun _=>rfl) (fun _=>rfl) (fun _=>rfl) ft;have b3:=ji5 (H:=.lst (hs.map HRow.obj)) (P:=.cel 3) (R:=.cel 4) (μ:=M6++[some (.lst (ps.map pD)),some (.lst (rs.map tD))]) (fun _=>rfl) (fun _=>rfl) (fun _=>rfl) ft;rw[hg,if_pos rfl]at b1 b2 b3;have c1:jxY (.cel 0) M3=.ok .non [some (.lst []),some (.lst (ps.map pD)),some (.lst (rs.map tD))]:=rfl;have ty:jpP .append (.cel 1) [some (.lst []),some (.lst (ps.map pD)),some (.lst (rs.map tD))]=true:=rfl;have ap:mtD .append (.cel 1) [.tup [.str "x",.str "y"]] [some (.lst []),some (.lst (ps.map pD)),some (.lst (rs.map tD))]=.ok .non [some (.lst []),some (.lst (ps.map pD++[.tup [.str "x",.str "y"]])),some (.lst (rs.map tD))]:=if_pos (jac (by have:=S.p6;rw[j0f];omega));have c2:jxY (.cel 2) [some (.lst []),some (.lst (ps.map pD++[.tup [.str "x",.str "y"]])),some (.lst (rs.map tD))]=.ok .non M6:=rfl;have l3:biD .list true [.lst (ps.map pD)] M6=.ok (.cel 3) (M6++[some (.lst (ps.map pD))]):=rfl;have l4:biD .list true [.lst (rs.map tD)] (M6++[some (.lst (ps.map pD))])=.ok (.cel 4) (M6++[some (.lst (ps.map pD)),some (.lst (rs.map tD))]):=rfl;have hd:=fun μ=>jrW S.good ft h0 μ;obtain⟨cs,hcl,hcs⟩:∃cs:List Int,cs.length<=63/\∀μ:M,slD false (je8 ns) (some 6) (some 30) μ=.ok (.lst (cs.map D.int)) μ:=by
  refine⟨(ns.drop (HT.sIx ns.length 0 (some 6))).take (HT.sIx ns.length ns.length (some 30) - HT.sIx ns.length 0 (some 6)),?_,fun μ=>?_⟩
  ·have:=jfk (ns.drop (HT.sIx ns.length 0 (some 6))) (HT.sIx ns.length ns.length (some 30) - HT.sIx ns.length 0 (some 6));have:=jh4 ns (HT.sIx ns.length 0 (some 6));omega
  ·show mkL false (_L3.cutD (ns.map D.int) (some 6) (some 30)) μ=_;unfold _L3.cutD;rw[j0f,<- List.map_drop,<- List.map_take];rfl
 have ad:∀μ:M,jiV .Add false (.lst [.int 3]) (.lst (cs.map D.int)) μ=.ok (.lst ((3::cs).map D.int)) μ:=fun μ=>by
  rw[jk8 (jac (by simp;omega))];rfl
 have hi:∀μ:M,itD .enm [.lst (.int 3::cs.map D.int)] μ=some (jkA 0 ((3::cs).map D.int)):=fun μ=>rfl;have i2:∀(a b:D) (ν:M),ixD (.lst [a,b]) (.int 0) ν=.ok a ν/\ixD (.lst [a,b]) (.int 1) ν=.ok b ν:=fun _ _ _=>⟨nr rfl,nr rfl⟩;rw[show jhO.drop 2=[.asg (.nm 5) (.call 1 .new [(.var 1)]),
  .asg (.nm 6) (.lst false [(.bi .list true [(.var 2)]),(.bi .list true [(.var 3)])]),
  .asg (.nm 7) (.call 2 .frz [(.var 5),(.ix (.var 6) (.cst (.int 0))),(.ix (.var 6) (.cst (.int 1)))]),
  .ex (.clr (.var 5)),
  .ex (.mt .append (.ix (.var 6) (.cst (.int 0))) [(.tup [(.cst (.str "x")),(.cst (.str "y"))])]),
  .ex (.clr (.ix (.var 6) (.cst (.int 1)))),
  .ite (.not_ (.call 3 .frz [(.var 7),(.var 1),(.var 2),(.var 3)])) [.ret (.cst (.bl false))] [],
  .ite (.not_ (.call 3 .frz [(.call 2 .frz [(.call 4 .frz [(.fld (.var 7) 2 "houses")]),(.fld (.var 7) 2 "purses"),(.fld (.var 7) 2 "rates")]),(.var 1),(.var 2),(.var 3)])) [.ret (.cst (.bl false))] [],
  .for_ (.tp [8,9]) .enm [(.bin .Add false (.lst false [(.cst (.int 3))]) (.sl false (.var 0) [(.cst (.int 6))] [(.cst (.int 30))]))] ji2 [8,9,10],
  .ret (.call 3 .frz [(.call 2 .frz [(.call 1 .frz [(.var 1)]),(.bi .list true [(.var 2)]),(.bi .list true [(.var 3)])]),(.var 1),(.var 2),(.var 3)])]from rfl]
 refine⟨M6++[some (.lst (ps.map pD)),some (.lst (rs.map tD))],?_⟩;symm;rwa[mk];rwa[l1];rwa[l2];rwa[(i2 _ _ _).1];rwa[(i2 _ _ _).2];rwa[b1];rwa[c1];rwa[(i2 _ _ _).1];rwa[if_pos ty];rwa[ap];rwa[(i2 _ _ _).2];rwa[c2];rwa[hd];rwa[fb1];rwa[jqQ hs h50 S.ok];rwa[fb2];rwa[fb3];rwa[b2];rwa[hd];rwa[hcs];rwa[ad];rwa[ja6 (hi _),jlS S h0 (fun ν=>jaI (hi ν)) _ _ _ _ _ M6 (3::cs) 0 (by simp;omega)];rwa[jpA hs h50 S.ok];rwa[l3];rwa[l4];rwa[b3];rwa[hd]
theorem jr1 (ns:List Int)(hn:ns.length<=63):∃μ,jzT [.scr (ns.map D.int)] []=.ok (.bl true) μ:=by
 obtain⟨hs,ps,rs,kd,S,e⟩:=jnw ns;obtain⟨h0,t,e0⟩:=j0b (l:=hs) (by have:=S.h2;omega);obtain⟨h1,t,e1⟩:=j0b (l:=t) (by have:=S.h2;rw[e0]at this;simp at this;omega);subst e1;have x0:∀μ:M,ixD (.lst (hs.map jaP)) (.int 0) μ=.ok (jaP h0) μ:=fun μ=>by
  rw[e0];exact jvh jaP h0 (xs:=h0::h1::t) (i:=0) (by simp)
 have x1:∀μ:M,ixD (.lst (hs.map jaP)) (.int 1) μ=.ok (jaP h1) μ:=fun μ=>by
  rw[e0];exact jvh jaP h0 (xs:=h0::h1::t) (i:=1) (by simp)
 have key:∃rs',(Sett hs ps rs'/\rs'≠[])/\runs jjn (jhO.take 2) [some (je8 ns),none,none,none,none,none,none,none,none,none,none] []=.ok (.nx [some (je8 ns),some (.lst (hs.map jaP)),some (.lst (ps.map pD)),some (.lst (rs'.map tD)),some kd,none,none,none,none,none,none]) []:=by
  rw[show jhO.take 2=[.asg (.tp [1,2,3,4]) (.call 0 .frz [(.var 0)]),.ite (.cmp .Eq (.var 3) (.lst false [])) [.asg (.nm 3) (.lst false [(.tup [(.ix (.ix (.var 1) (.cst (.int 0))) (.cst (.int 0))),(.ix (.ix (.var 1) (.cst (.int 1))) (.cst (.int 0))),(.cst (.int 1)),(.cst (.int 2))])])] []]from rfl]
  cases hr:rs with
  |nil=>
   refine⟨_,⟨jqu S h0 h1 t e0,by simp⟩,?_⟩;rw[hr]at e;symm;rw[e];simp only[jbT,jAM];symm;rwa[show jdO .Eq (.lst []) (.lst []) []=.ok (.bl true) []from jsv [] []];rwa[x0];rwa[ri.1];rwa[x1];rwa[ri.1];rfl
  |cons r rs'=>
   rw[hr]at e S;refine⟨r::rs',⟨S,by simp⟩,?_⟩;symm;rw[e];simp only[jbT,jAM];symm;rwa[show jdO .Eq (.lst (tD r::rs'.map tD)) (.lst []) []=.ok (.bl false) []from jsv (r::rs') []]
 obtain⟨rs',⟨S',h0'⟩,ek⟩:=key;obtain⟨μ,em⟩:=jqS S' h0' ns hn kd;refine⟨μ,?_⟩;show jeY (runs jjn jhO [some (je8 ns),none,none,none,none,none,none,none,none,none,none] [])=_;rw[show ∀ρ μ,runs jjn jhO ρ μ=jo (runs jjn (jhO.take 2) ρ μ) (runs jjn (jhO.drop 2))from fun ρ μ=>by rw[<- jiw,List.take_append_drop],ek,jfZ,em]
theorem jA3 {α:Type}{us:List α}(h:us.length=1):∃a0,us=[a0]:=by
 obtain⟨a0,us,rfl⟩:=j0b (l:=us) (by rw[h];decide);replace h:us.length=0:=j0M h;cases j05.mp h;exact⟨_,rfl⟩
theorem jBj {α:Type}{us:List α}(h:us.length=2):∃a0 a1,us=[a0,a1]:=by
 obtain⟨a0,us,rfl⟩:=j0b (l:=us) (by rw[h];decide);replace h:us.length=1:=j0M h;obtain⟨a1,us,rfl⟩:=j0b (l:=us) (by rw[h];decide);replace h:us.length=0:=j0M h;cases j05.mp h;exact⟨_,_,rfl⟩
theorem jBt {α:Type}{us:List α}(h:us.length=3):∃a0 a1 a2,us=[a0,a1,a2]:=by
 obtain⟨a0,us,rfl⟩:=j0b (l:=us) (by rw[h];decide);replace h:us.length=2:=j0M h;obtain⟨a1,us,rfl⟩:=j0b (l:=us) (by rw[h];decide);replace h:us.length=1:=j0M h;obtain⟨a2,us,rfl⟩:=j0b (l:=us) (by rw[h];decide);replace h:us.length=0:=j0M h;cases j05.mp h;exact⟨_,_,_,rfl⟩
theorem jBs {α:Type}{us:List α}(h:us.length=4):∃a0 a1 a2 a3,us=[a0,a1,a2,a3]:=by
 obtain⟨a0,us,rfl⟩:=j0b (l:=us) (by rw[h];decide);replace h:us.length=3:=j0M h;obtain⟨a1,us,rfl⟩:=j0b (l:=us) (by rw[h];decide);replace h:us.length=2:=j0M h;obtain⟨a2,us,rfl⟩:=j0b (l:=us) (by rw[h];decide);replace h:us.length=1:=j0M h;obtain⟨a3,us,rfl⟩:=j0b (l:=us) (by rw[h];decide);replace h:us.length=0:=j0M h;cases j05.mp h;exact⟨_,_,_,_,rfl⟩
theorem jzC {α:Type}{us:List α}(h:us.length=12):∃a0 a1 a2 a3 a4 a5 a6 a7 a8 a9 a10 a11,us=[a0,a1,a2,a3,a4,a5,a6,a7,a8,a9,a10,a11]:=by
 obtain⟨a0,us,rfl⟩:=j0b (l:=us) (by rw[h];decide);replace h:us.length=11:=j0M h;obtain⟨a1,us,rfl⟩:=j0b (l:=us) (by rw[h];decide);replace h:us.length=10:=j0M h;obtain⟨a2,us,rfl⟩:=j0b (l:=us) (by rw[h];decide);replace h:us.length=9:=j0M h;obtain⟨a3,us,rfl⟩:=j0b (l:=us) (by rw[h];decide);replace h:us.length=8:=j0M h;obtain⟨a4,us,rfl⟩:=j0b (l:=us) (by rw[h];decide);replace h:us.length=7:=j0M h;obtain⟨a5,us,rfl⟩:=j0b (l:=us) (by rw[h];decide);replace h:us.length=6:=j0M h;obtain⟨a6,us,rfl⟩:=j0b (l:=us) (by rw[h];decide);replace h:us.length=5:=j0M h;obtain⟨a7,us,rfl⟩:=j0b (l:=us) (by rw[h];decide);replace h:us.length=4:=j0M h;obtain⟨a8,us,rfl⟩:=j0b (l:=us) (by rw[h];decide);replace h:us.length=3:=j0M h;obtain⟨a9,us,rfl⟩:=j0b (l:=us) (by rw[h];decide);replace h:us.length=2:=j0M h;obtain⟨a10,us,rfl⟩:=j0b (l:=us) (by rw[h];decide);replace h:us.length=1:=j0M h;obtain⟨a11,us,rfl⟩:=j0b (l:=us) (by rw[h];decide);replace h:us.length=0:=j0M h;cases j05.mp h;exact⟨_,_,_,_,_,_,_,_,_,_,_,_,rfl⟩
theorem jal {P:Program}{w:World}{K:PySem.W.Frag}{mg:Str->Option Value}{base:Heap}{j:Nat}(hm:∀x∈jdy,mg x=none):Tab P w K mg base j []:=⟨hm,fun i g h=>by simp at h,fun i g d h=>by simp at h⟩
theorem jaa {P:Program}{w:World}{K:PySem.W.Frag}{mg:Str->Option Value}{base:Heap}{j:Nat}{g:FnE}{G:List FnE}(hn:g.dat=none)(c:_L2.CalG CX0 P w K mg base g.lv g.name g.ps (jlC K g.ps.length g.F))(T:Tab P w K mg base j G):Tab P w K mg base j (g::G):=⟨T.hm,fun i g' h hl=>by
 cases i with
 |zero=>
  simp at h;subst h;exact c
 |succ i=>exact T.hf i g' (by simpa using h) hl,fun i g' d h hd=>by
 cases i with
 |zero=>
  simp at h;subst h;rw[hn]at hd;cases hd
 |succ i=>exact T.hd i g' d (by simpa using h) hd⟩
theorem jcf {P:Program}{w:World}{K:PySem.W.Frag}{mg:Str->Option Value}{base:Heap}{j:Nat}{g:FnE}{G:List FnE}{hs:g.dat.isSome=true}(d:jiR K w mg g.name (g.dat.get hs))(c:_L2.CalG CX0 P w K mg base g.lv g.name g.ps (jlC K g.ps.length g.F))(T:Tab P w K mg base j G):Tab P w K mg base j (g::G):=⟨T.hm,fun i g' h hl=>by
 cases i with
 |zero=>
  simp at h;subst h;exact c
 |succ i=>exact T.hf i g' (by simpa using h) hl,fun i g' e h hd=>by
 cases i with
 |zero=>
  simp at h;subst h;have e:g.dat.get hs=e:=by simp[hd]
  rw[<- e];exact d
 |succ i=>exact T.hd i g' e (by simpa using h) hd⟩
theorem jlh {P:Program}{w:World}{K:PySem.W.Frag}{mg:Str->Option Value}{base:Heap}{j:Nat}{g:FnE}{G:List FnE}{hs:g.dat.isSome=true}(hl:¬ 1000000<=j)(c:jiR K w mg g.name (g.dat.get hs))(T:Tab P w K mg base j G)(h0:g.lv=1000000:=by rfl):Tab P w K mg base j (g::G):=⟨T.hm,fun i g' h hlv=>by
 cases i with
 |zero=>
  simp at h;subst h;exact absurd (h0▸hlv) hl
 |succ i=>exact T.hf i g' (by simpa using h) hlv,fun i g' d h hd=>by
 cases i with
 |zero=>
  simp at h;subst h;have e:g.dat.get hs=d:=by simp[hd]
  rw[<- e];exact c
 |succ i=>exact T.hd i g' d (by simpa using h) hd⟩
set_option maxHeartbeats 0 in
theorem jhM {P:Program} {w:World} {K:PySem.W.Frag} {mg:Str->Option Value} {base:Heap} {f:Addr} {fd:FuncData} {x0 x1 x2 x3 x4 x5 x6 x7 x8 x9 x10:Addr} (F:Fun K "_law_refused" "_law_refused" ja4 f fd) (T0:Tab P w K mg base 8 jaS) (cg:CalG (CX1 P w) P w K mg base jbn.lv jbn.name jbn.ps (spY K mg jbn.ps.length jbn.F)) (R:RefOk2 K x1 x0 [x2,x3,x4,x5,x6] [x7,x8,x9,x10]) (mP:mg "PurseError" =some (.ref x0)) (hiN:mg "isinstance" =none) (m1:mg "BadBook" =some (.ref x1)) (mve:mg "ValueError" =none) (hcs:[("BadDeed" : Str),("BadHouse" : Str),("BadText" : Str),("NoDeed" : Str),("NoRate" : Str)].map mg=[x2,x3,x4,x5,x6].map (fun a=>some (Value.ref a))) (hcs2:[("NotOver" : Str),("TooFew" : Str),("Twice" : Str),("WrongDay" : Str)].map mg=[x7,x8,x9,x10].map (fun a=>some (Value.ref a))) :
  FnOk P w K mg base CX0 9 f fd ["_law_houses","_law_pairs","_law_rates"] (jlC K 3 jdz):=
 jlp (ps:=["_law_houses","_law_pairs","_law_rates"]) (g:=jbn) F jhD T0 rfl cg (by decide) R rfl jiY (by ac_rfl) rfl (by ac_rfl) (by ac_rfl) (by ac_rfl) (by ac_rfl) (by ac_rfl) (by ac_rfl) mP (by ac_rfl) hiN (by ac_rfl) m1 (by ac_rfl) mve (jou (cs:=["BadDeed","BadHouse","BadText","NoDeed","NoRate"]) (by ac_rfl) hcs) (jou (cs:=["NotOver","TooFew","Twice","WrongDay"]) (by ac_rfl) hcs2)
local macro_rules | `(tactic|walk_at"b")=>`(tactic|(refine fun _ _ _ _ _ _ us hl=>?_;first|(obtain⟨_,h⟩:=jA3 hl;subst h;rfl)|(obtain⟨_,_,h⟩:=jBj hl;subst h;rfl)|(obtain⟨_,_,_,h⟩:=jBt hl;subst h;rfl)|(obtain⟨_,_,_,_,h⟩:=jBs hl;subst h;rfl)))
abbrev gA (K:PySem.W.Frag) (x:Str) (f:Addr):Prop:=PySem.W.nsIn K mainGlobals x=some (some (.ref f))
abbrev gN (K:PySem.W.Frag) (x:Str):Prop:=PySem.W.nsIn K mainGlobals x=some none
abbrev gL (K:PySem.W.Frag) (f:Addr) (x:Str) (st:Stmt) (oc:Value) (od:Option Addr) (kV dc pm:Value) (an:Option Addr) (cd ct:Value) (sl:Array (Option Value)):Prop:=K.lookup f=some ⟨oc,od,.func (PySem.W.fnOf x x (jeg st) (jae st) (ja st) .none kV dc pm an cd ct),sl⟩
abbrev gC (K:PySem.W.Frag) (c:Value) (x:Str):Prop:=PySem.W.codeIn K c x=true
abbrev gK (K:PySem.W.Frag) (f:Addr):Prop:=PySem.W.keepIn K (.ref f)=true
abbrev gT (P:Program) (w:World) (K:PySem.W.Frag) (mg:Str->Option Value) (base:Heap) (g:FnE):Prop:=CalG CX0 P w K mg base g.lv g.name g.ps (jlC K g.ps.length g.F)
abbrev gY (P:Program) (w:World) (K:PySem.W.Frag) (mg:Str->Option Value) (base:Heap) (g:FnE):Prop:=CalG (CX1 P w) P w K mg base g.lv g.name g.ps (spY K mg g.ps.length g.F)
set_option maxHeartbeats 4000000 in
set_option autoImplicit true in
theorem all_mk {l:PySem.W.OpenLaw}{w:World}{K:PySem.W.Frag}{h:Heap}{mg:Str->Option Value}
  (X:K.In h) (G:h.Ns mainGlobals mg) (hfa:mg "law" =some (.ref fa))
  (a1:gA K "is_number" f1)
  (l1:gL K f1 "is_number" jck oc1 od1 kV1 dc1 pm1 an1 cd1 ct1 sl1) (c1:gC K cd1 "is_number") (k1:gK K f1)
  (a2:gA K "is_list" f2)
  (l2:gL K f2 "is_list" jem oc2 od2 kV2 dc2 pm2 an2 cd2 ct2 sl2) (c2:gC K cd2 "is_list") (k2:gK K f2)
  (a3:gA K "is_tuple_of" f3)
  (l3:gL K f3 "is_tuple_of" jbv oc3 od3 kV3 dc3 pm3 an3 cd3 ct3 sl3) (c3:gC K cd3 "is_tuple_of") (k3:gK K f3)
  (a4:gA K "are_unlike" f4)
  (l4:gL K f4 "are_unlike" jbO oc4 od4 kV4 dc4 pm4 an4 cd4 ct4 sl4) (c4:gC K cd4 "are_unlike") (k4:gK K f4)
  (a5:gA K "are_rising" f5)
  (l5:gL K f5 "are_rising" jbK oc5 od5 kV5 dc5 pm5 an5 cd5 ct5 sl5) (c5:gC K cd5 "are_rising") (k5:gK K f5)
  (a6:gA K "is_name" f6)
  (l6:gL K f6 "is_name" jen oc6 od6 kV6 dc6 pm6 an6 cd6 ct6 sl6) (c6:gC K cd6 "is_name") (k6:gK K f6)
  (a7:gA K "demand_houses" f7)
  (l7:gL K f7 "demand" ja1 oc7 od7 kV7 dc7 pm7 an7 cd7 ct7 sl7) (c7:gC K cd7 "demand") (k7:gK K f7)
  (a8:gA K "is_number_or_none" f8)
  (l8:gL K f8 "is_number_or_none" jaF oc8 od8 kV8 dc8 pm8 an8 cd8 ct8 sl8) (c8:gC K cd8 "is_number_or_none") (k8:gK K f8)
  (a9:gA K "check_list" f9)
  (l9:gL K f9 "check_list" jbI oc9 od9 kV9 dc9 pm9 an9 cd9 ct9 sl9) (c9:gC K cd9 "check_list") (k9:gK K f9)
  (a10:gA K "check_share" f10)
  (l10:gL K f10 "check_share" jbk oc10 od10 kV10 dc10 pm10 an10 cd10 ct10 sl10) (c10:gC K cd10 "check_share") (k10:gK K f10)
  (a11:gA K "check_kinds" f11)
  (l11:gL K f11 "check_kinds" jbl oc11 od11 kV11 dc11 pm11 an11 cd11 ct11 sl11) (c11:gC K cd11 "check_kinds") (k11:gK K f11)
  (a12:gA K "check_leasts" f12)
  (l12:gL K f12 "check_leasts" jb oc12 od12 kV12 dc12 pm12 an12 cd12 ct12 sl12) (c12:gC K cd12 "check_leasts") (k12:gK K f12)
  (a13:gA K "check_steps" f13)
  (l13:gL K f13 "check_steps" jbo oc13 od13 kV13 dc13 pm13 an13 cd13 ct13 sl13) (c13:gC K cd13 "check_steps") (k13:gK K f13)
  (a14:gA K "check_doubles" f14)
  (l14:gL K f14 "check_doubles" ja2 oc14 od14 kV14 dc14 pm14 an14 cd14 ct14 sl14) (c14:gC K cd14 "check_doubles") (k14:gK K f14)
  (a15:gA K "check_ranks" f15)
  (l15:gL K f15 "check_ranks" jbw oc15 od15 kV15 dc15 pm15 an15 cd15 ct15 sl15) (c15:gC K cd15 "check_ranks") (k15:gK K f15)
  (a16:PySem.W.findIn K (.ref 268) "__init__" =some (some (.ref f16))) (i16:PySem.W.isFn K (.ref f16)=true)
  (l16:K.lookup f16=some ⟨oc16,od16,.func (PySem.W.fnOf "__init__" "House.__init__" (jeg jaK) (jae jaK) (ja jaK) .none kV16 dc16 pm16 an16 cd16 ct16),sl16⟩) (c16:PySem.W.codeIn K cd16 "House.__init__" =true) (k16:gK K f16)
  (a17:gA K "demand_books" f17)
  (l17:gL K f17 "demand" jba oc17 od17 kV17 dc17 pm17 an17 cd17 ct17 sl17) (c17:gC K cd17 "demand") (k17:gK K f17)
  (a18:gA K "check_purses" f18)
  (l18:gL K f18 "check_purses" ja9 oc18 od18 kV18 dc18 pm18 an18 cd18 ct18 sl18) (c18:gC K cd18 "check_purses") (k18:gK K f18)
  (a19:gA K "check_rates" f19)
  (l19:gL K f19 "check_rates" jbr oc19 od19 kV19 dc19 pm19 an19 cd19 ct19 sl19) (c19:gC K cd19 "check_rates") (k19:gK K f19)
  (a20:PySem.W.findIn K (.ref 304) "__init__" =some (some (.ref f20))) (i20:PySem.W.isFn K (.ref f20)=true)
  (l20:K.lookup f20=some ⟨oc20,od20,.func (PySem.W.fnOf "__init__" "Book.__init__" (jeg jaQ) (jae jaQ) (ja jaQ) .none kV20 dc20 pm20 an20 cd20 ct20),sl20⟩) (c20:PySem.W.codeIn K cd20 "Book.__init__" =true) (k20:gK K f20)
  (a21:gA K "house_of" f21)
  (l21:gL K f21 "house_of" jcP oc21 od21 kV21 dc21 pm21 an21 cd21 ct21 sl21) (c21:gC K cd21 "house_of") (k21:gK K f21)
  (a22:gA K "rate_of" f22)
  (l22:gL K f22 "rate_of" je oc22 od22 kV22 dc22 pm22 an22 cd22 ct22 sl22) (c22:gC K cd22 "rate_of") (k22:gK K f22)
  (a23:gA K "_law_at" f23)
  (l23:gL K f23 "_law_at" jfb oc23 od23 kV23 dc23 pm23 an23 cd23 ct23 sl23) (c23:gC K cd23 "_law_at") (k23:gK K f23)
  (a24:gA K "_law_mix" f24)
  (l24:gL K f24 "_law_mix" jeh oc24 od24 kV24 dc24 pm24 an24 cd24 ct24 sl24) (c24:gC K cd24 "_law_mix") (k24:gK K f24)
  (a25:gA K "_law_number" f25)
  (l25:gL K f25 "_law_number" jbG oc25 od25 kV25 dc25 pm25 an25 cd25 ct25 sl25) (c25:gC K cd25 "_law_number") (k25:gK K f25)
  (a26:gA K "_law_digits" f26)
  (l26:gL K f26 "_law_digits" jbJ oc26 od26 kV26 dc26 pm26 an26 cd26 ct26 sl26) (c26:gC K cd26 "_law_digits") (k26:gK K f26)
  (a27:gA K "_law_names" f27)
  (l27:gL K f27 "_law_names" jb7 oc27 od27 kV27 dc27 pm27 an27 cd27 ct27 sl27) (c27:gC K cd27 "_law_names") (k27:gK K f27)
  (a28:gA K "_law_house" f28)
  (l28:gL K f28 "_law_house" jce oc28 od28 kV28 dc28 pm28 an28 cd28 ct28 sl28) (c28:gC K cd28 "_law_house") (k28:gK K f28)
  (a29:gA K "_law_setting" f29)
  (l29:gL K f29 "_law_setting" jbu oc29 od29 kV29 dc29 pm29 an29 cd29 ct29 sl29) (c29:gC K cd29 "_law_setting") (k29:gK K f29)
  (a30:gA K "_law_made" f30)
  (l30:gL K f30 "_law_made" jcN oc30 od30 kV30 dc30 pm30 an30 cd30 ct30 sl30) (c30:gC K cd30 "_law_made") (k30:gK K f30)
  (a31:gA K "_law_again" f31)
  (l31:gL K f31 "_law_again" jb1 oc31 od31 kV31 dc31 pm31 an31 cd31 ct31 sl31) (c31:gC K cd31 "_law_again") (k31:gK K f31)
  (a32:gA K "_law_strange" f32)
  (l32:gL K f32 "_law_strange" jbt oc32 od32 kV32 dc32 pm32 an32 cd32 ct32 sl32) (c32:gC K cd32 "_law_strange") (k32:gK K f32)
  (a33:gA K "_law_wrong" f33)
  (l33:gL K f33 "_law_wrong" jcm oc33 od33 kV33 dc33 pm33 an33 cd33 ct33 sl33) (c33:gC K cd33 "_law_wrong") (k33:gK K f33)
  (a34:gA K "_law_refused" f34)
  (l34:gL K f34 "_law_refused" ja4 oc34 od34 kV34 dc34 pm34 an34 cd34 ct34 sl34) (c34:gC K cd34 "_law_refused") (k34:gK K f34)
  (aX0:gA K "PurseError" x0)
  (aX1:gA K "BadBook" x1)
  (aX2:gA K "BadDeed" x2)
  (aX3:gA K "BadHouse" x3)
  (aX4:gA K "BadText" x4)
  (aX5:gA K "NoDeed" x5)
  (aX6:gA K "NoRate" x6)
  (aX7:gA K "NotOver" x7)
  (aX8:gA K "TooFew" x8)
  (aX9:gA K "Twice" x9)
  (aX10:gA K "WrongDay" x10)
  (aV:gN K "ValueError")
  (aR:RefOk2 K x1 x0 [x2,x3,x4,x5,x6] [x7,x8,x9,x10])
  (a35:gA K "_law_holds" f35)
  (l35:gL K f35 "_law_holds" jcj oc35 od35 kV35 dc35 pm35 an35 cd35 ct35 sl35) (c35:gC K cd35 "_law_holds") (k35:gK K f35)
  (a36:gA K "law" f36)
  (l36:gL K f36 "law" jkg oc36 od36 kV36 dc36 pm36 an36 cd36 ct36 sl36) (c36:gC K cd36 "law") (k36:gK K f36)
  (aD1:PySem.W.nsIn K mainGlobals "LONGEST_NAME" =some (some (.int 8 tD1)))
  (cg1:PySem.W.specialIn K (.builtin "object.__class__") "__get__" =some (some (.builtin "getset_descriptor.__get__"))) (cg2:PySem.W.takesIn K (.builtin "object.__class__")=some true)
  (aCHouse:gA K "House" 268)
  (pgHouse:PySem.W.plainGet K 268 Str.empty=true) (hdHouse:PySem.W.hasDictIn K 268=true) (poHouse:PySem.W.plainOver K 268=true) (saHouse:PySem.W.findIn K (.ref 268) "__setattr__" =some (some (.builtin "object.__setattr__"))) (mkHouse:PySem.W.makesIn K 268=true) (kcHouse:PySem.W.keepIn K (.ref 268)=true)
  (ciHouse:PySem.W.findIn K (.ref 268) "__class__" =some (some (.builtin "object.__class__"))) (cmHouse:PySem.W.mroIn K 268 (.type "object")=some true)
  (nHouse1:PySem.W.findIn K (.ref 268) "name" =some none)
  (nHouse2:PySem.W.findIn K (.ref 268) "share" =some none)
  (nHouse3:PySem.W.findIn K (.ref 268) "kinds" =some none)
  (nHouse4:PySem.W.findIn K (.ref 268) "steps" =some none)
  (nHouse5:PySem.W.findIn K (.ref 268) "doubles" =some none)
  (nHouse6:PySem.W.findIn K (.ref 268) "cap" =some none)
  (nHouse7:PySem.W.findIn K (.ref 268) "age" =some none)
  (nHouse8:PySem.W.findIn K (.ref 268) "rest" =some none)
  (nHouse9:PySem.W.findIn K (.ref 268) "ranks" =some none)
  (nHouse10:PySem.W.findIn K (.ref 268) "span" =some none)
  (nHouse11:PySem.W.findIn K (.ref 268) "grace" =some none)
  (aCBook:gA K "Book" 304)
  (pgBook:PySem.W.plainGet K 304 Str.empty=true) (hdBook:PySem.W.hasDictIn K 304=true) (poBook:PySem.W.plainOver K 304=true) (saBook:PySem.W.findIn K (.ref 304) "__setattr__" =some (some (.builtin "object.__setattr__"))) (mkBook:PySem.W.makesIn K 304=true) (kcBook:PySem.W.keepIn K (.ref 304)=true)
  (ciBook:PySem.W.findIn K (.ref 304) "__class__" =some (some (.builtin "object.__class__"))) (cmBook:PySem.W.mroIn K 304 (.type "object")=some true)
  (nBook1:PySem.W.findIn K (.ref 304) "houses" =some none)
  (nBook2:PySem.W.findIn K (.ref 304) "purses" =some none)
  (nBook3:PySem.W.findIn K (.ref 304) "rates" =some none)
  (z1:gN K "len")
  (z2:gN K "sum")
  (z3:gN K "min")
  (z4:gN K "max")
  (z5:gN K "list")
  (z6:gN K "tuple")
  (z7:gN K "int")
  (z8:gN K "all")
  (z9:gN K "isinstance")
  (z10:gN K "range")
  (z11:gN K "str")
  (z12:gN K "enumerate")
  (z13:gN K "zip")
  (z14:gN K "bool")
  (z15:gN K "dict")
  (z16:gN K "set") :
  ∃fd:FuncData,(∀(s:Shared) (v:Value),BindsTo s fd ⟨[v],[]⟩ [("_law_script",v)])/\∀base:Heap,K.In base->base.Ns mainGlobals mg->FnOk l.prog w K mg base CX0 12 fa fd ["_law_script"] (spLaw K):=by
 have e:=hfa.symm.trans (j0h X G a36);cases e;have hm:∀x∈jdy,mg x=none:=by
  intro x hx;rcases j0d.mp hx with e|hx
  ·rw[e];exact j0A X G z1
  rcases j0d.mp hx with e|hx
  ·rw[e];exact j0A X G z2
  rcases j0d.mp hx with e|hx
  ·rw[e];exact j0A X G z3
  rcases j0d.mp hx with e|hx
  ·rw[e];exact j0A X G z4
  rcases j0d.mp hx with e|hx
  ·rw[e];exact j0A X G z5
  rcases j0d.mp hx with e|hx
  ·rw[e];exact j0A X G z6
  rcases j0d.mp hx with e|hx
  ·rw[e];exact j0A X G z7
  rcases j0d.mp hx with e|hx
  ·rw[e];exact j0A X G z8
  rcases j0d.mp hx with e|hx
  ·rw[e];exact j0A X G z9
  rcases j0d.mp hx with e|hx
  ·rw[e];exact j0A X G z10
  rcases j0d.mp hx with e|hx
  ·rw[e];exact j0A X G z11
  rcases j0d.mp hx with e|hx
  ·rw[e];exact j0A X G z12
  rcases j0d.mp hx with e|hx
  ·rw[e];exact j0A X G z13
  rcases j0d.mp hx with e|hx
  ·rw[e];exact j0A X G z14
  rcases j0d.mp hx with e|hx
  ·rw[e];exact j0A X G z15
  rcases j0d.mp hx with e|hx
  ·rw[e];exact j0A X G z16
  cases hx
 have y0:jiR K w mg jbD.name (Option.get jbD.dat rfl):=⟨_,.int 8,j0h X G aD1,⟨_,rfl⟩,fun _ _=>by unfold Den;rfl⟩;have hNHouse:∀f∈(["name","share","kinds","steps","doubles","cap","age","rest","ranks","span","grace"]:List Str),jeJ K 268 f:=by
  intro f hf;rcases j0d.mp hf with e|hf
  ·rw[e];exact nHouse1
  rcases j0d.mp hf with e|hf
  ·rw[e];exact nHouse2
  rcases j0d.mp hf with e|hf
  ·rw[e];exact nHouse3
  rcases j0d.mp hf with e|hf
  ·rw[e];exact nHouse4
  rcases j0d.mp hf with e|hf
  ·rw[e];exact nHouse5
  rcases j0d.mp hf with e|hf
  ·rw[e];exact nHouse6
  rcases j0d.mp hf with e|hf
  ·rw[e];exact nHouse7
  rcases j0d.mp hf with e|hf
  ·rw[e];exact nHouse8
  rcases j0d.mp hf with e|hf
  ·rw[e];exact nHouse9
  rcases j0d.mp hf with e|hf
  ·rw[e];exact nHouse10
  rcases j0d.mp hf with e|hf
  ·rw[e];exact nHouse11
  cases hf
 have D_House:jiR K w mg jaA.name (Option.get jaA.dat rfl):=⟨j0h X G aCHouse,⟨pgHouse,hdHouse,poHouse,saHouse⟩,⟨ciHouse,cg1,cg2,cmHouse⟩,hNHouse⟩;have D0_House:jiR K w mg jiI.name (Option.get jiI.dat rfl):=⟨j0h X G aCHouse,⟨pgHouse,hdHouse,poHouse,saHouse⟩,⟨ciHouse,cg1,cg2,cmHouse⟩,hNHouse⟩;have hNBook:∀f∈(["houses","purses","rates"]:List Str),jeJ K 304 f:=by
  intro f hf;rcases j0d.mp hf with e|hf
  ·rw[e];exact nBook1
  rcases j0d.mp hf with e|hf
  ·rw[e];exact nBook2
  rcases j0d.mp hf with e|hf
  ·rw[e];exact nBook3
  cases hf
 have D_Book:jiR K w mg jbn.name (Option.get jbn.dat rfl):=⟨j0h X G aCBook,⟨pgBook,hdBook,poBook,saBook⟩,⟨ciBook,cg1,cg2,cmBook⟩,hNBook⟩;have D0_Book:jiR K w mg jiC.name (Option.get jiC.dat rfl):=⟨j0h X G aCBook,⟨pgBook,hdBook,poBook,saBook⟩,⟨ciBook,cg1,cg2,cmBook⟩,hNBook⟩;have F1:=jaw (st:=jck) l1 c1 k1;have b1:=F1.binds (ps:=["value","least"]) (by walk_at"b");have F2:=jaw (st:=jem) l2 c2 k2;have b2:=F2.binds (ps:=["value"]) (by walk_at"b");have F3:=jaw (st:=jbv) l3 c3 k3;have b3:=F3.binds (ps:=["value","many"]) (by walk_at"b");have F4:=jaw (st:=jbO) l4 c4 k4;have b4:=F4.binds (ps:=["values"]) (by walk_at"b");have F5:=jaw (st:=jbK) l5 c5 k5;have b5:=F5.binds (ps:=["numbers"]) (by walk_at"b");have F6:=jaw (st:=jen) l6 c6 k6;have b6:=F6.binds (ps:=["text"]) (by walk_at"b");have F7:=jaw (st:=ja1) l7 c7 k7;have b7:=F7.binds (ps:=["holds","words"]) (by walk_at"b");have F8:=jaw (st:=jaF) l8 c8 k8;have b8:=F8.binds (ps:=["value","least"]) (by walk_at"b");have F9:=jaw (st:=jbI) l9 c9 k9;have b9:=F9.binds (ps:=["value","many","words"]) (by walk_at"b");have F10:=jaw (st:=jbk) l10 c10 k10;have b10:=F10.binds (ps:=["share"]) (by walk_at"b");have F11:=jaw (st:=jbl) l11 c11 k11;have b11:=F11.binds (ps:=["kinds"]) (by walk_at"b");have F12:=jaw (st:=jb) l12 c12 k12;have b12:=F12.binds (ps:=["pairs","lowest","words"]) (by walk_at"b");have F13:=jaw (st:=jbo) l13 c13 k13;have b13:=F13.binds (ps:=["steps"]) (by walk_at"b");have F14:=jaw (st:=ja2) l14 c14 k14;have b14:=F14.binds (ps:=["doubles"]) (by walk_at"b");have F15:=jaw (st:=jbw) l15 c15 k15;have b15:=F15.binds (ps:=["ranks"]) (by walk_at"b");have F16:=jaw (st:=jaK) l16 c16 k16;have b16:=F16.binds (ps:=["self","name","share","kinds","steps","doubles","cap","age","rest","ranks","span","grace"]) fun _ _ _ _ _ _ us hl=>by obtain⟨_,_,_,_,_,_,_,_,_,_,_,_,rfl⟩:=jzC hl;rfl
 have F17:=jaw (st:=jba) l17 c17 k17;have b17:=F17.binds (ps:=["holds","words"]) (by walk_at"b");have F18:=jaw (st:=ja9) l18 c18 k18;have b18:=F18.binds (ps:=["purses","names"]) (by walk_at"b");have F19:=jaw (st:=jbr) l19 c19 k19;have b19:=F19.binds (ps:=["rates","names"]) (by walk_at"b");have F20:=jaw (st:=jaQ) l20 c20 k20;have b20:=F20.binds (ps:=["self","houses","purses","rates"]) (by walk_at"b");have F21:=jaw (st:=jcP) l21 c21 k21;have b21:=F21.binds (ps:=["book","purse"]) (by walk_at"b");have F22:=jaw (st:=je) l22 c22 k22;have b22:=F22.binds (ps:=["book","purse","other"]) (by walk_at"b");have F23:=jaw (st:=jfb) l23 c23 k23;have b23:=F23.binds (ps:=["_law_script","_law_k"]) (by walk_at"b");have F24:=jaw (st:=jeh) l24 c24 k24;have b24:=F24.binds (ps:=["_law_cell","_law_k"]) (by walk_at"b");have F25:=jaw (st:=jbG) l25 c25 k25;have b25:=F25.binds (ps:=["_law_script","_law_cell","_law_k"]) (by walk_at"b");have F26:=jaw (st:=jbJ) l26 c26 k26;have b26:=F26.binds (ps:=["_law_number_here","_law_sizes"]) (by walk_at"b");have F27:=jaw (st:=jb7) l27 c27 k27;have b27:=F27.binds (ps:=["_law_cell","_law_many"]) (by walk_at"b");have F28:=jaw (st:=jce) l28 c28 k28;have b28:=F28.binds (ps:=["_law_script","_law_k","_law_name","_law_kinds"]) (by walk_at"b");have F29:=jaw (st:=jbu) l29 c29 k29;have b29:=F29.binds (ps:=["_law_script"]) (by walk_at"b");have F30:=jaw (st:=jcN) l30 c30 k30;have b30:=F30.binds (ps:=["_law_houses"]) (by walk_at"b");have F31:=jaw (st:=jb1) l31 c31 k31;have b31:=F31.binds (ps:=["_law_houses"]) (by walk_at"b");have F32:=jaw (st:=jbt) l32 c32 k32;have b32:=F32.binds (ps:=["_law_names_here"]) (by walk_at"b");have F33:=jaw (st:=jcm) l33 c33 k33;have b33:=F33.binds (ps:=["_law_houses","_law_pairs","_law_rates","_law_m"]) (by walk_at"b");have F34:=jaw (st:=ja4) l34 c34 k34;have b34:=F34.binds (ps:=["_law_houses","_law_pairs","_law_rates"]) (by walk_at"b");have hcs:[("BadDeed" : Str),("BadHouse" : Str),("BadText" : Str),("NoDeed" : Str),("NoRate" : Str)].map mg=[x2,x3,x4,x5,x6].map (fun a=>some (Value.ref a)):=by simp only[j0k,j0F,j0h X G aX2,j0h X G aX3,j0h X G aX4,j0h X G aX5,j0h X G aX6]
 have hcs2:[("NotOver" : Str),("TooFew" : Str),("Twice" : Str),("WrongDay" : Str)].map mg=[x7,x8,x9,x10].map (fun a=>some (Value.ref a)):=by simp only[j0k,j0F,j0h X G aX7,j0h X G aX8,j0h X G aX9,j0h X G aX10]
 have F35:=jaw (st:=jcj) l35 c35 k35;have b35:=F35.binds (ps:=["_law_book","_law_houses","_law_pairs","_law_rates"]) (by walk_at"b");have F36:=jaw (st:=jkg) l36 c36 k36;refine⟨PySem.W.fnOf "law" "law" (jeg jkg) (jae jkg) (ja jkg) .none kV36 dc36 pm36 an36 cd36 ct36,fun s v=>.of_eq rfl,fun base _ _=>?_⟩;have y1:gT l.prog w K mg base jaM:=jeA (jaE F1 jjI (jal hm) jkW) (j0h X G a1) k1 b1;have y2:gT l.prog w K mg base jg6:=jeA (jaE F2 jmD (jal hm) jpv) (j0h X G a2) k2 b2;have y3:gT l.prog w K mg base jb0:=jeA (jaE F3 jhC (jal hm) jjv) (j0h X G a3) k3 b3;have y4:gT l.prog w K mg base jaZ:=jeA (jaE F4 jjk (jal hm) jkv) (j0h X G a4) k4 b4;have y5:gT l.prog w K mg base jd2:=jeA (jaE F5 jjm (jal hm) jkd) (j0h X G a5) k5 b5;have y6:gT l.prog w K mg base jcV:=jeA (jaE F6 jmT (jlh (by decide) y0 (jal hm)) jpV) (j0h X G a6) k6 b6;have y7:gT l.prog w K mg base jar:=jeA (jaE F7 jgd (jal hm) jg2) (j0h X G a7) k7 b7;have y8:gT l.prog w K mg base jbf:=jeA (jaE F8 jeB (jaa rfl y1 (jal hm)) jeO) (j0h X G a8) k8 b8;have y9:gT l.prog w K mg base jbH:=jeA (jaE F9 jjg (jaa rfl y7 (jaa rfl y2 (jaa rfl y3 (jal hm)))) jke) (j0h X G a9) k9 b9;have y10:gT l.prog w K mg base jdi:=jeA (jaE F10 jhy (jaa rfl y7 (jaa rfl y3 (jaa rfl y1 (jal hm)))) jiM) (j0h X G a10) k10 b10;have y11:gT l.prog w K mg base jdr:=jeA (jaE F11 jhB (jaa rfl y9 (jaa rfl y7 (jaa rfl y6 (jaa rfl y1 (jaa rfl y4 (jal hm)))))) ji8) (j0h X G a11) k11 b11;have y12:gT l.prog w K mg base jbz:=jeA (jaE F12 jhv (jaa rfl y9 (jaa rfl y7 (jaa rfl y1 (jaa rfl y5 (jal hm))))) jhK) (j0h X G a12) k12 b12;have y13:gT l.prog w K mg base jcY:=jeA (jaE F13 jhW (jaa rfl y12 (jaa rfl y7 (jaa rfl y1 (jal hm)))) ji6) (j0h X G a13) k13 b13;have y14:gT l.prog w K mg base jci:=jeA (jaE F14 jge (jaa rfl y9 (jaa rfl y7 (jaa rfl y1 (jal hm)))) jgY) (j0h X G a14) k14 b14;have y15:gT l.prog w K mg base jc0:=jeA (jaE F15 jhP (jaa rfl y12 (jaa rfl y7 (jaa rfl y6 (jal hm)))) jir) (j0h X G a15) k15 b15;have y16:gT l.prog w K mg base jaA:=jzD (f:=f16) ⟨mkHouse,a16,i16,kcHouse⟩ (jaE F16 jhm (jaa rfl y7 (jaa rfl y6 (jaa rfl y10 (jaa rfl y11 (jaa rfl y13 (jaa rfl y14 (jaa rfl y8 (jaa rfl y15 (jaa rfl y1 (jlh (by decide) D0_House (jal hm))))))))))) jhR) (j0h X G aCHouse) b16;have y17:gY l.prog w K mg base jbb:=jeA (jlD F17 jgP (jal hm) (jgh) (jk4 (j0h X G aX1) aR.c (jev)) jhS) (j0h X G a17) k17 b17;have y18:=toC y17;have y19:gY l.prog w K mg base jcJ:=jeA (jlD F18 jhr (jaa rfl y18 (jaa rfl y6 (jaa rfl y4 (jal hm)))) (jes (i:=0) rfl y17 (jgh)) (jev) jhH) (j0h X G a18) k18 b18;have y20:=toC y19;have y21:gY l.prog w K mg base jds:=jeA (jlD F19 jhA (jaa rfl y18 (jaa rfl y1 (jaa rfl y4 (jal hm)))) (jes (i:=0) rfl y17 (jgh)) (jev) ji1) (j0h X G a19) k19 b19;have y22:=toC y21;have y23:gY l.prog w K mg base jbn:=jA9 (f:=f20) ⟨mkBook,a20,i20,kcBook⟩ (jlD F20 jhN (jcf D_House y16 (jaa rfl y18 (jaa rfl y4 (jaa rfl y20 (jaa rfl y22 (jlh (by decide) D0_Book (jal hm))))))) (jes (i:=1) rfl y17 (jes (i:=3) rfl y19 (jes (i:=4) rfl y21 (jgh)))) (jev) ji7) (j0h X G aCBook) b20;have y24:=toC y23;have y25:gT l.prog w K mg base jew:=jeA (jaE F21 jkZ (jcf D_Book y24 (jcf D_House y16 (jal hm))) jmP) (j0h X G a21) k21 b21;have y26:gT l.prog w K mg base jhp:=jeA (jaE F22 jnm (jaa rfl y25 (jcf D_House y16 (jcf D_Book y24 (jal hm)))) jot) (j0h X G a22) k22 b22;have y27:gT l.prog w K mg base jbB:=jeA (jaE F23 jpG (jal hm) jp1) (j0h X G a23) k23 b23;have y28:gT l.prog w K mg base jcT:=jeA (jaE F24 jmW (jal hm) jo3) (j0h X G a24) k24 b24;have y29:gT l.prog w K mg base jcs:=jeA (jaE F25 jjr (jaa rfl y27 (jaa rfl y28 (jal hm))) jkt) (j0h X G a25) k25 b25;have y30:gT l.prog w K mg base jbi:=jeA (jaE F26 jiT (jal hm) jj0) (j0h X G a26) k26 b26;have y31:gT l.prog w K mg base ja3:=jeA (jaE F27 jjH (jaa rfl y28 (jal hm)) jlf) (j0h X G a27) k27 b27;have y32:gT l.prog w K mg base jdG:=jeA (jaE F28 jjP (jaa rfl y30 (jaa rfl y29 (jaa rfl y27 (jaa rfl y31 (jal hm))))) jld) (j0h X G a28) k28 b28;have y33:gT l.prog w K mg base jdc:=jeA (jaE F29 jhU (jaa rfl y31 (jaa rfl y27 (jaa rfl y30 (jaa rfl y29 (jaa rfl y32 (jal hm)))))) jji) (j0h X G a29) k29 b29;have y34:gT l.prog w K mg base jcQ:=jeA (jaE F30 jkQ (jcf D_House y16 (jal hm)) jn) (j0h X G a30) k30 b30;have y35:gT l.prog w K mg base jeU:=jeA (jaE F31 jkh (jcf D_House y16 (jal hm)) jln) (j0h X G a31) k31 b31;have y36:gT l.prog w K mg base jbZ:=jeA (jaE F32 jhz (jal hm) jiG) (j0h X G a32) k32 b32;have y37:gT l.prog w K mg base jc1:=jeA (jaE F33 jkn (jaa rfl y36 (jal hm)) jk0) (j0h X G a33) k33 b33;have y38:gT l.prog w K mg base jdv:=jeA (jhM F34 (jcf D_Book y24 (jaa rfl y34 (jal hm))) y23 aR (j0h X G aX0) (hm "isinstance" (by decide)) (j0h X G aX1) (j0A X G aV) hcs hcs2) (j0h X G a34) k34 b34;have y39:gT l.prog w K mg base je0:=jeA (jaE F35 jj6 (jcf D_Book y24 (jcf D_House y16 (jaa rfl y25 (jaa rfl y26 (jal hm))))) jkN) (j0h X G a35) k35 b35;exact ju1 (jaE F36 jwP (jaa rfl y33 (jaa rfl y34 (jcf D_Book y24 (jaa rfl y39 (jaa rfl y35 (jaa rfl y37 (jaa rfl y28 (jaa rfl y38 (jal hm))))))))) jAh) jr1
end _K18
open PySem PySem.W PyProof.Rows
 def PySem.W.Fast.tw15277149420613306582:Unit:=()
 def PySem.W.Fast.tw4249782739576215006:Unit:=()
 def PySem.W.Fast.tw16064709709610180644:Unit:=()
 def PySem.W.Fast.tw6506764432250078436:Unit:=()
 def PySem.W.Fast.tw10663506888629488649:Unit:=()
 def PySem.W.Fast.tw269529125243513579:Unit:=()
 def PySem.W.Fast.tw16261567600105707850:Unit:=()
 def PySem.W.Fast.tw10182411754165830607:Unit:=()
 def PySem.W.Fast.tw9197863983479655279:Unit:=()
 def PySem.W.Fast.tw3683472585409719230:Unit:=()
 def PySem.W.Fast.tw7407455866718771177:Unit:=()
 def PySem.W.Fast.tw12819121115264219423:Unit:=()
 def PySem.W.Fast.tw9884916782488391508:Unit:=()
 def PySem.W.Fast.tw14051458343355922396:Unit:=()
 def PySem.W.Fast.tw17505457841399511694:Unit:=()
 def PySem.W.Fast.tw13780687694819298694:Unit:=()
 def PySem.W.Fast.tw7429330253561861666:Unit:=()
 def PySem.W.Fast.tw16813824433154206938:Unit:=()
 def PySem.W.Fast.tw2264656873472336611:Unit:=()
 def PySem.W.Fast.tw1664671852451939405:Unit:=()
 def PySem.W.Fast.tw14038946057119311994:Unit:=()
 def PySem.W.Fast.tw15627256967902406170:Unit:=()
 def PySem.W.Fast.tw12329717093411246467:Unit:=()
 def PySem.W.Fast.tw17572394347098217028:Unit:=()
 def PySem.W.Fast.tw10405476823895660327:Unit:=()
 def PySem.W.Fast.tw15919816965772914023:Unit:=()
 def PySem.W.Fast.tw237425983751068327:Unit:=()
 def PySem.W.Fast.tw9430066195460408015:Unit:=()
 def PySem.W.Fast.tw10724759308330695891:Unit:=()
 def PySem.W.Fast.tw3533785515036745308:Unit:=()
 def PySem.W.Fast.tw6160207412008451874:Unit:=()
 def PySem.W.Fast.tw17181615848190889122:Unit:=()
 def PySem.W.Fast.tw10405282809990514597:Unit:=()
 def PySem.W.Fast.tw3526297894212845027:Unit:=()
 def PySem.W.Fast.tw10380284512177605327:Unit:=()
 def PySem.W.Fast.tw11595743973881981564:Unit:=()
 def PySem.W.Fast.tw17679097296308234782:Unit:=()
 def PySem.W.Fast.tw9108671273116558324:Unit:=()
 def PySem.W.Fast.tw17246134263512058089:Unit:=()
 def PySem.W.Fast.tw1201547969980556605:Unit:=()
 def PySem.W.Fast.tw16433196465952305197:Unit:=()
 def PySem.W.Fast.tw14519222446328711098:Unit:=()
 def PySem.W.Fast.tw4479483430674988414:Unit:=()
 def PySem.W.Fast.tw15299188921656823645:Unit:=()
 def PySem.W.Fast.tw12447127251011580699:Unit:=()
 def PySem.W.Fast.tw13537708356070391744:Unit:=()
 def PySem.W.Fast.tw7999803392850277545:Unit:=()
 def PySem.W.Fast.tw7093433750342801199:Unit:=()
 def PySem.W.Fast.tw3217899413562866473:Unit:=()
 def PySem.W.Fast.tw9402082316310009026:Unit:=()
 def PySem.W.Fast.tw10042867084293045456:Unit:=()
 def PySem.W.Fast.tw1371609913742057240:Unit:=()
 def PySem.W.Fast.tw1142260281969420755:Unit:=()
 def PySem.W.Fast.tw10904521331808427255:Unit:=()
 def PySem.W.Fast.tw5754064952279983043:Unit:=()
 def PySem.W.Fast.tw3005253726795377551:Unit:=()
 def PySem.W.Fast.tw852385211728958318:Unit:=()
 def PySem.W.Fast.tw6757020331217327294:Unit:=()
 def PySem.W.Fast.tw5102883571761387016:Unit:=()
 def PySem.W.Fast.tw4673631387196647671:Unit:=()
 def PySem.W.Fast.tw9431887590901064896:Unit:=()
 def PySem.W.Fast.tw16799241988438275616:Unit:=()
 def PySem.W.Fast.tw9990496707948006627:Unit:=()
 def PySem.W.Fast.tw7585519578333859948:Unit:=()
 def PySem.W.Fast.tw86040451207946626:Unit:=()
 def PySem.W.Fast.tw1393792905071049144:Unit:=()
 def PySem.W.Fast.tw7152422496185518560:Unit:=()
 def PySem.W.Fast.tw5455314079415017970:Unit:=()
 def PySem.W.Fast.tw3417810969759225615:Unit:=()
 def PySem.W.Fast.tw2142868551937697048:Unit:=()
 def PySem.W.Fast.tw5824733830719697688:Unit:=()
 def PySem.W.Fast.tw6142192005168281913:Unit:=()
 def PySem.W.Fast.tw11955565342114993937:Unit:=()
 def PySem.W.Fast.tw8862641604232636347:Unit:=()
 def PySem.W.Fast.tw7772920588376571793:Unit:=()
 def PySem.W.Fast.tw16320564166606014377:Unit:=()
 def PySem.W.Fast.tw18276509746052028474:Unit:=()
 def PySem.W.Fast.tw8395162560569892113:Unit:=()
 def PySem.W.Fast.tw38338685292822791:Unit:=()
 def PySem.W.Fast.tw1599477304325787286:Unit:=()
 def PySem.W.Fast.tw11918903242743660181:Unit:=()
 def PySem.W.Fast.tw8851289390796261347:Unit:=()
 def PySem.W.Fast.tw4810580774045248622:Unit:=()
 def PySem.W.Fast.tw12193731462913195436:Unit:=()
 def PySem.W.Fast.tw16569275191929214095:Unit:=()
 def PySem.W.Fast.tw12130656124873744598:Unit:=()
 def PySem.W.Fast.tw15259542089765119519:Unit:=()
 def PySem.W.Fast.tw1581443926818668893:Unit:=()
 def PySem.W.Fast.tw17705358485930816522:Unit:=()
 def PySem.W.Fast.tw7937705485941189979:Unit:=()
 def PySem.W.Fast.tw1116991405045576110:Unit:=()
 def PySem.W.Fast.tw1458783160329356939:Unit:=()
 def PySem.W.Fast.tw613981917281017701:Unit:=()
 def PySem.W.Fast.tw5608549995122151083:Unit:=()
 def PySem.W.Fast.tw7763860954990325804:Unit:=()
 def PySem.W.Fast.tw7973403190241176436:Unit:=()
 def PySem.W.Fast.tw13689210644577443902:Unit:=()
 def PySem.W.Fast.tw14356025746083737829:Unit:=()
 def PySem.W.Fast.tw16757524107873058256:Unit:=()
 def PySem.W.Fast.tw4337289531783299497:Unit:=()
 def PySem.W.Fast.tw8667528161768007025:Unit:=()
 def PySem.W.Fast.tw12424941640579638180:Unit:=()
 def PySem.W.Fast.tw1510121584704659155:Unit:=()
 def PySem.W.Fast.tw11961479171657874618:Unit:=()
 def PySem.W.Fast.tw12081688164234871191:Unit:=()
 def PySem.W.Fast.tw9102458799067164406:Unit:=()
 def PySem.W.Fast.tw5091649182780375865:Unit:=()
 def PySem.W.Fast.tw13682265155723065736:Unit:=()
 def PySem.W.Fast.tw10337718750669732806:Unit:=()
 def PySem.W.Fast.tw14839210956683855996:Unit:=()
 def PySem.W.Fast.tw12956731360967312205:Unit:=()
 def PySem.W.Fast.tw4699293970309493017:Unit:=()
 def PySem.W.Fast.tw7856402163850115480:Unit:=()
 def PySem.W.Fast.tw293420452003968215:Unit:=()
 def PySem.W.Fast.tw17412792993221810486:Unit:=()
 def PySem.W.Fast.tw9779494701579816999:Unit:=()
 def PySem.W.Fast.tw6822843408083465293:Unit:=()
 def PySem.W.Fast.tw1207492475527414137:Unit:=()
 def PySem.W.Fast.tw16191067711841963983:Unit:=()
 def PySem.W.Fast.tw6436505758458211254:Unit:=()
 def PySem.W.Fast.tw12234768876973622961:Unit:=()
 def PySem.W.Fast.tw4391512893630611955:Unit:=()
 def PySem.W.Fast.tw14475929704318788678:Unit:=()
set_option compiler.extract_closed true
 def _K18.zb:List PySem.Stmt:=PySem.Challenge.pw_pointpurse_k18_books.main.body
 def _K18.zN:PySem.Stmt:=.Pass ⟨0,0,0,0⟩
 def _K18.z0:=_K18.zb.getD 0 _K18.zN
 def _K18.z1:=_K18.zb.getD 1 _K18.zN
 def _K18.z2:=_K18.zb.getD 2 _K18.zN
 def _K18.z3:=_K18.zb.getD 3 _K18.zN
 def _K18.z4:=_K18.zb.getD 4 _K18.zN
 def _K18.z5:=_K18.zb.getD 5 _K18.zN
 def _K18.z6:=_K18.zb.getD 6 _K18.zN
 def _K18.z7:=_K18.zb.getD 7 _K18.zN
 def _K18.z8:=_K18.zb.getD 8 _K18.zN
 def _K18.z9:=_K18.zb.getD 9 _K18.zN
 def _K18.z10:=_K18.zb.getD 10 _K18.zN
 def _K18.z11:=_K18.zb.getD 11 _K18.zN
 def _K18.z12:=_K18.zb.getD 12 _K18.zN
 def _K18.z13:=_K18.zb.getD 13 _K18.zN
 def _K18.z14:=_K18.zb.getD 14 _K18.zN
 def _K18.z15:=_K18.zb.getD 15 _K18.zN
 def _K18.z16:=_K18.zb.getD 16 _K18.zN
 def _K18.z17:=_K18.zb.getD 17 _K18.zN
 def _K18.z18:=_K18.zb.getD 18 _K18.zN
 def _K18.z19:=_K18.zb.getD 19 _K18.zN
 def _K18.z20:=_K18.zb.getD 20 _K18.zN
 def _K18.z21:=_K18.zb.getD 21 _K18.zN
 def _K18.z22:=_K18.zb.getD 22 _K18.zN
 def _K18.z23:=_K18.zb.getD 23 _K18.zN
 def _K18.z24:=_K18.zb.getD 24 _K18.zN
 def _K18.z25:=_K18.zb.getD 25 _K18.zN
 def _K18.z26:=_K18.zb.getD 26 _K18.zN
 def _K18.z27:=_K18.zb.getD 27 _K18.zN
 def _K18.z28:=_K18.zb.getD 28 _K18.zN
 def _K18.z29:=_K18.zb.getD 29 _K18.zN
 def _K18.z30:=_K18.zb.getD 30 _K18.zN
 def _K18.z31:=_K18.zb.getD 31 _K18.zN
 def _K18.z32:=_K18.zb.getD 32 _K18.zN
 def _K18.z33:=_K18.zb.getD 33 _K18.zN
 def _K18.z34:=_K18.zb.getD 34 _K18.zN
 def _K18.z35:=_K18.zb.getD 35 _K18.zN
 def _K18.z36:=_K18.zb.getD 36 _K18.zN
 def _K18.z37:=_K18.zb.getD 37 _K18.zN
 def _K18.z38:=_K18.zb.getD 38 _K18.zN
 def _K18.z39:=_K18.zb.getD 39 _K18.zN
 def _K18.z40:=_K18.zb.getD 40 _K18.zN
 def _K18.z41:=_K18.zb.getD 41 _K18.zN
 def _K18.z42:=_K18.zb.getD 42 _K18.zN
 def _K18.z43:=_K18.zb.getD 43 _K18.zN
 def _K18.z44:=_K18.zb.getD 44 _K18.zN
 def _K18.z45:=_K18.zb.getD 45 _K18.zN
 def _K18.z46:=_K18.zb.getD 46 _K18.zN
 def _K18.z47:=_K18.zb.getD 47 _K18.zN
 def _K18.z48:=_K18.zb.getD 48 _K18.zN
 def _K18.z49:=_K18.zb.getD 49 _K18.zN
 def _K18.z50:=_K18.zb.getD 50 _K18.zN
 def _K18.z51:=_K18.zb.getD 51 _K18.zN
 def _K18.z52:=_K18.zb.getD 52 _K18.zN
 def _K18.z53:=_K18.zb.getD 53 _K18.zN
 def _K18.z54:=_K18.zb.getD 54 _K18.zN
 def _K18.zp:PySem.Program:={PySem.Challenge.pw_pointpurse_k18_books with main:={PySem.Challenge.pw_pointpurse_k18_books.main with body:=[_K18.z0,_K18.z1,_K18.z2,_K18.z3,_K18.z4,_K18.z5,_K18.z6,_K18.z7,_K18.z8,_K18.z9,_K18.z10,_K18.z11,_K18.z12,_K18.z13,_K18.z14,_K18.z15,_K18.z16,_K18.z17,_K18.z18,_K18.z19,_K18.z20,_K18.z21,_K18.z22,_K18.z23,_K18.z24,_K18.z25,_K18.z26,_K18.z27,_K18.z28,_K18.z29,_K18.z30,_K18.z31,_K18.z32,_K18.z33,_K18.z34,_K18.z35,_K18.z36,_K18.z37,_K18.z38,_K18.z39,_K18.z40,_K18.z41,_K18.z42,_K18.z43,_K18.z44,_K18.z45,_K18.z46,_K18.z47,_K18.z48,_K18.z49,_K18.z50,_K18.z51,_K18.z52,_K18.z53,_K18.z54]}}
 def _K18.zl:PySem.W.OpenLaw:={PySem.Challenge.rw_pointpurse_k18_books with prog:=_K18.zp}
set_option maxRecDepth 100000 in
theorem _K18.zl_eq:PySem.Challenge.rw_pointpurse_k18_books=_K18.zl:=rfl
set_option maxRecDepth 100000 in
set_option maxHeartbeats 0 in
theorem PySem.Challenge.cw_pointpurse_k18_books_holds : PySem.Challenge.rw_pointpurse_k18_books.Holds := by
 rw[_K18.zl_eq]
 w_on;o_law;k_head;(case hw=>w_witness2)
 k_fill
 refine _L2.walk_ofK (l:=_K18.zl) (n:=63) (k:=12) (x:="_law_script") (CX:=_L2.CX0) (sp:=_L2.spLaw) rfl (by decide) rfl ⟨rfl,by decide,by decide⟩ (fun w h Y=>PySem.W.kIn_of Y) ?F ?S ?C
 case F=>
  intro w mg fa h KX G hmg;apply _K18.all_mk KX G hmg
  all_goals try dsimp only [_K18.gA,_K18.gN,_K18.gL,_K18.gC,_K18.gK]
  all_goals try first|k_is|k_keys
  (case aR=>exact⟨_L3.excC_of (by kernel_rfl),⟨by kernel_rfl,by kernel_rfl,by kernel_rfl,by kernel_rfl,by kernel_rfl,by kernel_rfl,by kernel_rfl⟩,by kernel_rfl,by kernel_rfl,by kernel_rfl,by kernel_rfl,by kernel_rfl,by kernel_rfl,by decide⟩)
 case S=>exact fun K H a ns hl hO hS=>⟨a,ns,rfl,hS,hl,fun _=>rfl⟩
 case C=>exact fun _ _ _ _ z=>z
#print axioms PySem.Challenge.cw_pointpurse_k18_books_holds
